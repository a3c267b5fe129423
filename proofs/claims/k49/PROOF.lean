import PyProof.Rows.All
import Wide.All
import OpenK.AllK
import Wide.FinOn
import Lean
import PyProof.EqAt
import PyProof.EqKinds
import PyProof.TupleCall
import KE.KUnpack
import PySem.Challenge.RW_ballrockers_k49_whole_beside_and_below
set_option Elab.async false
set_option linter.all false
set_option genSizeOf false
set_option maxRecDepth 100000
set_option maxHeartbeats 0 in
theorem RF.pa49:PySem.Challenge.rw_ballrockers_k49_whole_beside_and_below.wellSaid=true:=by kernel_rfl
def vaj:=@decide_eq_true_eq
def va3:=@if_true
def vbb:=@if_false
def vbc:=@of_decide_eq_true
def vbe:=@decide_eq_false
def vbs:=@decide_eq_true
def vcf:=@beq_eq_false_iff_ne
def vdv:=@congrArg
def vdx:=@eq_iff_iff
def vd4:=@decide_true
def vd5:=@beq_iff_eq
def vd9:=@iff_false
open PySem renaming wpAny_bind->vaa,wpAny_pure->vah,wpAny_newObj_type->vbq,wpAny_field->vbz,wpAny_callSpecial?_slot->vb0,wpAny_call_entry->vb4,wpAny_truthy_bool->vb8,wpAny_seqItems->vcj,wpAny_pyIter_tuple->vcm,wpAny_setField_rec->vcu,wpAny_passesOwn->vcw,wpAny_holding->vcx,mem_of_lookup->vcy,wpAny_mono->vc0,wpAny_Call_Name_kw->vc3,wpAny_specialOf->vc4,wpAny_pyIter_list->vc9,wpAny_isInstance->vds,wpAny_forIn_list->vdt,call_meets->vd6,wpAny_rule->vd7,wpAny_standAt->veb,wpAny_onRaise->vec,codeAny_mono->ved,wpAny_typeOf->vee
open List renaming length_map->vab,mem_cons_of_mem->vad,mem_cons_self->vaf,length_append->vag,size_toArray->van,map_cons->vao,length_cons->vap,getElem?_append_right->vau,lookup_cons->vav,mem_map->vaw,mem_cons->vax,getElem?_cons_succ->vay,getElem?_eq_getElem->va0,getElem?_map->va2,getElem?_eq_some_iff->va8,getElem?_cons_zero->va9,length_singleton->vba,replicate_succ->vbd,mem_append_right->vbf,getElem?_append_left->vbg,getD_eq_getElem?_getD->vbh,all_eq_true->vbi,find?_cons->vbk,set_cons_zero->vbl,getElem?_eq_none_iff->vbm,map_append->vbn,append_assoc->vbr,set_cons_succ->vbv,mem_append->vby,zip_cons_cons->vb1,append_nil->vb2,all_cons->vb5,length_reverse->vb6,nil_append->vcc,getElem?_set_self->vce,filterMap_cons->vcg,flatten_cons->vch,length_replicate->vcl,cons_append->vcn,getElem?_replicate->vco,zipWith_cons_cons->vcs,getElem?_set_ne->vcv,forIn_nil->vc1,singleton_append->vc6,set_append_right->vc7,reverse_cons->vda,mem_of_getElem?->vdc,length_zipWith->vdh,map_nil->vdi,nodup_cons->vdj,length_set->vdk,forIn_cons->vdl,mem_singleton->vdm,drop_zero->vdq,length_nil->vd0,take_left'->vd1,drop_left'->vd2,map_map->veg
open PySem.W renaming Frag->vga
open PySem.Str renaming ofString->vgb
open List renaming replicate->vgc
open Bool renaming and_eq_true->vac,false_eq_true->vam,or_eq_true->vb3,false_ne_true->vcb,not_true->vcd,false_and->vcp,false_or->vdb,not_false->vdp,true_and->vdw
open PySem.Heap renaming get?_push_of_some->vae,lt_size->vaq,get?_push_size->vas,size_push->vb9
open Nat renaming le_refl->vai,lt_of_lt_of_le->vak,ne_of_lt->va4,le_of_ble_eq_true->va5,lt_succ_self->vbo,zero_le->vbu,le_trans->vbx,lt_irrefl->vca,not_lt->vci,ne_of_gt->vck,le_add_right->vcz,eq_of_beq_eq_true->vc5,le_max_left->vc8,le_succ->vdf,le_of_lt->vdr,le_max_right->vdu,ble_eq->vd8
open Int renaming eq_ofNat_of_zero_le->vat,toNat_natCast->vbt,toNat_of_nonneg->vdg,emod_lt_of_pos->vdn,emod_nonneg->vd3
open PyProof.Rows renaming slot_tuple_getitem->vaz,callWith_type1->vcr
open Option renaming map_some->va1,join_some->va6
open PySem.AutoSeq1 renaming wpAny_loadPart'->va7
open Option.some renaming inj->vbj
open PySem.W renaming kia_one->vbp
open Ne renaming symm->vbw
open PySem.W.Fast renaming te14364793385576792824->vb7
open Array renaming length_toList->vcq
open PySem.F renaming slot_tuple_iterator_next->vct,slot_NoneType_hash->vdd,slot_tuple_mul->vde,slot_tuple_hash->vdo,slot_zip_next->vdy,slot_tuple_eq->vdz
open PySem.SeqAt renaming canLay_of_shaped->vc2
open PySem.Paired renaming length->vea
open LawfulMonad renaming pure_bind->vef
namespace L2
open PySem PySem.Spec PyProof.Rows
noncomputable abbrev Key:=Sum Int Str
noncomputable def keyIs:Key->Value->Bool
 |.inl k,v=>Value.isInt k v
 |.inr x,v=>Value.isStrOf x v
noncomputable def keyH(w:World):Key->Int
 |.inl k=>hashInt k
 |.inr x=>hashStr w x
theorem za0:∀{k:Key} {v:Value},keyIs k v=true->(∃i t,k=Sum.inl i/\v=Value.int i t)\/(∃x t,k=Sum.inr x/\v=Value.str x t)
 |.inl i,v,h=>by
  obtain⟨t,e⟩:=Value.isInt_shape (k:=i) (v:=v) h
  exact .inl ⟨i,t,rfl,e⟩
 |.inr x,v,h=>by
  obtain⟨t,e⟩:=Value.isStrOf_shape (x:=x) (v:=v) h
  exact .inr ⟨x,t,rfl,e⟩
theorem zlu(i:Int)(t:Tok):keyIs (.inl i) (.int i t)=true:=by simp[keyIs,Value.isInt]
theorem zlv(x:Str)(t:Tok):keyIs (.inr x) (.str x t)=true:=by simp[keyIs,Value.isStrOf]
theorem zue(a b:Int):decide ((Sum.inl a:Key)=Sum.inl b)=(a==b):=by
 by_cases e:a=b
 .subst e;simp
 .have h:¬(Sum.inl a:Key)=Sum.inl b:=λq=>e (Sum.inl.inj q)
  rw[vbe h]
  exact(vcf.mpr e).symm
theorem zuf(a b:Str):decide ((Sum.inr a:Key)=Sum.inr b)=decide (a=b):=by
 by_cases e:a=b
 .subst e;simp
 .have h:¬(Sum.inr a:Key)=Sum.inr b:=λq=>e (Sum.inr.inj q)
  rw[vbe h,vbe e]
theorem zug(a:Int)(b:Str):decide ((Sum.inl a:Key)=Sum.inr b)=false:=vbe (λq=>nomatch q)
theorem zuh(a:Str)(b:Int):decide ((Sum.inr a:Key)=Sum.inl b)=false:=vbe (λq=>nomatch q)
noncomputable def zax(prog:Program)(w:World):PySem.KeyKind prog w Key where
 is:=keyIs
 hash:=keyH w
 inj:=λv a b ha hb=>by
  rcases za0 ha with⟨i,t,rfl,rfl⟩|⟨x,t,rfl,rfl⟩
  .rcases za0 hb with⟨j,u,rfl,e⟩|⟨y,u,rfl,e⟩
   .injection e with e1 _;rw[e1]
   .exact nomatch e
  .rcases za0 hb with⟨j,u,rfl,e⟩|⟨y,u,rfl,e⟩
   .exact nomatch e
   .injection e with e1 _;rw[e1]
 byValue:=λk v h=>by
  rcases za0 h with⟨i,t,rfl,rfl⟩|⟨x,t,rfl,rfl⟩<;>rfl
 pyHash:=λhv h=>by
  rcases za0 hv with⟨i,t,rfl,rfl⟩|⟨x,t,rfl,rfl⟩
  .exact wpAny_pyHash_int h
  .exact wpAny_pyHash_str h
 eqBool:=λhu hv h=>by
  rcases za0 hu with⟨i,t,rfl,rfl⟩|⟨x,t,rfl,rfl⟩
  .rcases za0 hv with⟨j,u,rfl,rfl⟩|⟨y,u,rfl,rfl⟩
   .rw[zue]at h;exact wpAny_eqBool_int h
   .rw[zug]at h;exact SeqAt.EqAt.int_str i t y u _ _ _ _ h
  .rcases za0 hv with⟨j,u,rfl,rfl⟩|⟨y,u,rfl,rfl⟩
   .rw[zuh]at h;exact SeqAt.EqAt.str_int x t j u _ _ _ _ h
   .rw[zuf]at h;exact wpAny_eqBool_str h
 «strs»:=λk x t v h=>by
  rcases za0 h with⟨i,u,rfl,e⟩|⟨y,u,rfl,e⟩
  .exact nomatch e
  .injection e with e1 _
   subst e1
   cases v<;>rfl
theorem ziu(prog:Program)(w:World)(i:Int)(t:Tok):(zax prog w).is (.inl i) (.int i t)=true:=zlu i t
theorem zcu(prog:Program)(w:World)(x:Str)(t:Tok):(zax prog w).is (.inr x) (.str x t)=true:=zlv x t
inductive V where
 |non|bl (b:Bool)|int (i:Int)|str (x:Str)|byt (b:Array UInt8)|flt (b:UInt64)|ref (a:Addr)|ty (n:String)
 deriving DecidableEq
noncomputable def RelV:V->Value->Prop
 |.non,u=>u=Value.none
 |.bl b,u=>u=Value.bool b
 |.int i,u=>∃t,u=Value.int i t
 |.str x,u=>∃t,u=Value.str x t
 |.byt b,u=>∃t,u=Value.bytes b t
 |.flt b,u=>∃t,u=Value.float b t
 |.ref a,u=>u=Value.ref a
 |.ty n,u=>u=Value.type n
noncomputable abbrev Vals:List V->List Value->Prop:=Paired RelV
theorem Vals.length{xs:List V}{us:List Value}(r:Vals xs us):xs.length=us.length:=vea r
theorem Vals.get:∀{xs:List V} {us:List Value} {i:Nat} {x:V},Vals xs us->xs[i]?=some x->∃u,us[i]?=some u/\RelV x u
 |_,_,_,_,.nil,e=>by simp at e
 |_,_,0,_,.cons r _,e=>by simp at e;subst e;exact⟨_,rfl,r⟩
 |_,_,i+1,x,.cons _ t,e=>by
  obtain⟨u,h1,h2⟩:=Vals.get (i:=i) (x:=x) t (by simpa using e)
  exact⟨u,by simpa using h1,h2⟩
theorem Vals.set{x:V}{u:Value}(r:RelV x u):∀{xs:List V} {us:List Value} (i:Nat),Vals xs us->Vals (xs.set i x) (us.set i u)
 |_,_,_,.nil=>.nil
 |_,_,0,.cons _ t=>.cons r t
 |_,_,i+1,.cons q t=>.cons q (Vals.set r i t)
theorem Vals.append:∀{xs ys:List V} {us ws:List Value},Vals xs us->Vals ys ws->Vals (xs++ys) (us++ws)
 |_,_,_,_,.nil,s=>s
 |_,_,_,_,.cons r t,s=>.cons r (Vals.append t s)
theorem Vals.take:∀{xs:List V} {us:List Value} (n:Nat),Vals xs us->Vals (xs.take n) (us.take n)
 |_,_,0,_=>.nil
 |_,_,_+1,.nil=>.nil
 |_,_,n+1,.cons r t=>.cons r (Vals.take n t)
theorem Vals.drop:∀{xs:List V} {us:List Value} (n:Nat),Vals xs us->Vals (xs.drop n) (us.drop n)
 |_,_,0,r=>r
 |_,_,_+1,.nil=>.nil
 |_,_,n+1,.cons _ t=>Vals.drop n t
noncomputable def RelO:Option V->Option Value->Prop
 |some v,some u=>RelV v u
 |none,none=>True
 |_,_=>False
noncomputable def KV{κ:Type}:List (κ×V)->List (κ×Value)->Prop:=Paired λ(p:κ×V) (q:κ×Value)=>p.1=q.1/\RelV p.2 q.2
noncomputable def kV:Key->V
 |.inl i=>.int i
 |.inr x=>.str x
inductive HO where
 /-- a list -/
 |lst (xs:List V)
 /-- a tuple (never changes) -/
 |tup (xs:List V)
 /-- a dict whose keys are ints and texts;one whose keys are tuples of ints and texts (the empty one is both) -/
 |dK (kvs:List (Key×V))|dT (kvs:List (List Key×V))
 /-- a set of ints: its members,its size -/
 |set (S:Int->Bool) (n:Nat)
 /-- an instance of the class at C,its dict at dx,its attributes -/
 |ins (C dx:Addr) (fs:List (Str×V))
 /-- the dict of the instance at x -/
 |own (x:Addr)
 /-- the dict of an exception -/
 |xd (fs:List (Str×V))
 /-- a bound method,f of x -/
 |met (f x:Addr)
 /-- a range object lo,lo+1,.. below hi -/
 |rng (lo hi:Int)
 /-- a thing that is known to the object (the script;a dict while a loop walks it): read,never written while it is so -/
 |frz (o:Obj) (u:HO)
 /-- a code object's table -/
 |tbl (ps:Array Value)
 /-- any other thing,by what is true of its one object (a def of one's own: SetO a S n:=HO.ext λh=>..) -/
 |ext (φ:Heap->Prop)
noncomputable abbrev Hp:=Addr->Option HO
noncomputable def upd(H:Hp)(a:Addr)(o:HO):Hp:=λb=>if b=a then some o else H b
theorem zaq{H:Hp}{a:Addr}{o:HO}:upd H a o a=some o:=by unfold upd;rw[if_pos rfl]
theorem zag{H:Hp}{a b:Addr}{o:HO}(h:b≠a):upd H a o b=H b:=by unfold upd;rw[if_neg h]
theorem ne_of{H:Hp}{a b:Addr}{o u:HO}(h:H a=some o)(h':H b=some u)(d:o≠u):a≠b:=by
 intro e;subst e;rw[h]at h';exact d (vbj h')
theorem zaf{H:Hp}{a b:Addr}{o:HO}(h:H a=some o)(h':H b=none):a≠b:=by
 intro e;subst e;rw[h]at h';cases h'
noncomputable def zbp(h:Heap)(a:Addr)(items:Array Value):Prop:=∃o,h.get? a=some o/\o.cls=.type "tuple"/\(∃n,o.data=.seq items n)/\o.dict=none
theorem zbp.tup{h:Heap}{a:Addr}{items:Array Value}(x:zbp h a items):IsTup h a items:=let⟨o,e,c,d,_⟩:=x;⟨o,e,c,d⟩
theorem zbp.lt{h:Heap}{a:Addr}{items:Array Value}(x:zbp h a items):a<h.objs.size:=x.tup.lt
theorem zbp.new(h:Heap)(items:Array Value):zbp (h.push {cls:=.type "tuple",data:=.seq items}) h.objs.size items:=⟨_,vas _ rfl,rfl,⟨_,rfl⟩,rfl⟩
section
variable(P:Program)(w:World)
noncomputable def ObjOk(H:Hp)(h:Heap)(a:Addr):HO->Prop
 |.lst xs=>xs.length<=sizeLine/\∃(its:List Value) (n:Nat),Vals xs its/\h.get? a=some {cls:=.type "list",data:=.seq its.toArray n}
 |.tup xs=>xs.length<=sizeLine/\∃its:List Value,Vals xs its/\zbp h a its.toArray
 |.dK kvs=>kvs.length<=sizeLine/\(a==sysModules)=false/\∃vs,KV kvs vs/\h.DictOf (zax P w) a vs
 |.dT kvs=>kvs.length<=sizeLine/\(a==sysModules)=false/\∃xs:List (List Key×Addr×Value),
  Paired (λ(p:List Key×V)(q:List Key×Addr×Value)=>p.1=q.1/\H q.2.1=some (.tup (p.1.map kV))/\RelV p.2 q.2.2) kvs xs/\
  ∃o es ep,h.get? a=some o/\o.ExactDict/\o.data=.dict es ep/\es.toList=xs.map (entryOfKey (tupleKind (zax P w)))/\(xs.map (·.1)).Nodup
 |.set S n=>h.SetOf (intKind P w) a S n
 |.ins C dx fs=>H dx=some (.own a)/\fs.length<=1000/\dx≠a/\h.get? a=some (PySem.W.instObj C dx)/\
  ∃mA,h.Ns1 dx mA/\(∀f,RelO (fs.lookup f) (mA f))/\PySem.Within mA (fs.map (·.1))
 |.own _=>∃o,h.get? a=some o
 |.xd fs=>∃mA,h.Ns1 a mA/\∀f,RelO (fs.lookup f) (mA f)
 |.rng lo hi=>∃t u v,h.get? a=some {cls:=.type "range",data:=.fields #[.int lo t,.int hi u,.int 1 v]}
 |.frz o u=>h.get? a=some o/\ObjOk H h a u
 |.tbl ps=>h.get? a=some {cls:=.none,data:=.fields ps}
 |.met f x=>h.get? a=some (PySem.W.methodObj (.ref f) (.ref x))
 |.ext φ=>φ h/\(∃o,h.get? a=some o)/\∀h1 h2:Heap,φ h1->(∀o,h1.get? a=some o->h2.get? a=some o)->φ h2
noncomputable def HOk(H:Hp)(h:Heap):Prop:=∀a o,H a=some o->ObjOk P w H h a o
end
section
variable{P:Program}{w:World}{H H':Hp}{h h':Heap}{a:Addr}{o:HO}
theorem ObjOk.lt(x:ObjOk P w H h a o):a<h.objs.size:=by
 cases o with
 |lst xs=>obtain⟨_,_,_,_,e⟩:=x;exact vaq e
 |tup xs=>obtain⟨_,_,_,p⟩:=x;exact p.lt
 |dK kvs=>obtain⟨_,_,_,_,o,_,_,e,_⟩:=x;exact vaq e
 |dT kvs=>obtain⟨_,_,_,_,o,_,_,e,_⟩:=x;exact vaq e
 |set S n=>obtain⟨o,_,_,_,e,_⟩:=x;exact vaq e
 |ins C dx fs=>obtain⟨_,_,_,e,_⟩:=x;exact vaq e
 |own y=>obtain⟨_,e⟩:=x;exact vaq e
 |xd fs=>obtain⟨_,⟨_,_,_,e,_⟩,_⟩:=x;exact vaq e
 |rng lo hi=>obtain⟨_,_,_,e⟩:=x;exact vaq e
 |frz ob u=>obtain⟨e,_⟩:=x;exact vaq e
 |tbl ps=>exact vaq (show h.get? a=some _ from x)
 |met f y=>exact vaq (show h.get? a=some _ from x)
 |ext φ=>obtain⟨_,⟨_,e⟩,_⟩:=x;exact vaq e
theorem Paired.mapP{α β:Type}{F G:α->β->Prop}:∀{l₁:List α} {l₂:List β},Paired F l₁ l₂->(∀a b,F a b->G a b)->Paired G l₁ l₂
 |_,_,.nil,_=>.nil
 |_,_,.cons r t,f=>.cons (f _ _ r) (Paired.mapP t f)
theorem ObjOk.stay(x:ObjOk P w H h a o)(k:∀b u,(b=a\/H b=some (.own a))->h.get? b=some u->h'.get? b=some u)
 (ho:∀b,H b=some (.own a)->H' b=some (.own a)) (ht:∀b xs,H b=some (.tup xs)->H' b=some (.tup xs)):ObjOk P w H' h' a o:=by
 induction o with
 |lst xs=>obtain⟨z,its,n,r,e⟩:=x;exact⟨z,its,n,r,k _ _ (.inl rfl) e⟩
 |tup xs=>obtain⟨z,its,r,ob,e,c⟩:=x;exact⟨z,its,r,ob,k _ _ (.inl rfl) e,c⟩
 |dK kvs=>obtain⟨z,y,vs,r,ob,es,ep,e,c⟩:=x;exact⟨z,y,vs,r,ob,es,ep,k _ _ (.inl rfl) e,c⟩
 |dT kvs=>
  obtain⟨z,y,xs,r,ob,es,ep,e,c⟩:=x
  exact⟨z,y,xs,Paired.mapP r λp q z=>⟨z.1,ht _ _ z.2.1,z.2.2⟩,ob,es,ep,k _ _ (.inl rfl) e,c⟩
 |set S n=>obtain⟨ob,es,ep,t,e,c⟩:=x;exact⟨ob,es,ep,t,k _ _ (.inl rfl) e,c⟩
 |ins C dx fs=>
  obtain⟨d,z,ne,e,mA,⟨od,es,ep,e2,c⟩,r⟩:=x
  exact⟨ho _ d,z,ne,k _ _ (.inl rfl) e,mA,⟨od,es,ep,k _ _ (.inr d) e2,c⟩,r⟩
 |own y=>obtain⟨ob,e⟩:=x;exact⟨ob,k _ _ (.inl rfl) e⟩
 |xd fs=>obtain⟨mA,⟨od,es,ep,e,c⟩,r⟩:=x;exact⟨mA,⟨od,es,ep,k _ _ (.inl rfl) e,c⟩,r⟩
 |rng lo hi=>obtain⟨t,u,v,e⟩:=x;exact⟨t,u,v,k _ _ (.inl rfl) e⟩
 |frz ob u ih=>obtain⟨e,q⟩:=x;exact⟨k _ _ (.inl rfl) e,ih q⟩
 |tbl ps=>
  have e:h.get? a=some {cls:=.none,data:=.fields ps}:=x
  show h'.get? a=some {cls:=.none,data:=.fields ps}
  exact k a _ (.inl rfl) e
 |met f y=>
  have e:h.get? a=some (PySem.W.methodObj (.ref f) (.ref y)):=x
  show h'.get? a=some (PySem.W.methodObj (.ref f) (.ref y))
  exact k a _ (.inl rfl) e
 |ext φ=>obtain⟨p,⟨o,e⟩,st⟩:=x;exact⟨st _ _ p λo q=>k _ _ (.inl rfl) q,⟨o,k _ _ (.inl rfl) e⟩,st⟩
theorem HOk.lt(x:HOk P w H h)(e:H a=some o):a<h.objs.size:=(x a o e).lt
theorem HOk.fresh(x:HOk P w H h)(e:h.objs.size<=a):H a=none:=by
 cases q:H a with
 |none=>rfl
 |some u=>exact absurd (vak (x.lt q) e) (vca _)
theorem HOk.kept(x:HOk P w H h)(k:∀b u,h.get? b=some u->h'.get? b=some u):HOk P w H h':=λa o e=>
 (x a o e).stay (λb u _ q=>k b u q) (λ_ q=>q) λ_ _ q=>q
theorem HOk.laid(x:HOk P w H h)(k:∀b u,h.get? b=some u->h'.get? b=some u)(hp:h.objs.size<=a)(new:ObjOk P w (upd H a o) h' a o):HOk P w (upd H a o) h':=λb u e=>by
 have hn:=x.fresh hp
 by_cases hb:b=a
 .subst hb;rw[zaq]at e;cases e;exact new
 .rw[zag hb]at e
  exact(x b u e).stay (λc v _ q=>k c v q) (λc q=>by rw[zag (zaf q hn)];exact q) λc xs q=>by rw[zag (zaf q hn)];exact q
end
noncomputable def Rd(H:Hp)(a:Addr)(u:HO):Prop:=H a=some u\/∃o,H a=some (.frz o u)
theorem Rd.ok{P:Program}{w:World}{H:Hp}{h:Heap}{a:Addr}{u:HO}(r:Rd H a u)(x:HOk P w H h):ObjOk P w H h a u:=by
 rcases r with r|⟨o,r⟩
 .exact x a u r
 .obtain⟨_,q⟩:=x a _ r
  exact q
noncomputable def Mut:Option HO->Prop
 |some (.lst _)=>True
 |some (.dK _)=>True
 |some (.dT _)=>True
 |some (.set _ _)=>True
 |some (.ins _ _ _)=>True
 |some (.ext _)=>True
 |_=>False
section
variable{P:Program}{w:World}{H:Hp}{h h':Heap}{x e:Addr}{o':HO}
theorem HOk.write(ok:HOk P w H h)(mu:Mut (H x))(he:e=x\/H e=some (.own x))(k:∀b u,b≠e->h.get? b=some u->h'.get? b=some u)(heo:∃u,h'.get? e=some u)
 (new:ObjOk P w (upd H x o') h' x o'):HOk P w (upd H x o') h':=λb u q=>by
 have nown:∀c y,H c=some (.own y)->c≠x:=λc y r z=>by subst z;rw[r]at mu;exact mu
 have ntup:∀c xs,H c=some (.tup xs)->c≠x:=λc xs r z=>by subst z;rw[r]at mu;exact mu
 by_cases hb:b=x
 .subst hb;rw[zaq]at q;cases q;exact new
 .rw[zag hb]at q
  by_cases hbe:b=e
  .have q':H b=some (.own x):=by
    rcases he with z|z
    .exact absurd (hbe.trans z) hb
    .rw[hbe];exact z
   rw[q]at q';cases q'
   obtain⟨v,hv⟩:=heo
   exact⟨v,by rw[hbe];exact hv⟩
  .refine(ok b u q).stay (λc v hc r=>k c v ?_ r) (λc r=>by rw[zag (nown c b r)];exact r) λc xs r=>by rw[zag (ntup c xs r)];exact r
   rcases hc with rfl|hc
   .exact hbe
   .rintro rfl
    rcases he with z|z
    .exact nown c b hc z
    .rw[hc]at z;cases z;exact hb rfl
end
structure Un(fs ex:List Addr)(H H':Hp)(h h':Heap):Prop where
 keep:∀b o,h.get? b=some o->H b=none->b∉fs->b∉ex->h'.get? b=some o
 slot:∀b o,h.get? b=some o->H b=none->b∈fs->b∉ex->∃sl,h'.get? b=some {o with slots:=sl}
 free:∀b o,h.get? b=some o->H b=none->b∉ex->H' b=none
 there:∀b o,h.get? b=some o->b∉ex->∃o',h'.get? b=some o'
 tups:∀b xs,H b=some (.tup xs)->H' b=some (.tup xs)
 frzs:∀b o u,H b=some (.frz o u)->H' b=some (.frz o u)
 tbls:∀b ps,H b=some (.tbl ps)->∃more,H' b=some (.tbl (ps++more))
section
variable{fs fs' ex ex':List Addr}{H H1 H2:Hp}{h h1 h2 h':Heap}{a x e:Addr}{o:HO}
theorem Un.any(u:Un fs ex H H1 h h1){b:Addr}{ob:Obj}(q:h.get? b=some ob)(n:H b=none)(hx:b∉ex):∃sl,h1.get? b=some {ob with slots:=sl}:=by
 by_cases hb:b∈fs
 .exact u.slot b ob q n hb hx
 .exact⟨ob.slots,u.keep b ob q n hb hx⟩
theorem Un.kept(k:∀b u,h.get? b=some u->h'.get? b=some u):Un fs ex H H h h':=
 ⟨λb ob q _ _ _=>k b ob q,λb ob q _ _ _=>⟨ob.slots,k b ob q⟩,λ_ _ _ n _=>n,λb ob q _=>⟨ob,k b ob q⟩,λ_ _ q=>q,λ_ _ _ q=>q,λ_ ps q=>⟨#[],by rw[q];simp⟩⟩
theorem Un.refl:Un fs ex H H h h:=Un.kept λ_ _ q=>q
theorem Un.laid(k:∀b u,h.get? b=some u->h'.get? b=some u)(hp:h.objs.size<=a)(hn:H a=none):Un fs ex H (upd H a o) h h' where
 keep:=λb u q _ _ _=>k b u q
 slot:=λb u q _ _ _=>⟨u.slots,k b u q⟩
 free:=λb u q n _=>by rw[zag (va4 (vak (vaq q) hp))];exact n
 there:=λb u q _=>⟨u,k b u q⟩
 tups:=λb xs q=>by rw[zag (zaf q hn)];exact q
 frzs:=λb u xs q=>by rw[zag (zaf q hn)];exact q
 tbls:=λb ps q=>⟨#[],by rw[zag (zaf q hn),q];simp⟩
theorem Un.write(mu:Mut (H x))(he:e=x\/H e=some (.own x))(k:∀b u,b≠e->h.get? b=some u->h'.get? b=some u)(heo:∃u,h'.get? e=some u):Un fs ex H (upd H x o) h h':=by
 have hx:∀b,H b=none->b≠x:=λb n z=>by subst z;rw[n]at mu;exact mu
 have hb:∀b,H b=none->b≠e:=λb n z=>by
  subst z
  rcases he with r|r
  .exact hx b n r
  .rw[n]at r;cases r
 have hm:∀b u,H b=some u->¬Mut (some u)->b≠x:=λb u q nm z=>by subst z;rw[q]at mu;exact nm mu
 refine⟨λb u q n _ _=>k b u (hb b n) q,λb u q n _ _=>⟨u.slots,k b u (hb b n) q⟩,λb u q n _=>by rw[zag (hx b n)];exact n,λb u q _=>?_,
  λb xs q=>by rw[zag (hm b _ q λz=>z)];exact q,λb u xs q=>by rw[zag (hm b _ q λz=>z)];exact q,λb ps q=>⟨#[],by rw[zag (hm b _ q λz=>z),q];simp⟩⟩
 by_cases hbe:b=e
 .subst hbe;exact heo
 .exact⟨u,k b u hbe q⟩
end
noncomputable def trk(h:Heap)(H:Hp):List Addr:=(List.range h.objs.size).filter λa=>(H a).isSome
noncomputable def hidT(h:Heap)(H:Hp):Heap:=PySem.W.hideAll h (trk h H)
theorem zlw(h:Heap)(H:Hp):(hidT h H).objs.size=h.objs.size:=PySem.W.hideAll_size _ _
theorem zos{h:Heap}{H:Hp}{b:Addr}{o:Obj}(e:h.get? b=some o)(n:H b=none):(hidT h H).get? b=some o:=
 PySem.W.hideAll_get _ e λhm=>by
  have q:(H b).isSome=true:=(List.mem_filter.mp hm).2
  rw[n]at q;simp at q
theorem zrs{h:Heap}{H:Hp}{b:Addr}{o:Obj}(e:(hidT h H).get? b=some o):h.get? b=some o/\H b=none:=by
 have e':h.get? b=some o:=PySem.W.of_hideAll (trk h H) e
 refine⟨e',?_⟩
 cases q:H b with
 |none=>rfl
 |some x=>
  have hm:b∈trk h H:=List.mem_filter.mpr ⟨List.mem_range.mpr (vaq e'),by simp[q]⟩
  have z:(hidT h H).get? b=none:=PySem.W.hideAll_none (trk h H) hm
  rw[z]at e;cases e
structure Mod(K:vga)(mg:Str->Option Value)(base:Heap):Prop where
 kin:K.In base
 glob:base.Ns mainGlobals mg
 blt:∃mb,base.Ns builtinsNs mb/\∀x:Str,x≠"__name__"->mb x=bootBuiltins x
 nolimit:base.NoLimit
set_option genInjectivity false in
structure Cx where
 prog:Program
 w:World
 K:vga
 mg:Str->Option Value
 base:Heap
 A:Around
 N:List Str
 s₀:Shared
 H₀:Hp
 env:Env
 outer:List Env
 stack:List Env
 ex:List Addr
 fn:Str->Bool
 calm:Bool
 pn:List (Addr×Obj)
 xe:Value->Shared->Prop
noncomputable def frs(l:List Env):List Addr:=l.filterMap (·.frame)
noncomputable abbrev Cx.fs(X:Cx):List Addr:=frs X.outer
noncomputable def Vis(sc:Scope)(x:Str):Prop:=sc.names.lookup x=some .local\/sc.names.lookup x=some .cell\/sc.names.lookup x=some .free
noncomputable def Loc(sc:Scope)(x:Str):Prop:=sc.names.lookup x=some .local\/sc.names.lookup x=some .cell
noncomputable def Look(env:Env)(h:Heap)(m:Str->Option Value)(x:Str)(u:Value):Prop:=
 (env.kindOf x=some .local/\m x=some u)\/((env.kindOf x=some .cell\/env.kindOf x=some .free)/\∃c,env.cells.lookup x=some c/\h.IsCell c (some u))
structure Cx.Ok(X:Cx):Prop where
 mod:Mod X.K X.mg X.base
 kind:X.env.scope.kind=.function
 glob:X.env.globals=mainGlobals
 blt:X.env.builtins=builtinsNs
 above:X.s₀.heap.objs.size<=X.env.locals
 inj:∀x y c,X.env.cells.lookup x=some c->X.env.cells.lookup y=some c->x=y
 has:∀x,(X.env.kindOf x=some .cell\/X.env.kindOf x=some .free)->∃c,X.env.cells.lookup x=some c
 cab:∀x c,X.fn x=true->X.env.cells.lookup x=some c->X.s₀.heap.objs.size<=c
 hd:X.calm=true->X.A.handled=none
 frames:X.A.frames=some X.stack
 stk:X.stack=X.outer\/(X.stack=X.env::X.outer/\X.env.frame=some X.env.locals)
 exf:∀b∈X.ex,b≠X.env.locals/\∀x c,X.env.cells.lookup x=some c->c≠b
 bs:∀b o,X.base.get? b=some o->X.s₀.heap.get? b=some o/\X.H₀ b=none
 bsz:X.base.objs.size<=X.s₀.heap.objs.size
 noex:∀b o,X.base.get? b=some o->b∉X.ex
 exfs:∀b∈X.ex,b∉X.fs
 funs:X.s₀.heap.FunFrames X.base X.outer
 frf:∀b∈X.fs,X.H₀ b=none
structure Inv(X:Cx)(pins:List (Addr×Obj))(σ:List (Option V))(H:Hp)(s:Shared):Prop where
 ok:X.Ok
 os:s.os=X.s₀.os
 bare:AllBare s.gens
 base:Un X.fs X.ex X.H₀ H X.s₀.heap s.heap
 loc:∃m,s.heap.Ns X.env.locals m/\∀(i:Nat)(x:Str)(v:V),X.N[i]?=some x->σ[i]?=some (some v)->Vis X.env.scope x->∃u,RelV v u/\Look X.env s.heap m x u
 cell:∀x c,X.env.cells.lookup x=some c->∃v,s.heap.IsCell c v
 free:H X.env.locals=none
 freeC:∀x c,X.env.cells.lookup x=some c->H c=none
 pin:∀p∈X.pn++pins,s.heap.get? p.1=some p.2/\H p.1=none/\p.1≠X.env.locals/\p.1∉X.fs/\∀v,p.2.data≠.cell v
 hok:HOk X.prog X.w H s.heap
 len:σ.length=X.N.length
section
variable{X:Cx}{pins:List (Addr×Obj)}{σ:List (Option V)}{H H':Hp}{s:Shared}{h':Heap}
theorem Cx.Ok.nofr(ok:X.Ok){b:Addr}{o:Obj}(e:X.base.get? b=some o):b∉X.fs:=λhb=>by
 have:=(ok.funs.mem hb).1
 rw[e]at this;cases this
theorem Inv.bs(I:Inv X pins σ H s):∀b o,X.base.get? b=some o->s.heap.get? b=some o/\H b=none:=λb o e=>
 ⟨I.base.keep b o (I.ok.bs b o e).1 (I.ok.bs b o e).2 (I.ok.nofr e) (I.ok.noex b o e),I.base.free b o (I.ok.bs b o e).1 (I.ok.bs b o e).2 (I.ok.noex b o e)⟩
theorem Inv.bk(I:Inv X pins σ H s):∀b o,X.base.get? b=some o->s.heap.get? b=some o:=λb o e=>(I.bs b o e).1
theorem Inv.mod(I:Inv X pins σ H s):Mod X.K X.mg X.base:=I.ok.mod
theorem Inv.kIn(I:Inv X pins σ H s):X.K.In s.heap:=I.ok.mod.kin.keeps I.bk
theorem Inv.lt(I:Inv X pins σ H s):X.env.locals<s.heap.objs.size:=let⟨_,hn,_⟩:=I.loc;hn.lt
theorem Inv.sz(I:Inv X pins σ H s):X.s₀.heap.objs.size<=s.heap.objs.size:=vbx I.ok.above (vdr I.lt)
theorem Inv.nofs(I:Inv X pins σ H s){a:Addr}(h:s.heap.objs.size<=a):a∉X.fs:=λhb=>by
 obtain⟨_,o,ho,_⟩:=I.ok.funs.mem hb
 exact absurd (vak (vaq ho) (vbx I.sz h)) (vca _)
theorem Inv.cne(I:Inv X pins σ H s):∀x c,X.env.cells.lookup x=some c->c≠X.env.locals:=λx c e z=>by
 obtain⟨v,o,ho,hd⟩:=I.cell x c e
 obtain⟨m,⟨o',es,ep,ho',hd',_⟩,_⟩:=I.loc
 rw[z,ho']at ho;cases ho;rw[hd']at hd;cases hd
theorem Inv.funs(I:Inv X pins σ H s):s.heap.FunFrames X.base X.outer:=by
 have all:∀(l:List Env),(∀b∈frs l,b∈X.fs)->X.s₀.heap.FunFrames X.base l->s.heap.FunFrames X.base l:=by
  intro l
  induction l with
  |nil=>intro _ _;trivial
  |cons env r ih=>
   intro hs hl
   obtain⟨hk,⟨L,o,hf,hn,ho,hd⟩,hr⟩:=hl
   have hL:L∈X.fs:=hs L (by unfold frs;rw[vcg,hf];exact vaf)
   obtain⟨sl,e⟩:=I.base.slot L o ho (I.ok.frf L hL) hL λz=>I.ok.exfs L z hL
   exact⟨hk,⟨L,_,hf,hn,e,hd⟩,ih (λb hb=>hs b (by unfold frs;rw[vcg,hf];exact vad _ hb)) hr⟩
 exact all X.outer (λ_ hb=>hb) I.ok.funs
theorem Inv.stack(I:Inv X pins σ H s):s.heap.FunFrames X.base X.stack:=by
 rcases I.ok.stk with e|⟨e,hf⟩
 .rw[e];exact I.funs
 .rw[e]
  obtain⟨m,hn,_⟩:=I.loc
  refine .cons (by rw[I.ok.kind];decide) hf hn ?_ I.funs
  exact Heap.get?_none_of_le (vbx I.ok.bsz I.ok.above)
theorem Inv.stkSub(I:Inv X pins σ H s):∀b∈frs X.stack,b∈X.env.locals::X.fs:=λb hb=>by
 rcases I.ok.stk with e|⟨e,hf⟩
 .rw[e]at hb;exact vad _ hb
 .rw[e]at hb
  unfold frs at hb
  rw[vcg,hf]at hb
  exact hb
theorem Inv.stkFree(I:Inv X pins σ H s):∀b∈frs X.stack,H b=none:=λb hb=>by
 rcases vax.mp (I.stkSub b hb)with e|hb
 .rw[e];exact I.free
 .obtain⟨_,o,ho,_⟩:=I.ok.funs.mem hb
  exact I.base.free b o ho (I.ok.frf b hb) λz=>I.ok.exfs b z hb
theorem Inv.step{g':Array GenState}{t':Nat}{d':Drawn}{ch:List Addr}(I:Inv X pins σ H s)
 (hch:∀b∈ch,(b∈X.ex\/X.s₀.heap.objs.size<=b)/\b≠X.env.locals/\(∀x c,X.env.cells.lookup x=some c->c≠b)/\∀p∈X.pn++pins,p.1≠b)
 (keep:∀b o,b≠X.env.locals->b∉X.fs->b∉ch->s.heap.get? b=some o->H b=none->h'.get? b=some o)
 (slot:∀b o,b≠X.env.locals->b∈X.fs->b∉ch->s.heap.get? b=some o->H b=none->∃sl,h'.get? b=some {o with slots:=sl}) (free:∀b o,b∉ch->s.heap.get? b=some o->H b=none->H' b=none)
 (there:∀b o,b∉ch->s.heap.get? b=some o->∃o',h'.get? b=some o')
 (tups:∀b xs,H b=some (.tup xs)->H' b=some (.tup xs)) (frzs:∀b o u,H b=some (.frz o u)->H' b=some (.frz o u)) (tbls:∀b ps,H b=some (.tbl ps)->∃more,H' b=some (.tbl (ps++more)))
 (ns:∀m,s.heap.Ns X.env.locals m->h'.Ns X.env.locals m) (hok:HOk X.prog X.w H' h') (hg:AllBare g') :
 Inv X pins σ H' {s with heap:=h',gens:=g',drawn:=d',toks:=t'}:=by
 have neL:∀b o,X.s₀.heap.get? b=some o->b≠X.env.locals:=λb o e=>va4 (vak (vaq e) I.ok.above)
 have neC:∀b o,X.s₀.heap.get? b=some o->b∉X.ex->b∉ch:=λb o e hx hb=>by
  rcases(hch b hb).1 with z|z
  .exact hx z
  .exact absurd (vak (vaq e) z) (vca _)
 have cellK:∀x c,X.env.cells.lookup x=some c->∀v,s.heap.IsCell c v->h'.IsCell c v:=λx c e v hq0=>by
  obtain⟨o,ho,hd⟩:=hq0
  have nch:c∉ch:=λz=>(hch c z).2.2.1 x c e rfl
  by_cases hc:c∈X.fs
  .obtain⟨sl,q⟩:=slot c o (I.cne x c e) hc nch ho (I.freeC x c e)
   exact⟨_,q,hd⟩
  .exact⟨o,keep c o (I.cne x c e) hc nch ho (I.freeC x c e),hd⟩
 refine⟨I.ok,I.os,hg,⟨λb o e n hb hx=>?_,λb o e n hb hx=>?_,λb o e n hx=>?_,λb o e hx=>?_,λb xs e=>tups b xs (I.base.tups b xs e),λb o xs e=>frzs b o xs (I.base.frzs b o xs e),λb ps e=>?_⟩,?_,λx c e=>?_,?_,λx c e=>?_,λp hp=>?_,hok,I.len⟩
 .exact keep b o (neL b o e) hb (neC b o e hx) (I.base.keep b o e n hb hx) (I.base.free b o e n hx)
 .obtain⟨sl,e1⟩:=I.base.slot b o e n hb hx
  obtain⟨sl',e2⟩:=slot b _ (neL b o e) hb (neC b o e hx) e1 (I.base.free b o e n hx)
  exact⟨sl',e2⟩
 .obtain⟨o',e1⟩:=I.base.there b o e hx
  exact free b o' (neC b o e hx) e1 (I.base.free b o e n hx)
 .obtain⟨o',e1⟩:=I.base.there b o e hx
  exact there b o' (neC b o e hx) e1
 .obtain⟨m1,e1⟩:=I.base.tbls b ps e
  obtain⟨m2,e2⟩:=tbls b _ e1
  exact⟨m1++m2,by rw[e2,Array.append_assoc]⟩
 .obtain⟨m,hn,hl⟩:=I.loc
  refine⟨m,ns m hn,λi x v e1 e2 e3=>?_⟩
  obtain⟨u,r,l⟩:=hl i x v e1 e2 e3
  refine⟨u,r,?_⟩
  rcases l with l|⟨k,c,e,z⟩
  .exact .inl l
  .exact .inr ⟨k,c,e,cellK x c e _ z⟩
 .obtain⟨v,z⟩:=I.cell x c e
  exact⟨v,cellK x c e v z⟩
 .obtain⟨m,⟨o,_,_,ho,_⟩,_⟩:=I.loc
  exact free _ o (λz=>(hch _ z).2.1 rfl) ho I.free
 .obtain⟨v,o,ho,hd⟩:=I.cell x c e
  exact free c o (λz=>(hch c z).2.2.1 x c e rfl) ho (I.freeC x c e)
 .obtain⟨e,n,ne,nf,d⟩:=I.pin p hp
  have nch:p.1∉ch:=λz=>(hch p.1 z).2.2.2 p hp rfl
  exact⟨keep p.1 p.2 ne nf nch e n,free p.1 p.2 nch e n,ne,nf,d⟩
theorem Inv.un{t':Nat}(I:Inv X pins σ H s)(u:Un X.fs [] H H' s.heap h')(hok:HOk X.prog X.w H' h'):Inv X pins σ H' {s with heap:=h',toks:=t'}:=by
 obtain⟨m,⟨o,es,ep,ho,r⟩,_⟩:=id I.loc
 obtain⟨sl,hL⟩:=u.any ho I.free (by simp)
 exact I.step (g':=s.gens) (d':=s.drawn) (ch:=[]) (λ_ z=>nomatch z) (λb o _ hb _ e n=>u.keep b o e n hb (by simp)) (λb o _ hb _ e n=>u.slot b o e n hb (by simp)) (λb o _ e n=>u.free b o e n (by simp)) (λb o _ e=>u.there b o e (by simp)) u.tups u.frzs u.tbls (λm' hm=>by
  obtain⟨o',es',ep',ho',r'⟩:=hm
  rw[ho]at ho';cases ho'
  exact⟨_,es',ep',hL,r'⟩) hok I.bare
theorem Inv.call{g':Array GenState}{t':Nat}{d':Drawn}{ch:List Addr}(I:Inv X pins σ H s)(u:Un (frs X.stack) ch H H' s.heap h')(hok:HOk X.prog X.w H' h')(hg:AllBare g')
 (hch:∀b∈ch,(b∈X.ex\/X.s₀.heap.objs.size<=b)/\b≠X.env.locals/\(∀x c,X.env.cells.lookup x=some c->c≠b)/\∀p∈X.pn++pins,p.1≠b) :
 Inv X pins σ H' {s with heap:=h',gens:=g',drawn:=d',toks:=t'}:=by
 obtain⟨m,⟨o,es,ep,ho,r⟩,_⟩:=id I.loc
 obtain⟨sl,hL⟩:=u.any ho I.free λz=>(hch _ z).2.1 rfl
 exact I.step (ch:=ch) hch (λb o hL hb hc e n=>u.keep b o e n (λz=>(vax.mp (I.stkSub b z)).elim hL hb) hc) (λb o _ _ hc e n=>u.any e n hc) (λb o hc e n=>u.free b o e n hc) (λb o hc e=>u.there b o e hc) u.tups u.frzs u.tbls (λm' hm=>by
  obtain⟨o',es',ep',ho',r'⟩:=hm
  rw[ho]at ho';cases ho'
  exact⟨_,es',ep',hL,r'⟩) hok hg
theorem Inv.turned{t':Nat}{it:Addr}(I:Inv X pins σ H s)(k:∀b o,b≠it->s.heap.get? b=some o->h'.get? b=some o)(hn:H it=none)(hL:it≠X.env.locals)
 (h1:it∈X.ex\/X.s₀.heap.objs.size<=it) (h2:∀x c,X.env.cells.lookup x=some c->c≠it) (h3:∀p∈X.pn++pins,p.1≠it):Inv X pins σ H {s with heap:=h',toks:=t'}:=by
 have nit:∀b u,H b=some u->b≠it:=λb u e z=>by rw[z,hn]at e;cases e
 refine I.step (g':=s.gens) (d':=s.drawn) (ch:=[it]) (λb hb=>?_) (λb o _ _ hc e _=>k b o (λz=>hc (by simp[z])) e) (λb o _ _ hc e _=>⟨o.slots,k b o (λz=>hc (by simp[z])) e⟩) (λ_ _ _ _ n=>n)
  (λb o hc e=>⟨o,k b o (λz=>hc (by simp[z])) e⟩) (λ_ _ e=>e) (λ_ _ _ e=>e) (λb ps e=>⟨#[],by rw[e];simp⟩) (λm hm=>?_) (λb u e=>?_) I.bare
 .have e:b=it:=by simpa using hb
  subst e
  exact⟨h1,hL,h2,h3⟩
 .obtain⟨o,es,ep,ho,r⟩:=hm
  exact⟨o,es,ep,k _ o (vbw hL) ho,r⟩
 .refine(I.hok b u e).stay (λc v hc q=>k c v ?_ q) (λ_ q=>q) λ_ _ q=>q
  rcases hc with z|z
  .rw[z];exact nit b u e
  .exact nit c _ z
theorem Inv.tok(I:Inv X pins σ H s)(t:Nat):Inv X pins σ H {s with toks:=t}:=I.un (h':=s.heap) (t':=t) Un.refl I.hok
theorem Inv.kept{t':Nat}(I:Inv X pins σ H s)(k:∀b u,s.heap.get? b=some u->h'.get? b=some u):Inv X pins σ H {s with heap:=h',toks:=t'}:=I.un (Un.kept k) (I.hok.kept k)
theorem Inv.laid{a:Addr}{o:HO}{t':Nat}(I:Inv X pins σ H s)(k:∀b u,s.heap.get? b=some u->h'.get? b=some u)(hp:s.heap.objs.size<=a)(new:ObjOk X.prog X.w (upd H a o) h' a o) :
 Inv X pins σ (upd H a o) {s with heap:=h',toks:=t'}:=I.un (Un.laid k hp (I.hok.fresh hp)) (I.hok.laid k hp new)
theorem Inv.write{x e:Addr}{o:HO}{t':Nat}(I:Inv X pins σ H s)(mu:Mut (H x))(he:e=x\/H e=some (.own x))(k:∀b u,b≠e->s.heap.get? b=some u->h'.get? b=some u)(heo:∃u,h'.get? e=some u)
 (new:ObjOk X.prog X.w (upd H x o) h' x o):Inv X pins σ (upd H x o) {s with heap:=h',toks:=t'}:=I.un (Un.write mu he k heo) (I.hok.write mu he k heo new)
theorem Inv.pins_of{pins':List (Addr×Obj)}(I:Inv X pins σ H s)(h:∀p∈pins',s.heap.get? p.1=some p.2/\H p.1=none/\p.1≠X.env.locals/\p.1∉X.fs/\∀v,p.2.data≠.cell v):Inv X pins' σ H s:=
 ⟨I.ok,I.os,I.bare,I.base,I.loc,I.cell,I.free,I.freeC,λp hp=>(vby.mp hp).elim (λz=>I.pin p (List.mem_append_left _ z)) (h p),I.hok,I.len⟩
theorem zjn{N:List Str}(hN:N.Nodup){i j:Nat}{x:Str}(a:N[i]?=some x)(b:N[j]?=some x):i=j:=by
 obtain⟨h1,e1⟩:=va8.mp a
 obtain⟨h2,e2⟩:=va8.mp b
 exact(List.getElem_inj hN).mp (e1.trans e2.symm)
theorem zhf{M:Model}{A:Around}{E:Value->Shared->Prop}{i:Nat}{x:Str}{v:V}{u:Value}{Q:Unit->Shared->Prop}(I:Inv X pins σ H s)(hN:X.N.Nodup)(hi:X.N[i]?=some x)(hx:Loc X.env.scope x)(r:RelV v u)
 (h:∀s',Inv X pins (σ.set i (some v)) H s'->(∃a,Heap.SameBut a s.heap s'.heap/\(a=X.env.locals\/X.env.cells.lookup x=some a))->Q () s') (hf:X.fn x=true\/X.env.scope.names.lookup x=some .local:=by first|exact .inl rfl|exact .inr rfl|assumption):wpAny M A (storeName X.env x u) Q E s:=by
 obtain⟨m,hn,hl⟩:=id I.loc
 have hcls:(X.env.scope.kind == .class|| (X.env.scope.kind == .module&&X.env.locals != X.env.globals))=false:=by rw[I.ok.kind];rfl
 have hiσ:i<σ.length:=by rw[I.len];exact(va8.mp hi).1
 have cne:=I.cne
 have tracked:∀{a:Addr}{h':Heap},(∃o,s.heap.get? a=some o/\H a=none)->Heap.SameBut a s.heap h'->HOk X.prog X.w H h':=λ{a h'} ha hs b ob e=>by
  obtain⟨_,_,hfree⟩:=ha
  refine(I.hok b ob e).stay (λc w' hc q=>(hs.2 c ?_).trans q) (λ_ q=>q) λ_ _ q=>q
  rintro rfl
  rcases hc with rfl|hc
  .rw[hfree]at e;cases e
  .rw[hfree]at hc;cases hc
 rcases hx with hk|hk
 .refine wpAny_storeName_local hk hn (λh' hn' hs=>?_) hcls
  obtain⟨oL,_,_,hoL,_⟩:=id hn
  refine h _ ⟨I.ok,I.os,I.bare,⟨λb o e n hb hx=>?_,λb o e n hb hx=>?_,I.base.free,λb o e hx=>?_,I.base.tups,I.base.frzs,I.base.tbls⟩,⟨_,hn',λj y v' e1 e2 e3=>?_⟩,λy c e=>?_,I.free,I.freeC,λp hp=>?_,tracked ⟨oL,hoL,I.free⟩ hs,by simpa using I.len⟩ ⟨_,hs,.inl rfl⟩
  .exact(hs.2 b (va4 (vak (vaq e) I.ok.above))).trans (I.base.keep b o e n hb hx)
  .obtain⟨sl,e1⟩:=I.base.slot b o e n hb hx
   exact⟨sl,(hs.2 b (va4 (vak (vaq e) I.ok.above))).trans e1⟩
  .obtain⟨o',e1⟩:=I.base.there b o e hx
   exact⟨o',(hs.2 b (va4 (vak (vaq e) I.ok.above))).trans e1⟩
  .by_cases hj:j=i
   .subst hj
    rw[hi]at e1;cases e1
    rw[vce hiσ]at e2
    cases e2
    exact⟨u,r,.inl ⟨hk,by simp⟩⟩
   .rw[vcv (vbw hj)]at e2
    obtain⟨u',r',q⟩:=hl j y v' e1 e2 e3
    refine⟨u',r',?_⟩
    rcases q with⟨k,e⟩|⟨k,c,e,z⟩
    .refine .inl ⟨k,?_⟩
     have:y≠x:=λe=>hj (zjn hN e1 (e▸hi))
     simp[this,e]
    .exact .inr ⟨k,c,e,z.sameBut hs (cne y c e)⟩
  .obtain⟨w',z⟩:=I.cell y c e
   exact⟨w',z.sameBut hs (cne y c e)⟩
  .obtain⟨e,n,ne,nf,d⟩:=I.pin p hp
   exact⟨(hs.2 p.1 ne).trans e,n,ne,nf,d⟩
 .have hfn:X.fn x=true:=by
   rcases hf with z|z
   .exact z
   .rw[z]at hk;cases hk
  obtain⟨c,hc⟩:=I.ok.has x (.inl hk)
  obtain⟨w',z⟩:=I.cell x c hc
  refine wpAny_storeName_cell I.ok.kind hk hc z (λh' hc' hs=>?_)
  obtain⟨oc,hoc,hocd⟩:=id z
  refine h {s with heap:=h'} ⟨I.ok,I.os,I.bare,⟨λb o e n hb hx=>?_,λb o e n hb hx=>?_,I.base.free,λb o e hx=>?_,I.base.tups,I.base.frzs,I.base.tbls⟩,⟨m,hn.sameBut hs (vbw (cne x c hc)),λj y v' e1 e2 e3=>?_⟩,λy c' e=>?_,I.free,I.freeC,λp hp=>?_,tracked ⟨oc,hoc,I.freeC x c hc⟩ hs,by simpa using I.len⟩ ⟨c,hs,.inr hc⟩
  .exact(hs.2 b (va4 (vak (vaq e) (I.ok.cab x c hfn hc)))).trans (I.base.keep b o e n hb hx)
  .obtain⟨sl,e1⟩:=I.base.slot b o e n hb hx
   exact⟨sl,(hs.2 b (va4 (vak (vaq e) (I.ok.cab x c hfn hc)))).trans e1⟩
  .obtain⟨o',e1⟩:=I.base.there b o e hx
   exact⟨o',(hs.2 b (va4 (vak (vaq e) (I.ok.cab x c hfn hc)))).trans e1⟩
  .by_cases hj:j=i
   .subst hj
    rw[hi]at e1;cases e1
    rw[vce hiσ]at e2
    cases e2
    exact⟨u,r,.inr ⟨.inl hk,c,hc,hc'⟩⟩
   .rw[vcv (vbw hj)]at e2
    obtain⟨u',r',q⟩:=hl j y v' e1 e2 e3
    refine⟨u',r',?_⟩
    rcases q with q|⟨k,c',e,z'⟩
    .exact .inl q
    .refine .inr ⟨k,c',e,z'.sameBut hs ?_⟩
     rintro rfl
     exact hj (zjn hN e1 (I.ok.inj _ _ _ e hc▸hi))
  .by_cases hcc:c'=c
   .subst hcc;exact⟨_,hc'⟩
   .obtain⟨w2,z2⟩:=I.cell y c' e
    exact⟨w2,z2.sameBut hs hcc⟩
  .obtain⟨e,n,ne,nf,d⟩:=I.pin p hp
   refine⟨(hs.2 p.1 ?_).trans e,n,ne,nf,d⟩
   intro q
   rw[q,hoc]at e
   have q':oc=p.2:=vbj e
   exact d w' (by rw[<-q'];exact hocd)
theorem zf8{M:Model}{A:Around}{E:Value->Shared->Prop}{i:Nat}{x:Str}{v:V}{u:Value}{Q:Unit->Shared->Prop}(I:Inv X pins σ H s)(hN:X.N.Nodup)(hi:X.N[i]?=some x)(hx:Loc X.env.scope x)(r:RelV v u)
 (h:∀s',Inv X pins (σ.set i (some v)) H s'->Q () s') (hf:X.fn x=true\/X.env.scope.names.lookup x=some .local:=by first|exact .inl rfl|exact .inr rfl|assumption):wpAny M A (storeName X.env x u) Q E s:=
 zhf I hN hi hx r (λs' I' _=>h s' I') hf
theorem Inv.call'{s':Shared}{ch:List Addr}(I:Inv X pins σ H s)(ho:s'.os=s.os)(u:Un (frs X.stack) ch H H' s.heap s'.heap)(hok:HOk X.prog X.w H' s'.heap)(hg:AllBare s'.gens)
 (hch:∀b∈ch,(b∈X.ex\/X.s₀.heap.objs.size<=b)/\b≠X.env.locals/\(∀x c,X.env.cells.lookup x=some c->c≠b)/\∀p∈X.pn++pins,p.1≠b):Inv X pins σ H' s':=by
 obtain⟨h',g',d',t',o'⟩:=s'
 have e:o'=s.os:=ho
 subst e
 exact I.call (g':=g') (t':=t') (d':=d') u hok hg hch
end
noncomputable abbrev XK:=Value->Option Addr->Hp->Prop
noncomputable abbrev St:=List (Option V)
noncomputable abbrev VK:=V->Hp->Prop
noncomputable abbrev TE:=St->Hp->VK->Prop
noncomputable abbrev TT:=St->Hp->(Bool->Hp->Prop)->Prop
noncomputable abbrev TA:=St->Hp->(List V->Hp->Prop)->Prop
set_option genInjectivity false in
structure Ends where
 nx:St->Hp->Prop
 rt:VK
 bk:St->Hp->Prop:=λ_ _=>False
 ct:St->Hp->Prop:=λ_ _=>False
noncomputable abbrev TS:=Ends->St->Hp->Prop
noncomputable def EP(X:Cx)(pins:List (Addr×Obj))(σ:St)(Q:VK)(u:Value)(s':Shared):Prop:=∃v H',Inv X pins σ H' s'/\RelV v u/\Q v H'
noncomputable def TP(X:Cx)(pins:List (Addr×Obj))(σ:St)(Q:Bool->Hp->Prop)(b:Bool)(s':Shared):Prop:=∃H',Inv X pins σ H' s'/\Q b H'
noncomputable def AP(X:Cx)(pins:List (Addr×Obj))(σ:St)(Q:List V->Hp->Prop)(us:List Value)(s':Shared):Prop:=∃vs H',Inv X pins σ H' s'/\Vals vs us/\Q vs H'
theorem EP.el{X:Cx}{pins:List (Addr×Obj)}{σ:St}{Q:VK}{u:Value}{s':Shared}{P:Prop}(q:EP X pins σ Q u s')(k:∀v H',Inv X pins σ H' s'->RelV v u->Q v H'->P):P:=by
 obtain⟨v,H',a,b,c⟩:=q
 exact k v H' a b c
theorem TP.el{X:Cx}{pins:List (Addr×Obj)}{σ:St}{Q:Bool->Hp->Prop}{b:Bool}{s':Shared}{P:Prop}(q:TP X pins σ Q b s')(k:∀H',Inv X pins σ H' s'->Q b H'->P):P:=by
 obtain⟨H',a,c⟩:=q
 exact k H' a c
theorem AP.el{X:Cx}{pins:List (Addr×Obj)}{σ:St}{Q:List V->Hp->Prop}{us:List Value}{s':Shared}{P:Prop}(q:AP X pins σ Q us s')(k:∀vs H',Inv X pins σ H' s'->Vals vs us->Q vs H'->P):P:=by
 obtain⟨v,H',a,b,c⟩:=q
 exact k v H' a b c
noncomputable def SP(X:Cx)(pins:List (Addr×Obj))(D:Ends)(f:Flow)(s':Shared):Prop:=
 match f with
 |.next=>∃σ' H',Inv X pins σ' H' s'/\D.nx σ' H'
 |.brk=>∃σ' H',Inv X pins σ' H' s'/\D.bk σ' H'
 |.cont=>∃σ' H',Inv X pins σ' H' s'/\D.ct σ' H'
 |.ret u=>∃v σ' H',Inv X pins σ' H' s'/\RelV v u/\D.rt v H'
noncomputable def PE(X:Cx)(e:Expr)(t:TE):Prop:=
 ∀(pins:List (Addr×Obj))(s:Shared)(σ:St)(H:Hp)(Q:VK),Inv X pins σ H s->t σ H Q->wpAny (model X.prog X.w) X.A (eval e X.env) (EP X pins σ Q) X.xe s
noncomputable def PT(X:Cx)(e:Expr)(t:TT):Prop:=
 ∀(pins:List (Addr×Obj))(s:Shared)(σ:St)(H:Hp)(Q:Bool->Hp->Prop),Inv X pins σ H s->t σ H Q->wpAny (model X.prog X.w) X.A (isTrue e X.env (eval e X.env)) (TP X pins σ Q) X.xe s
noncomputable def PW(X:Cx)(e:Expr)(t:TT):Prop:=
 ∀(whole:Sem Value)(pins:List (Addr×Obj))(s:Shared)(σ:St)(H:Hp)(Q:Bool->Hp->Prop),Inv X pins σ H s->t σ H Q->wpAny (model X.prog X.w) X.A (isTrue e X.env whole) (TP X pins σ Q) X.xe s
theorem PW.pt{X:Cx}{e:Expr}{t:TT}(h:PW X e t):PT X e t:=h _
noncomputable def PA(X:Cx)(es:List Expr)(t:TA):Prop:=
 ∀(pos:Pos)(pins:List (Addr×Obj))(s:Shared)(σ:St)(H:Hp)(Q:List V->Hp->Prop),Inv X pins σ H s->t σ H Q->wpAny (model X.prog X.w) X.A (spliced (backTo pos (starEach es X.env))) (AP X pins σ Q) X.xe s
noncomputable def PS(X:Cx)(st:Stmt)(t:TS):Prop:=
 ∀(pins:List (Addr×Obj))(s:Shared)(σ:St)(H:Hp)(D:Ends),Inv X pins σ H s->t D σ H->wpAny (model X.prog X.w) X.A (exec st X.env) (SP X pins D) X.xe s
noncomputable def PSs(X:Cx)(st:List Stmt)(t:TS):Prop:=
 ∀(pins:List (Addr×Obj))(s:Shared)(σ:St)(H:Hp)(D:Ends),Inv X pins σ H s->t D σ H->wpAny (model X.prog X.w) X.A (execs st X.env) (SP X pins D) X.xe s
theorem thn{α:Type}{t:Sem α}{Q Q':α->Shared->Prop}{M:Model}{A:Around}{E:Value->Shared->Prop}{s:Shared}(h:wpAny M A t Q E s)(hQ:∀a s,Q a s->Q' a s):wpAny M A t Q' E s:=vc0 h hQ λ_ _ x=>x
section
variable{X:Cx}
noncomputable def tVar(i:Nat):TE:=λσ H Q=>∃v,σ[i]?=some (some v)/\Q v H
noncomputable def tC(v:V):TE:=λ_ H Q=>Q v H
theorem zui{i:Nat}{x:Str}{pos:Pos}(hN:X.N[i]?=some x)(hv:Vis X.env.scope x)(hd:(x==("__debug__" : Str))=false:=by decide)(hcd:(x==("__classdict__" : Str))=false:=by decide):PE X (.Name x pos) (tVar i):=by
 intro pins s σ H Q I h
 obtain⟨v,e,h⟩:=h
 obtain⟨m,hn,hl⟩:=I.loc
 obtain⟨u,r,l⟩:=hl i x v hN e hv
 have fin:EP X pins σ Q u s:=⟨v,H,I,r,h⟩
 rcases l with⟨hk,hm⟩|⟨hk,c,hc,hcell⟩
 .exact wpAny_Name (wpAny_loadName_local I.ok.kind hk hn hm fin) hd
 .rcases hk with hk|hk
  .exact wpAny_Name (wpAny_loadName_cell I.ok.kind hk hc hcell fin) hd
  .exact wpAny_Name (wpAny_loadName_free I.ok.kind hk hc hcell fin hcd) hd
theorem zuj{i j pos}:PE X (.Constant (.int i) j pos) (tC (.int i)):=λ_ _ _ H _ I h=>wpAny_Constant_int ⟨.int i,H,I.tok _,⟨_,rfl⟩,h⟩
theorem pe_bl{b j pos}:PE X (.Constant (.bool b) j pos) (tC (.bl b)):=λ_ _ _ H _ I h=>Constant_bool ⟨.bl b,H,I,rfl,h⟩
theorem zuk{j pos}:PE X (.Constant .none j pos) (tC .non):=λ_ _ _ H _ I h=>Constant_none ⟨.non,H,I,rfl,h⟩
theorem zul{x j pos}:PE X (.Constant (.str x) j pos) (tC (.str x)):=λ_ _ _ H _ I h=>Calls.Constant_str ⟨.str x,H,I.tok _,⟨_,rfl⟩,h⟩
noncomputable def Gl(X:Cx)(x:Str):Prop:=X.env.kindOf x=some .globalImplicit
theorem zf9{E:Value->Shared->Prop}{pins:List (Addr×Obj)}{s:Shared}{σ:St}{H:Hp}{x:Str}{u:Value}{pos:Pos}{Q:Value->Shared->Prop}(I:Inv X pins σ H s)(hg:Gl X x)(hm:X.mg x=some u)(h:Q u s)
 (hd:(x==("__debug__" : Str))=false:=by decide):wpAny (model X.prog X.w) X.A (eval (.Name x pos) X.env) Q E s:=
 Calls.Name_function_global I.ok.kind hg (Calls.loadGlobal_global (by rw[I.ok.glob];exact I.mod.glob.keeps I.bk) hm h) hd
theorem zfe{E:Value->Shared->Prop}{pins:List (Addr×Obj)}{s:Shared}{σ:St}{H:Hp}{x:Str}{u:Value}{pos:Pos}{Q:Value->Shared->Prop}(I:Inv X pins σ H s)(hg:Gl X x)(hm:X.mg x=none)(hv:bootBuiltins x=some u)(h:Q u s)
 (hn:x≠"__name__":=by decide) (hd:(x==("__debug__" : Str))=false:=by decide):wpAny (model X.prog X.w) X.A (eval (.Name x pos) X.env) Q E s:=by
 obtain⟨mb,h1,h2⟩:=I.mod.blt
 exact Calls.Name_function_global I.ok.kind hg (Calls.loadGlobal_builtin (by rw[I.ok.glob];exact I.mod.glob.keeps I.bk) hm (by rw[I.ok.blt];exact h1.keeps I.bk) ((h2 x hn).trans hv) h) hd
theorem zlx{x:Str}{v:V}{u:Value}{pos:Pos}(hg:Gl X x)(hm:X.mg x=some u)(r:RelV v u)(hd:(x==("__debug__" : Str))=false:=by decide):PE X (.Name x pos) (tC v):=
 λ_ _ _ H _ I h=>zf9 I hg hm ⟨v,H,I,r,h⟩ hd
theorem zrt{x:Str}{v:V}{u:Value}{pos:Pos}(hg:Gl X x)(hm:X.mg x=none)(hv:bootBuiltins x=some u)(r:RelV v u)(hn:x≠"__name__":=by decide)(hd:(x==("__debug__" : Str))=false:=by decide):PE X (.Name x pos) (tC v):=
 λ_ _ _ H _ I h=>zfe I hg hm hv ⟨v,H,I,r,h⟩ hn hd
variable{a b:Expr}{ta tb:TE}{pos:Pos}
variable{tA tB':TT}{rest:List Expr}
noncomputable def tAnd(t u:TT):TT:=λσ H Q=>t σ H λc H1=>if c=true then u σ H1 Q else Q false H1
noncomputable def tOr(t u:TT):TT:=λσ H Q=>t σ H λc H1=>if c=true then Q true H1 else u σ H1 Q
noncomputable def tNot(t:TT):TT:=λσ H Q=>t σ H λc H1=>Q (!c) H1
theorem zru(ha:PT X a tA):PW X (.BoolOp .And [a] pos) tA:=by
 intro wh pins s σ H Q I h
 refine isTrue_and (thn (ha pins s σ H Q I h) λc s1 e=>?_)
 cases c with
 |true=>exact isTrue_and_nil e
 |false=>exact e
theorem zum(ha:PT X a tA):PW X (.BoolOp .Or [a] pos) tA:=by
 intro wh pins s σ H Q I h
 refine isTrue_or (thn (ha pins s σ H Q I h) λc s1 e=>?_)
 cases c with
 |false=>exact isTrue_or_nil e
 |true=>exact e
theorem zun(ha:PT X a tA)(hb:PW X (.BoolOp .And (b::rest) pos) tB'):PW X (.BoolOp .And (a::b::rest) pos) (tAnd tA tB'):=by
 intro wh pins s σ H Q I h
 refine isTrue_and (thn (ha pins s σ H _ I h) λc s1 z9=>z9.el λH1 I1 q1=>?_)
 cases c with
 |true=>exact hb wh pins s1 σ H1 Q I1 q1
 |false=>exact⟨H1,I1,q1⟩
theorem pw_or(ha:PT X a tA)(hb:PW X (.BoolOp .Or (b::rest) pos) tB'):PW X (.BoolOp .Or (a::b::rest) pos) (tOr tA tB'):=by
 intro wh pins s σ H Q I h
 refine isTrue_or (thn (ha pins s σ H _ I h) λc s1 z9=>z9.el λH1 I1 q1=>?_)
 cases c with
 |true=>exact⟨H1,I1,q1⟩
 |false=>exact hb wh pins s1 σ H1 Q I1 q1
theorem zuo(ha:PT X a tA):PT X (.UnaryOp .Not a pos) (tNot tA):=by
 intro pins s σ H Q I h
 exact isTrue_not (ha pins s σ H (λc H1=>Q (!c) H1) I h)
noncomputable def tAndV(ta tb:TE):TE:=λσ H Q=>ta σ H λx H1=>∃c,x=.bl c/\if c=true then tb σ H1 Q else Q (.bl false) H1
noncomputable def tOrV(ta tb:TE):TE:=λσ H Q=>ta σ H λx H1=>∃c,x=.bl c/\if c=true then Q (.bl true) H1 else tb σ H1 Q
noncomputable def tNotV(ta:TE):TE:=λσ H Q=>ta σ H λx H1=>∃c,x=.bl c/\Q (.bl (!c)) H1
theorem zup{op}{t:TE}(h:PE X a t):PE X (.BoolOp op [a] pos) t:=λpins s σ H Q I hw=>BoolOp_one (h pins s σ H Q I hw)
theorem zuq(ha:PE X a ta)(hb:PE X (.BoolOp .And (b::rest) pos) tb):PE X (.BoolOp .And (a::b::rest) pos) (tAndV ta tb):=by
 intro pins s σ H Q I h
 refine BoolOp_and (thn (ha pins s σ H _ I h) λv s1 z9=>z9.el λx H1 I1 r1 q1=>?_)
 obtain⟨c,rfl,q1⟩:=q1
 cases r1
 refine vb8 ?_
 cases c with
 |true=>exact hb pins s1 σ H1 Q I1 q1
 |false=>exact⟨.bl false,H1,I1,rfl,q1⟩
theorem pe_or(ha:PE X a ta)(hb:PE X (.BoolOp .Or (b::rest) pos) tb):PE X (.BoolOp .Or (a::b::rest) pos) (tOrV ta tb):=by
 intro pins s σ H Q I h
 refine BoolOp_or (thn (ha pins s σ H _ I h) λv s1 z9=>z9.el λx H1 I1 r1 q1=>?_)
 obtain⟨c,rfl,q1⟩:=q1
 cases r1
 refine vb8 ?_
 cases c with
 |false=>exact hb pins s1 σ H1 Q I1 q1
 |true=>exact⟨.bl true,H1,I1,rfl,q1⟩
theorem zur(ha:PE X a ta):PE X (.UnaryOp .Not a pos) (tNotV ta):=by
 intro pins s σ H Q I h
 refine UnaryOp_ (thn (ha pins s σ H _ I h) λv s1 z9=>z9.el λx H1 I1 r1 q1=>?_)
 obtain⟨c,rfl,q1⟩:=q1
 cases r1
 exact not_of (vb8 ⟨.bl (!c),H1,I1,rfl,q1⟩)
noncomputable def tIf(t:TT)(ta tb:TE):TE:=λσ H Q=>t σ H λc H1=>if c=true then ta σ H1 Q else tb σ H1 Q
theorem zot{c:Expr}(hc:PT X c tA)(ha:PE X a ta)(hb:PE X b tb):PE X (.IfExp c a b pos) (tIf tA ta tb):=by
 intro pins s σ H Q I h
 refine wpAny_IfExp (thn (hc pins s σ H _ I h) λd s1 z9=>z9.el λH1 I1 q1=>?_)
 cases d with
 |true=>exact ha pins s1 σ H1 Q I1 q1
 |false=>exact hb pins s1 σ H1 Q I1 q1
end
noncomputable def SqL(K:vga)(H:Hp)(a:Addr)(xs:List V):Prop:=
 Rd H a (.lst xs)\/
  ∃(o:Obj) (its:Array Value) (n:Nat),K.lookup a=some o/\o.cls=.type "list"/\o.dict=none/\o.data=.seq its n/\its.size<=sizeLine/\Vals xs its.toList
noncomputable def SqT(K:vga)(H:Hp)(a:Addr)(xs:List V):Prop:=
 Rd H a (.tup xs)\/
  ∃(o:Obj) (its:Array Value) (n:Nat),K.lookup a=some o/\o.cls=.type "tuple"/\o.dict=none/\o.data=.seq its n/\its.size<=sizeLine/\Vals xs its.toList
noncomputable def absV:Value->Option V
 |.none=>some .non
 |.bool b=>some (.bl b)
 |.int i _=>some (.int i)
 |.str x _=>some (.str x)
 |.bytes b _=>some (.byt b)
 |.float b _=>some (.flt b)
 |.ref a=>some (.ref a)
 |.type n=>some (.ty n)
 |_=>none
theorem RelV.abs{x:V}{u:Value}(r:RelV x u):absV u=some x:=by
 cases x with
 |non=>cases r;rfl
 |bl _=>cases r;rfl
 |int _=>obtain⟨t,rfl⟩:=r;rfl
 |str _=>obtain⟨t,rfl⟩:=r;rfl
 |byt _=>obtain⟨t,rfl⟩:=r;rfl
 |flt _=>obtain⟨t,rfl⟩:=r;rfl
 |ref _=>cases r;rfl
 |ty _=>cases r;rfl
theorem RelV.inj{x y:V}{u:Value}(r:RelV x u)(q:RelV y u):x=y:=vbj (r.abs.symm.trans q.abs)
theorem Vals.inj:∀{xs ys:List V} {us:List Value},Vals xs us->Vals ys us->xs=ys
 |_,_,_,.nil,.nil=>rfl
 |_,_,_,.cons r t,.cons r' t'=>by rw[r.inj r',Vals.inj t t']
section
variable{X:Cx}{pins:List (Addr×Obj)}{σ:St}{H:Hp}{s:Shared}{a:Addr}{xs ys:List V}
theorem SqL.of{K:vga}(h:H a=some (.lst xs)):SqL K H a xs:=.inl (.inl h)
theorem SqT.of{K:vga}(h:H a=some (.tup xs)):SqT K H a xs:=.inl (.inl h)
theorem Inv.list(I:Inv X pins σ H s)(h:SqL X.K H a xs):∃its:List Value,Vals xs its/\PlainL s.heap a its.toArray/\xs.length<=sizeLine:=by
 rcases h with h|⟨o,its,n,hk,hc,hd,hs,hz,r⟩
 .obtain⟨z,its,n,r,e⟩:=h.ok I.hok
  exact⟨its,r,⟨_,n,e,rfl,rfl,rfl⟩,z⟩
 .refine⟨its.toList,r,⟨o,n,I.kIn a o hk,hc,hd,by simpa using hs⟩,?_⟩
  have e:=r.length
  simp only[vcq]at e
  omega
theorem Inv.tupleD(I:Inv X pins σ H s)(h:SqT X.K H a xs):∃its:List Value,Vals xs its/\zbp s.heap a its.toArray/\xs.length<=sizeLine:=by
 rcases h with h|⟨o,its,n,hk,hc,hd,hs,hz,r⟩
 .obtain⟨z,its,r,p⟩:=h.ok I.hok
  exact⟨its,r,p,z⟩
 .refine⟨its.toList,r,⟨o,I.kIn a o hk,hc,⟨n,by simpa using hs⟩,hd⟩,?_⟩
  have e:=r.length
  simp only[vcq]at e
  omega
theorem Inv.tuple(I:Inv X pins σ H s)(h:SqT X.K H a xs):∃its:List Value,Vals xs its/\IsTup s.heap a its.toArray/\xs.length<=sizeLine:=by
 obtain⟨its,r,p,z⟩:=I.tupleD h
 exact⟨its,r,p.tup,z⟩
theorem Inv.list_inj(I:Inv X pins σ H s)(h:SqL X.K H a xs)(h':SqL X.K H a ys):xs=ys:=by
 obtain⟨its,r,⟨o,n,e,_,_,d⟩,_⟩:=I.list h
 obtain⟨its',r',⟨o',n',e',_,_,d'⟩,_⟩:=I.list h'
 rw[e]at e';cases e'
 rw[d]at d'
 injection d' with d1 _
 have:its=its':=by simpa using vdv Array.toList d1
 subst this
 exact r.inj r'
theorem Inv.tuple_inj(I:Inv X pins σ H s)(h:SqT X.K H a xs)(h':SqT X.K H a ys):xs=ys:=by
 obtain⟨its,r,⟨o,e,_,n,d⟩,_⟩:=I.tuple h
 obtain⟨its',r',⟨o',e',_,n',d'⟩,_⟩:=I.tuple h'
 rw[e]at e';cases e'
 rw[d]at d'
 injection d' with d1 _
 have:its=its':=by simpa using vdv Array.toList d1
 subst this
 exact r.inj r'
end
noncomputable abbrev Cx.wish(X:Cx)(E:Value->Shared->Prop):Cx:={X with xe:=E}
noncomputable abbrev Cx.nox(X:Cx):Cx:=X.wish λ_ _=>False
theorem Cx.Ok.wish{X:Cx}(ok:X.Ok)(E:Value->Shared->Prop):(X.wish E).Ok:=
 ⟨ok.mod,ok.kind,ok.glob,ok.blt,ok.above,ok.inj,ok.has,ok.cab,ok.hd,ok.frames,ok.stk,ok.exf,ok.bs,ok.bsz,ok.noex,ok.exfs,ok.funs,ok.frf⟩
theorem Cx.Ok.unwish{X:Cx}{E:Value->Shared->Prop}(ok:(X.wish E).Ok):X.Ok:=
 ⟨ok.mod,ok.kind,ok.glob,ok.blt,ok.above,ok.inj,ok.has,ok.cab,ok.hd,ok.frames,ok.stk,ok.exf,ok.bs,ok.bsz,ok.noex,ok.exfs,ok.funs,ok.frf⟩
section
variable{X:Cx}{pins:List (Addr×Obj)}{σ:St}{H:Hp}{s:Shared}{E:Value->Shared->Prop}
theorem Inv.wish(I:Inv X pins σ H s)(E:Value->Shared->Prop):Inv (X.wish E) pins σ H s:=⟨I.ok.wish E,I.os,I.bare,I.base,I.loc,I.cell,I.free,I.freeC,I.pin,I.hok,I.len⟩
theorem Inv.unwish(I:Inv (X.wish E) pins σ H s):Inv X pins σ H s:=⟨I.ok.unwish,I.os,I.bare,I.base,I.loc,I.cell,I.free,I.freeC,I.pin,I.hok,I.len⟩
theorem SP.unwish{D:Ends}{f:Flow}{s':Shared}(h:SP (X.wish E) pins D f s'):SP X pins D f s':=by
 cases f with
 |next=>obtain⟨σ',H',I,q⟩:=h;exact⟨σ',H',I.unwish,q⟩
 |brk=>obtain⟨σ',H',I,q⟩:=h;exact⟨σ',H',I.unwish,q⟩
 |cont=>obtain⟨σ',H',I,q⟩:=h;exact⟨σ',H',I.unwish,q⟩
 |ret u=>obtain⟨v,σ',H',I,r,q⟩:=h;exact⟨v,σ',H',I.unwish,r,q⟩
theorem PSs.nox{st:List Stmt}{t:TS}(h:PSs X.nox st t):PSs X st t:=λpins s σ H D I hw=>
 vc0 (h pins s σ H D (I.wish _) hw) (λ_ _ q=>q.unwish) λ_ _ z=>False.elim z
end
section
variable{X:Cx}{st:Stmt}{rest:List Stmt}{t u:TS}{e:Expr}{te:TE}{pos:Pos}
noncomputable def tNext:TS:=λD σ H=>D.nx σ H
noncomputable def tSeq(t u:TS):TS:=λD σ H=>t {D with nx:=u D} σ H
theorem zrv:PSs X [] tNext:=λ_ _ σ H _ I h=>wpAny_execs_nil ⟨σ,H,I,h⟩
theorem zou(h1:PS X st t)(h2:PSs X rest u):PSs X (st::rest) (tSeq t u):=by
 intro pins s σ H D I h
 refine wpAny_execs_cons (thn (h1 pins s σ H {D with nx:=u D} I h) λf s1 q=>?_)
 cases f with
 |next=>
  obtain⟨σ',H',I',q⟩:=q
  exact h2 pins s1 σ' H' D I' q
 |ret v=>exact q
 |brk=>exact q
 |cont=>exact q
noncomputable def zus:TS:=λD σ H=>D.bk σ H
noncomputable def tCont:TS:=λD σ H=>D.ct σ H
theorem zrw:PS X (.Pass pos) tNext:=λ_ _ σ H _ I h=>wpAny_Pass ⟨σ,H,I,h⟩
theorem zov:PS X (.Break pos) zus:=λ_ _ σ H _ I h=>wpAny_Break ⟨σ,H,I,h⟩
theorem ziv:PS X (.Continue pos) tCont:=λ_ _ σ H _ I h=>wpAny_Continue ⟨σ,H,I,h⟩
theorem Inv.quiet{pins:List (Addr×Obj)}{σ:St}{H:Hp}{s:Shared}(I:Inv X pins σ H s):interactive X.env=false:=by simp[interactive,I.ok.kind]
noncomputable def tDrop(te:TE):TS:=λD σ H=>te σ H λ_ H1=>D.nx σ H1
theorem zrx(he:PE X e te)(hs:swapsWith e none pos.line X.env=pure false:=by rfl):PS X (.Expr e pos) (tDrop te):=by
 intro pins s σ H D I h
 exact wpAny_Expr_any (thn (he pins s σ H _ I h) λv s1 z9=>z9.el λx H1 I1 r1 q1=>⟨σ,H1,I1,q1⟩) I.quiet hs
noncomputable def tRet(te:TE):TS:=λD σ H=>te σ H D.rt
theorem zut(he:PE X e te):PS X (.Return (some e) pos) (tRet te):=by
 intro pins s σ H D I h
 exact wpAny_Return_some (thn (he pins s σ H _ I h) λv s1 z9=>z9.el λx H1 I1 r1 q1=>⟨x,σ,H1,I1,r1,q1⟩)
noncomputable def tRetN:TS:=λD _ H=>D.rt .non H
theorem zry:PS X (.Return none pos) tRetN:=λ_ _ σ H _ I h=>wpAny_Return_none ⟨.non,σ,H,I,rfl,h⟩
noncomputable def tIfS(c:TT)(t u:TS):TS:=λD σ H=>c σ H λb H1=>if b=true then t D σ H1 else u D σ H1
theorem ps_if{c:Expr}{a b:List Stmt}{tc:TT}(hc:PT X c tc)(ha:PSs X a t)(hb:PSs X b u):PS X (.If c a b pos) (tIfS tc t u):=by
 intro pins s σ H D I h
 refine wpAny_If (thn (hc pins s σ H _ I h) λd s1 z9=>z9.el λH1 I1 q1=>?_)
 cases d with
 |true=>exact ha pins s1 σ H1 D I1 q1
 |false=>exact hb pins s1 σ H1 D I1 q1
noncomputable def zuu:TS:=λ_ _ _=>False
theorem zow:PS X st zuu:=λ_ _ _ _ _ _ h=>h.elim
end
noncomputable abbrev TG:=V->St->Hp->(St->Hp->Prop)->Prop
noncomputable abbrev TGs:=List V->St->Hp->(St->Hp->Prop)->Prop
noncomputable def PG(X:Cx)(target:Expr)(t:TG):Prop:=
 ∀(pins:List (Addr×Obj))(s:Shared)(σ:St)(H:Hp)(v:V)(u:Value)(Q:St->Hp->Prop),Inv X pins σ H s->RelV v u->t v σ H Q->
  wpAny (model X.prog X.w) X.A (assign target X.env u) (λ_ s'=>∃σ' H',Inv X pins σ' H' s'/\Q σ' H') X.xe s
noncomputable def PGs(X:Cx)(ts:List Expr)(t:TGs):Prop:=
 ∀(pins:List (Addr×Obj))(s:Shared)(σ:St)(H:Hp)(vs:List V)(us:List Value)(Q:St->Hp->Prop),Inv X pins σ H s->Vals vs us->t vs σ H Q->
  wpAny (model X.prog X.w) X.A (assignInOrder ((assignEach ts X.env).map (·.2)) us) (λ_ s'=>∃σ' H',Inv X pins σ' H' s'/\Q σ' H') X.xe s
noncomputable abbrev TSet:=V->V->V->Hp->(Hp->Prop)->Prop
noncomputable def PSet(X:Cx)(t:TSet):Prop:=
 ∀(pins:List (Addr×Obj))(s:Shared)(σ:St)(H:Hp)(o i v:V)(ov iv u:Value)(Q:Hp->Prop),Inv X pins σ H s->RelV o ov->RelV i iv->RelV v u->t o i v H Q->
  wpAny (model X.prog X.w) X.A (setItem ov iv u) (λ_ s'=>∃H',Inv X pins σ H' s'/\Q H') X.xe s
noncomputable abbrev TIp:=V->V->Hp->VK->Prop
noncomputable def PIp(X:Cx)(op:Operator)(t:TIp):Prop:=
 ∀(pins:List (Addr×Obj))(s:Shared)(σ:St)(H:Hp)(x y:V)(v u:Value)(Q:VK),Inv X pins σ H s->RelV x v->RelV y u->t x y H Q->
  wpAny (model X.prog X.w) X.A (inplaceOp op v u) (EP X pins σ Q) X.xe s
section
variable{X:Cx}{pos:Pos}
noncomputable def gName(i:Nat):TG:=λv σ H Q=>Q (σ.set i (some v)) H
theorem zly{i:Nat}{x:Str}(hN:X.N.Nodup)(hi:X.N[i]?=some x)(hx:Loc X.env.scope x)(hf:X.fn x=true\/X.env.scope.names.lookup x=some .local:=by first|exact .inl rfl|exact .inr rfl|assumption):PG X (.Name x pos) (gName i):=by
 intro pins s σ H v u Q I r h
 exact wpAny_assign_Name (zf8 I hN hi hx r (λs' I'=>⟨_,H,I',h⟩) hf)
noncomputable def gNil:TGs:=λvs σ H Q=>vs=[]/\Q σ H
noncomputable def gCons(t:TG)(u:TGs):TGs:=λvs σ H Q=>∃v r,vs=v::r/\t v σ H λσ' H'=>u r σ' H' Q
theorem zrz:PGs X [] gNil:=by
 intro pins s σ H vs us Q I r h
 obtain⟨e,h⟩:=h
 subst e
 cases r
 exact assignInOrder_nil ⟨σ,H,I,h⟩
theorem zox{e:Expr}{es:List Expr}{t:TG}{u:TGs}(h1:PG X e t)(h2:PGs X es u)
 (hs:(assignEach (e::es) X.env).map (·.2)=assign e X.env:: (assignEach es X.env).map (·.2):=by rfl):PGs X (e::es) (gCons t u):=by
 intro pins s σ H vs us Q I r h
 obtain⟨v,vr,e1,h⟩:=h
 subst e1
 cases r with
 |cons r rr=>
  rw[hs]
  refine assignInOrder_cons (thn (h1 pins s σ H _ _ _ I r h) λ_ s1 hq0=>?_)
  obtain⟨σ1,H1,I1,q1⟩:=hq0
  exact h2 pins s1 σ1 H1 _ _ Q I1 rr q1
noncomputable def gTup(K:vga)(n:Nat)(t:TGs):TG:=λv σ H Q=>∃a xs,v=.ref a/\SqT K H a xs/\xs.length=n/\t xs σ H Q
theorem zuv{es:List Expr}{k:Nat}{t:TGs}{n:Nat}(hc:X.calm=true)(h:PGs X es t)
 (hn:(assignEach es X.env).length=n:=by rfl) (hst:(assignEach es X.env).findIdx? (·.1)=none:=by rfl):PG X (.Tuple es k pos) (gTup X.K n t):=by
 intro pins s σ H v u Q I r hw
 obtain⟨a,xs,e1,hq,hl,hw⟩:=hw
 subst e1
 cases r
 obtain⟨its,rv,ht,hz⟩:=I.tuple hq
 refine assign_Tuple_tuple (I.ok.hd hc) ht (by simp[hn,<-hl,rv.length]) hst λh' hx=>?_
 have I1:Inv X pins σ H {s with heap:=h'}:=I.kept (t':=s.toks) λb o e=>hx b o (va4 (vaq e)) e
 exact h pins _ σ H xs _ Q I1 (by simpa using rv) hw
noncomputable def gSub(to ti:TE)(t:TSet):TG:=λv σ H Q=>to σ H λo H1=>ti σ H1 λi H2=>t o i v H2 λH3=>Q σ H3
theorem zuw{o i:Expr}{to ti:TE}{t:TSet}(ho:PE X o to)(hi:PE X i ti)(hs:PSet X t)
 (ha:∀v,assign (.Subscript o i pos) X.env v=(do
   let ov <-holding [v] (eval o X.env)
   let iv <-holding [v,ov] (eval i X.env)
   standAt pos
   holding [v,ov,iv] (setItem ov iv v)
   release [v,ov,iv] []):=by intro _;rfl):PG X (.Subscript o i pos) (gSub to ti t):=by
 intro pins s σ H v u Q I r h
 rw[ha]
 refine vaa (vcx (thn (ho pins s σ H _ I h) λov s1 z9=>z9.el λx H1 I1 r1 q1=>?_))
 refine vaa (vcx (thn (hi pins s1 σ H1 _ I1 q1) λiv s2 z9=>z9.el λy H2 I2 r2 q2=>?_))
 refine vaa (veb (vaa (vcx (thn (hs pins s2 σ H2 x y v ov iv u _ I2 r1 r2 r q2) λ_ s3 hq0=>?_))))
 obtain⟨H3,I3,q3⟩:=hq0
 exact wpAny_release ⟨σ,H3,I3,q3⟩
noncomputable def tAsg(te:TE)(g:TG):TS:=λD σ H=>te σ H λx H1=>g x σ H1 D.nx
theorem zqu{tg e:Expr}{te:TE}{g:TG}(he:PE X e te)(hg:PG X tg g)(hs:swapsWithSole [tg] e pos.line X.env=pure false:=by rfl)(hw:swappedStores [tg] e X.env=pure none:=by rfl)
 (h1:(assignEach [tg] X.env).map (·.2)=[assign tg X.env]:=by rfl):PS X (.Assign [tg] e pos) (tAsg te g):=by
 intro pins s σ H D I h
 refine wpAny_Assign_stores (thn (he pins s σ H _ I h) λv s1 z9=>z9.el λx H1 I1 r1 q1=>?_) hs hw
 rw[h1]
 exact thn (hg pins s1 σ H1 x v _ I1 r1 q1) λ_ s2 q=>q
theorem zux{i:Nat}{x:Str}{e:Expr}{te:TE}{pos':Pos}(hN:X.N.Nodup)(hi:X.N[i]?=some x)(hx:Loc X.env.scope x)(he:PE X e te)(hs:swapsWith e (some (.Name x pos')) pos.line X.env=pure false:=by rfl)(hf:X.fn x=true\/X.env.scope.names.lookup x=some .local:=by first|exact .inl rfl|exact .inr rfl|assumption) :
 PS X (.Assign [.Name x pos'] e pos) (tAsg te (gName i)):=by
 intro pins s σ H D I h
 refine wpAny_Assign_Name (thn (he pins s σ H _ I h) λv s1 z9=>z9.el λy H1 I1 r1 q1=>?_) hs
 exact zf8 I1 hN hi hx r1 (λs2 I2=>⟨_,H1,I2,q1⟩) hf
noncomputable def tAug(i:Nat)(te:TE)(ti:TIp):TS:=λD σ H=>∃x,σ[i]?=some (some x)/\te σ H λy H1=>ti x y H1 λz H2=>D.nx (σ.set i (some z)) H2
theorem zuy{i:Nat}{x:Str}{e:Expr}{te:TE}{op:Operator}{ti:TIp}{pos':Pos}(hN:X.N.Nodup)(hi:X.N[i]?=some x)(hx:Loc X.env.scope x)(he:PE X e te)(ho:PIp X op ti)(hf:X.fn x=true\/X.env.scope.names.lookup x=some .local:=by first|exact .inl rfl|exact .inr rfl|assumption) :
 PS X (.AugAssign (.Name x pos') op e pos) (tAug i te ti):=by
 intro pins s σ H D I h
 obtain⟨v,e1,h⟩:=h
 obtain⟨m,hn,hl⟩:=I.loc
 have vis:Vis X.env.scope x:=by rcases hx with k|k;exact .inl k;exact .inr (.inl k)
 obtain⟨u,r,l⟩:=hl i x v hi e1 vis
 refine wpAny_AugAssign_Name ?_
 have go:wpAny (model X.prog X.w) X.A (eval e X.env) (λw s₂=>wpAny (model X.prog X.w) X.A (inplaceOp op u w) (λr s₃=>wpAny (model X.prog X.w) X.A (storeName X.env x r) (λ_=>SP X pins D .next) X.xe s₃) X.xe s₂) X.xe s:=by
  refine thn (he pins s σ H _ I h) λw s1 z9=>z9.el λy H1 I1 r1 q1=>?_
  refine thn (ho pins s1 σ H1 v y u w _ I1 r r1 q1) λz s2 z9=>z9.el λzv H2 I2 r2 q2=>?_
  exact zf8 I2 hN hi hx r2 (λs3 I3=>⟨_,H2,I3,q2⟩) hf
 rcases l with⟨hk,hm⟩|⟨hk,c,hc,hcell⟩
 .exact wpAny_loadName_local I.ok.kind hk hn hm go
 .rcases hk with hk|hk
  .exact wpAny_loadName_cell I.ok.kind hk hc hcell go
  .rcases hx with k|k
   .have:X.env.scope.names.lookup x=some .free:=hk
    rw[k]at this;cases this
   .have:X.env.scope.names.lookup x=some .free:=hk
    rw[k]at this;cases this
noncomputable def ipI(f:Int->Int->Int):TIp:=λx y H Q=>∃i j,x=.int i/\y=.int j/\Q (.int (f i j)) H
theorem zuz:PIp X .Add (ipI λi j=>i+j):=by
 intro pins s σ H x y v u Q I r1 r2 h
 obtain⟨i,j,e1,e2,q⟩:=h
 subst e1;subst e2
 obtain⟨t,rfl⟩:=r1
 obtain⟨t',rfl⟩:=r2
 exact iadd_int ⟨.int _,H,I.tok _,⟨_,rfl⟩,q⟩
end
section
variable{X:Cx}{pos:Pos}
noncomputable def zu0(c:TT)(tb:TS):TS:=λD σ H=>∃W:Nat->St->Hp->Prop,(∃m,W m σ H)/\∀m σ H,W m σ H->
 c σ H λb H1=>if b=true then ∃N:St->Hp->Prop,(∀σ' H',N σ' H'->∃m',m'<m/\W m' σ' H')/\tb {D with nx:=N,ct:=N,bk:=D.nx} σ H1 else D.nx σ H1
theorem zoy{c:Expr}{body:List Stmt}{tc:TT}{tb:TS}(hp:PassesOwn (model X.prog X.w) X.A X.env X.xe)(hc:PT X c tc)(hb:PSs X body tb):PS X (.While c body [] pos) (zu0 tc tb):=by
 intro pins s σ H D I h
 obtain⟨W,⟨m0,w0⟩,turn⟩:=h
 refine wpAny_While (codeAny_whileLoop (λn s'=>∃σ' H',Inv X pins σ' H' s'/\W n σ' H') ?_ m0 ⟨σ,H,I,w0⟩)
 rintro n s1 ⟨σ1,H1,I1,w1⟩
 refine vcw hp (thn (hc pins s1 σ1 H1 _ I1 (turn n σ1 H1 w1)) λb s2 z9=>z9.el λH2 I2 q2=>?_)
 cases b with
 |true=>
  obtain⟨N,hN,q2⟩:=q2
  rw[if_pos rfl]
  refine vcw hp (thn (hb pins s2 σ1 H2 _ I2 q2) λf s3 q3=>?_)
  cases f with
  |next=>
   obtain⟨σ3,H3,I3,n3⟩:=q3
   obtain⟨m',hm,w3⟩:=hN σ3 H3 n3
   exact⟨m',hm,σ3,H3,I3,w3⟩
  |cont=>
   obtain⟨σ3,H3,I3,n3⟩:=q3
   obtain⟨m',hm,w3⟩:=hN σ3 H3 n3
   exact⟨m',hm,σ3,H3,I3,w3⟩
  |brk=>exact q3
  |ret v=>exact q3
 |false=>
  rw[if_neg vcb]
  exact wpAny_execs_nil ⟨σ1,H2,I2,q2⟩
end
set_option genInjectivity false in
structure It where
 go:Nat->Hp->Prop
 yld:Nat->Hp->V->Hp->Prop
 stop:Nat->Hp->Prop
noncomputable def FpOk(X:Cx)(pins:List (Addr×Obj))(H:Hp)(b:Addr):Prop:=
 H b=none/\b≠X.env.locals/\b∉X.fs/\(b∈X.ex\/X.s₀.heap.objs.size<=b)/\(∀x c,X.env.cells.lookup x=some c->c≠b)/\∀p∈X.pn++pins,p.1≠b
theorem Inv.fpOk{X:Cx}{pins:List (Addr×Obj)}{σ:St}{H H':Hp}{s:Shared}{b:Addr}(I:Inv X pins σ H s)(hb:s.heap.objs.size<=b)(hn:H' b=none):FpOk X pins H' b:=by
 refine⟨hn,vck (vak I.lt hb),I.nofs hb,.inr (vbx I.sz hb),λx c e z=>?_,λp hp z=>?_⟩
 .obtain⟨v,q⟩:=I.cell x c e
  exact absurd (vak q.lt (by rw[z];exact hb)) (vca _)
 .exact absurd (vak (vaq (I.pin p hp).1) (by rw[z];exact hb)) (vca _)
structure Turn(P:Program)(w:World)(K:vga)(tg:Expr)(J:It)(fp:List Addr)(it:Addr)(tn:Nat->Heap->Prop):Prop where
 mem:it∈fp
 obj:∀i h,tn i h->∀b∈fp,∃o,h.get? b=some o/\∀v,o.data≠.cell v
 keep:∀i h h',tn i h->(∀b∈fp,∀o,h.get? b=some o->h'.get? b=some o)->tn i h'
 item:∀(X:Cx),X.prog=P->X.w=w->X.K=K->X.calm=true->∀(i:Nat)(pins:List (Addr×Obj))(s:Shared)(σ:St)(H:Hp)(E:Value->Shared->Prop),Inv X pins σ H s->(∀b∈fp,FpOk X pins H b)->tn i s.heap->J.go i H->
  wpAny (model P w) X.A (pyNext (.ref it)) (λr s1=>∃u,r=some u/\
   wpAny (model P w) X.A (letOwnedTupleGo tg (.ref it) u) (λ_ s2=>∃x H',Inv X pins σ H' s2/\RelV x u/\J.yld i H x H'/\tn (i+1) s2.heap/\∀b∈fp,H' b=none) E s1) E s
 done:∀(X:Cx),X.prog=P->X.w=w->X.K=K->X.calm=true->∀(i:Nat)(pins:List (Addr×Obj))(s:Shared)(σ:St)(H:Hp)(E:Value->Shared->Prop),Inv X pins σ H s->(∀b∈fp,FpOk X pins H b)->tn i s.heap->J.stop i H->
  wpAny (model P w) X.A (pyNext (.ref it)) (λr s1=>r=none/\Inv X pins σ H s1) E s
 self:∀(A:Around)(i:Nat)(s:Shared)(Q:Value->Shared->Prop)(E:Value->Shared->Prop),tn i s.heap->Q (.ref it) s->wpAny (model P w) A (pyIter (.ref it)) Q E s
noncomputable abbrev TI:=St->Hp->(It->Hp->Prop)->Prop
noncomputable def PIE(X:Cx)(pins:List (Addr×Obj))(σ:St)(tg:Expr)(R:It->Hp->Prop)(itv:Value)(s2:Shared):Prop:=
 ∃(it:Addr) (fp:List Addr) (tn:Nat->Heap->Prop) (J:It) (H':Hp),itv=.ref it/\Inv X pins σ H' s2/\Turn X.prog X.w X.K tg J fp it tn/\tn 0 s2.heap/\(∀b∈fp,FpOk X pins H' b)/\R J H'
noncomputable def PI(X:Cx)(tg iter:Expr)(wi:TI):Prop:=
 ∀(pins:List (Addr×Obj))(s:Shared)(σ:St)(H:Hp)(R:It->Hp->Prop),Inv X pins σ H s->wi σ H R->
  wpAny (model X.prog X.w) X.A (eval iter X.env) (λv s1=>wpAny (model X.prog X.w) X.A (pyIter v) (PIE X pins σ tg R) X.xe s1) X.xe s
theorem go_of{M:Model}{A:Around}{E:Value->Shared->Prop}{s:Shared}{tg:Expr}{it:Addr}{u:Value}{o:Obj}{n:String}{vs:Array Value}{Q:Unit->Shared->Prop}(ho:s.heap.get? it=some o)(hc:o.cls=.type n)(hd:o.data=.fields vs)
 (hn:["enumerate","zip","dict_itemiterator","dict_reverseitemiterator","odict_iterator","itertools.zip_longest","itertools.pairwise"].contains n=false) (hQ:Q () s):wpAny M A (letOwnedTupleGo tg (.ref it) u) Q E s:=by
 unfold letOwnedTupleGo
 cases tg<;>first
  |exact vah hQ
  |(cases u<;>first
     |exact vah hQ
     |(refine vaa (wpAny_load ho ?_)
       rw[hc,hd]
       show wpAny M A (if(["enumerate","zip","dict_itemiterator","dict_reverseitemiterator","odict_iterator","itertools.zip_longest","itertools.pairwise"].contains n&&vs[0]? == some (rawInt _))=true then _ else _) Q E s
       rw[if_neg (by intro h;rw[hn,vcp]at h;cases h)]
       exact vah hQ))
noncomputable def Itl(K:vga)(a:Addr):It:=
 ⟨λi H=>∃xs x,SqL K H a xs/\xs[i]?=some x,λi H x H'=>H'=H/\∀xs,SqL K H a xs->xs[i]?=some x,λi H=>∃xs,SqL K H a xs/\xs.length<=i⟩
noncomputable def Itt(K:vga)(a:Addr):It:=
 ⟨λi H=>∃xs x,SqT K H a xs/\xs[i]?=some x,λi H x H'=>H'=H/\∀xs,SqT K H a xs->xs[i]?=some x,λi H=>∃xs,SqT K H a xs/\xs.length<=i⟩
noncomputable def Itr(lo:Int)(n:Nat):It:=⟨λi _=>i<n,λi H x H'=>H'=H/\x=.int (lo+i),λi _=>n<=i⟩
theorem zlz{P:Program}{w:World}{K:vga}{tg:Expr}(a it:Addr):Turn P w K tg (Itl K a) [it] it (λi h=>h.IsListIter it a i)where
 mem:=by simp
 obj:=λi h st b hb=>by
  have e:b=it:=by simpa using hb
  subst e
  obtain⟨o,e,c,d⟩:=st
  exact⟨o,e,λv z=>by rw[d]at z;cases z⟩
 keep:=λi h h' st k=>st.at λo e=>k it (by simp) o e
 item:=by
  intro X hP hw hK hc i pins s σ H E I hf st hg
  subst hP hw hK
  obtain⟨xs,x,hq,hx⟩:=hg
  obtain⟨its,rv,p,hz⟩:=I.list hq
  obtain⟨u,hu,ru⟩:=rv.get hx
  obtain⟨f0,f1,f2,f3,f4,f5⟩:=hf it (by simp)
  refine wpAny_pyNext_list_item st p.isList (x:=u) (by simpa using hu) λh' st' sb=>?_
  have I1:Inv X pins σ H {s with heap:=h'}:=I.turned (t':=s.toks) (λb o hb e=>(sb.2 b hb).trans e) f0 f1 f3 f4 f5
  obtain⟨o,e,c,d⟩:=id st'
  exact⟨u,rfl,go_of (s:={s with heap:=h'}) e c d (by decide) ⟨x,H,I1,ru,⟨rfl,λys hy=>by rw[I.list_inj hy hq];exact hx⟩,st',λb hb=>(hf b hb).1⟩⟩
 done:=by
  intro X hP hw hK hc i pins s σ H E I hf st hg
  subst hP hw hK
  obtain⟨xs,hq,hx⟩:=hg
  obtain⟨its,rv,p,hz⟩:=I.list hq
  obtain⟨f0,f1,f2,f3,f4,f5⟩:=hf it (by simp)
  have hl:=rv.length
  exact wpAny_pyNext_list_end (I.ok.hd hc) st p.isList (by simp;omega) λh' eb=>⟨rfl,I.turned (t':=s.toks) (λb o hb e=>eb b o hb e) f0 f1 f3 f4 f5⟩
 self:=λ_ _ _ _ _ st h=>wpAny_pyIter_listiter st h
theorem zkx{P:Program}{w:World}{K:vga}{tg:Expr}(a it:Addr):Turn P w K tg (Itt K a) [it] it (λi h=>h.IsTupleIter it a i)where
 mem:=by simp
 obj:=λi h st b hb=>by
  have e:b=it:=by simpa using hb
  subst e
  obtain⟨o,e,c,d⟩:=st
  exact⟨o,e,λv z=>by rw[d]at z;cases z⟩
 keep:=λi h h' st k=>st.at λo e=>k it (by simp) o e
 item:=by
  intro X hP hw hK hc i pins s σ H E I hf st hg
  subst hP hw hK
  obtain⟨xs,x,hq,hx⟩:=hg
  obtain⟨its,rv,p,hz⟩:=I.tuple hq
  obtain⟨u,hu,ru⟩:=rv.get hx
  obtain⟨f0,f1,f2,f3,f4,f5⟩:=hf it (by simp)
  refine wpAny_pyNext_tuple_item st (show s.heap.IsTuple a its.toArray from p) (x:=u) (by simpa using hu) λh' st' sb=>?_
  have I1:Inv X pins σ H {s with heap:=h'}:=I.turned (t':=s.toks) (λb o hb e=>(sb.2 b hb).trans e) f0 f1 f3 f4 f5
  obtain⟨o,e,c,d⟩:=id st'
  exact⟨u,rfl,go_of (s:={s with heap:=h'}) e c d (by decide) ⟨x,H,I1,ru,⟨rfl,λys hy=>by rw[I.tuple_inj hy hq];exact hx⟩,st',λb hb=>(hf b hb).1⟩⟩
 done:=by
  intro X hP hw hK hc i pins s σ H E I hf st hg
  subst hP hw hK
  obtain⟨xs,hq,hx⟩:=hg
  obtain⟨its,rv,p,hz⟩:=I.tuple hq
  obtain⟨f0,f1,f2,f3,f4,f5⟩:=hf it (by simp)
  have hl:=rv.length
  exact wpAny_pyNext_tuple_end (I.ok.hd hc) st (show s.heap.IsTuple a its.toArray from p) (by simp;omega) λh' eb=>⟨rfl,I.turned (t':=s.toks) (λb o hb e=>eb b o hb e) f0 f1 f3 f4 f5⟩
 self:=λ_ _ _ _ _ st h=>wpAny_pyIter_tupleiter st h
theorem zky{P:Program}{w:World}{K:vga}{tg:Expr}(it:Addr)(lo:Int)(n:Nat):Turn P w K tg (Itr lo n) [it] it (λi h=>IsRangeIter h it (lo+ (i:Nat)*1) ((n:Int)- (i:Nat)) 1)where
 mem:=by simp
 obj:=λi h st b hb=>by
  have e:b=it:=by simpa using hb
  subst e
  exact⟨_,st,λv z=>by
   have z':Data.fields _=Data.cell v:=z
   cases z'⟩
 keep:=λi h h' st k=>k it (by simp) _ st
 item:=by
  intro X hP hw hK hc i pins s σ H E I hf st hg
  subst hP hw hK
  obtain⟨f0,f1,f2,f3,f4,f5⟩:=hf it (by simp)
  have W:=Walks.range (prog:=X.prog) (w:=X.w) (I.ok.hd hc) it lo 1 n
  refine W.item i s _ _ hg st λv h' tk hv st' kk=>?_
  obtain⟨t,rfl⟩:=hv
  have I1:Inv X pins σ H {s with heap:=h',toks:=tk}:=I.turned (λb o hb e=>kk b o (by simpa using hb) e) f0 f1 f3 f4 f5
  refine⟨_,rfl,go_of (s:={s with heap:=h',toks:=tk}) (n:="range_iterator") st' rfl rfl (by decide) ⟨.int (lo+i),H,I1,⟨t,?_⟩,⟨rfl,rfl⟩,st',λb hb=>(hf b hb).1⟩⟩
  rw[Int.mul_one]
 done:=by
  intro X hP hw hK hc i pins s σ H E I hf st hg
  subst hP hw hK
  obtain⟨f0,f1,f2,f3,f4,f5⟩:=hf it (by simp)
  exact wpAny_pyNext_range_end (I.ok.hd hc) st (by have:n<=i:=hg;omega) λh' eb=>⟨rfl,I.turned (t':=s.toks) (λb o hb e=>eb b o hb e) f0 f1 f3 f4 f5⟩
 self:=λ_ _ _ _ _ st h=>wpAny_pyIter_rangeiter st h
section
variable{X:Cx}{tg:Expr}
noncomputable def iList(K:vga)(tl:TE):TI:=λσ H R=>tl σ H λx H1=>∃a,x=.ref a/\(∃xs,SqL K H1 a xs)/\R (Itl K a) H1
noncomputable def iTup(K:vga)(tl:TE):TI:=λσ H R=>tl σ H λx H1=>∃a,x=.ref a/\(∃xs,SqT K H1 a xs)/\R (Itt K a) H1
theorem zl0{l:Expr}{tl:TE}(hl:PE X l tl):PI X tg l (iList X.K tl):=by
 intro pins s σ H R I h
 refine thn (hl pins s σ H _ I h) λv s1 z9=>z9.el λx H1 I1 r1 q1=>?_
 obtain⟨a,e,⟨xs,hq⟩,q⟩:=q1
 subst e
 cases r1
 obtain⟨its,rv,p,hz⟩:=I1.list hq
 refine vc9 p.isList ?_
 refine⟨s1.heap.objs.size,[s1.heap.objs.size],_,_,H1,rfl,I1.kept (t':=s1.toks) λb o e=>vae _ e,zlz a _,⟨_,vas _ rfl,rfl,rfl⟩,λb hb=>?_,q⟩
 have e:b=s1.heap.objs.size:=by simpa using hb
 subst e
 exact I1.fpOk (vai _) (I1.hok.fresh (vai _))
theorem zu1{l:Expr}{tl:TE}(hl:PE X l tl):PI X tg l (iTup X.K tl):=by
 intro pins s σ H R I h
 refine thn (hl pins s σ H _ I h) λv s1 z9=>z9.el λx H1 I1 r1 q1=>?_
 obtain⟨a,e,⟨xs,hq⟩,q⟩:=q1
 subst e
 cases r1
 obtain⟨its,rv,p,hz⟩:=I1.tuple hq
 refine vcm (show s1.heap.IsTuple a its.toArray from p) ?_
 refine⟨s1.heap.objs.size,[s1.heap.objs.size],_,_,H1,rfl,I1.kept (t':=s1.toks) λb o e=>vae _ e,zkx a _,⟨_,vas _ rfl,rfl,rfl⟩,λb hb=>?_,q⟩
 have e:b=s1.heap.objs.size:=by simpa using hb
 subst e
 exact I1.fpOk (vai _) (I1.hok.fresh (vai _))
theorem zoz{pins:List (Addr×Obj)}{σ:St}{H:Hp}{s:Shared}{R:It->Hp->Prop}{E:Value->Shared->Prop}{lo hi:Int}{t u v:Tok}{tk:Nat}(I:Inv X pins σ H s)(h1:-(2 ^ 62)<=lo)(h2:lo<2 ^ 62)(h3:-(2 ^ 62)<=hi)(h4:hi<2 ^ 62)
 (q:R (Itr lo (hi-lo).toNat) H):wpAny (model X.prog X.w) X.A (pyIter (.ref s.heap.objs.size)) (PIE X pins σ tg R) E {s with heap:=s.heap.push {cls:=.type "range",data:=.fields #[.int lo t,.int hi u,.int 1 v]},toks:=tk}:=by
 refine wpAny_pyIter_range (IsRange.new ..) (small_one h1 h2 h3 h4) ?_
 have I1:Inv X pins σ H {s with heap:=s.heap.push {cls:=.type "range",data:=.fields #[.int lo t,.int hi u,.int 1 v]},toks:=tk}:=I.kept λb o e=>vae _ e
 refine⟨(s.heap.push {cls:=.type "range",data:=.fields #[.int lo t,.int hi u,.int 1 v]}).objs.size,[(s.heap.push {cls:=.type "range",data:=.fields #[.int lo t,.int hi u,.int 1 v]}).objs.size],_,_,H,rfl,
  I1.kept (t':=tk) λb o e=>vae _ e,zky _ lo (hi-lo).toNat,?_,λb hb=>?_,q⟩
 .have e1:lo+ ((0:Nat):Int)*1=lo:=by simp
  have e2:(((hi-lo).toNat:Nat):Int)- ((0:Nat):Int)=Builtin.Range.rangeSize lo hi 1:=by rw[rangeSize_one];split<;>omega
  show IsRangeIter _ _ (lo+ ((0:Nat):Int)*1) ((((hi-lo).toNat:Nat):Int)- ((0:Nat):Int)) 1
  rw[e1,e2]
  exact vas _ rfl
 .have e:b=(s.heap.push {cls:=.type "range",data:=.fields #[.int lo t,.int hi u,.int 1 v]}).objs.size:=by simpa using hb
  subst e
  exact I1.fpOk (vai _) (I1.hok.fresh (vai _))
noncomputable def iRng1(ta:TA):TI:=λσ H R=>ta σ H λvs H1=>∃j:Int,vs=[.int j]/\-(2 ^ 62)<=j/\j<2 ^ 62/\R (Itr 0 j.toNat) H1
theorem zl1{a:Expr}{ta:TA}{p pos:Pos}(hg:Gl X "range")(hm:X.mg "range" = none)(ha:PA X [a] ta)(hs:starEach [a] X.env=[(false,eval a X.env)]:=by rfl):PI X tg (.Call (.Name "range" p) [a] [] pos) (iRng1 ta):=by
 intro pins s σ H R I h
 refine Call_ (zfe I hg hm boot_range (vcr (thn (ha pos pins s σ H _ I h) λus s1 z9=>z9.el λvs H1 I1 r1 q1=>?_) hs rfl))
 obtain⟨j,e,q1,q2,q⟩:=q1
 subst e
 cases r1 with
 |cons r rr=>
  cases rr
  obtain⟨t,rfl⟩:=r
  exact call_range_1 (zoz I1 (by omega) (by omega) q1 q2 (by simpa using q))
noncomputable def tFor(wi:TI)(g:TG)(tb:TS):TS:=λD σ H=>wi σ H λJ H1=>∃W:Nat->Nat->St->Hp->Prop,(∃m,W 0 m σ H1)/\∀i m σ H,W i m σ H->
 (J.stop i H/\D.nx σ H)\/(J.go i H/\∃N:St->Hp->Prop,(∀σ' H',N σ' H'->∃m',m'<m/\W (i+1) m' σ' H')/\∀x H',J.yld i H x H'->g x σ H' λσ2 H2=>tb {D with nx:=N,ct:=N,bk:=D.nx} σ2 H2)
noncomputable def zhg(fp:List Addr)(h:Heap):List (Addr×Obj):=fp.filterMap λb=>(h.get? b).map λo=>(b,o)
theorem zcl{fp:List Addr}{h:Heap}{b:Addr}{o:Obj}(hb:b∈fp)(e:h.get? b=some o):(b,o)∈zhg fp h:=List.mem_filterMap.mpr ⟨b,hb,by rw[e];rfl⟩
theorem zl2{fp:List Addr}{h:Heap}{p:Addr×Obj}(hp:p∈zhg fp h):p.1∈fp/\h.get? p.1=some p.2:=by
 obtain⟨b,hb,e⟩:=List.mem_filterMap.mp hp
 cases q:h.get? b with
 |none=>rw[q]at e;cases e
 |some o=>
  rw[q]at e
  have e':(b,o)=p:=vbj e
  subst e'
  exact⟨hb,q⟩
theorem Inv.pinned{pins:List (Addr×Obj)}{σ:St}{H:Hp}{s:Shared}{fp:List Addr}(I:Inv X pins σ H s)(hf:∀b∈fp,FpOk X pins H b)(ho:∀b∈fp,∃o,s.heap.get? b=some o/\∀v,o.data≠.cell v):Inv X (pins++zhg fp s.heap) σ H s:=
 I.pins_of λp hp=>(vby.mp hp).elim (λz=>I.pin p (vbf _ z)) λz=>by
  obtain⟨hb,e⟩:=zl2 z
  obtain⟨f0,f1,f2,_⟩:=hf p.1 hb
  obtain⟨o,e',d⟩:=ho p.1 hb
  rw[e]at e';cases e'
  exact⟨e,f0,f1,f2,d⟩
theorem Inv.unpinned{pins pl:List (Addr×Obj)}{σ:St}{H:Hp}{s:Shared}(I:Inv X (pins++pl) σ H s):Inv X pins σ H s:=I.pins_of λp hp=>I.pin p (vbf _ (List.mem_append_left _ hp))
theorem zu2{iter:Expr}{body:List Stmt}{wi:TI}{g:TG}{tb:TS}{pos:Pos}(hp:PassesOwn (model X.prog X.w) X.A X.env X.xe)(hc:X.calm=true)(hi:PI X tg iter wi)(hg:PG X tg g)(hb:PSs X body tb)
 (hs:∀x,foldedSetIterable iter X.env x=pure x:=by intro _;rfl):PS X (.For tg iter body [] pos) (tFor wi g tb):=by
 intro pins s σ H D I h
 refine wpAny_For (thn (hi pins s σ H _ I h) λv s1 h1=>thn h1 λitv s2 h2=>?_) hs
 obtain⟨it,fp,tn,J,H2,e,I2,T,st2,f2,W,⟨m0,w0⟩,turn⟩:=h2
 subst e
 have stat:∀{H':Hp},(∀b∈fp,H' b=none)->∀b∈fp,FpOk X pins H' b:=λhn b hb=>⟨hn b hb,(f2 b hb).2⟩
 refine codeAny_forLoop_any (λn s'=>∃i σ' H',Inv X pins σ' H' s'/\tn i s'.heap/\(∀b∈fp,H' b=none)/\W i n σ' H') ?_ m0 ⟨0,σ,H2,I2,st2,λb hb=>(f2 b hb).1,w0⟩
 rintro n s3 ⟨i,σ3,H3,I3,st3,fr3,w3⟩
 rcases turn i n σ3 H3 w3 with⟨stop,qn⟩|⟨go,N,hN,step⟩
 .refine vcw hp (thn (T.done X rfl rfl rfl hc i pins s3 σ3 H3 X.xe I3 (stat fr3) st3 stop) λr s4 hq0=>?_)
  obtain⟨hr,I4⟩:=hq0
  subst hr
  exact wpAny_execs_nil ⟨σ3,H3,I4,qn⟩
 .refine vcw hp (thn (T.item X rfl rfl rfl hc i pins s3 σ3 H3 X.xe I3 (stat fr3) st3 go) λr s4 hq0=>?_)
  obtain⟨u,hr,h4⟩:=hq0
  subst hr
  refine vcw hp (thn h4 λ_ s5 hq0=>?_)
  obtain⟨x,H5,I5,r5,y5,st5,fr5⟩:=hq0
  have I5':=I5.pinned (stat fr5) (T.obj _ _ st5)
  refine vcw hp (thn (hg _ s5 σ3 H5 x u _ I5' r5 (step x H5 y5)) λ_ s6 hq0=>?_)
  obtain⟨σ6,H6,I6,q6⟩:=hq0
  refine vcw hp (thn (hb _ s6 σ6 H6 _ I6 q6) λf s7 q7=>?_)
  have again:∀{σ7:St}{H7:Hp},Inv X (pins++zhg fp s5.heap) σ7 H7 s7->N σ7 H7->∃m,m<n/\∃i σ' H',Inv X pins σ' H' s7/\tn i s7.heap/\(∀b∈fp,H' b=none)/\W i m σ' H':=λ{σ7 H7} I7 n7=>by
   obtain⟨m',hm,w7⟩:=hN σ7 H7 n7
   refine⟨m',hm,i+1,σ7,H7,I7.unpinned,T.keep _ _ _ st5 λb hb o e=>(I7.pin (b,o) (vbf _ (vbf _ (zcl hb e)))).1,λb hb=>?_,w7⟩
   obtain⟨o,e,d⟩:=T.obj _ _ st5 b hb
   exact(I7.pin (b,o) (vbf _ (vbf _ (zcl hb e)))).2.1
  cases f with
  |next=>obtain⟨σ7,H7,I7,n7⟩:=q7;exact again I7 n7
  |cont=>obtain⟨σ7,H7,I7,n7⟩:=q7;exact again I7 n7
  |brk=>obtain⟨σ7,H7,I7,q7⟩:=q7;exact⟨σ7,H7,I7.unpinned,q7⟩
  |ret v=>obtain⟨x7,σ7,H7,I7,r7,q7⟩:=q7;exact⟨x7,σ7,H7,I7.unpinned,r7,q7⟩
end
noncomputable abbrev R2:=V->V->Hp->VK->Prop
noncomputable def OpR(X:Cx)(f:Value->Value->Sem Value)(r:R2):Prop:=
 ∀(pins:List (Addr×Obj))(s:Shared)(σ:St)(H:Hp)(x y:V)(v u:Value)(Q:VK),Inv X pins σ H s->RelV x v->RelV y u->r x y H Q->
  wpAny (model X.prog X.w) X.A (f v u) (EP X pins σ Q) X.xe s
noncomputable def UnR(X:Cx)(f:Value->Sem Value)(r:V->Hp->VK->Prop):Prop:=
 ∀(pins:List (Addr×Obj))(s:Shared)(σ:St)(H:Hp)(x:V)(v:Value)(Q:VK),Inv X pins σ H s->RelV x v->r x H Q->
  wpAny (model X.prog X.w) X.A (f v) (EP X pins σ Q) X.xe s
noncomputable def CallR(X:Cx)(f:Value)(r:List V->Hp->VK->Prop):Prop:=
 ∀(pins:List (Addr×Obj))(s:Shared)(σ:St)(H:Hp)(xs:List V)(us:List Value)(Q:VK),Inv X pins σ H s->Vals xs us->r xs H Q->
  wpAny (model X.prog X.w) X.A (call f us) (EP X pins σ Q) X.xe s
noncomputable def TruR(X:Cx)(r:V->Hp->(Bool->Hp->Prop)->Prop):Prop:=
 ∀(pins:List (Addr×Obj))(s:Shared)(σ:St)(H:Hp)(x:V)(v:Value)(Q:Bool->Hp->Prop),Inv X pins σ H s->RelV x v->r x H Q->
  wpAny (model X.prog X.w) X.A (truthy v) (TP X pins σ Q) X.xe s
noncomputable def tOp(r:R2)(ta tb:TE):TE:=λσ H Q=>ta σ H λx H1=>tb σ H1 λy H2=>r x y H2 Q
noncomputable def tUn(r:V->Hp->VK->Prop)(ta:TE):TE:=λσ H Q=>ta σ H λx H1=>r x H1 Q
noncomputable def rI(C:Int->Int->Prop)(g:Int->Int->V):R2:=λx y H Q=>∃i j,x=.int i/\y=.int j/\C i j/\Q (g i j) H
noncomputable def rI0(g:Int->Int->V):R2:=λx y H Q=>∃i j,x=.int i/\y=.int j/\Q (g i j) H
noncomputable def rU(g:Int->V):V->Hp->VK->Prop:=λx H Q=>∃i,x=.int i/\Q (g i) H
section
variable{X:Cx}{a b c:Expr}{ta tb tc:TE}{pos:Pos}
theorem binT(ha:PE X a ta)(hb:PE X b tb){pins:List (Addr×Obj)}{s:Shared}{σ:St}{H:Hp}{R:V->V->Hp->Prop}(I:Inv X pins σ H s)
 (h:ta σ H λx H1=>tb σ H1 λy H2=>R x y H2) {Q:Value->Shared->Prop} {f:Value->Value->Sem Value}
 (hf:∀v u s2 x y H2,Inv X pins σ H2 s2->RelV x v->RelV y u->R x y H2->wpAny (model X.prog X.w) X.A (f v u) Q X.xe s2) :
 wpAny (model X.prog X.w) X.A (eval a X.env) (λv s₁=>wpAny (model X.prog X.w) X.A (eval b X.env) (λu s₂=>wpAny (model X.prog X.w) X.A (f v u) Q X.xe s₂) X.xe s₁) X.xe s:=by
 refine thn (ha pins s σ H _ I h) λv s1 z9=>z9.el λx H1 I1 r1 q1=>?_
 refine thn (hb pins s1 σ H1 _ I1 q1) λu s2 z9=>z9.el λy H2 I2 r2 q2=>?_
 exact hf v u s2 x y H2 I2 r1 r2 q2
theorem pe_op{op:Operator}{r:R2}(ho:OpR X (binaryOp op) r)(ha:PE X a ta)(hb:PE X b tb):PE X (.BinOp a op b pos) (tOp r ta tb):=by
 intro pins s σ H Q I h
 exact wpAny_BinOp (binT ha hb I h λv u s2 x y H2 I2 rx ry q=>ho pins s2 σ H2 x y v u Q I2 rx ry q)
theorem pe_un{op:UnaryOp}{r:V->Hp->VK->Prop}(ho:UnR X (unaryOp op) r)(ha:PE X a ta):PE X (.UnaryOp op a pos) (tUn r ta):=by
 intro pins s σ H Q I h
 exact UnaryOp_ (thn (ha pins s σ H _ I h) λv s1 z9=>z9.el λx H1 I1 r1 q1=>ho pins s1 σ H1 x v Q I1 r1 q1)
theorem opI{f:Value->Value->Sem Value}{C:Int->Int->Prop}{g:Int->Int->Int}
 (rule:∀(i j:Int)(t u:Tok)(s:Shared)(Q:Value->Shared->Prop)(E:Value->Shared->Prop),C i j->Q (.int (g i j) s.toks) {s with toks:=s.toks+1}->wpAny (model X.prog X.w) X.A (f (.int i t) (.int j u)) Q E s) :
 OpR X f (rI C λi j=>.int (g i j)):=by
 intro pins s σ H x y v u Q I rx ry h
 obtain⟨i,j,rfl,rfl,hc,q⟩:=h
 obtain⟨t,rfl⟩:=rx
 obtain⟨t',rfl⟩:=ry
 exact rule i j t t' s _ _ hc ⟨.int (g i j),H,I.tok _,⟨_,rfl⟩,q⟩
theorem opI0{f:Value->Value->Sem Value}{g:Int->Int->Int}
 (rule:∀(i j:Int)(t u:Tok)(s:Shared)(Q:Value->Shared->Prop)(E:Value->Shared->Prop),Q (.int (g i j) s.toks) {s with toks:=s.toks+1}->wpAny (model X.prog X.w) X.A (f (.int i t) (.int j u)) Q E s) :
 OpR X f (rI0 λi j=>.int (g i j)):=by
 intro pins s σ H x y v u Q I rx ry h
 obtain⟨i,j,rfl,rfl,q⟩:=h
 obtain⟨t,rfl⟩:=rx
 obtain⟨t',rfl⟩:=ry
 exact rule i j t t' s _ _ ⟨.int (g i j),H,I.tok _,⟨_,rfl⟩,q⟩
theorem opB0{f:Value->Value->Sem Value}{g:Int->Int->Bool}
 (rule:∀(i j:Int)(t u:Tok)(s:Shared)(Q:Value->Shared->Prop)(E:Value->Shared->Prop),Q (.bool (g i j)) s->wpAny (model X.prog X.w) X.A (f (.int i t) (.int j u)) Q E s) :
 OpR X f (rI0 λi j=>.bl (g i j)):=by
 intro pins s σ H x y v u Q I rx ry h
 obtain⟨i,j,rfl,rfl,q⟩:=h
 obtain⟨t,rfl⟩:=rx
 obtain⟨t',rfl⟩:=ry
 exact rule i j t t' s _ _ ⟨.bl (g i j),H,I,rfl,q⟩
noncomputable def CDiv(i j:Int):Prop:=0<j/\j<1073741824
noncomputable def CPow(i j:Int):Prop:=0<=j/\j<=1000000/\i.natAbs<2 ^ 64
noncomputable def CMul(i j:Int):Prop:=(-(2 ^ 64)<i/\i<2 ^ 64)\/(-(2 ^ 64)<j/\j<2 ^ 64)
theorem CMul.ok{i j:Int}(h:CMul i j):IntMulOk i j:=by
 rcases h with⟨h1,h2⟩|⟨h1,h2⟩
 .exact .of_left (intBits_le_64 h1 h2)
 .exact .of_right (intBits_le_64 h1 h2)
theorem zu3:OpR X (binaryOp .Add) (rI0 λi j=>.int (i+j)):=opI0 λ_ _ _ _ _ _ _ q=>add_int q
theorem zu4:OpR X (binaryOp .Sub) (rI0 λi j=>.int (i-j)):=opI0 λ_ _ _ _ _ _ _ q=>sub_int q
theorem zu5:OpR X (binaryOp .Mult) (rI CMul λi j=>.int (i*j)):=opI λ_ _ _ _ _ _ _ hc q=>mul_int q hc.ok
theorem zr0:OpR X (binaryOp .FloorDiv) (rI CDiv λi j=>.int (i/j)):=opI λi j _ _ _ _ _ hc q=>by
 have h1:(0:Int)<j:=hc.1
 have h2:j<1073741824:=hc.2
 exact floordiv_int (by omega) (by rw[Int.fdiv_eq_ediv_of_nonneg i (by omega)];exact q) (.inl (PyProof.noPylong_small (by omega)))
theorem zu6:OpR X (binaryOp .Mod) (rI (λ_ j=>0<j) λi j=>.int (i % j)):=opI λi j _ _ _ _ _ hc q=>by
 have h1:(0:Int)<j:=hc
 exact mod_int' (by omega) (by rw[Int.fmod_eq_emod_of_nonneg i (by omega)];exact q)
theorem zu7:OpR X (binaryOp .Pow) (rI CPow λi j=>.int (i ^ j.toNat)):=opI λ_ _ _ _ _ _ _ hc q=>pow_int_small hc.1 hc.2.1 hc.2.2 q
theorem unI{f:Value->Sem Value}{g:Int->Int}
 (rule:∀(i:Int)(t:Tok)(s:Shared)(Q:Value->Shared->Prop)(E:Value->Shared->Prop),Q (.int (g i) s.toks) {s with toks:=s.toks+1}->wpAny (model X.prog X.w) X.A (f (.int i t)) Q E s) :
 UnR X f (rU λi=>.int (g i)):=by
 intro pins s σ H x v Q I rx h
 obtain⟨i,rfl,q⟩:=h
 obtain⟨t,rfl⟩:=rx
 exact rule i t s _ _ ⟨.int (g i),H,I.tok _,⟨_,rfl⟩,q⟩
theorem zu8:UnR X (unaryOp .USub) (rU λi=>.int (-i)):=unI λ_ _ _ _ _ q=>neg_int q
end
section
variable{X:Cx}{a b c:Expr}{ta tb tc:TE}{pos:Pos}
theorem zqv{pins:List (Addr×Obj)}{σ:St}{H:Hp}{s:Shared}{Q:VK}{k k':Bool}(I:Inv X pins σ H s)(q:Q (.bl k) H)(e:k=k'):EP X pins σ Q (.bool k') s:=by
 subst e
 exact⟨.bl k,H,I,rfl,q⟩
theorem op_lt:OpR X (compareOp .Lt) (rI0 λi j=>.bl (decide (i<j))):=opB0 λ_ _ _ _ _ _ _ q=>lt_int q
theorem op_le:OpR X (compareOp .LtE) (rI0 λi j=>.bl (decide (i<=j))):=opB0 λ_ _ _ _ _ _ _ q=>le_int q
theorem op_gt:OpR X (compareOp .Gt) (rI0 λi j=>.bl (decide (j<i))):=opB0 λ_ _ _ _ _ _ _ q=>gt_int q
theorem op_ge:OpR X (compareOp .GtE) (rI0 λi j=>.bl (decide (j<=i))):=opB0 λ_ _ _ _ _ _ _ q=>ge_int q
theorem zu9:OpR X (compareOp .Is) (λx y H Q=>y=.non/\Q (.bl (decide (x=.non))) H):=by
 intro pins s σ H x y v u Q I rx ry h
 obtain⟨rfl,q⟩:=h
 cases ry
 refine is_none_gen (zqv I q ?_)
 cases x<;>first
  |(cases rx;rfl)
  |(obtain⟨t,rfl⟩:=rx;rfl)
theorem zr1:OpR X (compareOp .IsNot) (λx y H Q=>y=.non/\Q (.bl (!decide (x=.non))) H):=by
 intro pins s σ H x y v u Q I rx ry h
 obtain⟨rfl,q⟩:=h
 cases ry
 refine isnot_none_gen (zqv I q ?_)
 cases x<;>first
  |(cases rx;rfl)
  |(obtain⟨t,rfl⟩:=rx;rfl)
theorem OpR.or{f:Value->Value->Sem Value}{r r':R2}(h:OpR X f r)(h':OpR X f r'):OpR X f (λx y H Q=>r x y H Q\/r' x y H Q):=by
 intro pins s σ H x y v u Q I rx ry q
 rcases q with q|q
 .exact h pins s σ H x y v u Q I rx ry q
 .exact h' pins s σ H x y v u Q I rx ry q
theorem zr2{op:CmpOp}{r:R2}(ho:OpR X (compareOp op) r)(ha:PE X a ta)(hb:PE X b tb)(hm:behindInMarks op b=false):PE X (.Compare a [op] [b] pos) (tOp r ta tb):=by
 intro pins s σ H Q I h
 exact wpAny_Compare1 (binT ha hb I h λv u s2 x y H2 I2 rx ry q=>ho pins s2 σ H2 x y v u Q I2 rx ry q) hm
noncomputable def tTest(t:TE):TT:=λσ H Q=>t σ H λx H'=>∃k,x=.bl k/\Q k H'
theorem zr3{op:CmpOp}{r:R2}(ho:OpR X (compareOp op) r)(ha:PE X a ta)(hb:PE X b tb)(hm:behindInMarks op b=false):PT X (.Compare a [op] [b] pos) (tTest (tOp r ta tb)):=by
 intro pins s σ H Q I h
 refine wpAny_isTrue_Compare1 (thn (ha pins s σ H _ I h) λv s1 z9=>z9.el λx H1 I1 r1 q1=>thn (hb pins s1 σ H1 _ I1 q1) λu s2 z9=>z9.el λy H2 I2 r2 q2=>
  thn (ho pins s2 σ H2 x y v u _ I2 r1 r2 q2) λc s3 z9=>z9.el λz H3 I3 r3 ⟨k,e,q3⟩=>?_) hm
 subst e
 cases r3
 exact vb8 ⟨H3,I3,q3⟩
noncomputable def zl3(r r':R2)(ta tb tc:TE):TE:=λσ H Q=>ta σ H λx H1=>tb σ H1 λy H2=>r x y H2 λz H3=>∃k,z=.bl k/\
 (if k=true then tc σ H3 λw' H4=>r' y w' H4 Q else Q (.bl false) H3)
theorem zo0{op op':CmpOp}{r r':R2}(ho:OpR X (compareOp op) r)(ho':OpR X (compareOp op') r')(ha:PE X a ta)(hb:PE X b tb)(hc:PE X c tc)
 (hm:lastMarks [op,op'] [b,c]=false:=by with_unfolding_all rfl):PE X (.Compare a [op,op'] [b,c] pos) (zl3 r r' ta tb tc):=by
 intro pins s σ H Q I h
 refine Compare_chain (thn (ha pins s σ H _ I h) λv s1 z9=>z9.el λx H1 I1 r1 q1=>chain_link (thn (hb pins s1 σ H1 _ I1 q1) λu s2 z9=>z9.el λy H2 I2 r2 q2=>
  thn (ho pins s2 σ H2 x y v u _ I2 r1 r2 q2) λd s3 z9=>z9.el λz H3 I3 r3 ⟨k,e,q3⟩=>?_)) hm
 subst e
 cases r3
 refine vb8 ?_
 cases k with
 |false=>exact ite_ff ⟨.bl false,H3,I3,rfl,q3⟩
 |true=>exact ite_tt (chain_last (thn (hc pins s3 σ H3 _ I3 q3) λw' s4 z9=>z9.el λz' H4 I4 r4 q4=>ho' pins s4 σ H4 y z' u w' Q I4 r2 r4 q4))
theorem zo1{op op':CmpOp}{r r':R2}(ho:OpR X (compareOp op) r)(ho':OpR X (compareOp op') r')(ha:PE X a ta)(hb:PE X b tb)(hc:PE X c tc)
 (hm:lastMarks [op,op'] [b,c]=false:=by with_unfolding_all rfl):PT X (.Compare a [op,op'] [b,c] pos) (tTest (zl3 r r' ta tb tc)):=by
 intro pins s σ H Q I h
 refine isTrue_chain (thn (ha pins s σ H _ I h) λv s1 z9=>z9.el λx H1 I1 r1 q1=>test_link (thn (hb pins s1 σ H1 _ I1 q1) λu s2 z9=>z9.el λy H2 I2 r2 q2=>
  thn (ho pins s2 σ H2 x y v u _ I2 r1 r2 q2) λd s3 z9=>z9.el λz H3 I3 r3 ⟨k,e,q3⟩=>?_)) hm
 subst e
 cases r3
 refine vb8 ?_
 cases k with
 |false=>
  obtain⟨k',e',q'⟩:=q3
  cases e'
  exact ite_ff ⟨H3,I3,q'⟩
 |true=>
  refine ite_tt (test_last (thn (hc pins s3 σ H3 _ I3 q3) λw' s4 z9=>z9.el λz' H4 I4 r4 q4=>thn (ho' pins s4 σ H4 y z' u w' _ I4 r2 r4 q4) λd' s5 z9=>z9.el λz2 H5 I5 r5 hq0=>?_))
  obtain⟨k2,e2,q5⟩:=hq0
  subst e2
  cases r5
  exact vb8 ⟨H5,I5,q5⟩
noncomputable def TruV(K:vga)(x:V)(H:Hp)(k:Bool):Prop:=
 match x with
 |.non=>k=false
 |.bl b=>k=b
 |.int i=>k=(i != 0)
 |.str y=>y.length<=sizeLine/\k=((y.length:Int) != 0)
 |.byt y=>y.size<=sizeLine/\k=((y.size:Int) != 0)
 |.ref p=>(∃xs,SqL K H p xs/\k=!xs.isEmpty)\/(∃xs,SqT K H p xs/\k=!xs.isEmpty)\/∃kvs,H p=some (.dK kvs)/\k=!kvs.isEmpty
 |_=>False
theorem zkz{κ:Type}{kvs:List (κ×V)}{vs:List (κ×Value)}(r:KV kvs vs):(!vs.isEmpty)=!kvs.isEmpty:=by
 cases r<;>rfl
theorem zff{xs:List V}{its:List Value}(r:Vals xs its):(!its.toArray.isEmpty)=!xs.isEmpty:=by
 cases r<;>simp
theorem zhh:(sizeLine:Nat)<2 ^ 63:=by rw[sizeLine_eq];decide
theorem zva:TruR X (λx H Q=>∃k,TruV X.K x H k/\Q k H):=by
 intro pins s σ H x v Q I rx h
 obtain⟨k,e,q⟩:=h
 have hl:=zhh
 have hs:sizeLine=16777216:=sizeLine_eq
 cases x with
 |non=>
  cases rx
  have e':k=false:=e
  subst e'
  exact truthy_none ⟨H,I,q⟩
 |bl b=>
  cases rx
  have e':k=b:=e
  subst e'
  exact vb8 ⟨H,I,q⟩
 |int i=>
  obtain⟨t,rfl⟩:=rx
  have e':k=(i != 0):=e
  subst e'
  exact PySem.P.truthy_int ⟨H,I,q⟩
 |str y=>
  obtain⟨t,rfl⟩:=rx
  obtain⟨hy,e'⟩:y.length<=sizeLine/\k=((y.length:Int) != 0):=e
  subst e'
  exact PySem.P.truthy_str (by omega) ⟨H,I.tok _,q⟩
 |byt y=>
  obtain⟨t,rfl⟩:=rx
  obtain⟨hy,e'⟩:y.size<=sizeLine/\k=((y.size:Int) != 0):=e
  subst e'
  exact PySem.W.truthy_bytes (by omega) ⟨H,I.tok _,q⟩
 |ref p=>
  cases rx
  have e':(∃xs,SqL X.K H p xs/\k=!xs.isEmpty)\/(∃xs,SqT X.K H p xs/\k=!xs.isEmpty)\/∃kvs,H p=some (.dK kvs)/\k=!kvs.isEmpty:=e
  rcases e' with⟨xs,hx,e'⟩|⟨xs,hx,e'⟩|⟨kvs,hx,e'⟩
  .subst e'
   obtain⟨its,r,pl,hz⟩:=I.list hx
   have hlen:=r.length
   exact wpAny_truthy_list pl.isList (by simp only[van];omega) ⟨H,I.tok _,by rw[zff r];exact q⟩
  .subst e'
   obtain⟨its,r,pl,hz⟩:=I.tuple hx
   have hlen:=r.length
   exact truthy_tuple pl (by simp only[van];omega) ⟨H,I.tok _,by rw[zff r];exact q⟩
  .subst e'
   obtain⟨hz,hS,vs,r,m⟩:kvs.length<=sizeLine/\(p==sysModules)=false/\∃vs,KV kvs vs/\s.heap.DictOf (zax X.prog X.w) p vs:=I.hok p _ hx
   have hlen:kvs.length=vs.length:=vea r
   exact wpAny_truthy_dict hS m (by omega) ⟨H,I.tok _,by rw[zkz r];exact q⟩
 |_=>exact(show False from e).elim
theorem zo2(ha:PE X a ta)(he:∀whole,isTrue a X.env whole=(do let v <-whole;standAt a.pos;holding [v] (truthy v))) :
 PT X a (λσ H Q=>ta σ H λx H'=>∃k,TruV X.K x H' k/\Q k H'):=by
 intro pins s σ H Q I h
 exact isTrue_plain (thn (ha pins s σ H _ I h) λv s1 z9=>z9.el λx H1 I1 r1 q1=>zva pins s1 σ H1 x v Q I1 r1 q1) (he _)
theorem vals1{x:V}{us:List Value}(r:Vals [x] us):∃u,us=[u]/\RelV x u:=by
 cases r with
 |cons r1 r2=>cases r2;exact⟨_,rfl,r1⟩
theorem vals2{x y:V}{us:List Value}(r:Vals [x,y] us):∃u w',us=[u,w']/\RelV x u/\RelV y w':=by
 cases r with
 |cons r1 r2=>
  cases r2 with
  |cons r3 r4=>cases r4;exact⟨_,_,rfl,r1,r3⟩
theorem zo3:CallR X (.builtin "abs") (λxs H Q=>∃i,xs=[.int i]/\Q (.int (if i<0 then -i else i)) H):=by
 intro pins s σ H xs us Q I r h
 obtain⟨i,rfl,q⟩:=h
 obtain⟨u,rfl,t,rfl⟩:=vals1 r
 exact call_abs_int λu tk=>⟨.int (if i<0 then -i else i),H,I.tok _,⟨_,rfl⟩,q⟩
theorem zl4(hc:X.calm=true):CallR X (.builtin "max") (λxs H Q=>∃i j,xs=[.int i,.int j]/\Q (.int (if j>i then j else i)) H):=by
 intro pins s σ H xs us Q I r h
 obtain⟨i,j,rfl,q⟩:=h
 obtain⟨u,w',rfl,⟨t,rfl⟩,⟨t',rfl⟩⟩:=vals2 r
 refine max_two_ints (I.ok.hd hc) λh' tk k=>⟨_,H,I.kept k,?_,q⟩
 by_cases hj:j>i
 .rw[if_pos hj,if_pos hj];exact⟨_,rfl⟩
 .rw[if_neg hj,if_neg hj];exact⟨_,rfl⟩
theorem zl5(hc:X.calm=true):CallR X (.builtin "min") (λxs H Q=>∃i j,xs=[.int i,.int j]/\Q (.int (if j<i then j else i)) H):=by
 intro pins s σ H xs us Q I r h
 obtain⟨i,j,rfl,q⟩:=h
 obtain⟨u,w',rfl,⟨t,rfl⟩,⟨t',rfl⟩⟩:=vals2 r
 refine min_two_ints (I.ok.hd hc) λh' tk k=>⟨_,H,I.kept k,?_,q⟩
 by_cases hj:j<i
 .rw[if_pos hj,if_pos hj];exact⟨_,rfl⟩
 .rw[if_neg hj,if_neg hj];exact⟨_,rfl⟩
theorem zl6:CallR X (.type "int") (λxs H Q=>(∃i,xs=[.int i]/\Q (.int i) H)\/∃k,xs=[.bl k]/\Q (.int (if k then 1 else 0)) H):=by
 intro pins s σ H xs us Q I r h
 rcases h with⟨i,rfl,q⟩|⟨k,rfl,q⟩
 .obtain⟨u,rfl,t,rfl⟩:=vals1 r
  exact call_int_int ⟨.int i,H,I,⟨_,rfl⟩,q⟩
 .obtain⟨u,rfl,r1⟩:=vals1 r
  cases r1
  exact call_int_bool ⟨.int (if k then 1 else 0),H,I.tok _,⟨_,rfl⟩,q⟩
end
structure ObjM(h:Heap)(x dx C:Addr)(mA:Str->Option Value):Prop where
 obj:h.get? x=some (PySem.W.instObj C dx)
 ns:h.Ns1 dx mA
 ne:dx≠x
theorem zl7{h:Heap}{dx:Addr}{mA:Str->Option Value}(n:h.Ns1 dx mA):∃od,h.get? dx=some od/\∀name,PySem.W.lookIn name od=some (mA name):=by
 obtain⟨o,es,ep,ho,hd,hk,_,hm⟩:=n
 refine⟨o,ho,λname=>?_⟩
 have e:=hm name
 unfold nsFind findBy at e
 rw[<-Array.find?_toList]at e
 unfold PySem.W.lookIn
 rw[hd]
 dsimp only
 split
 .rename_i y q
  rw[q]at e
  exact vdv some e
 .rename_i q
  rw[q]at e
  have a:es.toList.any (·.refKey)=false:=by
   rw[List.any_eq_false]
   intro y hy
   obtain⟨z,t,hkey⟩:=hk y (Array.mem_toList_iff.mp hy)
   simp[DictEntry.refKey,hkey]
  have a':¬es.toList.any (·.refKey)=true:=by rw[a];exact vcb
  rw[if_neg a']
  exact vdv some e
theorem ObjM.look{h:Heap}{x dx C:Addr}{mA:Str->Option Value}(I:ObjM h x dx C mA):∃od,PySem.W.InstAt h x (PySem.W.instObj C dx) C (some od)/\∀name,PySem.W.lookIn name od=some (mA name):=
 let⟨od,ho,hl⟩:=zl7 I.ns
 ⟨od,⟨I.obj,rfl,rfl,ho⟩,hl⟩
section
variable{prog:Program}{w:World}{A:Around}{E:Value->Shared->Prop}{s:Shared}{K:vga}{x dx C f:Addr}{mA:Str->Option Value}{name:Str}{v:Value}
theorem zr4{expr:Bool}{Q:Value->Shared->Prop}(X:K.In s.heap)(I:ObjM s.heap x dx C mA)(hg:PySem.W.plainGet K C name=true)(hh:PySem.W.hasDictIn K C=true)
 (ha:PySem.W.findIn K (.ref C) name=some none) (hv:mA name=some v) (hv':PySem.W.handedIn v=true) (h:Q v {s with toks:=s.toks+1}) :
 wpAny (model prog w) A (getAttr (.ref x) name expr) Q E s:=by
 obtain⟨od,J,hl⟩:=I.look
 exact PySem.W.get_value X J (PySem.W.plainGet_of hg).1 (PySem.W.findObj_own hh ha rfl (by rw[hl,hv])) hv' h
theorem zo4{pl:Sem Bool}{Q:Value×List Value->Shared->Prop}(X:K.In s.heap)(I:ObjM s.heap x dx C mA)(hg:PySem.W.plainGet K C name=true)
 (hf:PySem.W.findIn K (.ref C) name=some (some (.ref f))) (ht:PySem.W.isFn K (.ref f)=true) (hv:mA name=none) (h:Q (.ref f,[.ref x]) s) :
 wpAny (model prog w) A (getMethod (.ref x) name pl) Q E s:=by
 obtain⟨od,J,hl⟩:=I.look
 exact PySem.W.method_fn X J (PySem.W.plainGet_of hg).1 (PySem.W.plainGet_of hg).2 hf (vd5.mp ht) (by show(PySem.W.lookIn name od).map (·.isSome)=some false;rw[hl,hv];rfl) h
theorem zr5{ns:List Str}{Q:Unit->Shared->Prop}(X:K.In s.heap)(I:ObjM s.heap x dx C mA)
 (hs:PySem.W.findIn K (.ref C) "__setattr__" = some (some (.builtin "object.__setattr__"))) (hp:PySem.W.plainOver K C=true) (ht:PySem.W.takerIn K C name=some none) (hh:PySem.W.hasDictIn K C=true)
 (hw:PySem.Within mA ns) (hsz:ns.length<=sizeLine)
 (h:∀h',ObjM h' x dx C (λy=>if y=name then some v else mA y)->Heap.SameBut dx s.heap h'->Q () {s with heap:=h',toks:=s.toks+2}) :
 wpAny (model prog w) A (setAttr (.ref x) name v) Q E s:=by
 obtain⟨od,J,hl⟩:=I.look
 refine PySem.W.set_plain X J hs (PySem.W.osa_open (s:={s with toks:=s.toks+1}) (r:=none) X J hp ht λb=>?_)
 obtain⟨cd,hc,hd'⟩:=PySem.W.any_some hh
 have hx:s.heap.get? x=some ⟨.ref C,some dx,.plain,#[]⟩:=I.obj
 refine vaa (vah (vaa (vaa (wpAny_loadPart hx (vaa (PySem.W.Looks.here (s:={s with toks:=s.toks+1}) (PySem.W.looks_clsIn X hc) ?_))))))
 rw[hd']
 refine vah (a:=some dx) (vaa (vah (vaa ?_)))
 refine wpAny_nsSet1 (s:={s with toks:=s.toks+1}) I.ns λh' hn2 hs2=>?_
 obtain⟨oD,esD,epD,hoD,hdD,hcD⟩:=hn2.count (PySem.Within.cons name v hw)
 refine vaa (wpAny_lookBehind hoD (by rw[hdD];exact pastItsLine_dict (vbx hcD (by rw[vap];omega))) ?_)
 exact vah (h _ ⟨(hs2.2 _ (vbw I.ne)).trans I.obj,hn2,I.ne⟩ hs2)
theorem zo5{R:Result->Shared->Prop}{vs:List Value}{kw:List (Str×Value)}(X:K.In s.heap)(hm:PySem.W.makesIn K C=true)
 (hi:PySem.W.findIn K (.ref C) "__init__" = some (some (.ref f))) (hf:PySem.W.typeIn K (.ref f)=some (.type "function"))
 (h:codeAny (model prog w) (A.under (.builtin "type.__call__" ⟨.ref C::vs,kw⟩)) (.call (.ref f) ⟨.ref (s.heap.objs.size+1)::vs,kw⟩) (PySem.W.InitBack (s.heap.objs.size+1) R)
   {s with heap:=(s.heap.push PySem.W.emptyDict).push (PySem.W.instObj C s.heap.objs.size)}) :
 codeAny (model prog w) A (.call (.ref C) ⟨vs,kw⟩) R s:=by
 obtain⟨hh,g,d,t,os⟩:=s
 exact PySem.W.make_core (PySem.W.makes_of X hm) (PySem.W.looks_findIn X hi) (λself=>PySem.W.bind_fn X self hf) (.inl rfl) h
end
noncomputable def putF(f:Str)(v:V):List (Str×V)->List (Str×V)
 |[]=>[(f,v)]
 |(g,x)::r=>if g=f then(g,v)::r else(g,x)::putF f v r
theorem zeg(f g:Str)(v:V):∀fs:List (Str×V),(putF f v fs).lookup g=if g=f then some v else fs.lookup g
 |[]=>by
  show List.lookup g [(f,v)]=_
  by_cases h:g=f
  .have hb:(g==f)=true:=vd5.mpr h
   simp only[List.lookup,hb,if_pos h]
  .have hb:(g==f)=false:=vcf.mpr h
   simp only[List.lookup,hb,if_neg h]
 |(k,x)::r=>by
  have ih:=zeg f g v r
  rw[show putF f v ((k,x)::r)=(if k=f then(k,v)::r else(k,x)::putF f v r)from rfl]
  by_cases hk:k=f
  .rw[if_pos hk]
   by_cases h:g=k
   .have hb:(g==k)=true:=vd5.mpr h
    simp only[List.lookup,hb,if_pos (h.trans hk)]
   .have hb:(g==k)=false:=vcf.mpr h
    simp only[List.lookup,hb,if_neg (λe:g=f=>h (e.trans hk.symm))]
  .rw[if_neg hk]
   by_cases h:g=k
   .have hb:(g==k)=true:=vd5.mpr h
    simp only[List.lookup,hb,if_neg (λe:g=f=>hk (h.symm.trans e))]
   .have hb:(g==k)=false:=vcf.mpr h
    simp only[List.lookup,hb]
    exact ih
theorem zeh(f:Str)(v:V):∀fs:List (Str×V),f∈(putF f v fs).map (·.1)/\∀g,g∈fs.map (·.1)->g∈(putF f v fs).map (·.1)
 |[]=>⟨by simp[putF],λg h=>by simp at h⟩
 |(k,x)::r=>by
  obtain⟨i1,i2⟩:=zeh f v r
  rw[show putF f v ((k,x)::r)=(if k=f then(k,v)::r else(k,x)::putF f v r)from rfl]
  by_cases hk:k=f
  .rw[if_pos hk]
   subst hk
   exact⟨by simp,λg h=>by simpa using h⟩
  .rw[if_neg hk]
   refine⟨?_,λg h=>?_⟩
   .rw[vao]
    exact vad _ i1
   .rw[vao]at h ⊢
    rcases vax.mp h with e|e
    .exact vax.mpr (.inl e)
    .exact vad _ (i2 g e)
theorem zei(f:Str)(v:V):∀fs:List (Str×V),(putF f v fs).length<=fs.length+1
 |[]=>by simp[putF]
 |(k,x)::r=>by
  have ih:=zei f v r
  rw[show putF f v ((k,x)::r)=(if k=f then(k,v)::r else(k,x)::putF f v r)from rfl]
  by_cases hk:k=f
  .rw[if_pos hk,vap,vap];omega
  .rw[if_neg hk,vap,vap];omega
theorem RelO.some_of{v:V}{o:Option Value}(r:RelO (some v) o):∃u,o=some u/\RelV v u:=by
 cases o with
 |none=>exact(show False from r).elim
 |some u=>exact⟨u,rfl,r⟩
theorem RelO.none_of{o:Option Value}(r:RelO none o):o=none:=by
 cases o with
 |none=>rfl
 |some u=>exact(show False from r).elim
theorem zl8{v:V}{u:Value}(r:RelV v u):PySem.W.handedIn u=true:=by
 cases v with
 |non=>cases(show u=Value.none from r);rfl
 |bl b=>cases(show u=Value.bool b from r);rfl
 |int i=>obtain⟨t,e⟩:=(show ∃t,u=Value.int i t from r);cases e;rfl
 |str x=>obtain⟨t,e⟩:=(show ∃t,u=Value.str x t from r);cases e;rfl
 |byt b=>obtain⟨t,e⟩:=(show ∃t,u=Value.bytes b t from r);cases e;rfl
 |flt b=>obtain⟨t,e⟩:=(show ∃t,u=Value.float b t from r);cases e;rfl
 |ref a=>cases(show u=Value.ref a from r);rfl
 |ty n=>cases(show u=Value.type n from r);rfl
section
variable{P:Program}{w:World}{H H':Hp}{h h':Heap}{a C dx:Addr}{fs fs':List (Str×V)}
theorem zga(hok:HOk P w H h)(e:H a=some (.ins C dx fs)):∃mA,ObjM h a dx C mA/\(∀f,RelO (fs.lookup f) (mA f))/\PySem.Within mA (fs.map (·.1))/\fs.length<=1000/\H dx=some (.own a):=by
 obtain⟨d,z,ne,ob,mA,n,r,q⟩:=(show ObjOk P w H h a (.ins C dx fs)from hok a _ e)
 exact⟨mA,⟨ob,n,ne⟩,r,q,z,d⟩
end
structure Cls(K:vga)(C:Addr):Prop where
 pg:PySem.W.plainGet K C Str.empty=true
 hd:PySem.W.hasDictIn K C=true
 po:PySem.W.plainOver K C=true
 sa:PySem.W.findIn K (.ref C) "__setattr__" = some (some (.builtin "object.__setattr__"))
theorem Cls.get{K:vga}{C:Addr}(c:Cls K C)(f:Str):PySem.W.plainGet K C f=true:=c.pg
noncomputable def zc4(K:vga)(C:Addr)(f:Str):Prop:=PySem.W.findIn K (.ref C) f=some none
theorem zc4.taker{K:vga}{C:Addr}{f:Str}(n:zc4 K C f):PySem.W.takerIn K C f=some none:=by
 unfold PySem.W.takerIn
 rw[show PySem.W.findIn K (.ref C) f=some none from n]
 rfl
structure Meth(K:vga)(C:Addr)(m:Str)(f:Addr):Prop where
 at_:PySem.W.findIn K (.ref C) m=some (some (.ref f))
 fn:PySem.W.isFn K (.ref f)=true
 kp:PySem.W.keepIn K (.ref f)=true
section
variable{X:Cx}{pins:List (Addr×Obj)}{σ:St}{H:Hp}{s:Shared}{a C dx:Addr}{fs:List (Str×V)}{f:Str}{v:V}{A:Around}{E:Value->Shared->Prop}
theorem zk0{b:Bool}{Q:Value->Shared->Prop}(I:Inv X pins σ H s)(e:H a=some (.ins C dx fs))(c:Cls X.K C)(n:zc4 X.K C f)(l:fs.lookup f=some v)
 (h:∀u s',Inv X pins σ H s'->RelV v u->Q u s'):wpAny (model X.prog X.w) A (getAttr (.ref a) f b) Q E s:=by
 obtain⟨mA,O,r,_,_,_⟩:=zga I.hok e
 obtain⟨u,hu,ru⟩:=RelO.some_of (v:=v) (o:=mA f) (by rw[<-l];exact r f)
 exact zr4 I.kIn O (c.get f) c.hd n hu (zl8 ru) (h u _ (I.tok _) ru)
theorem zfg{m:Str}{g:Addr}{pl:Sem Bool}{Q:Value×List Value->Shared->Prop}(I:Inv X pins σ H s)(e:H a=some (.ins C dx fs))(c:Cls X.K C)(k:Meth X.K C m g)(l:fs.lookup m=none)
 (h:Q (.ref g,[.ref a]) s):wpAny (model X.prog X.w) A (getMethod (.ref a) m pl) Q E s:=by
 obtain⟨mA,O,r,_,_,_⟩:=zga I.hok e
 have hn:mA m=none:=RelO.none_of (by rw[<-l];exact r m)
 exact zo4 I.kIn O (c.get m) k.at_ k.fn hn h
theorem zk1{y:V}{u:Value}{Q:Unit->Shared->Prop}(I:Inv X pins σ H s)(e:H a=some (.ins C dx fs))(c:Cls X.K C)(n:zc4 X.K C f)(hl:fs.length<1000)(ry:RelV y u)
 (h:∀s',Inv X pins σ (upd H a (.ins C dx (putF f y fs))) s'->Q () s'):wpAny (model X.prog X.w) A (setAttr (.ref a) f u) Q E s:=by
 obtain⟨mA,O,r,wi,_,ho⟩:=zga I.hok e
 have hz:(fs.map (·.1)).length<=sizeLine:=by rw[vab,sizeLine_eq];omega
 refine zr5 I.kIn O c.sa c.po n.taker c.hd wi hz λh' O' sb=>h _ ?_
 have hd:∃o,h'.get? dx=some o:=let⟨o,_,_,e',_⟩:=O'.ns;⟨o,e'⟩
 refine I.write (x:=a) (e:=dx) (by rw[e];exact True.intro) (.inr ho) (λb q hb z=>(sb.2 b hb).trans z) hd ?_
 refine⟨by rw[zag O.ne];exact ho,?_,O.ne,O'.obj,_,O'.ns,λg=>?_,λg hg=>?_⟩
 .have:=zei f y fs;omega
 .show RelO ((putF f y fs).lookup g) (if g=f then some u else mA g)
  rw[zeg]
  by_cases q:g=f
  .rw[if_pos q,if_pos q];exact ry
  .rw[if_neg q,if_neg q];exact r g
 .by_cases q:g=f
  .rw[q];exact(zeh f y fs).1
  .refine(zeh f y fs).2 g (wi g λz=>hg ?_)
   show(if g=f then some u else mA g)=none
   rw[if_neg q];exact z
theorem Inv.made(I:Inv X pins σ H s):Inv X pins σ (upd (upd H s.heap.objs.size (.own (s.heap.objs.size+1))) (s.heap.objs.size+1) (.ins C s.heap.objs.size []))
 {s with heap:=(s.heap.push PySem.W.emptyDict).push (PySem.W.instObj C s.heap.objs.size)}:=by
 have e1:(s.heap.push PySem.W.emptyDict).get? s.heap.objs.size=some PySem.W.emptyDict:=vas s.heap rfl
 have e2:((s.heap.push PySem.W.emptyDict).push (PySem.W.instObj C s.heap.objs.size)).get? (s.heap.objs.size+1)=some (PySem.W.instObj C s.heap.objs.size):=by
  have:=vas (s.heap.push PySem.W.emptyDict) (o:=PySem.W.instObj C s.heap.objs.size) rfl
  rwa [vb9]at this
 have e3:(s.heap.push PySem.W.emptyDict).Ns s.heap.objs.size (λ_=>none):=⟨PySem.W.emptyDict,#[],_,e1,rfl,(λe he=>absurd he (by simp)),λ_=>rfl⟩
 have I1:=I.laid (a:=s.heap.objs.size) (o:=.own (s.heap.objs.size+1)) (h':=s.heap.push PySem.W.emptyDict) (t':=s.toks) (λb u q=>vae _ q) (vai _) ⟨_,e1⟩
 refine I1.laid (a:=s.heap.objs.size+1) (o:=.ins C s.heap.objs.size []) (t':=s.toks) (λb u q=>vae _ q) (Nat.le_of_eq (vb9 _ _)) ?_
 have ne:s.heap.objs.size≠s.heap.objs.size+1:=va4 (vbo _)
 refine⟨by rw[zag ne,zaq],vbu _,ne,e2,λ_=>none,(Heap.Ns1.of_empty e3).at λo q=>vae _ q,λ_=>True.intro,λy hy=>absurd rfl hy⟩
theorem zr6{prog:Program}{w:World}{env:Env}{e:Expr}{f:Str}{pos:Pos}{s:Shared}{Q:Value->Shared->Prop}(hb:attributeBase e f env (eval e env)=eval e env)
 (h:wpAny (model prog w) A (eval e env) (λo s₁=>wpAny (model prog w) A (getAttr o f true) Q E s₁) E s):wpAny (model prog w) A (eval (.Attribute e f pos) env) Q E s:=
 Attribute_any_ h (by rw[arm_eval_Attribute,hb])
end
noncomputable def tFld(K:vga)(ta:TE)(f:Str):TE:=λσ H Q=>ta σ H λx H1=>∃a C dx fs v,x=.ref a/\H1 a=some (.ins C dx fs)/\Cls K C/\zc4 K C f/\fs.lookup f=some v/\Q v H1
noncomputable def sFld(K:vga)(ta tv:TE)(f:Str):TS:=λD σ H=>tv σ H λy H1=>ta σ H1 λx H2=>∃a C dx fs,x=.ref a/\H2 a=some (.ins C dx fs)/\Cls K C/\zc4 K C f/\fs.length<1000/\
 D.nx σ (upd H2 a (.ins C dx (putF f y fs)))
section
variable{X:Cx}{o e value:Expr}{f:Str}{pos pos' tpos:Pos}{ta tv:TE}
theorem zvb(he:PE X e ta)(hb:attributeBase e f X.env (eval e X.env)=eval e X.env):PE X (.Attribute e f pos) (tFld X.K ta f):=by
 intro pins s σ H Q I h
 refine zr6 hb (thn (he pins s σ H _ I h) λu s1 z9=>z9.el λx H1 I1 rx hq0=>?_)
 obtain⟨a,C,dx,fs,v,ex,ea,c,n,l,q⟩:=hq0
 subst ex
 obtain rfl:u=Value.ref a:=rx
 exact zk0 I1 ea c n l λu' s2 I2 ru=>⟨v,H1,I2,ru,q⟩
theorem zvc(ha:PE X o ta)(hv:PE X value tv)(hs:swapsWith value (some (.Attribute o f pos')) pos.line X.env=pure false):PS X (.Assign [.Attribute o f pos'] value pos) (sFld X.K ta tv f):=by
 intro pins s σ H D I h
 refine plainObj_wpAny_Assign_Attribute (thn (hv pins s σ H _ I h) λu s1 z9=>z9.el λy H1 I1 ry q=>thn (ha pins s1 σ H1 _ I1 q) λov s2 z9=>z9.el λx H2 I2 rx ⟨a,C,dx,fs,ex,ea,c,n,l,q2⟩=>?_) hs
 subst ex
 obtain rfl:ov=Value.ref a:=rx
 exact zk1 I2 ea c n l ry λs3 I3=>⟨σ,_,I3,q2⟩
theorem zr7{pl:Sem Bool}{m:Str}{apos:Pos}{args:List Expr}{pins:List (Addr×Obj)}{s:Shared}{σ:St}{H:Hp}{Q:Value->Shared->Prop}{te:TE}(he:PE X e te)(I:Inv X pins σ H s)
 (h:te σ H λx H1=>∃a C dx fs g,x=.ref a/\H1 a=some (.ins C dx fs)/\Cls X.K C/\Meth X.K C m g/\fs.lookup m=none/\
   ∀s1,Inv X pins σ H1 s1->wpAny (model X.prog X.w) X.A (callWith pos (.ref g) [.ref a] (backTo pos (starEach args X.env)) (backToKw pos (keywordEach [] X.env))) Q X.xe s1)
 (ht:eval (.Call (.Attribute e m apos) args [] pos) X.env=(do
   let ov <-eval e X.env
   standAt apos.atName
   let (f,first) <-holding [ov] (getMethod ov m pl)
   callWith pos f first (backTo pos (starEach args X.env)) (backToKw pos (keywordEach [] X.env)))) :
 wpAny (model X.prog X.w) X.A (eval (.Call (.Attribute e m apos) args [] pos) X.env) Q X.xe s:=by
 refine PySem.W.methodCall_KW (pl:=pl) (thn (he pins s σ H _ I h) λu s1 z9=>z9.el λx H1 I1 rx ⟨a,C,dx,fs,g,ex,ea,c,k,l,q⟩=>?_) ht
 subst ex
 obtain rfl:u=Value.ref a:=rx
 exact zfg I1 ea c k l (q s1 I1)
end
section
variable{X:Cx}{pins:List (Addr×Obj)}{σ:St}{H:Hp}{s:Shared}{A:Around}{E:Value->Shared->Prop}{Q:Value->Shared->Prop}{c:Value}{b:Bool}
inductive TyOf(K:vga)(H:Hp):V->Value->Prop where
 |non:TyOf K H .non (.type "NoneType")
 |bl (x:Bool):TyOf K H (.bl x) (.type "bool")
 |int (i:Int):TyOf K H (.int i) (.type "int")
 |str (x:Str):TyOf K H (.str x) (.type "str")
 |flt (x:UInt64):TyOf K H (.flt x) (.type "float")
 |lst {a:Addr} {xs:List V} (e:H a=some (.lst xs)):TyOf K H (.ref a) (.type "list")
 |frz {a:Addr} {o:Obj} {xs:List V} (e:H a=some (.frz o (.lst xs))):TyOf K H (.ref a) (.type "list")
 |tup {a:Addr} {xs:List V} (e:H a=some (.tup xs)):TyOf K H (.ref a) (.type "tuple")
 |dK {a:Addr} {kvs:List (Key×V)} (e:H a=some (.dK kvs)):TyOf K H (.ref a) (.type "dict")
 |dT {a:Addr} {kvs:List (List Key×V)} (e:H a=some (.dT kvs)):TyOf K H (.ref a) (.type "dict")
 |ins {a C dx:Addr} {fs:List (Str×V)} (e:H a=some (.ins C dx fs)) (cl:Cls K C) (ha:PySem.W.findIn K (.ref C) "__class__" = some (some (.builtin "object.__class__")))
   (hn:PySem.W.specialIn K (.builtin "object.__class__") "__get__" = some (some (.builtin "getset_descriptor.__get__"))) (htk:PySem.W.takesIn K (.builtin "object.__class__")=some true)
   (hm:PySem.W.mroIn K C (.type "object")=some true):TyOf K H (.ref a) (.ref C)
theorem zl9{x:V}{u t:Value}(I:Inv X pins σ H s)(rx:RelV x u)(ty:TyOf X.K H x t)(e:PySem.W.kitOne X.K t c=some b)(h:∀tk,Q (.bool b) {s with toks:=tk}) :
 wpAny (model X.prog X.w) A (call (.builtin "isinstance") [u,c]) Q E s:=by
 cases ty with
 |non=>cases(show u=Value.none from rx);exact vbp PySem.W.kitx_none I.kIn True.intro e (λz=>nomatch z) h
 |bl y=>cases(show u=Value.bool y from rx);exact vbp PySem.W.kitx_bool I.kIn True.intro e (λz=>nomatch z) h
 |int i=>obtain⟨t,q⟩:=(show ∃t,u=Value.int i t from rx);cases q;exact vbp PySem.W.kitx_int I.kIn True.intro e (λz=>nomatch z) h
 |str y=>obtain⟨t,q⟩:=(show ∃t,u=Value.str y t from rx);cases q;exact vbp PySem.W.kitx_str I.kIn True.intro e (λz=>nomatch z) h
 |flt y=>obtain⟨t,q⟩:=(show ∃t,u=Value.float y t from rx);cases q;exact vbp PySem.W.kitx_float I.kIn True.intro e (λz=>nomatch z) h
 | @lst a xs ea=>
  cases(show u=Value.ref a from rx)
  obtain⟨_,_,n,_,h1⟩:=(show ObjOk X.prog X.w H s.heap a (.lst xs)from I.hok a _ ea)
  exact vbp PySem.W.kitx_list I.kIn ⟨_,h1,rfl⟩ e (λz=>nomatch z) h
 | @frz a ob xs ea=>
  cases(show u=Value.ref a from rx)
  obtain⟨_,_,_,n,_,h1⟩:=(show ObjOk X.prog X.w H s.heap a (.frz ob (.lst xs))from I.hok a _ ea)
  exact vbp PySem.W.kitx_list I.kIn ⟨_,h1,rfl⟩ e (λz=>nomatch z) h
 | @tup a xs ea=>
  cases(show u=Value.ref a from rx)
  obtain⟨_,_,_,p⟩:=(show ObjOk X.prog X.w H s.heap a (.tup xs)from I.hok a _ ea)
  obtain⟨o,h1,h2,_⟩:=p
  exact vbp PySem.W.kitx_tuple I.kIn ⟨o,h1,h2⟩ e (λz=>nomatch z) h
 | @dK a kvs ea=>
  cases(show u=Value.ref a from rx)
  obtain⟨_,_,vs,_,p⟩:=(show ObjOk X.prog X.w H s.heap a (.dK kvs)from I.hok a _ ea)
  obtain⟨o,es,ep,h1,h2,_⟩:=p
  exact vbp PySem.W.kitx_dict I.kIn ⟨o,h1,h2.1⟩ e (λz=>nomatch z) h
 | @dT a kvs ea=>
  cases(show u=Value.ref a from rx)
  obtain⟨_,_,xs,_,o,es,ep,h1,h2,_⟩:=(show ObjOk X.prog X.w H s.heap a (.dT kvs)from I.hok a _ ea)
  exact vbp PySem.W.kitx_dict I.kIn ⟨o,h1,h2.1⟩ e (λz=>nomatch z) h
 | @ins a C dx fs ea cl ha hn htk hm=>
  cases(show u=Value.ref a from rx)
  obtain⟨mA,O,_⟩:=zga I.hok ea
  obtain⟨od,J,_⟩:=O.look
  exact vbp (PySem.W.kitx_own (cl.get _) cl.hd ha hn htk hm) I.kIn J e (λz=>nomatch z) h
end
structure Room(k:Nat)(A:Around):Prop where
 hd:A.handled=none
 dp:A.depth+3*k+5<recursionLimit
 un:A.units+16*k+200<cLine
theorem Room.deeper{k:Nat}{A:Around}(r:Room (k+1) A)(env:Env):Room k (A.deeper env):=
 ⟨r.hd,by have:=r.dp;show A.depth+1+3*k+5<_;omega,by have:=r.un;show A.units+3+16*k+200<_;omega⟩
theorem zk2{A:Around}{C:Addr}{us:List Value}{kw:List (Str×Value)}:(A.under (.builtin "type.__call__" ⟨.ref C::us,kw⟩)).depth=A.depth+1:=by
 first|rfl|simp[Around.under,Code.weight,Code.isCreation,Code.isGuard,Code.isCaller,Code.frames,Code.isFrame,guardIds]
theorem zk3{A:Around}{C:Addr}{us:List Value}{kw:List (Str×Value)}:(A.under (.builtin "type.__call__" ⟨.ref C::us,kw⟩)).units=A.units+1:=by
 first|rfl|simp[Around.under,Code.cUnits,Code.frames,Code.isFrame]
theorem Room.make{k:Nat}{A:Around}(r:Room (k+1) A)(C:Addr)(us:List Value)(kw:List (Str×Value)):Room k (A.under (.builtin "type.__call__" ⟨.ref C::us,kw⟩)):=
 ⟨r.hd,by have:=r.dp;rw[zk2];omega,by have:=r.un;rw[zk3];omega⟩
theorem Room.depth{k:Nat}{A:Around}(r:Room k A):A.depth<recursionLimit:=by have:=r.dp;omega
theorem Room.units{k:Nat}{A:Around}(r:Room k A):A.units+64<cLine:=by have:=r.un;omega
noncomputable def tNil:TA:=λ_ H Q=>Q [] H
noncomputable def tCons(ta:TE)(tr:TA):TA:=λσ H Q=>ta σ H λx H1=>tr σ H1 λxs H2=>Q (x::xs) H2
section
variable{X:Cx}{e:Expr}{es:List Expr}{te:TE}{t:TA}{pos:Pos}
theorem zjo:PA X [] tNil:=λ_ _ _ _ H Q I h=>Calls.spliced_nil ⟨[],H,I,.nil,h⟩
theorem zej(ha:PE X e te)(hr:PA X es t)(hs:starEach (e::es) X.env=(false,eval e X.env)::starEach es X.env:=by rfl):PA X (e::es) (tCons te t):=by
 intro pos pins s σ H Q I h
 rw[hs]
 show wpAny _ _ (spliced ((false,eval e X.env)::backTo pos (starEach es X.env))) _ _ s
 refine Calls.spliced_cons (thn (ha pins s σ H _ I h) λu s1 z9=>z9.el λx H1 I1 r1 q1=>?_)
 exact thn (hr pos pins s1 σ H1 _ I1 q1) λus s2 z9=>z9.el λxs H2 I2 r2 q2=>⟨x::xs,H2,I2,.cons r1 r2,q2⟩
noncomputable def tTup(t:TA):TE:=λσ H Q=>t σ H λxs H1=>xs.length<=sizeLine/\∀p,H1 p=none->Q (.ref p) (upd H1 p (.tup xs))
noncomputable def tLst(t:TA):TE:=λσ H Q=>t σ H λxs H1=>xs.length<=sizeLine/\∀p,H1 p=none->Q (.ref p) (upd H1 p (.lst xs))
theorem zvd{x1}(h:PA X es t):PE X (.Tuple es x1 pos) (tTup t):=by
 intro pins s σ H Q I hq
 refine wpAny_Tuple_spliced (thn (h pos pins s σ H _ I hq) λus s1 z9=>z9.el λxs H1 I1 r ⟨z,q⟩=>⟨by rw[<-r.length];exact z,?_⟩)
 have hf:H1 s1.heap.objs.size=none:=I1.hok.fresh (vai _)
 refine⟨.ref s1.heap.objs.size,upd H1 s1.heap.objs.size (.tup xs),I1.laid (t':=s1.toks) (λb u e=>vae _ e) (vai _) ?_,rfl,q _ hf⟩
 exact⟨z,us,r,zbp.new _ _⟩
theorem zve(h:PA X es t):PE X (.List es pos) (tLst t):=by
 intro pins s σ H Q I hq
 refine wpAny_List_spliced (thn (h pos pins s σ H _ I hq) λus s1 z9=>z9.el λxs H1 I1 r ⟨z,q⟩=>⟨by rw[<-r.length];exact z,?_⟩)
 have hf:H1 s1.heap.objs.size=none:=I1.hok.fresh (vai _)
 refine⟨.ref s1.heap.objs.size,upd H1 s1.heap.objs.size (.lst xs),I1.laid (t':=s1.toks) (λb u e=>vae _ e) (vai _) ?_,rfl,q _ hf⟩
 exact⟨z,us,0,r,vas _ rfl⟩
end
noncomputable abbrev Sp:=List V->Hp->VK->XK->Prop
noncomputable abbrev CXT:=List Env->Hp->Shared->XK->Value->Shared->Prop
structure Env0(P:Program)(w:World)(K:vga)(mg:Str->Option Value)(base:Heap)(A:Around)(outer:List Env)(s:Shared)(H:Hp):Prop where
 frames:A.frames=some outer
 mod:Mod K mg base
 bs:∀b o,base.get? b=some o->s.heap.get? b=some o/\H b=none
 bsz:base.objs.size<=s.heap.objs.size
 funs:s.heap.FunFrames base outer
 frf:∀b∈frs outer,H b=none
 hok:HOk P w H s.heap
 bare:AllBare s.gens
noncomputable def CE(outer:List Env)(P:Program)(w:World)(H:Hp)(s:Shared)(Q:VK)(u:Value)(s':Shared):Prop:=
 ∃v H',s'.os=s.os/\AllBare s'.gens/\Un (frs outer) [] H H' s.heap s'.heap/\HOk P w H' s'.heap/\RelV v u/\Q v H'
noncomputable def CR(CX:CXT)(outer:List Env)(P:Program)(w:World)(H:Hp)(s:Shared)(Q:VK)(E:XK)(r:Result)(s':Shared):Prop:=
 match r with
 |.ok (.ret u)=>CE outer P w H s Q u s'
 |.ok _=>False
 |.error e=>CX outer H s E e s'
structure FnOk(P:Program)(w:World)(K:vga)(mg:Str->Option Value)(base:Heap)(CX:CXT)(k:Nat)(f:Addr)(fd:FuncData)(ps:List Str)(sp:Sp):Prop where
 len:∀vs H Q E,sp vs H Q E->vs.length=ps.length
 run:∀(A:Around)(outer:List Env)(s:Shared)(H:Hp)(args:Args)(us:List Value)(vs:List V)(Q:VK)(E:XK),Room k A->Env0 P w K mg base A outer s H->BindsTo s fd args (ps.zip us)->Vals vs us->sp vs H Q E->
  codeAny (model P w) A (.call (.ref f) args) (CR CX outer P w H s Q E) s
theorem Env0.make{P:Program}{w:World}{K:vga}{mg:Str->Option Value}{base:Heap}{A:Around}{outer:List Env}{s:Shared}{H:Hp}(e:Env0 P w K mg base A outer s H)(C:Addr)(us:List Value)(kw:List (Str×Value)) :
 Env0 P w K mg base (A.under (.builtin "type.__call__" ⟨.ref C::us,kw⟩)) outer s H:=⟨by first|exact e.frames|(simpa[Around.under,Code.envs,Code.isFrame,pushEnvs]using e.frames),e.mod,e.bs,e.bsz,e.funs,e.frf,e.hok,e.bare⟩
section
variable{X:Cx}{pins:List (Addr×Obj)}{σ:St}{H:Hp}{s s':Shared}
theorem Inv.env0(I:Inv X pins σ H s):Env0 X.prog X.w X.K X.mg X.base X.A X.stack s H:=
 ⟨I.ok.frames,I.ok.mod,I.bs,vbx I.ok.bsz I.sz,I.stack,I.stkFree,I.hok,I.bare⟩
theorem Inv.after{Q:VK}{u:Value}(I:Inv X pins σ H s)(h:CE X.stack X.prog X.w H s Q u s'):EP X pins σ Q u s':=by
 obtain⟨v,H',os,bare,un,hok,r,q⟩:=h
 obtain⟨hh,g,d,t,os'⟩:=s'
 obtain rfl:os'=s.os:=os
 exact⟨v,H',I.call (h':=hh) (g':=g) (d':=d) (t':=t) (ch:=[]) un hok bare (λb z=>absurd z (by simp)),r,q⟩
end
noncomputable def tCall(sp:Sp)(dvs:List V)(E:XK)(t:TA):TE:=λσ H Q=>t σ H λvs H1=>sp (vs++dvs) H1 Q E
noncomputable def tMeth(C:Addr)(m:Str)(sp:Sp)(dvs:List V)(E:XK)(ta:TE)(t:TA):TE:=λσ H Q=>ta σ H λx H1=>∃a dx fs,x=.ref a/\H1 a=some (.ins C dx fs)/\fs.lookup m=none/\
 t σ H1 λvs H2=>sp (x:: (vs++dvs)) H2 Q E
noncomputable def tMake(C:Addr)(sp:Sp)(dvs:List V)(E:XK)(t:TA):TE:=λσ H Q=>t σ H λvs H1=>∀x dx,H1 x=none->H1 dx=none->dx≠x->
 sp (.ref x:: (vs++dvs)) (upd (upd H1 dx (.own x)) x (.ins C dx [])) (λv H2=>v=.non/\Q (.ref x) H2) E
noncomputable def Binds(K:vga)(fd:FuncData)(ps:List Str)(ds:List Value):Prop:=
 ∀(s:Shared)(us:List Value),K.In s.heap->(us++ds).length=ps.length->BindsTo s fd ⟨us,[]⟩ (ps.zip (us++ds))
theorem Binds.all{K:vga}{fd:FuncData}{ps:List Str}(h:∀us:List Value,us.length=ps.length->bindArgs fd ⟨us,[]⟩=pure (ps.zip us)):Binds K fd ps []:=λs us _ hl=>by
 rw[vb2]at hl ⊢
 exact .of_eq (h us hl)
noncomputable def zek(CX:CXT)(X:Cx)(E:XK):Prop:=∀(pins:List (Addr×Obj)) (σ:St) (H:Hp) (s:Shared) (e:Value) (s':Shared),Inv X pins σ H s->CX X.stack H s E e s'->X.xe e s'
section
variable{X:Cx}{CX:CXT}{k:Nat}{f C:Addr}{fd:FuncData}{ps:List Str}{sp:Sp}{dvs:List V}{ds:List Value}{E:XK}{x m:Str}{p pos apos:Pos}{e o:Expr}{es:List Expr}{ta:TE}{t:TA}
theorem zma{pins:List (Addr×Obj)}{σ:St}{H:Hp}{s:Shared}{Q:VK}{us:List Value}{vs:List V}(F:FnOk X.prog X.w X.K X.mg X.base CX k f fd ps sp)(hr:Room k X.A)(hb:Binds X.K fd ps ds)(hd:Vals dvs ds)(hx:zek CX X E)
 (I:Inv X pins σ H s) (r:Vals vs us) (h:sp (vs++dvs) H Q E):wpAny (model X.prog X.w) X.A (call (.ref f) us) (EP X pins σ Q) X.xe s:=by
 have r2:Vals (vs++dvs) (us++ds):=r.append hd
 have hl:(us++ds).length=ps.length:=by rw[<-r2.length];exact F.len _ _ _ _ h
 refine wpAny_call (ved (F.run X.A X.stack s H ⟨us,[]⟩ (us++ds) (vs++dvs) Q E hr I.env0 (hb s us I.kIn hl) r2 h) λr s' hq=>?_)
 cases r with
 |error e=>exact hx pins σ H s e s' I hq
 |ok fl=>
  cases fl with
  |ret u=>exact I.after hq
  |next=>exact False.elim hq
  |brk=>exact False.elim hq
  |cont=>exact False.elim hq
theorem zmb(F:FnOk X.prog X.w X.K X.mg X.base CX k f fd ps sp)(hr:Room k X.A)(hg:Gl X x)(hm:X.mg x=some (.ref f))(hk:PySem.W.keepIn X.K (.ref f)=true)(hb:Binds X.K fd ps ds)(hd:Vals dvs ds)(hx:zek CX X E)
 (ha:PA X (e::es) t) (hdb:(x==("__debug__" : Str))=false:=by decide) (he:starEach (e::es) X.env=(false,eval e X.env)::starEach es X.env:=by rfl) (hpl:(backTo pos (starEach es X.env)).any (·.1)=false:=by rfl) :
 PE X (.Call (.Name x p) (e::es) [] pos) (tCall sp dvs E t):=by
 intro pins s σ H Q I h
 refine vc3 (zf9 I hg hm ?_ hdb)
 refine PySem.W.callWith_K (h₀:=X.base) I.ok.mod.kin hk (thn (ha pos pins s σ H _ I h) λus s1 z9=>z9.el λvs H1 I1 r q=>⟨I1.kIn,?_⟩) he hpl
 exact zma F hr hb hd hx I1 r q
theorem zo6(F:FnOk X.prog X.w X.K X.mg X.base CX k f fd ps sp)(hr:Room k X.A)(hg:Gl X x)(hm:X.mg x=some (.ref f))(hk:PySem.W.keepIn X.K (.ref f)=true)(hb:Binds X.K fd ps ds)(hd:Vals dvs ds)(hx:zek CX X E)
 (hdb:(x==("__debug__" : Str))=false:=by decide):PE X (.Call (.Name x p) [] [] pos) (tCall sp dvs E tNil):=by
 intro pins s σ H Q I h
 refine vc3 (zf9 I hg hm ?_ hdb)
 exact PySem.W.callWith_K0 I.kIn hk (zma (us:=[]) F hr hb hd hx I .nil h)
theorem zr8{pl:Sem Bool}(he:PE X o ta)(c:Cls X.K C)(hm:Meth X.K C m f)(F:FnOk X.prog X.w X.K X.mg X.base CX k f fd ps sp)(hr:Room k X.A)(hb:Binds X.K fd ps ds)(hd:Vals dvs ds)(hx:zek CX X E)(ha:PA X (e::es) t)
 (hst:starEach (e::es) X.env=(false,eval e X.env)::starEach es X.env:=by rfl) (hpl:(backTo pos (starEach es X.env)).any (·.1)=false:=by rfl)
 (ht:eval (.Call (.Attribute o m apos) (e::es) [] pos) X.env=(do
   let ov <-eval o X.env
   standAt apos.atName
   let (f,first) <-holding [ov] (getMethod ov m pl)
   callWith pos f first (backTo pos (starEach (e::es) X.env)) (backToKw pos (keywordEach [] X.env))):=by rfl) :
 PE X (.Call (.Attribute o m apos) (e::es) [] pos) (tMeth C m sp dvs E ta t):=by
 intro pins s σ H Q I h
 refine PySem.W.methodCall_KW (pl:=pl) (thn (he pins s σ H _ I h) λu s1 z9=>z9.el λx H1 I1 rx ⟨a,dx,fs,ex,ea,l,q⟩=>?_) ht
 subst ex
 obtain rfl:u=Value.ref a:=rx
 refine zfg I1 ea c hm l ?_
 refine PySem.W.callWith_K (first:=[.ref a]) (h₀:=X.base) I.ok.mod.kin hm.kp (thn (ha pos pins s1 σ H1 _ I1 q) λus s2 z9=>z9.el λvs H2 I2 r q2=>⟨I2.kIn,?_⟩) hst hpl
 exact zma (us:=.ref a::us) (vs:=.ref a::vs) F hr hb hd hx I2 (.cons rfl r) q2
structure Mk(K:vga)(C f:Addr):Prop where
 makes:PySem.W.makesIn K C=true
 init:PySem.W.findIn K (.ref C) "__init__" = some (some (.ref f))
 fn:PySem.W.isFn K (.ref f)=true
 kp:PySem.W.keepIn K (.ref C)=true
theorem zo7{pins:List (Addr×Obj)}{σ:St}{H:Hp}{s:Shared}{Q:VK}{us:List Value}{vs:List V}(M:Mk X.K C f)(F:FnOk X.prog X.w X.K X.mg X.base CX k f fd ps sp)(hr:Room (k+1) X.A)(hb:Binds X.K fd ps ds)(hd:Vals dvs ds)
 (hx:zek CX X E) (I:Inv X pins σ H s) (r:Vals vs us)
 (h:∀x dx,H x=none->H dx=none->dx≠x->sp (.ref x:: (vs++dvs)) (upd (upd H dx (.own x)) x (.ins C dx [])) (λv H2=>v=.non/\Q (.ref x) H2) E) :
 wpAny (model X.prog X.w) X.A (call (.ref C) us) (EP X pins σ Q) X.xe s:=by
 have hq:=h (s.heap.objs.size+1) s.heap.objs.size (I.hok.fresh (vdf _)) (I.hok.fresh (vai _)) (va4 (vbo _))
 have I2:=Inv.made (C:=C) I
 have r2:Vals (V.ref (s.heap.objs.size+1):: (vs++dvs)) (Value.ref (s.heap.objs.size+1):: (us++ds)):=.cons rfl (r.append hd)
 have hl:(Value.ref (s.heap.objs.size+1)::us++ds).length=ps.length:=by
  have e:=r2.length
  rw[F.len _ _ _ _ hq]at e
  exact e.symm
 refine wpAny_call (zo5 (f:=f) I.kIn M.makes M.init (vd5.mp M.fn) (ved (F.run _ X.stack _ _ ⟨Value.ref (s.heap.objs.size+1)::us,[]⟩ (Value.ref (s.heap.objs.size+1):: (us++ds)) _ _ E (hr.make C us [])
  (I2.env0.make C us []) (hb _ (Value.ref (s.heap.objs.size+1)::us) I2.kIn hl) r2 hq) λr s' hq'=>?_))
 cases r with
 |error e=>exact hx pins σ _ _ e s' I2 hq'
 |ok fl=>
  cases fl with
  |ret u=>
   obtain⟨v,H',I3,rv,ev,q3⟩:=I2.after hq'
   subst ev
   exact⟨rv,⟨V.ref (s.heap.objs.size+1),H',I3,rfl,q3⟩⟩
  |next=>exact False.elim hq'
  |brk=>exact False.elim hq'
  |cont=>exact False.elim hq'
theorem zmc(M:Mk X.K C f)(F:FnOk X.prog X.w X.K X.mg X.base CX k f fd ps sp)(hr:Room (k+1) X.A)(hg:Gl X x)(hm:X.mg x=some (.ref C))(hb:Binds X.K fd ps ds)(hd:Vals dvs ds)(hx:zek CX X E)
 (ha:PA X (e::es) t) (hdb:(x==("__debug__" : Str))=false:=by decide) (he:starEach (e::es) X.env=(false,eval e X.env)::starEach es X.env:=by rfl) (hpl:(backTo pos (starEach es X.env)).any (·.1)=false:=by rfl) :
 PE X (.Call (.Name x p) (e::es) [] pos) (tMake C sp dvs E t):=by
 intro pins s σ H Q I h
 refine vc3 (zf9 I hg hm ?_ hdb)
 refine PySem.W.callWith_K (h₀:=X.base) I.ok.mod.kin M.kp (thn (ha pos pins s σ H _ I h) λus s1 z9=>z9.el λvs H1 I1 r q=>⟨I1.kIn,?_⟩) he hpl
 exact zo7 M F hr hb hd hx I1 r q
end
structure FnScope(N P:List Str)(sc:Scope):Prop where
 kind:sc.kind=.function
 co:sc.isCoroutine=false
 gen:sc.isGenerator=false
 nd:N.Nodup
 pre:N.take P.length=P
 par:∀x∈P,sc.names.lookup x=some .local\/sc.names.lookup x=some .cell
 nofree:∀y∈sc.names,y.2≠.free
theorem zhi{kindOf:Str->Option NameKind}{x:Str}:∀{binds:List (Str×Value)} {m:Str->Option Value},(∀v,(x,v)∉binds)->bindL kindOf binds m x=m x
 |[],_,_=>rfl
 |(n,v)::r,m,h=>by
  unfold bindL
  rw[zhi λw hw=>h w (vad _ hw)]
  split
  .have:x≠n:=by rintro rfl;exact h v vaf
   simp[this]
  .rfl
theorem zhj{kindOf:Str->Option NameKind}{x:Str}:∀{binds:List (Str×Value)} {m:Str->Option Value},(∀v,(x,v)∉binds)->bindC kindOf binds m x=m x
 |[],_,_=>rfl
 |(n,v)::r,m,h=>by
  unfold bindC
  rw[zhj λw hw=>h w (vad _ hw)]
  split
  .rfl
  .have:x≠n:=by rintro rfl;exact h v vaf
   simp[this]
theorem zhk{kindOf:Str->Option NameKind}{x:Str}{v:Value}:∀{P:List Str} {vs:List Value} {i:Nat} {m:Str->Option Value},P.Nodup->P[i]?=some x->vs[i]?=some v->kindOf x=some .local->
 bindL kindOf (P.zip vs) m x=some v
 |[],_,_,_,_,h,_,_=>by simp at h
 |_::_,[],_,_,_,_,h,_=>by simp at h
 |p::P,w::vs,0,m,nd,h1,h2,hk=>by
  simp at h1 h2;subst h1;subst h2
  show bindL kindOf ((p,w)::P.zip vs) m p=_
  unfold bindL
  rw[zhi λv hv=>(vdj.mp nd).1 (List.of_mem_zip hv).1,if_pos hk]
  simp
 |p::P,w::vs,i+1,m,nd,h1,h2,hk=>by
  show bindL kindOf ((p,w)::P.zip vs) m x=_
  unfold bindL
  exact zhk (i:=i) (vdj.mp nd).2 (by simpa using h1) (by simpa using h2) hk
theorem zhl{kindOf:Str->Option NameKind}{x:Str}{v:Value}:∀{P:List Str} {vs:List Value} {i:Nat} {m:Str->Option Value},P.Nodup->P[i]?=some x->vs[i]?=some v->kindOf x≠some .local->
 bindC kindOf (P.zip vs) m x=some v
 |[],_,_,_,_,h,_,_=>by simp at h
 |_::_,[],_,_,_,_,h,_=>by simp at h
 |p::P,w::vs,0,m,nd,h1,h2,hk=>by
  simp at h1 h2;subst h1;subst h2
  show bindC kindOf ((p,w)::P.zip vs) m p=_
  unfold bindC
  rw[zhj λv hv=>(vdj.mp nd).1 (List.of_mem_zip hv).1,if_neg hk]
  simp
 |p::P,w::vs,i+1,m,nd,h1,h2,hk=>by
  show bindC kindOf ((p,w)::P.zip vs) m x=_
  unfold bindC
  exact zhl (i:=i) (vdj.mp nd).2 (by simpa using h1) (by simpa using h2) hk
noncomputable def start(N:List Str)(vs:List V):St:=vs.map some++vgc (N.length-vs.length) none
noncomputable def cxOf(CX:CXT)(P:Program)(w:World)(K:vga)(mg:Str->Option Value)(base:Heap)(N:List Str)(qual:Str)(scope:Scope)(f:Addr)(cd:Value)(A:Around)(outer:List Env)(s:Shared)(H:Hp)(E:XK):Cx where
 prog:=P
 w:=w
 K:=K
 mg:=mg
 base:=base
 A:=A.deeper (envOfC qual scope s.heap.objs.size f cd)
 N:=N
 s₀:=s
 H₀:=H
 env:=envOfC qual scope s.heap.objs.size f cd
 outer:=outer
 stack:=envOfC qual scope s.heap.objs.size f cd::outer
 ex:=[]
 calm:=true
 fn:=λ_=>true
 pn:=[]
 xe:=λe s'=>wpAny (model P w) (A.deeper (envOfC qual scope s.heap.objs.size f cd)) (leaving (envOfC qual scope s.heap.objs.size f cd) e) (λ_ s''=>CX outer H s E e s'') (λe' s''=>CX outer H s E e' s'') s'
theorem zjp{sc:Scope}{n:Nat}{x:Str}(h:sc.names.lookup x=some .cell):∃c,(cellsFrom n sc.names []).lookup x=some c:=by
 have q:=PySem.W.cellsFrom_some sc.names n [] (.inl h)
 exact Option.isSome_iff_exists.mp q
theorem zmd{CX:CXT}{P:Program}{w:World}{K:vga}{mg:Str->Option Value}{base:Heap}{N ps:List Str}{qual:Str}{scope:Scope}{f:Addr}{cd:Value}{A:Around}{outer:List Env}{s s1:Shared}{H:Hp}{E:XK}{us:List Value}{vs:List V}
 (S:FnScope N ps scope) (hd:A.handled=none) (e0:Env0 P w K mg base A outer s H) (hl:vs.length=ps.length) (r:Vals vs us)
 (x:InCallC s s.heap.objs.size (bindL (envOfC qual scope s.heap.objs.size f cd).kindOf (ps.zip us) λ_=>none) (cellsFrom (s.heap.objs.size+1) scope.names []) (bindC (envOfC qual scope s.heap.objs.size f cd).kindOf (ps.zip us) λ_=>none) s1) :
 Inv (cxOf CX P w K mg base N qual scope f cd A outer s H E) [] (start N vs) H s1:=by
 have hpl:ps.length<=N.length:=by have:=vdv List.length S.pre;rw[List.length_take]at this;omega
 obtain⟨h1,tk,rfl,hk⟩:=x.done
 have noA:∀b:Addr,b∉(cxOf CX P w K mg base N qual scope f cd A outer s H E).ex:=λb z=>absurd (show b∈([]:List Addr)from z) (by simp)
 refine⟨⟨e0.mod,S.kind,rfl,rfl,vai _,λy z c h1 h2=>?_,λy hy=>?_,λy c _ h=>?_,λ_=>hd,Around.frames_deeper e0.frames,.inr ⟨rfl,rfl⟩,λb z=>absurd z (noA b),e0.bs,e0.bsz,λb _ _=>noA b,λb z=>absurd z (noA b),e0.funs,e0.frf⟩,
  rfl,e0.bare,Un.kept hk,⟨_,x.toInCall.ns,λi y v h1 h2 h3=>?_⟩,λy c h=>⟨_,x.cell y c h⟩,e0.hok.fresh (vai _),λy c h=>?_,λp hp=>absurd (show p∈([]:List (Addr×Obj))from hp) (by simp),e0.hok.kept hk,?_⟩
 .exact name_of_addr x.apart (vcy h1) (vcy h2)
 .have hy:scope.names.lookup y=some .cell\/scope.names.lookup y=some .free:=hy
  rcases hy with hy|hy
  .exact zjp hy
  .exact absurd rfl (S.nofree _ (vcy hy))
 .exact vdr (x.above y c (vcy h))
 .have hi:i<vs.length:=by
   unfold start at h2
   by_cases hi:i<vs.length
   .exact hi
   .rw[vau (by simpa using hi)]at h2
    rw[vco]at h2
    split at h2<;>cases h2
  have ha:vs[i]?=some v:=by
   unfold start at h2
   rw[vbg (by simpa using hi),va2]at h2
   cases e:vs[i]? with
   |none=>rw[e]at h2;cases h2
   |some a=>rw[e]at h2;cases h2;rfl
  obtain⟨u,hu,rv⟩:=r.get ha
  have hp:ps[i]?=some y:=by
   rw[<-S.pre,List.getElem?_take_of_lt (by omega)];exact h1
  have ndP:ps.Nodup:=by rw[<-S.pre];exact S.nd.sublist (List.take_sublist _ _)
  refine⟨u,rv,?_⟩
  rcases S.par y (vdc hp)with k|k
  .exact .inl ⟨k,zhk ndP hp hu k⟩
  .obtain⟨c,e⟩:=zjp (n:=s.heap.objs.size+1) k
   refine .inr ⟨.inl k,c,e,?_⟩
   have q:=x.cell y c e
   rw[zhl ndP hp hu (by show scope.names.lookup y≠_;rw[k];decide)]at q
   exact q
 .exact e0.hok.fresh (vdr (x.above y c (vcy h)))
 .unfold start
  show _=N.length
  rw[vag,vab,vcl]
  omega
theorem fn_of{CX:CXT}{P:Program}{w:World}{K:vga}{mg:Str->Option Value}{base:Heap}{k:Nat}{f:Addr}{name qual:Str}{params:Arguments}{body:List Stmt}{scope:Scope}{dV kV doc pm cdv ct oc:Value}{an od:Option Addr}
 {osl:Array (Option Value)} {N ps:List Str} {sp:Sp} (lk:K.lookup f=some ⟨oc,od,.func (PySem.W.fnOf name qual params body scope dV kV doc pm an cdv ct),osl⟩) (hcd:PySem.W.codeIn K cdv qual=true) (S:FnScope N ps scope)
 (len:∀vs H Q E,sp vs H Q E->vs.length=ps.length)
 (hbody:∀(A:Around)(outer:List Env)(s:Shared)(H:Hp)(vs:List V)(Q:VK)(E:XK),Room k (A.deeper (envOfC qual scope s.heap.objs.size f cdv))->sp vs H Q E->
   ∃t,PSs (cxOf CX P w K mg base N qual scope f cdv A outer s H E) body t/\t {nx:=λ_ H'=>Q .non H',rt:=Q} (start N vs) H) :
 FnOk P w K mg base CX (k+1) f (PySem.W.fnOf name qual params body scope dV kV doc pm an cdv ct) ps sp:=by
 refine⟨len,λA outer s H args us vs Q E hr e0 hb r hsp=>?_⟩
 have hl:=len _ _ _ _ hsp
 have KX:K.In s.heap:=e0.mod.kin.keeps λb o e=>(e0.bs b o e).1
 have lim:s.heap.NoLimit:=e0.mod.nolimit.keeps λb o e=>(e0.bs b o e).1
 have hkind:∀y∈ps.zip us,scope.names.lookup y.1=some .local\/(scope.names.lookup y.1=some .cell/\((cellsFrom (s.heap.objs.size+1) scope.names []).lookup y.1).isSome=true):=λhq0 hy=>by
  obtain⟨n,v⟩:=hq0
  rcases S.par n (List.of_mem_zip hy).1 with q|q
  .exact .inl q
  .exact .inr ⟨q,PySem.W.cellsFrom_some _ _ _ (.inl q)⟩
 refine codeAny_call_function hr.depth (KX _ _ lk) rfl S.co S.gen rfl (PySem.W.codeRec_of KX hcd) (hb _ _ _ _ ?_)
 refine wpAny_newFunctionEnv_cells S.kind hkind λenv he s1 x=>?_
 subst he
 refine⟨lim.keeps x.toInCall.keep,codeAny_func ?_⟩
 obtain⟨t,ht,hq⟩:=hbody A outer s H vs Q E (hr.deeper _) hsp
 have I:Inv (cxOf CX P w K mg base N qual scope f cdv A outer s H E) [] (start N vs) H s1:=zmd S hr.hd e0 hl r x
 refine vc0 (ht [] s1 (start N vs) H _ I hq) (λfl s' hs=>?_) λe s' hs=>hs
 have fin:∀{σ':St}{H':Hp}{v:V}{u:Value},Inv (cxOf CX P w K mg base N qual scope f cdv A outer s H E) [] σ' H' s'->RelV v u->Q v H'->CE outer P w H s Q u s':=
  λ{σ' H' v u} J rv q=>⟨v,H',J.os,J.bare,J.base,J.hok,rv,q⟩
 cases fl with
 |ret u=>
  obtain⟨v,σ',H',J,rv,q⟩:=hs
  exact fin J rv q
 |next=>
  obtain⟨σ',H',J,q⟩:=hs
  exact fin (v:=V.non) (u:=Value.none) J rfl q
 |brk=>
  obtain⟨_,_,_,q⟩:=hs
  exact False.elim q
 |cont=>
  obtain⟨_,_,_,q⟩:=hs
  exact False.elim q
section
variable{X:Cx}{x:Str}{p pos:Pos}{e:Expr}{es:List Expr}{t:TA}{id T:String}{r:List V->Hp->VK->Prop}
noncomputable def tCB(r:List V->Hp->VK->Prop)(t:TA):TE:=λσ H Q=>t σ H λvs H1=>r vs H1 Q
theorem zjq(hc:CallR X (.builtin id) r)(hg:Gl X x)(hm:X.mg x=none)(hv:bootBuiltins x=some (.builtin id))(ha:PA X (e::es) t)(hn:x≠"__name__":=by decide)(hdb:(x==("__debug__" : Str))=false:=by decide)
 (he:starEach (e::es) X.env=(false,eval e X.env)::starEach es X.env:=by rfl) (hpl:(backTo pos (starEach es X.env)).any (·.1)=false:=by rfl):PE X (.Call (.Name x p) (e::es) [] pos) (tCB r t):=by
 intro pins s σ H Q I h
 refine vc3 (zfe I hg hm hv ?_ hn hdb)
 exact PyProof.Rows.callWith_builtin1 (thn (ha pos pins s σ H _ I h) λus s1 z9=>z9.el λvs H1 I1 r1 q1=>hc pins s1 σ H1 vs us Q I1 r1 q1) he hpl
theorem zme(hc:CallR X (.type T) r)(hg:Gl X x)(hm:X.mg x=none)(hv:bootBuiltins x=some (.type T))(ha:PA X (e::es) t)(hn:x≠"__name__":=by decide)(hdb:(x==("__debug__" : Str))=false:=by decide)
 (he:starEach (e::es) X.env=(false,eval e X.env)::starEach es X.env:=by rfl) (hpl:(backTo pos (starEach es X.env)).any (·.1)=false:=by rfl):PE X (.Call (.Name x p) (e::es) [] pos) (tCB r t):=by
 intro pins s σ H Q I h
 refine vc3 (zfe I hg hm hv ?_ hn hdb)
 exact vcr (thn (ha pos pins s σ H _ I h) λus s1 z9=>z9.el λvs H1 I1 r1 q1=>hc pins s1 σ H1 vs us Q I1 r1 q1) he hpl
end
end L2
namespace HT
open PySem PyProof.Rows
section
variable{prog:Program}{w:World}{A:Around}{E:Value->Shared->Prop}{s:Shared}
theorem cat_tup{t b:Addr}{vs ws:List Value}{Q:Value->Shared->Prop}(ht:IsTup s.heap t vs.toArray)(hb:IsTup s.heap b ws.toArray)(hv:vs≠[])
 (h1:ws=[]->Q (.ref t) s) (h2:ws≠[]->Q (.ref s.heap.objs.size) {s with heap:=s.heap.push {cls:=.type "tuple",data:=.seq (vs++ws).toArray}})
 (hsz:vs.length+ws.length<=sizeLine):wpAny (model prog w) A (binaryOp .Add (.ref t) (.ref b)) Q E s:=by
 obtain⟨⟨cls,dd,data,sl⟩,ho,hc,n,hd⟩:=id ht
 obtain⟨⟨cls2,dd2,data2,sl2⟩,ho2,hc2,n2,hd2⟩:=id hb
 simp only at hc hd hc2 hd2
 subst hc hd hc2 hd2
 have e:vs.toArray++ws.toArray=(vs++ws).toArray:=by simp
 by_cases hw:ws=[]
 .exact concat_meets ⟨_,ho,rfl⟩ ⟨_,ho2,rfl⟩ noFill_tuple_add seq_tuple_add PySem.F.slot_tuple_add PySem.F.entry_tuple_add (PySem.F.args_tuple_add_2 _ _)
   (tuple_addW1 t b vs.toArray ws.toArray n n2 dd dd2 sl sl2 (by simpa using hv) (by simp[hw])) ⟨ho,ho2,h1 hw⟩
 .refine concat_meets ⟨_,ho,rfl⟩ ⟨_,ho2,rfl⟩ noFill_tuple_add seq_tuple_add PySem.F.slot_tuple_add PySem.F.entry_tuple_add (PySem.F.args_tuple_add_2 _ _)
   (tuple_addW2 t b vs.toArray ws.toArray n n2 dd dd2 sl sl2 (by simpa using hv) (by simpa using hw) (by rw[van,van];exact hsz)) ⟨ho,ho2,?_⟩
  rw[e]
  exact h2 hw
noncomputable def sIx(n d:Nat):Option Int->Nat
 |none=>d
 |some v=>if v<0 then(v+ (n:Int)).toNat else min v.toNat n
theorem zvf(n d:Nat)(hd:d<=n)(o:Option Int):sIx n d o<=n:=by
 cases o with
 |none=>exact hd
 |some v=>
  show(if v<0 then(v+ (n:Int)).toNat else min v.toNat n)<=n
  by_cases hv:v<0
  .rw[if_pos hv];omega
  .rw[if_neg hv];exact Nat.min_le_right _ _
theorem zmf(v:Int)(n d:Nat):(if v<0 then max (v+ (n:Int)) 0 else min v (n:Int))=((sIx n d (some v):Nat):Int):=by
 show(if v<0 then max (v+ (n:Int)) 0 else min v (n:Int))=(((if v<0 then(v+ (n:Int)).toNat else min v.toNat n):Nat):Int)
 by_cases hv:v<0
 .simp only[if_pos hv];omega
 .simp only[if_neg hv];omega
theorem zk4(lo hi:Option Int)(n:Nat):Builtin.Slice.sliceAdjust lo hi 1 (n:Int)=(((sIx n 0 lo:Nat):Int),((sIx n n hi:Nat):Int)):=by
 have h1:¬((1:Int)<0):=by omega
 unfold Builtin.Slice.sliceAdjust
 simp only[h1,vbb]
 refine Prod.ext ?_ ?_
 .cases lo with
  |none=>rfl
  |some v=>exact zmf v n 0
 .cases hi with
  |none=>rfl
  |some v=>exact zmf v n n
theorem zk5(i j:Nat):Builtin.Slice.slicePlaces (i:Int) (j:Int) 1=j-i:=by
 unfold Builtin.Slice.slicePlaces
 have h1:(1:Int)>0:=by omega
 simp only[h1,va3,Int.ediv_one]
 split<;>omega
theorem zb1{v:Value}{o:Option Int}{Q:Option Int->Shared->Prop}(p:IsPart v o)(h:Q o s):wpAny (model prog w) A (Builtin.Slice.slicePartIndex v) Q E s:=by
 cases p with
 |none=>exact slicePart_none h
 |int i t=>exact slicePart_int h
theorem zb8{sl:Addr}{vl vu:Value}{lo hi:Option Int}{n:Nat}{Q:Int×Int×Nat->Shared->Prop}(hs:s.heap.IsSliceOf sl vl vu .none)(pl:IsPart vl lo)(pu:IsPart vu hi)
 (h:Q (((sIx n 0 lo:Nat):Int),1,sIx n n hi-sIx n 0 lo) s):wpAny (model prog w) A (Builtin.Slice.sliceApplied (.ref sl) (pure (n:Int))) Q E s:=by
 obtain⟨os,hos,hcs,hds⟩:=id hs
 unfold Builtin.Slice.sliceApplied Builtin.Slice.sliceFields
 refine vaa (vaa (vbz hos hds (x:=vl) rfl (vaa (vbz hos hds (x:=vu) rfl (vaa (vbz hos hds (x:=.none) rfl (vah ?_)))))))
 refine vaa (slicePart_none ?_)
 show wpAny _ _ (if((1:Int)==0)=true then _ else _) _ _ s
 rw[if_neg (by decide)]
 refine vaa (zb1 pl (vaa (zb1 pu (vaa (vah ?_)))))
 show wpAny _ _ (match Builtin.Slice.sliceAdjust lo hi 1 (n:Int)with|(lo,hi)=>pure (lo,(1:Int),Builtin.Slice.slicePlaces lo hi 1)) _ _ s
 rw[zk4 lo hi n]
 show wpAny _ _ (pure (((sIx n 0 lo:Nat):Int),(1:Int),Builtin.Slice.slicePlaces ((sIx n 0 lo:Nat):Int) ((sIx n n hi:Nat):Int) 1)) _ _ s
 rw[zk5]
 exact vah h
theorem zo8(xs:Array Value)(i k:Nat):((List.range k).filterMap λ(m:Nat)=>xs[((i:Int)+ (m:Int)*1).toNat]?).toArray=((xs.toList.drop i).take k).toArray:=by
 have e:(λ(m:Nat)=>xs[((i:Int)+ (m:Int)*1).toNat]?)=λm=>xs[i+m]?:=by
  funext m
  have:((i:Int)+ (m:Int)*1).toNat=i+m:=by omega
  rw[this]
 rw[e]
 have:=pick_run xs i k
 rw[List.filterMap_map]at this
 have e2:((λx=>xs[x]?)∘λx=>i+x)=λm=>xs[i+m]?:=rfl
 rw[e2]at this
 rw[this]
theorem getItem_tuple_cut{t sl:Addr}{items:Array Value}{vl vu:Value}{lo hi:Option Int}{Q:Value->Shared->Prop}(ht:IsTup s.heap t items)(hs:s.heap.IsSliceOf sl vl vu .none)(pl:IsPart vl lo)(pu:IsPart vu hi)
 (hw:¬(sIx items.size 0 lo=0/\sIx items.size items.size hi=items.size))
 (h:Q (.ref s.heap.objs.size) {s with heap:=s.heap.push {cls:=.type "tuple",data:=.seq ((items.toList.drop (sIx items.size 0 lo)).take (sIx items.size items.size hi-sIx items.size 0 lo)).toArray}})
 (hsz:items.size<=sizeLine):wpAny (model prog w) A (getItem (.ref t) (.ref sl)) Q E s:=by
 have htake:sizeOk (.seq ((items.toList.drop (sIx items.size 0 lo)).take (sIx items.size items.size hi-sIx items.size 0 lo)).toArray):=by
  show((items.toList.drop (sIx items.size 0 lo)).take (sIx items.size items.size hi-sIx items.size 0 lo)).toArray.size<=sizeLine
  rw[van,List.length_take,List.length_drop,vcq]
  omega
 have hj:sIx items.size items.size hi<=items.size:=zvf _ _ (vai _) hi
 obtain⟨os,hos,hcs,hds⟩:=id hs
 have hTs:s.TypeIs (.ref sl) "slice":=⟨os,hos,hcs⟩
 unfold getItem
 try with_reducible refine vcx ?_
 first|refine vaa (vah ?_)|skip
 refine vaa (wpAny_sequenceKey ht.typeIs (by decide) ?_)
 refine vaa (vb0 (name:=Str.ofString "__getitem__") ht.typeIs vaz
  (vb4 vaz ht.typeIs entry_tuple_getitem ?_ (args_tuple_getitem _ _)))
 show wpAny _ _ (Builtin.Tuple.tupleItemsOf (.ref t) >>= _) _ _ s
 refine vaa (tupleItemsOf_ ht ?_)
 refine vaa (vee hTs ?_)
 rw[if_pos (by decide)]
 refine vaa (zb8 hs pl pu ?_)
 have hno:¬((((sIx items.size 0 lo:Nat):Int)==0&& (1:Int)==1&& (sIx items.size items.size hi-sIx items.size 0 lo)==items.size)=true):=by
  intro q
  rw[vac,vac]at q
  have q1:((sIx items.size 0 lo:Nat):Int)=0:=eq_of_beq q.1.1
  have q2:sIx items.size items.size hi-sIx items.size 0 lo=items.size:=eq_of_beq q.2
  exact hw ⟨by omega,by omega⟩
 show wpAny _ _ (if(((sIx items.size 0 lo:Nat):Int)==0&& (1:Int)==1&& (sIx items.size items.size hi-sIx items.size 0 lo)==items.size)=true then _ else _) _ _ s
 rw[if_neg hno,zo8]
 first
  |exact vaa (m:=Builtin.Tuple.tupleExact _) (vbq (vah ⟨_,rfl,vah h⟩) htake)
  |exact vaa (m:=Builtin.Tuple.tupleExact _) (vbq (vaa (vah (vah ⟨_,rfl,vah h⟩))) htake)
  |exact vaa (vaa (m:=Builtin.Tuple.tupleExact _) (vbq (vah (vah ⟨_,rfl,vah h⟩)) htake))
  |exact vaa (vaa (m:=Builtin.Tuple.tupleExact _) (vbq (vah ⟨_,rfl,vah h⟩) htake))
end
end HT
namespace L2
open PySem PySem.Spec PyProof.Rows
noncomputable abbrev TO:=St->Hp->(Option Int->Hp->Prop)->Prop
noncomputable def PO(X:Cx)(e:Option Expr)(t:TO):Prop:=
 ∀(pins:List (Addr×Obj))(s:Shared)(σ:St)(H:Hp)(Q:Option Int->Hp->Prop),Inv X pins σ H s->t σ H Q->
  wpAny (model X.prog X.w) X.A (evalPart e X.env) (λu s'=>∃o H',Inv X pins σ H' s'/\IsPart u o/\Q o H') X.xe s
noncomputable def zr9:TO:=λ_ H Q=>Q none H
noncomputable def tPart(t:TE):TO:=λσ H Q=>t σ H λx H1=>∃i,x=.int i/\Q (some i) H1
section
variable{X:Cx}{e:Expr}{te:TE}{lo hi:Option Expr}{tl th:TO}{pos p2:Pos}
theorem zsa:PO X none zr9:=by
 intro pins s σ H Q I h
 rw[evalPart_none]
 exact vah ⟨none,H,I,.none,h⟩
theorem zsb(h:PE X e te):PO X (some e) (tPart te):=by
 intro pins s σ H Q I hw
 rw[evalPart_some]
 refine thn (h pins s σ H _ I hw) λu s1 z9=>z9.el λx H1 I1 r1 q1=>?_
 obtain⟨i,rfl,q⟩:=q1
 obtain⟨t,rfl⟩:=r1
 exact⟨some i,H1,I1,.int i t,q⟩
noncomputable def SlR(X:Cx)(r:V->Option Int->Option Int->Hp->VK->Prop):Prop:=
 ∀(pins:List (Addr×Obj))(s:Shared)(σ:St)(H:Hp)(x:V)(v vl vu:Value)(lo hi:Option Int)(sl:Addr)(Q:VK),Inv X pins σ H s->RelV x v->s.heap.IsSliceOf sl vl vu .none->IsPart vl lo->IsPart vu hi->r x lo hi H Q->
  ∃T id,typeLookup (.type T) "__getitem__" = pure (some (.builtin id))/\s.TypeIs v T/\wpAny (model X.prog X.w) X.A (getItem v (.ref sl)) (EP X pins σ Q) X.xe s
theorem SlR.or{r r':V->Option Int->Option Int->Hp->VK->Prop}(h:SlR X r)(h':SlR X r'):SlR X (λx lo hi H Q=>r x lo hi H Q\/r' x lo hi H Q):=by
 intro pins s σ H x v vl vu lo hi sl Q I rx hs pl pu q
 rcases q with q|q
 .exact h pins s σ H x v vl vu lo hi sl Q I rx hs pl pu q
 .exact h' pins s σ H x v vl vu lo hi sl Q I rx hs pl pu q
noncomputable def tSl(r:V->Option Int->Option Int->Hp->VK->Prop)(te:TE)(tl th:TO):TE:=λσ H Q=>te σ H λx H1=>tl σ H1 λl H2=>th σ H2 λu H3=>r x l u H3 Q
theorem zo9{r:V->Option Int->Option Int->Hp->VK->Prop}(hr:SlR X r)(he:PE X e te)(hl:PO X lo tl)(hu:PO X hi th):PE X (.Subscript e (.Slice lo hi none p2) pos) (tSl r te tl th):=by
 intro pins s σ H Q I h
 refine Subscript_ (thn (he pins s σ H _ I h) λv s1 z9=>z9.el λx H1 I1 r1 q1=>?_)
 refine wpAny_Slice (thn (hl pins s1 σ H1 _ I1 q1) λvl s2 ⟨l,H2,I2,pl,q2⟩=>thn (hu pins s2 σ H2 _ I2 q2) λvu s3 hq0=>?_)
 obtain⟨u,H3,I3,pu,q3⟩:=hq0
 rw[evalPart_none]
 refine vah ?_
 have I4:Inv X pins σ H3 {s3 with heap:=s3.heap.push {cls:=.type "slice",data:=.fields #[vl,vu,.none]}}:=I3.kept (t':=s3.toks) λb ob q=>vae _ q
 obtain⟨T,id,hT,ht,hg⟩:=hr pins {s3 with heap:=s3.heap.push {cls:=.type "slice",data:=.fields #[vl,vu,.none]}} σ H3 x v vl vu l u s3.heap.objs.size Q I4 r1 (Heap.IsSliceOf.new ..) pl pu q3
 show wpAny (model X.prog X.w) X.A (subscriptTail e (.Slice lo hi none p2) v (.ref s3.heap.objs.size)) (EP X pins σ Q) X.xe {s3 with heap:=s3.heap.push {cls:=.type "slice",data:=.fields #[vl,vu,.none]}}
 exact tail_any (ops:=[.ref s3.heap.objs.size,v]) ht hT hg (by with_unfolding_all rfl)
noncomputable def cutV(xs:List V)(lo hi:Option Int):List V:=(xs.drop (HT.sIx xs.length 0 lo)).take (HT.sIx xs.length xs.length hi-HT.sIx xs.length 0 lo)
theorem zel(xs:List V)(lo hi:Option Int):(cutV xs lo hi).length<=xs.length:=by
 unfold cutV
 rw[List.length_take,List.length_drop]
 omega
noncomputable def rSlT(K:vga):V->Option Int->Option Int->Hp->VK->Prop:=λx lo hi H Q=>∃a xs,x=.ref a/\SqT K H a xs/\
 ¬(HT.sIx xs.length 0 lo=0/\HT.sIx xs.length xs.length hi=xs.length)/\∀p,H p=none->Q (.ref p) (upd H p (.tup (cutV xs lo hi)))
theorem zvg:SlR X (rSlT X.K):=by
 intro pins s σ H x v vl vu lo hi sl Q I rx hs pl pu h
 obtain⟨a,xs,rfl,hx,hw,q⟩:=h
 cases rx
 obtain⟨its,r,ht,hz⟩:=I.tuple hx
 have hlen:its.toArray.size=xs.length:=by rw[van];exact r.length.symm
 refine⟨"tuple",_,vaz.lookup,ht.typeIs,?_⟩
 refine HT.getItem_tuple_cut ht hs pl pu (by rw[hlen];exact hw) ?_ (by rw[hlen];exact hz)
 rw[hlen]
 refine⟨.ref s.heap.objs.size,_,I.laid (t':=s.toks) (o:=.tup (cutV xs lo hi)) (λb ob q=>vae _ q) (vai _) ?_,rfl,q _ (I.hok.fresh (vai _))⟩
 exact⟨vbx (zel xs lo hi) hz,_,(r.drop (HT.sIx xs.length 0 lo)).take (HT.sIx xs.length xs.length hi-HT.sIx xs.length 0 lo),zbp.new _ _⟩
noncomputable def rCatT(K:vga):R2:=λx y H Q=>∃a b xs ys,x=.ref a/\y=.ref b/\SqT K H a xs/\SqT K H b ys/\xs≠[]/\xs.length+ys.length<=sizeLine/\
 (ys=[]->Q (.ref a) H)/\(ys≠[]->∀p,H p=none->Q (.ref p) (upd H p (.tup (xs++ys))))
theorem Vals.nil_iff{xs:List V}{us:List Value}(r:Vals xs us):us=[]↔xs=[]:=by
 cases r with
 |nil=>simp
 |cons _ _=>simp
theorem zsc:OpR X (binaryOp .Add) (rCatT X.K):=by
 intro pins s σ H x y v u Q I rx ry h
 obtain⟨a,b,xs,ys,rfl,rfl,ha,hb,hx,hz,q1,q2⟩:=h
 cases rx
 cases ry
 obtain⟨its,r1,p1,_⟩:=I.tuple ha
 obtain⟨its2,r2,p2,_⟩:=I.tuple hb
 refine HT.cat_tup p1 p2 (λz=>hx (r1.nil_iff.mp z)) (λz=>⟨.ref a,H,I,rfl,q1 (r2.nil_iff.mp z)⟩) (λz=>?_) (by rw[<-r1.length,<-r2.length];exact hz)
 refine⟨.ref s.heap.objs.size,_,I.laid (t':=s.toks) (o:=.tup (xs++ys)) (λb ob q=>vae _ q) (vai _) ?_,rfl,q2 (λw=>z (r2.nil_iff.mpr w)) _ (I.hok.fresh (vai _))⟩
 exact⟨by rw[vag];exact hz,_,r1.append r2,zbp.new _ _⟩
end
noncomputable def ixN(n:Nat)(i:Int):Option Nat:=if 0<=i then(if i<n then some i.toNat else none)else if -(n:Int)<=i then some (i+n).toNat else none
noncomputable def atI{α:Type}(xs:List α)(i:Int):Option α:=(ixN xs.length i).bind λj=>xs[j]?
theorem zmg{n:Nat}{i:Int}{j:Nat}(h:ixN n i=some j):seqIndex? i n=some j/\j<n/\-(n:Int)<=i/\i<n:=by
 unfold ixN at h
 by_cases h0:0<=i
 .rw[if_pos h0]at h
  by_cases h1:i<n
  .rw[if_pos h1]at h
   have e:i.toNat=j:=vbj h
   exact⟨by rw[seqIndex_of h0 h1,e],by omega,by omega,h1⟩
  .rw[if_neg h1]at h;cases h
 .rw[if_neg h0]at h
  by_cases h1:-(n:Int)<=i
  .rw[if_pos h1]at h
   have e:(i+n).toNat=j:=vbj h
   exact⟨by rw[seqIndex_neg (by omega) h1,e],by omega,h1,by omega⟩
  .rw[if_neg h1]at h;cases h
theorem zmh{α:Type}{xs:List α}{i:Int}{v:α}(h:atI xs i=some v):∃j,seqIndex? i xs.length=some j/\xs[j]?=some v/\j<xs.length/\-(xs.length:Int)<=i/\i<xs.length:=by
 unfold atI at h
 cases e:ixN xs.length i with
 |none=>rw[e]at h;cases h
 |some j=>
  rw[e]at h
  obtain⟨h1,h2,h3,h4⟩:=zmg e
  exact⟨j,h1,h,h2,h3,h4⟩
theorem zby{α:Type}{xs:List α}{j:Nat}{v:α}(h:xs[j]?=some v):atI xs (j:Int)=some v:=by
 have hj:j<xs.length:=(va8.mp h).1
 have e:ixN xs.length (j:Int)=some j:=by
  unfold ixN
  rw[if_pos (by omega),if_pos (by omega)];simp
 unfold atI;rw[e];exact h
noncomputable def ziw(b:Expr):Prop:=∀o i,subscripted b false o i=operate [o,i] (getItem o i)
noncomputable def IxR(X:Cx)(r:R2):Prop:=
 ∀(value slice:Expr)(pins:List (Addr×Obj))(s:Shared)(σ:St)(H:Hp)(x y:V)(v u:Value)(Q:VK),Inv X pins σ H s->RelV x v->RelV y u->r x y H Q->
  subscripted slice false v u=operate [v,u] (getItem v u)->wpAny (model X.prog X.w) X.A (subscriptTail value slice v u) (EP X pins σ Q) X.xe s
noncomputable def MtR(X:Cx)(id:String)(r:V->List V->Hp->VK->Prop):Prop:=
 ∀(pins:List (Addr×Obj))(s:Shared)(σ:St)(H:Hp)(x:V)(xs:List V)(v:Value)(us:List Value)(Q:VK),Inv X pins σ H s->RelV x v->Vals xs us->r x xs H Q->
  wpAny (model X.prog X.w) X.A (call (.builtin id) (v::us)) (EP X pins σ Q) X.xe s
section
variable{X:Cx}{a b:Expr}{ta tb:TE}{pos:Pos}
theorem IxR.or{r r':R2}(h:IxR X r)(h':IxR X r'):IxR X (λx y H Q=>r x y H Q\/r' x y H Q):=by
 intro value slice pins s σ H x y v u Q I rx ry q hs
 rcases q with q|q
 .exact h value slice pins s σ H x y v u Q I rx ry q hs
 .exact h' value slice pins s σ H x y v u Q I rx ry q hs
theorem pe_ix{r:R2}(hr:IxR X r)(ha:PE X a ta)(hb:PE X b tb)(hs:ziw b):PE X (.Subscript a b pos) (tOp r ta tb):=by
 intro pins s σ H Q I h
 exact Subscript_ (binT ha hb I h λv u s2 x y H2 I2 rx ry q=>hr a b pins s2 σ H2 x y v u Q I2 rx ry q (hs _ _))
noncomputable def rIxL(K:vga):R2:=λx y H Q=>∃p xs i v,x=.ref p/\y=.int i/\SqL K H p xs/\atI xs i=some v/\Q v H
noncomputable def rIxT(K:vga):R2:=λx y H Q=>∃p xs i v,x=.ref p/\y=.int i/\SqT K H p xs/\atI xs i=some v/\Q v H
theorem zsd:IxR X (rIxL X.K):=by
 intro value slice pins s σ H x y v u Q I rx ry h hs
 obtain⟨p,xs,i,z,rfl,rfl,hq,he,q⟩:=h
 cases rx
 obtain⟨t,rfl⟩:=ry
 obtain⟨its,r,pl,hz⟩:=I.list hq
 obtain⟨j,h1,h2,h3,h4,h5⟩:=zmh he
 obtain⟨w,ew,rw'⟩:=r.get h2
 have hl:=r.length
 have hn:=zhh
 have fin:EP X pins σ Q w s:=⟨z,H,I,rw',q⟩
 by_cases h0:0<=i
 .have hj:i.toNat=j:=by
   rw[seqIndex_of h0 h5]at h1
   exact vbj h1
  exact item_listR pl.isList h0 (by omega) (by rw[hj];simpa using ew) fin hs
 .have hj:(i+ (its.toArray.size:Int)).toNat=j:=by
   rw[seqIndex_neg (by omega) h4]at h1
   rw[van,<-hl]
   exact vbj h1
  exact subscriptTail_builtinR (x:=w) pl.isList.typeIs slot_list_getitem.lookup
   (wpAny_getItem_list_neg (Q:=λr s'=>r=w/\EP X pins σ Q r s') pl.isList (by omega) (by rw[van]<;>omega) (by omega) (by rw[hj];simpa using ew) ⟨rfl,fin⟩) hs
theorem zvh:IxR X (rIxT X.K):=by
 intro value slice pins s σ H x y v u Q I rx ry h hs
 obtain⟨p,xs,i,z,rfl,rfl,hq,he,q⟩:=h
 cases rx
 obtain⟨t,rfl⟩:=ry
 obtain⟨its,r,pl,hz⟩:=I.tuple hq
 obtain⟨j,h1,h2,h3,h4,h5⟩:=zmh he
 obtain⟨w,ew,rw'⟩:=r.get h2
 have hl:=r.length
 have hn:=zhh
 have fin:EP X pins σ Q w s:=⟨z,H,I,rw',q⟩
 exact subscriptTail_builtinR (x:=w) pl.typeIs slot_tuple_getitem.lookup
  (getItem_tuple (j:=j) (Q:=λr s'=>r=w/\EP X pins σ Q r s') pl (by omega) (by omega) (by rw[van,<-hl];exact h1) (by simpa using ew) ⟨rfl,fin⟩) hs
theorem zk6(its:List Value)(n j:Nat)(u:Value):Obj.mapSeq (·.setIfInBounds j u) {cls:=.type "list",data:=.seq its.toArray n} ={cls:=.type "list",data:=.seq (its.set j u).toArray n}:=by
 simp[Obj.mapSeq]
theorem Inv.lst{pins:List (Addr×Obj)}{σ:St}{H:Hp}{s:Shared}{p:Addr}{xs:List V}(I:Inv X pins σ H s)(h:H p=some (.lst xs)) :
 ∃(its:List Value) (n:Nat),Vals xs its/\s.heap.get? p=some {cls:=.type "list",data:=.seq its.toArray n}/\xs.length<=sizeLine:=by
 obtain⟨z,its,n,r,e⟩:=I.hok p _ h
 exact⟨its,n,r,e,z⟩
theorem Inv.lstUpd{pins:List (Addr×Obj)}{σ:St}{H:Hp}{s:Shared}{p:Addr}{xs ys:List V}{its its':List Value}{n n':Nat}{f:Obj->Obj}(I:Inv X pins σ H s)(h:H p=some (.lst xs))
 (ho:s.heap.get? p=some {cls:=.type "list",data:=.seq its.toArray n}) (hf:f {cls:=.type "list",data:=.seq its.toArray n} ={cls:=.type "list",data:=.seq its'.toArray n'}) (r:Vals ys its') (hz:ys.length<=sizeLine) (t:Nat) :
 Inv X pins σ (upd H p (.lst ys)) {s with heap:=s.heap.update p f,toks:=t}:=by
 have e:(s.heap.update p f).get? p=some {cls:=.type "list",data:=.seq its'.toArray n'}:=by
  rw[Heap.get?_update_self f ho (by rw[hf]<;>rfl),hf]
 refine I.write (x:=p) (e:=p) (by rw[h];trivial) (.inl rfl) (λb u hb q=>(Heap.get?_update_other _ _ (vbw hb)).trans q) ⟨_,e⟩ ?_
 exact⟨hz,its',n',r,e⟩
noncomputable def rSetL:V->V->V->Hp->(Hp->Prop)->Prop:=λo i v H Q=>∃p xs k j,o=.ref p/\i=.int k/\H p=some (.lst xs)/\ixN xs.length k=some j/\Q (upd H p (.lst (xs.set j v)))
theorem zpa:PSet X rSetL:=by
 intro pins s σ H o i v ov iv u Q I ro ri rv h
 obtain⟨p,xs,k,j,rfl,rfl,hp,hj,q⟩:=h
 cases ro
 obtain⟨t,rfl⟩:=ri
 obtain⟨its,n,r,ho,hz⟩:=I.lst hp
 obtain⟨h1,h2,h3,h4⟩:=zmg hj
 have hl:=r.length
 have hn:=zhh
 have I':Inv X pins σ (upd H p (.lst (xs.set j v))) {s with heap:=s.heap.update p (Obj.mapSeq (·.setIfInBounds j u))}:=
  I.lstUpd hp ho (zk6 its n j u) (r.set rv j) (by rw[vdk];exact hz) s.toks
 by_cases h0:0<=k
 .have hk:k.toNat=j:=by
   rw[seqIndex_of h0 h4]at h1
   exact vbj h1
  exact PySem.W.ki_setAt ho h0 (by omega) (by rw[van,<-hl];exact h4) (by rw[hk];exact⟨_,I',q⟩)
 .have hk:(k+ (its.toArray.size:Int)).toNat=j:=by
   rw[seqIndex_neg (by omega) h3]at h1
   rw[van,<-hl]
   exact vbj h1
  exact PySem.W.ki_setBack ho (by omega) (by rw[van,<-hl];exact h3) (by omega) (by rw[hk];exact⟨_,I',q⟩)
theorem zhm(lo hi:Option Int)(n:Nat):(sliceBounds lo hi none n).1=((HT.sIx n 0 lo:Nat):Int)/\(sliceBounds lo hi none n).2.1=((HT.sIx n n hi:Nat):Int)/\(sliceBounds lo hi none n).2.2=1:=by
 refine⟨?_,?_,rfl⟩
 .cases lo with
  |none=>simp[sliceBounds,HT.sIx]
  |some i=>
   simp only[sliceBounds,HT.sIx,Option.getD_none,show(1:Int)>0 by decide,va3]
   by_cases h:i<0
   .simp only[h,va3]<;>omega
   .simp only[h,vbb]<;>omega
 .cases hi with
  |none=>simp[sliceBounds,HT.sIx]
  |some i=>
   simp only[sliceBounds,HT.sIx,Option.getD_none,show(1:Int)>0 by decide,va3]
   by_cases h:i<0
   .simp only[h,va3]<;>omega
   .simp only[h,vbb]<;>omega
theorem zgb(its:List Value)(lo hi:Option Int):slicePick its.toArray lo hi none=((its.drop (HT.sIx its.length 0 lo)).take (HT.sIx its.length its.length hi-HT.sIx its.length 0 lo)).toArray:=by
 obtain⟨h1,h2,h3⟩:=zhm lo hi its.toArray.size
 unfold slicePick
 rw[h1,h2,h3]
 simp only[sliceRange_one,pick_run,van]<;>rfl
noncomputable def rSlL(K:vga):V->Option Int->Option Int->Hp->VK->Prop:=λx lo hi H Q=>∃a xs,x=.ref a/\SqL K H a xs/\∀p,H p=none->Q (.ref p) (upd H p (.lst (cutV xs lo hi)))
theorem zse:SlR X (rSlL X.K):=by
 intro pins s σ H x v vl vu lo hi sl Q I rx hs pl pu h
 obtain⟨a,xs,rfl,hx,q⟩:=h
 cases rx
 obtain⟨its,r,ht,hz⟩:=I.list hx
 have hlen:=r.length
 refine⟨"list",_,slot_list_getitem.lookup,ht.isList.typeIs,?_⟩
 refine wpAny_getItem_list_slice ht.isList hs pl pu .none (by simp) ?_ (by rw[van]<;>omega)
 rw[zgb,<-hlen]
 refine⟨.ref s.heap.objs.size,_,I.laid (t':=s.toks) (o:=.lst (cutV xs lo hi)) (λb ob q=>vae _ q) (vai _) ?_,rfl,q _ (I.hok.fresh (vai _))⟩
 exact⟨vbx (zel xs lo hi) hz,_,0,(r.drop (HT.sIx xs.length 0 lo)).take (HT.sIx xs.length xs.length hi-HT.sIx xs.length 0 lo),vas _ rfl⟩
theorem zhn:CallR X (.builtin "len") (λxs H Q=>∃p ys,xs=[.ref p]/\(SqL X.K H p ys\/SqT X.K H p ys)/\Q (.int ys.length) H):=by
 intro pins s σ H xs us Q I r h
 obtain⟨p,ys,rfl,hq,q⟩:=h
 obtain⟨u,rfl,rx⟩:=vals1 r
 cases rx
 have hn:=zhh
 rcases hq with hq|hq
 .obtain⟨its,r',pl,hz⟩:=I.list hq
  have hlen:=r'.length
  exact Calls.call_len_list pl.isList (by simp only[van]<;>omega) ⟨.int ys.length,H,I.tok _,⟨s.toks+1,by rw[van,hlen]⟩,q⟩
 .obtain⟨its,r',pl,hz⟩:=I.tuple hq
  have hlen:=r'.length
  exact len_tuple pl (by simp only[van]<;>omega) ⟨.int ys.length,H,I.tok _,⟨s.toks+1,by rw[van,hlen]⟩,q⟩
theorem zho:CallR X (.type "list") (λxs H Q=>∃p ys,xs=[.ref p]/\(SqL X.K H p ys\/SqT X.K H p ys)/\∀l,H l=none->Q (.ref l) (upd H l (.lst ys))):=by
 intro pins s σ H xs us Q I r h
 obtain⟨p,ys,rfl,hq,q⟩:=h
 obtain⟨u,rfl,rx⟩:=vals1 r
 cases rx
 have fin:∀(its:List Value),Vals ys its->ys.length<=sizeLine->∀(h':Heap)(c':Nat),(∀b o',s.heap.get? b=some o'->h'.get? b=some o')->
  h'.get? s.heap.objs.size=some {cls:=.type "list",dict:=none,data:=.seq its.toArray c',slots:=#[]}->EP X pins σ Q (.ref s.heap.objs.size) {s with heap:=h'}:=λits r' hz h' c' kp e=>
  ⟨.ref s.heap.objs.size,_,I.laid (t':=s.toks) kp (vai _) (show ObjOk X.prog X.w _ h' _ (.lst ys)from⟨hz,its,c',r',e⟩),rfl,q _ (I.hok.fresh (vai _))⟩
 rcases hq with hq|hq
 .obtain⟨its,r',pl,hz⟩:=I.list hq
  have hlen:=r'.length
  obtain⟨o,ho,hc,n,hd⟩:=pl.isList
  exact call_list_seq p (.inl rfl) ho hc hd (λh' c' kp e=>fin its r' hz h' c' kp e) (by simp only[van]<;>omega)
 .obtain⟨its,r',pl,hz⟩:=I.tuple hq
  have hlen:=r'.length
  obtain⟨o,ho,hc,n,hd⟩:=pl
  exact call_list_seq p (.inr rfl) ho hc hd (λh' c' kp e=>fin its r' hz h' c' kp e) (by simp only[van]<;>omega)
theorem zgc:CallR X (.type "tuple") (λxs H Q=>∃p ys,xs=[.ref p]/\((SqL X.K H p ys/\∀l,H l=none->Q (.ref l) (upd H l (.tup ys)))\/(SqT X.K H p ys/\Q (.ref p) H))):=by
 intro pins s σ H xs us Q I r h
 obtain⟨p,ys,rfl,h⟩:=h
 obtain⟨u,rfl,rx⟩:=vals1 r
 cases rx
 rcases h with⟨hq,q⟩|⟨hq,q⟩
 .obtain⟨its,r',pl,hz⟩:=I.list hq
  have hlen:=r'.length
  refine call_tuple_list pl.isList (λh' kp=>?_) (by simp only[van]<;>omega)
  have I1:Inv X pins σ H {s with heap:=h'}:=I.kept (t':=s.toks) kp
  have I2:Inv X pins σ (upd H h'.objs.size (.tup ys)) {s with heap:=h'.push {cls:=.type "tuple",data:=.seq its.toArray}}:=
   I1.laid (t':=s.toks) (λb o e=>vae _ e) (vai _) (show ObjOk X.prog X.w _ _ _ (.tup ys)from⟨hz,its,r',zbp.new _ _⟩)
  exact⟨.ref h'.objs.size,_,I2,rfl,q _ (I1.hok.fresh (vai _))⟩
 .obtain⟨its,r',pl,hz⟩:=I.tuple hq
  exact call_tuple_same pl ⟨.ref p,H,I,rfl,q⟩
noncomputable def tyV(K:vga)(T:String)(x:V)(H:Hp):Prop:=match x with
 |.str _=>T = "str"
 |.int _=>T = "int"
 |.ref p=>(T = "list"/\∃xs,SqL K H p xs)\/(T = "tuple"/\∃xs,SqT K H p xs)\/
  (T = "dict"/\((∃kvs,H p=some (.dK kvs))\/∃kvs,H p=some (.dT kvs)))\/(T = "set"/\∃S n,H p=some (.set S n))
 |_=>False
theorem zvi{pins:List (Addr×Obj)}{σ:St}{H:Hp}{s:Shared}{T:String}{x:V}{v:Value}(I:Inv X pins σ H s)(r:RelV x v)(ty:tyV X.K T x H) :
 s.TypeIs v T/\∀a,v=.ref a->∃ob,s.heap.get? a=some ob/\ob.dict=none:=by
 cases x with
 |str z=>
  obtain⟨t,rfl⟩:=r
  cases(show T = "str"from ty)
  exact⟨typeIs_str s z t,λ_ e=>nomatch e⟩
 |int i=>
  obtain⟨t,rfl⟩:=r
  cases(show T = "int"from ty)
  exact⟨typeIs_int s i t,λ_ e=>nomatch e⟩
 |ref p=>
  cases r
  rcases ty with⟨rfl,xs,hq⟩|⟨rfl,xs,hq⟩|⟨rfl,hk⟩|⟨rfl,S,n,hk⟩
  .obtain⟨its,_,pl,_⟩:=I.list hq
   refine⟨pl.isList.typeIs,λa e=>?_⟩
   cases e
   obtain⟨o,n,e,c,hd,_⟩:=pl
   exact⟨o,e,hd⟩
  .obtain⟨its,_,⟨o,h1,h2,_,h3⟩,_⟩:=I.tupleD hq
   refine⟨⟨o,h1,h2⟩,λa e=>?_⟩
   cases e
   exact⟨o,h1,h3⟩
  .have z:∃o,s.heap.get? p=some o/\o.ExactDict:=by
    rcases hk with⟨kvs,hk⟩|⟨kvs,hk⟩
    .obtain⟨_,_,_,_,o,_,_,e,ex,_⟩:=I.hok p _ hk
     exact⟨o,e,ex⟩
    .obtain⟨_,_,_,_,o,_,_,e,ex,_⟩:=I.hok p _ hk
     exact⟨o,e,ex⟩
   obtain⟨o,e,ex⟩:=z
   refine⟨⟨o,e,ex.1⟩,λa e2=>?_⟩
   cases e2
   exact⟨o,e,ex.2.1⟩
  .obtain⟨o,_,_,_,e,ex,_⟩:=I.hok p _ hk
   refine⟨⟨o,e,ex.1⟩,λa e2=>?_⟩
   cases e2
   exact⟨o,e,ex.2.1⟩
 |_=>exact False.elim ty
noncomputable def tBM(K:vga)(T:String)(r:V->List V->Hp->VK->Prop)(to:TE)(t:TA):TE:=λσ H Q=>to σ H λx H1=>tyV K T x H1/\t σ H1 λxs H2=>r x xs H2 Q
variable{o e:Expr}{es:List Expr}{to:TE}{t:TA}{name:Str}{apos cpos:Pos}{T id:String}{r:V->List V->Hp->VK->Prop}
theorem pe_bm(pa:PlainAttrs T)(slot:Slot T name id)(hty:typeOf (.builtin id)=pure (.type "method_descriptor"))(hm:MtR X id r)(ho:PE X o to)(ha:PA X (e::es) t)
 (hbase:attributeBase o name X.env (eval o X.env)=eval o X.env:=by rfl)
 (hfew:((backTo cpos (starEach (e::es) X.env)).all (λx=>!x.1)&& (backToKw cpos (keywordEach [] X.env)).all (λx=>x.1.isSome)
   && decide ((e::es).length+ ([]:List Keyword).length+ (if([]:List Keyword).isEmpty then 0 else 1)<30))=true:=by rfl)
 (hline:(apos.endLine==cpos.line)=true:=by rfl) (hs:starEach (e::es) X.env=(false,eval e X.env)::starEach es X.env:=by rfl) (hplain:(backTo cpos (starEach es X.env)).any (·.1)=false:=by rfl) :
 PE X (.Call (.Attribute o name apos) (e::es) [] cpos) (tBM X.K T r to t):=by
 intro pins s σ H Q I h
 refine wpAny_Call_method_late hbase hfew hline rfl (thn (ho pins s σ H _ I h) λv s1 z9=>z9.el λx H1 I1 r1 hq0=>?_)
 obtain⟨ty,q1⟩:=hq0
 obtain⟨h1,h2⟩:=zvi I1 r1 ty
 refine⟨T,id,pa,slot,hty,h1,h2,?_⟩
 have hA:=ha cpos pins s1 σ H1 _ I1 q1
 rw[hs]at hA ⊢
 refine Calls.callWith_builtin (by show(false|| (backTo cpos (starEach es X.env)).any (·.1))=false;rw[hplain]<;>rfl) (Calls.evalArgs_plain ?_)
 exact thn hA λus s2 z9=>z9.el λvs H2 I2 r2 q2=>hm pins s2 σ H2 x vs v us Q I2 r1 r2 q2
/- xs.append(e),list.index on a module's tuple .. are MtR facts of 06m -/
end
noncomputable def MtM(X:Cx)(id:String)(r:V->List V->Hp->VK->Prop):Prop:=
 ∀(pins:List (Addr×Obj))(s:Shared)(σ:St)(H:Hp)(x:V)(xs:List V)(v:Value)(us:List Value)(Q:VK),Inv X pins σ H s->RelV x v->Vals xs us->r x xs H Q->
  wpAny (model X.prog X.w) X.A (call (.builtin id) (v::us)) (EP X pins σ Q) X.xe s
theorem Vals.one:∀{x:V} {us:List Value},Vals [x] us->∃u,us=[u]/\RelV x u
 |_,_,.cons r .nil=>⟨_,rfl,r⟩
theorem Vals.reverse{xs:List V}{us:List Value}(h:Vals xs us):Vals xs.reverse us.reverse:=by
 induction h with
 |nil=>exact .nil
 |cons r t ih=>rw[vda,vda];exact Vals.append ih (.cons r .nil)
theorem Vals.rep{xs:List V}{us:List Value}(h:Vals xs us):∀k:Nat,Vals (vgc k xs).flatten (vgc k us).flatten
 |0=>.nil
 |k+1=>by
  rw[vbd,vbd,vch,vch]
  exact Vals.append h (Vals.rep h k)
theorem zhp(its:List Value):∀(k:Nat) (acc:List Value),
 List.foldl (λx1 x2=>x1++x2) acc.toArray (vgc k its.toArray)=(acc++(vgc k its).flatten).toArray
 |0,acc=>by simp
 |k+1,acc=>by
  have e:acc.toArray++its.toArray=(acc++its).toArray:=by simp
  have e2:(acc++its)++(vgc k its).flatten=acc++(vgc (k+1) its).flatten:=by
   rw[vbd,vch,vbr]
  rw[<-e2,<-zhp its k (acc++its),<-e,vbd,List.foldl_cons]
section
variable{X:Cx}{pins:List (Addr×Obj)}{σ:St}{H:Hp}{s:Shared}{l b:Addr}{xs ys zs:List V}
theorem Inv.lset{its its':List Value}{n:Nat}{f:Array Value->Array Value}{t':Nat}(I:Inv X pins σ H s)(hH:H l=some (.lst xs))
 (e:s.heap.get? l=some {cls:=.type "list",data:=.seq its.toArray n}) (hf:f its.toArray=its'.toArray) (hv:Vals ys its') (hz:ys.length<=sizeLine) :
 Inv X pins σ (upd H l (.lst ys)) {s with heap:=s.heap.update l (Obj.mapSeq f),toks:=t'}:=by
 have q:=PySem.IsL.update e f
 rw[hf]at q
 refine I.write (x:=l) (e:=l) (by rw[hH];exact trivial) (.inl rfl) (λb' u hb hu=>(Heap.get?_update_other s.heap (Obj.mapSeq f) (vbw hb)).trans hu) ⟨_,q⟩ ?_
 exact⟨hz,its',_,hv,q⟩
theorem Inv.lnew{its:List Value}{t':Nat}(I:Inv X pins σ H s)(hv:Vals ys its)(hz:ys.length<=sizeLine) :
 Inv X pins σ (upd H s.heap.objs.size (.lst ys)) {s with heap:=s.heap.push {cls:=.type "list",data:=.seq its.toArray},toks:=t'}:=
 I.laid (λ_ _ q=>vae _ q) (vai _) ⟨hz,its,0,hv,vas _ rfl⟩
theorem Inv.fresh(I:Inv X pins σ H s):H s.heap.objs.size=none:=I.hok.fresh (vai _)
theorem Inv.lstM(I:Inv X pins σ H s)(hH:H l=some (.lst xs)):xs.length<=sizeLine/\∃(its:List Value) (n:Nat),Vals xs its/\xs.length=its.length/\s.heap.get? l=some {cls:=.type "list",data:=.seq its.toArray n}:=by
 obtain⟨z,its,n,r,e⟩:=I.hok l _ hH
 exact⟨z,its,n,r,r.length,e⟩
theorem zpb{n:Nat}(h:n<=sizeLine):Builtin.List.listTooLong n=false:=by
 unfold Builtin.List.listTooLong
 exact vbe (by omega)
end
section
variable{X:Cx}
noncomputable def zsf:V->List V->Hp->VK->Prop:=λx vs H Q=>∃l xs y,x=.ref l/\vs=[y]/\H l=some (.lst xs)/\xs.length<sizeLine/\Q .non (upd H l (.lst (xs++[y])))
theorem zhq:MtM X "list.append" zsf:=by
 intro pins s σ H x vs v us Q I rx rv h
 obtain⟨l,xs,y,rfl,rfl,hH,hz,q⟩:=h
 cases rx
 obtain⟨u,rfl,ru⟩:=rv.one
 obtain⟨z,its,n,r,hl,e⟩:=I.lstM hH
 refine vd6 F.slot_list_append ⟨_,e,rfl⟩ F.entry_list_append (F.args_list_append_2 _ _) (PySem.list_append l its.toArray n u (by rw[van];omega)) ⟨e,?_⟩
 refine⟨.non,_,I.lset (its':=its++[u]) hH e (by simp) (r.append (.cons ru .nil)) ?_,rfl,q⟩
 rw[vag,vba]
 omega
noncomputable def zsg:V->List V->Hp->VK->Prop:=λx vs H Q=>∃l b xs zs,x=.ref l/\vs=[.ref b]/\H l=some (.lst xs)/\H b=some (.lst zs)/\xs.length+zs.length<=sizeLine/\Q .non (upd H l (.lst (xs++zs)))
theorem zvj:MtM X "list.extend" zsg:=by
 intro pins s σ H x vs v us Q I rx rv h
 obtain⟨l,b,xs,zs,rfl,rfl,hH,hB,hz,q⟩:=h
 cases rx
 obtain⟨u,rfl,ru⟩:=rv.one
 cases ru
 obtain⟨z,its,n,r,hl,e⟩:=I.lstM hH
 obtain⟨z2,its2,n2,r2,hl2,e2⟩:=I.lstM hB
 have hsz:its.toArray.size+its2.toArray.size<=sizeLine:=by rw[van,van];omega
 have hlong:¬(!its.toArray.isEmpty&&Builtin.List.listTooLong (its.toArray.size+its2.toArray.size))=true:=by
  rw[zpb hsz,Bool.and_false]
  exact vcb
 refine vd6 F.slot_list_extend ⟨_,e,rfl⟩ F.entry_list_extend (F.args_list_extend_2 _ _)
  (AutoSeq1.list_extend_list_list_0 l its.toArray n b its2.toArray n2 hlong (by rw[van];omega) (by omega)) ⟨e,e2,?_⟩
 refine⟨.non,_,I.lset (its':=its++its2) hH e (by simp) (r.append r2) ?_,rfl,q⟩
 rw[vag]
 omega
noncomputable def rCat:R2:=λx y H Q=>∃l b xs zs,x=.ref l/\y=.ref b/\H l=some (.lst xs)/\H b=some (.lst zs)/\xs.length+zs.length<=sizeLine/\∀p,H p=none->Q (.ref p) (upd H p (.lst (xs++zs)))
theorem zvk:OpR X (binaryOp .Add) rCat:=by
 intro pins s σ H x y v u Q I rx ry h
 obtain⟨l,b,xs,zs,rfl,rfl,hH,hB,hz,q⟩:=h
 cases rx
 cases ry
 obtain⟨z,its,n,r,hl,e⟩:=I.lstM hH
 obtain⟨z2,its2,n2,r2,hl2,e2⟩:=I.lstM hB
 refine PySem.P.add_list e e2 ?_ (by rw[van,van];omega)
 have ea:its.toArray++its2.toArray=(its++its2).toArray:=by simp
 rw[ea]
 exact⟨.ref _,_,I.lnew (t':=s.toks) (r.append r2) (by rw[vag];omega),rfl,q _ I.fresh⟩
theorem zmi{α:Type}(xs:List α)(k:Nat):(vgc k xs).flatten.length=k*xs.length:=by
 induction k with
 |zero=>simp
 |succ k ih=>rw[vbd,vch,vag,ih,Nat.succ_mul,Nat.add_comm]
end
end L2
namespace Att
open PySem PySem.W PySem.Calls PyProof.Rows
theorem zem{P:Params}{h:Heap}:∀(ns:List Int) (vs:List Value),WellAll P h vs (ns.map WData.int)->IntsAre vs ns:=by
 intro ns
 induction ns with
 |nil=>
  intro vs w
  rw[vdi]at w
  cases w
  exact .nil
 |cons n ns ih=>
  intro vs w
  rw[vao]at w
  cases w with
  |cons a b=>
   cases a
   exact .cons _ _ (ih _ b)
theorem zmj{l:OpenLaw}{n:Nat}(hn:l.most=some n){P:Params}{h:Heap}{args:List WData}{vals:List Value}
 (hpre:l.row.toRowW.claim.pre args=true) (hwl:WellAll P h vals args) :
 ∃a vs ns,vals=[Value.ref a]/\args=[WData.list (ns.map WData.int)]/\h.get? a=some {cls:=.type "list",data:=.seq vs.toArray}/\IntsAre vs ns/\ns.length<=n:=by
 have hsh:WShape.hasAll [] args [.list .int]=true:=(pre_splitW hpre).1
 have hc:l.pre.holds [] {args:=args}=true:=(pre_splitW hpre).2
 obtain⟨d,r,rfl,h1,h2⟩:=hasAllW_cons hsh
 obtain rfl:=hasAllW_nil h2
 obtain⟨xs,rfl,h3⟩:=hasW_list h1
 obtain⟨ns,rfl⟩:=items_int h3
 have hlen:ns.length<=n:=by
  unfold OpenLaw.pre at hc
  have h4:(WTm.not (.lt (.lit (.int (n:Int))) (.len (.arg 0)))).holds [] {args:=[.list (ns.map .int)]}=true:=by
   have h4:=(holds_andW hc).1
   rw[hn]at h4
   exact h4
  have h5:=condW_of h4 (w_not (w_lt w_lit (w_len_list (w_arg rfl))))
  rw[vab]at h5
  refine Nat.le_of_not_lt λq=>?_
  have q':(n:Int)< ((ns.length:Nat):Int):=by omega
  first
   |(rw[vbs q']at h5;exact absurd h5 (by decide))
   |(simp at h5;omega)
 cases hwl with
 |cons w1 w2=>
  cases w2
  cases w1 with
  |list ho hall=>exact⟨_,_,ns,rfl,rfl,ho,zem ns _ hall,hlen⟩
theorem zmk(l:OpenLaw)(args:List WData):l.row.toRowW.claim.post args (.bool true) args=true:=
 postW_of (r:=l.row.toRowW) (X:=(true==true))
  (show WShape.has [] (.bool true) .bool=true by first|rfl|decide|simp[WShape.has,WShape.arms,WShape.armsAll])
  (show(WTm.eq .res (.lit (.bool true))).value [] {args:=args,res:=some (.bool true),after:=args}=some (.bool (true==true))from w_eq_bool (w_res rfl) w_lit) rfl
theorem attach_call{l:OpenLaw}{n:Nat}{q:Program}{loose:List Str}{XP:(Str->Option Value)->Heap->Prop}{YP:World->Heap->Prop}{d:DefRec}
 (hn:l.most=some n) (hdf:d.params.defaults=[])
 (call:∀(w:World)(s₀ s₁:Shared)(mg mb:Str->Option Value)(fa:Addr)(o:Obj)(pm cd doc:Value)(a:Addr)(vs:List Value)(ns:List Int),
   Ground q loose [] XP w s₀ mg mb s₁.heap->YP w s₁.heap->
   s₁.heap.get? fa=some o->o.data=.func (docDef d.name d.params d.body d.scope pm cd doc)->s₁.heap.CodeRec cd d.name->mg d.name=some (.ref fa)->
   s₁.heap.get? a=some {cls:=.type "list",data:=.seq vs.toArray}->IntsAre vs ns->ns.length<=n->s₁.gens = #[]->
   codeAny (model l.prog w) callerA (.call (.ref fa) ⟨[.ref a],[]⟩) (λr s'=>r=.ok (.ret (.bool true))/\OldK s₁.heap s'.heap/\s'.os=s₁.os/\AllBare s'.gens) s₁) :
 WalkO q loose XP YP l.row.toRowW d [] (λf vs=>PySem.call f vs):=by
 intro w s₀ s₁ mg mb G Y fa o pm cd doc dV kV ho hd hcd hD hmg hg args vals as hpre hlay hrd hwl hlo
 obtain rfl:dV=.none:=Dflts.none hD hdf
 obtain rfl:kV=.none:=Dflts.noKw hD
 obtain⟨a,vs,ns,rfl,rfl,hobj,hints,hlen⟩:=zmj hn hpre hwl
 refine enter_call (ved (call w s₀ s₁ mg mb fa o pm cd doc a vs ns G Y ho (fd_plain hd) hcd hmg hobj hints hlen hg) λr s' hq=>?_)
 obtain⟨rfl,h2,h3,h4⟩:=hq
 exact⟨.inl ⟨.bool true,.bool true,[],rfl,λ_=>rfl,.bool true,zmk l _,λ_=>⟨List.Pairwise.nil,λ_ hm=>(nomatch hm)⟩⟩,h2,h3,h4⟩
end Att
namespace L2
open PySem PySem.Spec PyProof.Rows
theorem zhr:∀{vs:List Value} {ns:List Int},IntsAre vs ns->Vals (ns.map V.int) vs
 |_,_,.nil=>.nil
 |_,_,.cons n t h=>.cons ⟨t,rfl⟩ (zhr h)
noncomputable def Only(H:Hp):Prop:=∀b,H b=none\/∃o xs,H b=some (.frz o (.lst xs))
theorem zpc{P:Program}{w:World}{K:vga}{mg mb:Str->Option Value}{CX:CXT}{k:Nat}{fa a:Addr}{fd:FuncData}{x:Str}{sp:Sp}{s₁:Shared}{vs:List Value}{ns:List Int}
 (KX:K.In s₁.heap) (hns:s₁.heap.Ns mainGlobals mg) (hb:s₁.heap.Ns builtinsNs mb) (hbb:∀x:Str,x≠"__name__"->mb x=bootBuiltins x) (hlim:s₁.heap.NoLimit) (hg:s₁.gens = #[])
 (ha:s₁.heap.get? a=some {cls:=.type "list",data:=.seq vs.toArray}) (hi:IntsAre vs ns) (hl:ns.length<=sizeLine) (hr:Room k callerA)
 (F:∀base:Heap,K.In base->base.Ns mainGlobals mg->FnOk P w K mg base CX k fa fd [x] sp) (hbind:∀(s:Shared)(u:Value),BindsTo s fd ⟨[u],[]⟩ [(x,u)])
 (hsp:∀H:Hp,Only H->SqL K H a (ns.map V.int)->sp [.ref a] H (λv _=>v=.bl true) λ_ _ _=>False)
 (hCX:∀H e s',CX [] H s₁ (λ_ _ _=>False) e s'->False) :
 codeAny (model P w) callerA (.call (.ref fa) ⟨[.ref a],[]⟩) (λr s'=>r=.ok (.ret (.bool true))/\OldK s₁.heap s'.heap/\s'.os=s₁.os/\AllBare s'.gens) s₁:=by
 have rv:=zhr hi
 have lenV:=hi.length
 have core:∀H:Hp,Only H->SqL K H a (ns.map V.int)->HOk P w H s₁.heap->(∀b,H b≠none->b=a)->(H a≠none->K.lookup a=none)->
  codeAny (model P w) callerA (.call (.ref fa) ⟨[.ref a],[]⟩) (λr s'=>r=.ok (.ret (.bool true))/\OldK s₁.heap s'.heap/\s'.os=s₁.os/\AllBare s'.gens) s₁:=by
  intro H hO hS hok hA hK
  have base_of:∀{b:Addr}{o:Obj},s₁.heap.get? b=some o->H b=none->(hidT s₁.heap H).get? b=some o:=λe n=>zos e n
  have noA:∀{b:Addr}{o:Obj}{es:Array DictEntry}{ep:Nat},s₁.heap.get? b=some o->o.data=.dict es ep->H b=none:=λ{b o es ep} e d=>by
   cases q:H b with
   |none=>rfl
   |some u=>
    have e':b=a:=hA b (by rw[q];simp)
    subst e'
    rw[ha]at e;cases e
    have d':Data.seq vs.toArray _=Data.dict es ep:=d
    cases d'
  have nsK:∀{b:Addr}{m:Str->Option Value},s₁.heap.Ns b m->(hidT s₁.heap H).Ns b m:=λ{b m}⟨o,es,ep,e,d,r⟩=>⟨o,es,ep,base_of e (noA e d),d,r⟩
  have hKb:K.In (hidT s₁.heap H):=λb o e=>base_of (KX b o e) (by
   cases q:H b with
   |none=>rfl
   |some u=>
    have e':b=a:=hA b (by rw[q];simp)
    subst e'
    rw[hK (by rw[q];simp)]at e;cases e)
  have hM:Mod K mg (hidT s₁.heap H):=⟨hKb,nsK hns,⟨mb,nsK hb,hbb⟩,let⟨mc,h1,h2⟩:=hlim;⟨mc,nsK h1,h2⟩⟩
  have e0:Env0 P w K mg (hidT s₁.heap H) callerA [] s₁ H:=⟨rfl,hM,λb o e=>zrs e,Nat.le_of_eq (zlw _ _),trivial,λb hb=>absurd (show b∈([]:List Addr)from hb) (by simp),hok,.of_eq hg⟩
  refine ved ((F _ hKb (nsK hns)).run callerA [] s₁ H ⟨[.ref a],[]⟩ [.ref a] [.ref a] _ _ hr e0 (hbind s₁ (.ref a)) (.cons rfl .nil) (hsp H hO hS)) λr s' h=>?_
  cases r with
  |error e=>exact(hCX H e s' h).elim
  |ok fl=>
   cases fl with
   |next=>exact False.elim h
   |brk=>exact False.elim h
   |cont=>exact False.elim h
   |ret u=>
    obtain⟨v,H',os,bare,un,hok',r',q⟩:=h
    have q':v=.bl true:=q
    subst q'
    obtain rfl:u=Value.bool true:=r'
    refine⟨rfl,OldK.of_keep λb o e=>?_,os,bare⟩
    cases q:H b with
    |none=>exact un.keep b o e q (by intro z;exact absurd (show b∈([]:List Addr)from z) (by simp)) (by simp)
    |some u=>
     rcases hO b with z|⟨ob,xs,z⟩
     .rw[q]at z;cases z
     .have z2:=un.frzs b ob _ z
      obtain⟨e1,_⟩:=hok b _ z
      obtain⟨e2,_⟩:=hok' b _ z2
      rw[e]at e1;cases e1
      exact e2
 cases hk:K.lookup a with
 |some o=>
  have e:=KX a o hk
  rw[ha]at e
  cases e
  refine core (λ_=>none) (λ_=>.inl rfl) (.inr ⟨_,vs.toArray,_,hk,rfl,rfl,rfl,by rw[van,lenV];exact hl,by simpa using rv⟩) (λb u z=>by have z':(none:Option HO)=some u:=z;cases z') (λb z=>absurd rfl z) λz=>absurd rfl z
 |none=>
  refine core (λb=>if b=a then some (.frz {cls:=.type "list",data:=.seq vs.toArray} (.lst (ns.map V.int)))else none) (λb=>?_) (.inl (.inr ⟨{cls:=.type "list",data:=.seq vs.toArray},if_pos rfl⟩)) (λb u z=>?_) (λb z=>?_) λ_=>hk
  .by_cases hb:b=a
   .exact .inr ⟨_,_,if_pos hb⟩
   .exact .inl (if_neg hb)
  .by_cases hb:b=a
   .have z':=(if_pos hb).symm.trans z
    cases z'
    subst hb
    exact⟨ha,by rw[vab];exact hl,vs,_,rv,ha⟩
   .have z':=(if_neg hb).symm.trans z
    cases z'
  .by_cases hb:b=a
   .exact hb
   .exact absurd (if_neg hb) z
theorem zsh{l:PySem.W.OpenLaw}{n k:Nat}{q:Program}{loose:List Str}{XP:(Str->Option Value)->Heap->Prop}{YP:World->Heap->Prop}{d:DefRec}{K:Params->vga}{CX:World->CXT}{sp:World->Sp}{x:Str}
 (hn:l.most=some n) (hn2:n<=sizeLine) (hdf:d.params.defaults=[]) (hr:Room k callerA)
 (hY:∀(w:World)(h:Heap),YP w h->(K w.params).In h)
 (F:∀(w:World)(mg:Str->Option Value)(fa:Addr)(h:Heap),(K w.params).In h->h.Ns mainGlobals mg->mg d.name=some (.ref fa)->
   ∃fd:FuncData,(∀(s:Shared)(u:Value),BindsTo s fd ⟨[u],[]⟩ [(x,u)])/\
    ∀base:Heap,(K w.params).In base->base.Ns mainGlobals mg->FnOk l.prog w (K w.params) mg base (CX w) k fa fd [x] (sp w))
 (hsp:∀(w:World)(H:Hp)(a:Addr)(ns:List Int),ns.length<=n->Only H->SqL (K w.params) H a (ns.map V.int)->sp w [.ref a] H (λv _=>v=.bl true) λ_ _ _=>False)
 (hCX:∀(w:World)(H:Hp)(s:Shared)(e:Value)(s':Shared),CX w [] H s (λ_ _ _=>False) e s'->False) :
 PySem.W.WalkO q loose XP YP l.row.toRowW d [] (λf vs=>PySem.call f vs):=by
 refine Att.attach_call hn hdf λw s₀ s₁ mg mb fa o pm cd doc a vs ns G Y ho hd hcd hmg hobj hints hlen hg=>?_
 have KX:=hY w _ Y
 obtain⟨fd,hb,hF⟩:=F w mg fa _ KX G.T.g hmg
 exact zpc KX G.T.g G.T.b G.T.builtins G.T.nolimit hg hobj hints (vbx hlen hn2) hr hF hb (λH hO hS=>hsp w H a ns hlen hO hS) λH e s'=>hCX w H s₁ e s'
noncomputable def zsi(s:Stmt):Arguments:=match s with
 |.FunctionDef _ a _ _ _ _ _ _ _ _=>a
 |_=>{posonlyargs:=[],args:=[],vararg:=none,kwonlyargs:=[],kw_defaults:=[],kwarg:=none,defaults:=[]}
noncomputable def zen(s:Stmt):List Stmt:=match s with
 |.FunctionDef _ _ b _ _ _ _ _ _ _=>b
 |_=>[]
noncomputable def zar(s:Stmt):Scope:=match s with
 |.FunctionDef _ _ _ _ _ _ sc _ _ _=>sc
 |_=>{kind:=.function,names:=[],isGenerator:=false,isCoroutine:=false}
noncomputable abbrev CX0:CXT:=λ_ _ _ _ _ _=>False
noncomputable abbrev E0:XK:=λ_ _ _=>False
theorem pass0{X:Cx}:zek CX0 X E0:=λ_ _ _ _ _ _ _ h=>h.elim
theorem zhs{n:Nat}(h:n<=1000):n<sizeLine:=Nat.lt_of_le_of_lt h (by decide)
noncomputable def zcb(cells:List (Str×Addr)):List (Str×NameKind)->List (Str×Addr)->List (Str×Addr)
 |[],cs=>cs
 |(n,k)::r,cs=>zcb cells r (if k == .free then(match cells.lookup n with|some c=>(n,c)::cs|none=>cs)else cs)
theorem zc5{scope:Scope}{env:Env}(hf:∀y∈scope.names,y.2=.free->∃c,env.cells.lookup y.1=some c):closureFor scope env=pure (zcb env.cells scope.names []):=by
 have go:∀(l:List (Str×NameKind))(cs:List (Str×Addr)),(∀y∈l,y.2=.free->∃c,env.cells.lookup y.1=some c)->
  (forIn l cs λ(x:Str×NameKind)(r:List (Str×Addr))=>(match x with
    |(name,kind)=>if(kind==NameKind.free)=true then(do let a <-cellOf env name;pure (ForInStep.yield ((name,a)::r)))else pure (ForInStep.yield r):Sem (ForInStep (List (Str×Addr)))))=(pure (zcb env.cells l cs):Sem (List (Str×Addr))):=by
  intro l
  induction l with
  |nil=>intro cs _;rfl
  |cons x r ih=>
   intro cs h
   obtain⟨n,k⟩:=x
   rw[vdl]
   by_cases hk:(k==NameKind.free)=true
   .have hk':k=.free:=by simpa using hk
    obtain⟨c,hc⟩:=h (n,k) vaf hk'
    have hc':env.cells.lookup n=some c:=hc
    simp only[hk,va3,cellOf,hc',zcb]
    exact ih _ λy hy=>h y (vad _ hy)
   .have hk':(k==NameKind.free)=false:=by simpa using hk
    simp only[hk',vam,vbb,zcb]
    exact ih _ λy hy=>h y (vad _ hy)
 have e:=go scope.names [] hf
 unfold closureFor
 refine Eq.trans (vdv (λt=>t >>= λcs=>pure cs) e) ?_
 rfl
theorem zfh{cells:List (Str×Addr)}:∀(l:List (Str×NameKind)) (cs:List (Str×Addr)),(∀x c,cs.lookup x=some c->cells.lookup x=some c)->∀x c,(zcb cells l cs).lookup x=some c->cells.lookup x=some c
 |[],cs,h=>h
 |(n,k)::r,cs,h=>zfh r _ λx c e=>by
  by_cases hk:(k==NameKind.free)=true
  .simp only[hk,va3]at e
   cases hc:cells.lookup n with
   |none=>rw[hc]at e;exact h x c e
   |some d=>
    rw[hc]at e
    simp only[vav]at e
    by_cases hx:(x==n)=true
    .simp only[hx]at e
     cases e
     rw[show x=n by simpa using hx];exact hc
    .have hx':(x==n)=false:=by simpa using hx
     simp only[hx']at e
     exact h x c e
  .have hk':(k==NameKind.free)=false:=by simpa using hk
   simp only[hk',vam,vbb]at e
   exact h x c e
theorem zeo{cells:List (Str×Addr)}{x:Str}{c:Addr}(hc:cells.lookup x=some c):∀(l:List (Str×NameKind)) (cs:List (Str×Addr)),cs.lookup x=some c->(zcb cells l cs).lookup x=some c
 |[],cs,h=>h
 |(n,k)::r,cs,h=>zeo hc r _ (by
  by_cases hk:(k==NameKind.free)=true
  .simp only[hk,va3]
   cases hn:cells.lookup n with
   |none=>exact h
   |some d=>
    simp only[vav]
    by_cases hx:(x==n)=true
    .have:x=n:=by simpa using hx
     subst this
     rw[hc]at hn;cases hn
     simp
    .have hx':(x==n)=false:=by simpa using hx
     simp only[hx'];exact h
  .have hk':(k==NameKind.free)=false:=by simpa using hk
   simp only[hk',vam,vbb]
   exact h)
theorem zdk{cells:List (Str×Addr)}{x:Str}{c:Addr}(hc:cells.lookup x=some c):∀(l:List (Str×NameKind)) (cs:List (Str×Addr)),(x,NameKind.free)∈l->(zcb cells l cs).lookup x=some c
 |[],cs,h=>by cases h
 |(n,k)::r,cs,h=>by
  rcases vax.mp h with e|e
  .cases e
   refine zeo hc r _ ?_
   rw[hc]
   simp[vav]
  .exact zdk hc r _ e
noncomputable abbrev Cx.comp(X:Cx)(N:List Str)(scope:Scope)(C:Addr)(s₀:Shared)(H₀:Hp)(ex:List Addr):Cx:=
 {X with N:=N,s₀:=s₀,H₀:=H₀,env:=compEnvC scope (zcb X.env.cells scope.names []) C X.env,outer:=X.stack,stack:=X.stack,ex:=ex,fn:=λ_=>false,pn:=[],xe:=λ_ _=>False}
structure CompScope(X:Cx)(ow fr:List Str)(ix:List Nat)(scope:Scope):Prop where
 kind:scope.kind=.function
 nocell:∀y∈scope.names,y.2≠.cell
 names:∀y∈scope.names,y.2=.local->scope.names.lookup y.1=some .local
 own:∀x∈ow,scope.names.lookup x=some .local
 free:∀y∈scope.names,y.2=.free->X.env.kindOf y.1=some .cell\/X.env.kindOf y.1=some .free
 at_:∀(k:Nat)(x:Str),fr[k]?=some x->∃j,ix[k]?=some j/\X.N[j]?=some x/\scope.names.lookup x=some .free
 len:ix.length=fr.length
noncomputable def cσ(ow fr:List Str)(ix:List Nat)(σ:St):St:=ow.map (λ_=>none)++ix.map λj=>(σ[j]?).join
theorem zfi{x:Str}{k:NameKind}:∀{l:List (Str×NameKind)},l.lookup x=some k->(x,k)∈l
 |[],h=>by cases h
 |(n,j)::r,h=>by
  simp only[vav]at h
  by_cases hx:(x==n)=true
  .simp only[hx]at h
   cases h
   rw[show x=n by simpa using hx];exact vaf
  .have hx':(x==n)=false:=by simpa using hx
   simp only[hx']at h
   exact vad _ (zfi h)
theorem zcc{env:Env}:∀{l:List (Str×NameKind)} {x:Str} {k:NameKind},
 (l.map λ(n,k)=>if(k==NameKind.free&&env.scope.kind == .function&&env.kindOf n==some .cell)then(n,NameKind.cell)else(n,k)).lookup x=some k->k≠.local->(∀y∈l,y.2≠.cell)->k=.cell\/k=.free->(x,NameKind.free)∈l
 |[],x,k,h,_,_,_=>by cases h
 |(n,j)::r,x,k,h,hk,hc,hh=>by
  have ih:=@zcc env r x k
  rw[vao]at h
  by_cases hc':(j==NameKind.free&&env.scope.kind == .function&&env.kindOf n==some .cell)=true
  .simp only[hc',va3,vav]at h
   have hj:j=.free:=by
    simp only[vac,vd5]at hc'
    exact hc'.1.1
   by_cases hx:(x==n)=true
   .rw[show x=n by simpa using hx,hj];exact vaf
   .have hx':(x==n)=false:=by simpa using hx
    simp only[hx']at h
    exact vad _ (ih h hk (λy hy=>hc y (vad _ hy)) hh)
  .have hcf:(j==NameKind.free&&env.scope.kind == .function&&env.kindOf n==some .cell)=false:=by simpa using hc'
   simp only[hcf,vam,vbb,vav]at h
   by_cases hx:(x==n)=true
   .simp only[hx]at h
    cases h
    rcases hh with z|z
    .exact absurd z (hc _ vaf)
    .rw[show x=n by simpa using hx,z];exact vaf
   .have hx':(x==n)=false:=by simpa using hx
    simp only[hx']at h
    exact vad _ (ih h hk (λy hy=>hc y (vad _ hy)) hh)
theorem zbw{env:Env}(hkf:env.scope.kind=.function):∀{l:List (Str×NameKind)} {x:Str},l.lookup x=some .free->
 (l.map λ(n,k)=>if(k==NameKind.free&&env.scope.kind == .function&&env.kindOf n==some .cell)then(n,NameKind.cell)else(n,k)).lookup x=some (if env.kindOf x=some .cell then .cell else .free)
 |[],x,h=>by cases h
 |(n,j)::r,x,h=>by
  have ih:=@zbw env hkf r x
  rw[vao]
  simp only[vav]at h
  by_cases hx:(x==n)=true
  .simp only[hx]at h
   cases h
   have e:x=n:=by simpa using hx
   subst e
   by_cases hq:env.kindOf x=some .cell
   .simp[hkf,hq,vav]
   .simp[hq,vav]
  .have hx':(x==n)=false:=by simpa using hx
   simp only[hx']at h
   by_cases hc':(j==NameKind.free&&env.scope.kind == .function&&env.kindOf n==some .cell)=true
   .simp only[hc',va3,vav,hx'];exact ih h
   .have hcf:(j==NameKind.free&&env.scope.kind == .function&&env.kindOf n==some .cell)=false:=by simpa using hc'
    simp only[hcf,vam,vbb,vav,hx'];exact ih h
section
variable{X:Cx}{pins:List (Addr×Obj)}{σ:St}{H:Hp}{s:Shared}{ow fr:List Str}{ix:List Nat}{scope:Scope}{fp:List Addr}
theorem zpd(S:CompScope X ow fr ix scope)(I:Inv X pins σ H s)(hfp:∀b∈fp,FpOk X pins H b)(hlt:∀b∈fp,b<s.heap.objs.size){h':Heap}{tk:Nat}{m:Str->Option Value}(hn:h'.Ns s.heap.objs.size m)(hk:∀b o,s.heap.get? b=some o->h'.get? b=some o) :
 Inv (X.comp (ow++fr) scope s.heap.objs.size s H fp) [] (cσ ow fr ix σ) H {s with heap:=h',toks:=tk}:=by
 have sub:=zfh (cells:=X.env.cells) scope.names [] (λx c e=>by cases e)
 have kf:=I.ok.kind
 have ncell:∀x c,X.env.cells.lookup x=some c->c≠s.heap.objs.size:=λx c e z=>by
  obtain⟨v,q⟩:=I.cell x c e
  exact absurd q.lt (by rw[z];exact vca _)
 have hasC:∀x,(x,NameKind.free)∈scope.names->∃c,(zcb X.env.cells scope.names []).lookup x=some c/\X.env.cells.lookup x=some c:=λx hx=>by
  obtain⟨c,hc⟩:=I.ok.has x (S.free _ hx rfl)
  exact⟨c,zdk hc _ _ hx,hc⟩
 refine⟨⟨I.ok.mod,?_,I.ok.glob,I.ok.blt,vai _,λx y c a b=>I.ok.inj x y c (sub x c a) (sub y c b),λx hx=>?_,λx c e=>?_,I.ok.hd,I.ok.frames,.inl rfl,λb hb=>?_,λb o e=>?_,?_,λb o e hb=>?_,λb hb hz=>?_,I.stack,λb hb=>I.stkFree b hb⟩,
  rfl,I.bare,Un.kept hk,⟨m,hn,λi x v e1 e2 e3=>?_⟩,λx c e=>?_,I.hok.fresh (vai _),λx c e=>I.freeC x c (sub x c e),λp hp=>?_,I.hok.kept hk,?_⟩
 .exact S.kind
 .have hx':(relabel scope X.env).names.lookup x=some .cell\/(relabel scope X.env).names.lookup x=some .free:=hx
  have hm:(x,NameKind.free)∈scope.names:=by
   rcases hx' with z|z
   .exact zcc (env:=X.env) z (by decide) S.nocell (.inl rfl)
   .exact zcc (env:=X.env) z (by decide) S.nocell (.inr rfl)
  obtain⟨c,hc,_⟩:=hasC x hm
  exact⟨c,hc⟩
 .cases e
 .obtain⟨f0,f1,f2,f3,f4,f5⟩:=hfp b hb
  refine⟨λz=>?_,λx c e=>f4 x c (sub x c e)⟩
  have q:=hlt b hb
  rw[z]at q
  exact absurd q (vca _)
 .exact⟨(I.bs b o e).1,(I.bs b o e).2⟩
 .exact vbx I.ok.bsz I.sz
 .obtain⟨f0,f1,f2,f3,f4,f5⟩:=hfp b hb
  rcases f3 with z|z
  .exact I.ok.noex b o e z
  .exact absurd (vak (vaq (I.ok.bs b o e).1) z) (vca _)
 .obtain⟨f0,f1,f2,f3,f4,f5⟩:=hfp b hb
  rcases vax.mp (I.stkSub b hz)with z|z
  .exact f1 z
  .exact f2 z
 .have hlen:ow.length<=i:=by
   by_cases hi:i<ow.length
   .unfold cσ at e2
    rw[vbg (by simpa using hi),va2]at e2
    cases q:ow[i]? with
    |none=>rw[q]at e2;cases e2
    |some y=>rw[q]at e2;cases e2
   .omega
  have e1':fr[i-ow.length]?=some x:=by
   have e1:(ow++fr)[i]?=some x:=e1
   rw[vau hlen]at e1
   exact e1
  have e2':(ix.map λj=>(σ[j]?).join)[i-ow.length]?=some (some v):=by
   unfold cσ at e2
   rw[vau (by simpa using hlen)]at e2
   simpa using e2
  obtain⟨j,hj,hN,hl⟩:=S.at_ _ _ e1'
  rw[va2,hj]at e2'
  have e2'':(σ[j]?).join=some v:=vbj e2'
  have hσ:σ[j]?=some (some v):=by
   cases q:σ[j]? with
   |none=>rw[q]at e2'';cases e2''
   |some o=>rw[q]at e2'';cases o with
    |none=>cases e2''
    |some w=>cases e2'';rfl
  obtain⟨m0,hm0,hl0⟩:=I.loc
  have hmem:=zfi hl
  have hkf:=S.free _ hmem rfl
  have hvis:Vis X.env.scope x:=hkf.elim (λz=>.inr (.inl z)) λz=>.inr (.inr z)
  obtain⟨u,ru,lk⟩:=hl0 j x v hN hσ hvis
  refine⟨u,ru,.inr ?_⟩
  have hcell:∃c,X.env.cells.lookup x=some c/\s.heap.IsCell c (some u):=by
   rcases lk with⟨z,_⟩|⟨_,c,e,z⟩
   .rcases hkf with q|q
    .rw[show X.env.kindOf x=some .local from z]at q;cases q
    .rw[show X.env.kindOf x=some .local from z]at q;cases q
   .exact⟨c,e,z⟩
  obtain⟨c,hc,o,ho,hd⟩:=hcell
  refine⟨?_,c,zdk hc _ _ hmem,o,hk _ _ ho,hd⟩
  show(relabel scope X.env).names.lookup x=some .cell\/(relabel scope X.env).names.lookup x=some .free
  have q:=zbw (env:=X.env) kf hl
  by_cases z:X.env.kindOf x=some .cell
  .rw[if_pos z]at q;exact .inl q
  .rw[if_neg z]at q;exact .inr q
 .obtain⟨v,q⟩:=I.cell x c (sub x c e)
  obtain⟨o,ho,hd⟩:=q
  exact⟨v,o,hk _ _ ho,hd⟩
 .cases(show p∈([]:List (Addr×Obj))from hp)
 .show(cσ ow fr ix σ).length=(ow++fr).length
  unfold cσ
  rw[vag,vab,vab,vag,S.len]
end
theorem zml{α:Type}{M:Model}{A:Around}{t:Sem α}{Q:α->Shared->Prop}{E:Value->Shared->Prop}{s:Shared}(h:wpAny M A t Q (λ_ _=>False) s):wpAny M A t Q E s:=vc0 h (λ_ _ q=>q) λ_ _ z=>z.elim
noncomputable abbrev noX:Value->Shared->Prop:=λ_ _=>False
noncomputable abbrev zmm(ifs:List Expr)(env:Env):Sem Bool:=forIn ifs true λc r=>if r=true then do let ok <-isTrue c env (eval c env);pure (ForInStep.yield ok)else pure (ForInStep.yield r)
theorem zcq{prog:Program}{w:World}{A:Around}{R:Result->Shared->Prop}{s:Shared}{elt target iter:Expr}{ifs:List Expr}{scope:Scope}{pos:Pos}{it acc:Value}{env:Env}(I:Nat->Shared->Prop)
 (turn:∀n s,I n s->wpAny (model prog w) A (pyNext it) (λr s₁=>match r with
   |none=>R (.ok .next) s₁
   |some v=>wpAny (model prog w) A (letOwnedTupleGo target it v) (λ_ s₀=>wpAny (model prog w) A (assign target env v) (λ_ s₂=>
    wpAny (model prog w) A (zmm ifs env) (λok s₃=>
     if ok=true then wpAny (model prog w) A (eval elt env) (λx s₄=>
      wpAny (model prog w) A (call (.builtin "list.append") [acc,x]) (λ_ s₅=>∃m,m<n/\I m s₅) noX s₄) noX s₃
     else ∃m,m<n/\I m s₃) noX s₂) noX s₀) noX s₁) noX s)
 (n:Nat) (h:I n s) :
 codeAny (model prog w) A (.compLoop (.ListComp elt [⟨target,iter,ifs,0⟩] scope pos) 0 it acc env) R s:=by
 refine codeAny_loop rfl I (λn s hI=>?_) n h
 show wpAny _ A ((compTurn (.ListComp elt [⟨target,iter,ifs,0⟩] scope pos) 0 it acc env).onRaise (λx=>do noteFrame x env;theTreesLotGoes x)) _ _ s
 refine wpAny_noted (zml ?_)
 rw[compTurn_list]
 refine vaa (veb (vaa (vc0 (turn n s hI) (λr s₁ h₁=>?_) λ_ _ h'=>h')))
 cases r with
 |none=>exact vah h₁
 |some v=>
  refine vaa (vc0 h₁ (λ_ s₀ h₀=>?_) λ_ _ h'=>h')
  refine vaa (vc0 h₀ (λ_ s₂ h₂=>vaa (vc0 h₂ (λok s₃ h₃=>?_) λ_ _ h'=>h')) λ_ _ h'=>h')
  cases ok with
  |true=>
   simp only[va3]at h₃ ⊢
   exact vaa (vaa (vc0 h₃ (λx s₄ h₄=>vaa (vc0 h₄ (λ_ s₅ h₅=>vah (vah ⟨rfl,h₅⟩)) λ_ _ h'=>h')) λ_ _ h'=>h'))
  |false=>
   simp only[vam,vbb]at h₃ ⊢
   exact vah ⟨rfl,h₃⟩
noncomputable def PTs(X:Cx)(ifs:List Expr)(t:TT):Prop:=
 ∀(pins:List (Addr×Obj))(s:Shared)(σ:St)(H:Hp)(Q:Bool->Hp->Prop),Inv X pins σ H s->t σ H Q->wpAny (model X.prog X.w) X.A (zmm ifs X.env) (TP X pins σ Q) X.xe s
noncomputable def tYes:TT:=λ_ H Q=>Q true H
theorem zsj{X:Cx}:PTs X [] tYes:=λpins s σ H Q I h=>wpAny_tests_nil ⟨H,I,h⟩
theorem zsk{X:Cx}{c:Expr}{t:TT}(h:PT X c t):PTs X [c] t:=λpins s σ H Q I q=>wpAny_tests_one (h pins s σ H Q I q)
noncomputable def tLC(K:vga)(f:St->St)(wi:TI)(g:TG)(tc:TT)(te:TE):TE:=λσ H Q=>wi σ H λJ H1=>∀D,H1 D=none->K.lookup D=none->
 ∃W:Nat->Nat->St->Hp->List V->Prop,(∃m,W 0 m (f σ) (upd H1 D (.lst [])) [])/\∀i m σ' H' ys,W i m σ' H' ys->H' D=some (.lst ys)/\
  ((J.stop i H'/\Q (.ref D) H')\/(J.go i H'/\∀x H2,J.yld i H' x H2->g x σ' H2 λσ2 H3=>tc σ2 H3 λb H4=>
    if b=true then te σ2 H4 λy H5=>H5 D=some (.lst ys)/\ys.length<sizeLine/\∃m',m'<m/\W (i+1) m' σ2 (upd H5 D (.lst (ys++[y]))) (ys++[y])
    else ∃m',m'<m/\W (i+1) m' σ2 H4 ys))
section
variable{X:Cx}{ow fr:List Str}{ix:List Nat}{scope:Scope}{tg iter elt:Expr}{ifs:List Expr}{pos:Pos}{wi:TI}{g:TG}{tc:TT}{te:TE}
theorem zfj{pins:List (Addr×Obj)}{s:Shared}{σ:St}{Q:VK}{RR:Value->Addr->Result->Shared->Prop}(S:CompScope X ow fr ix scope)(hc:X.calm=true)
 (hg:∀C s₀ H₀ ex,PG (X.comp (ow++fr) scope C s₀ H₀ ex) tg g) (ht:∀C s₀ H₀ ex,PTs (X.comp (ow++fr) scope C s₀ H₀ ex) ifs tc) (he:∀C s₀ H₀ ex,PE (X.comp (ow++fr) scope C s₀ H₀ ex) elt te)
 {itv:Value} {E:Value->Shared->Prop}
 (h:PIE X pins σ tg (λJ H1=>∀D,H1 D=none->X.K.lookup D=none->
   ∃W:Nat->Nat->St->Hp->List V->Prop,(∃m,W 0 m (cσ ow fr ix σ) (upd H1 D (.lst [])) [])/\∀i m σ' H' ys,W i m σ' H' ys->H' D=some (.lst ys)/\
    ((J.stop i H'/\Q (.ref D) H')\/(J.go i H'/\∀x H2,J.yld i H' x H2->g x σ' H2 λσ2 H3=>tc σ2 H3 λb H4=>
      if b=true then te σ2 H4 λy H5=>H5 D=some (.lst ys)/\ys.length<sizeLine/\∃m',m'<m/\W (i+1) m' σ2 (upd H5 D (.lst (ys++[y]))) (ys++[y])
      else ∃m',m'<m/\W (i+1) m' σ2 H4 ys))) itv s)
 (fin:∀D C H' s' m,FpOk X pins H' C->s'.heap.Ns C m->(∀h'',Heap.SameBut C s'.heap h''->Inv X pins σ H' {s' with heap:=h''})->Q (.ref D) H'->RR (.ref D) C (.ok .next) s') :
 wpAny (model X.prog X.w) X.A (newList []) (λacc s₃=>wpAny (model X.prog X.w) X.A (newFunctionEnv scope X.env.globals (zcb X.env.cells scope.names []) [] X.env.qual none .none (some X.env)) (λcenv s₄=>
  codeAny (model X.prog X.w) X.A (.compStart (.ListComp elt [⟨tg,iter,ifs,0⟩] scope pos) 0 itv acc {cenv with scope:=relabel scope X.env}) (RR acc cenv.locals) s₄) E s₃) E s:=by
 obtain⟨it,fp,tn,J,H1,e,I1,T,st1,f1,hq⟩:=h
 subst e
 have hD:H1 s.heap.objs.size=none:=I1.hok.fresh (vai _)
 have hKD:X.K.lookup s.heap.objs.size=none:=by
  cases e:X.K.lookup s.heap.objs.size with
  |none=>rfl
  |some o=>exact absurd (vaq (I1.kIn _ _ e)) (vca _)
 obtain⟨W,⟨m0,w0⟩,turn⟩:=hq _ hD hKD
 have I3:Inv X pins σ (upd H1 s.heap.objs.size (.lst [])) {s with heap:=s.heap.push {cls:=.type "list",dict:=none,data:=.seq ([]:List Value).toArray}}:=
  I1.laid (t':=s.toks) (o:=.lst []) (λb u q=>vae _ q) (vai _) ⟨vbu _,[],0,.nil,vas _ rfl⟩
 have hlt1:∀b∈fp,b<s.heap.objs.size:=λb hb=>by
  obtain⟨o,ho,_⟩:=T.obj _ _ st1 b hb
  exact vaq ho
 have f3:∀b∈fp,FpOk X pins (upd H1 s.heap.objs.size (.lst [])) b:=λb hb=>⟨by rw[zag (va4 (hlt1 b hb))];exact(f1 b hb).1,(f1 b hb).2⟩
 refine vbq (wpAny_newFunctionEnv S.nocell (by intro y hy;simp at hy) (λh₁ hns hsb=>?_) S.kind)
 dsimp only at hns hsb ⊢
 generalize hS3:({s with heap:=s.heap.push {cls:=.type "list",dict:=none,data:=.seq ([]:List Value).toArray}}:Shared)=s3 at I3
 have hh3:s3.heap=s.heap.push {cls:=.type "list",dict:=none,data:=.seq ([]:List Value).toArray}:=by rw[<-hS3]
 rw[<-hh3]at hns hsb ⊢
 have hk:∀b o,s3.heap.get? b=some o->h₁.get? b=some o:=λb o e=>hsb.extBut b o (va4 (vaq e)) (vae _ e)
 have hlt3:∀b∈fp,b<s3.heap.objs.size:=λb hb=>by rw[hh3,vb9];exact Nat.lt_succ_of_lt (hlt1 b hb)
 have J3:=zpd S I3 f3 hlt3 (tk:=s.toks) hns hk
 have st3:tn 0 h₁:=T.keep _ _ _ st1 λb hb o e=>hk b o (by rw[hh3];exact vae _ e)
 have ex3:∀b∈fp,(X.comp (ow++fr) scope s3.heap.objs.size s3 (upd H1 s.heap.objs.size (.lst [])) fp).Ok->∀{H':Hp},H' b=none->FpOk (X.comp (ow++fr) scope s3.heap.objs.size s3 (upd H1 s.heap.objs.size (.lst [])) fp) [] H' b:=λb hb ok H' hn=>
  ⟨hn,(ok.exf b hb).1,ok.exfs b hb,.inl hb,(ok.exf b hb).2,λp hp=>by cases(show p∈([]:List (Addr×Obj))from hp)⟩
 have back:∀{σ':St}{H':Hp}{s':Shared},Inv (X.comp (ow++fr) scope s3.heap.objs.size s3 (upd H1 s.heap.objs.size (.lst [])) fp) [] σ' H' s'->∀h'',Heap.SameBut s3.heap.objs.size s'.heap h''->Inv X pins σ H' {s' with heap:=h''}:=λ{σ' H' s'} I' h'' hs=>by
  have neC:∀b o,s3.heap.get? b=some o->b≠s3.heap.objs.size:=λb o e=>va4 (vaq e)
  have un:Un (frs X.stack) fp (upd H1 s.heap.objs.size (.lst [])) H' s3.heap h'':=
   ⟨λb o e n hb hx=>(hs.2 b (neC b o e)).trans (I'.base.keep b o e n hb hx),λb o e n hb hx=>by
    obtain⟨sl,q⟩:=I'.base.slot b o e n hb hx
    exact⟨sl,(hs.2 b (neC b o e)).trans q⟩,I'.base.free,λb o e hx=>by
    obtain⟨o',q⟩:=I'.base.there b o e hx
    exact⟨o',(hs.2 b (neC b o e)).trans q⟩,I'.base.tups,I'.base.frzs,I'.base.tbls⟩
  have hok:HOk X.prog X.w H' h'':=λb ob e=>by
   refine(I'.hok b ob e).stay (λc w' hcc q=>(hs.2 c ?_).trans q) (λ_ q=>q) λ_ _ q=>q
   rintro rfl
   have hfree:=I'.free
   rcases hcc with rfl|hcc
   .rw[show H' s3.heap.objs.size=none from hfree]at e;cases e
   .rw[show H' s3.heap.objs.size=none from hfree]at hcc;cases hcc
  have hos:s'.os=s3.os:=I'.os
  exact I3.call' (s':={s' with heap:=h''}) (ch:=fp) hos un hok I'.bare λb hb=>by
   obtain⟨_,a1,a2,a3,a4,a5⟩:=f1 b hb
   exact⟨a3,a1,a4,a5⟩
 have loop:∀s4:Shared,Inv (X.comp (ow++fr) scope s3.heap.objs.size s3 (upd H1 s.heap.objs.size (.lst [])) fp) [] (cσ ow fr ix σ) (upd H1 s.heap.objs.size (.lst [])) s4->tn 0 s4.heap->
  codeAny (model X.prog X.w) X.A (.compLoop (.ListComp elt [⟨tg,iter,ifs,0⟩] scope pos) 0 (.ref it) (.ref s.heap.objs.size) (X.comp (ow++fr) scope s3.heap.objs.size s3 (upd H1 s.heap.objs.size (.lst [])) fp).env)
   (RR (.ref s.heap.objs.size) s3.heap.objs.size) s4:=by
  intro s4 I4 st4
  refine zcq (λn s'=>∃i σ' H' ys,Inv (X.comp (ow++fr) scope s3.heap.objs.size s3 (upd H1 s.heap.objs.size (.lst [])) fp) [] σ' H' s'/\tn i s'.heap/\(∀b∈fp,H' b=none)/\W i n σ' H' ys) ?_ m0 ⟨0,_,_,[],I4,st4,λb hb=>(f3 b hb).1,w0⟩
  rintro n s5 ⟨i,σ5,H5,ys,I5,st5,fr5,w5⟩
  obtain⟨hDl,alt⟩:=turn i n σ5 H5 ys w5
  rcases alt with⟨stop,q⟩|⟨go,step⟩
  .refine thn (T.done (X.comp (ow++fr) scope s3.heap.objs.size s3 (upd H1 s.heap.objs.size (.lst [])) fp) rfl rfl rfl hc i [] s5 σ5 H5 noX I5 (λb hb=>ex3 b hb I5.ok (fr5 b hb)) st5 stop) λr s6 hq0=>?_
   obtain⟨hr,I6⟩:=hq0
   subst hr
   obtain⟨m6,hn6,_⟩:=I6.loc
   exact fin _ _ H5 s6 m6 (I3.fpOk (vai _) I6.free) hn6 (back I6) q
  .refine thn (T.item (X.comp (ow++fr) scope s3.heap.objs.size s3 (upd H1 s.heap.objs.size (.lst [])) fp) rfl rfl rfl hc i [] s5 σ5 H5 noX I5 (λb hb=>ex3 b hb I5.ok (fr5 b hb)) st5 go) λr s6 hq0=>?_
   obtain⟨u,hr,h6⟩:=hq0
   subst hr
   refine thn h6 λ_ s7 hq0=>?_
   obtain⟨x,H7,I7,r7,y7,st7,fr7⟩:=hq0
   have I7':=I7.pinned (λb hb=>ex3 b hb I7.ok (fr7 b hb)) (T.obj _ _ st7)
   have again:∀{σ8:St}{H8:Hp}{s8:Shared}{zs:List V}{m':Nat},Inv (X.comp (ow++fr) scope s3.heap.objs.size s3 (upd H1 s.heap.objs.size (.lst [])) fp) ([]++zhg fp s7.heap) σ8 H8 s8->m'<n->W (i+1) m' σ8 H8 zs->
    ∃m,m<n/\∃i σ' H' ys,Inv (X.comp (ow++fr) scope s3.heap.objs.size s3 (upd H1 s.heap.objs.size (.lst [])) fp) [] σ' H' s8/\tn i s8.heap/\(∀b∈fp,H' b=none)/\W i m σ' H' ys:=λ{σ8 H8 s8 zs m'} I8 hm w8=>by
    refine⟨m',hm,i+1,σ8,H8,zs,I8.unpinned,T.keep _ _ _ st7 λb hb o e=>(I8.pin (b,o) (vbf _ (vbf _ (zcl hb e)))).1,λb hb=>?_,w8⟩
    obtain⟨o,e,d⟩:=T.obj _ _ st7 b hb
    exact(I8.pin (b,o) (vbf _ (vbf _ (zcl hb e)))).2.1
   refine thn (hg _ _ _ _ _ s7 σ5 H7 x u _ I7' r7 (step x H7 y7)) λ_ s8 hq0=>?_
   obtain⟨σ8,H8,I8,q8⟩:=hq0
   refine thn (ht _ _ _ _ _ s8 σ8 H8 _ I8 q8) λok s9 z9=>z9.el λH9 I9 q9=>?_
   cases ok with
   |false=>
    simp only[vam,vbb]at q9 ⊢
    obtain⟨m',hm,w9⟩:=q9
    exact again I9 hm w9
   |true=>
    simp only[va3]at q9 ⊢
    refine thn (he _ _ _ _ _ s9 σ8 H9 _ I9 q9) λy s10 hq0=>?_
    obtain⟨vy,H10,I10,ry,hD10,hz,m',hm,w10⟩:=hq0
    refine thn (zhq _ s10 σ8 H10 (.ref s.heap.objs.size) [vy] (.ref s.heap.objs.size) [y] (λv H'=>H'=upd H10 s.heap.objs.size (.lst (ys++[vy]))) I10 rfl (.cons ry .nil) ⟨_,ys,vy,rfl,rfl,hD10,hz,rfl⟩) λ_ s11 hq0=>?_
    obtain⟨v11,H11,I11,_,e11⟩:=hq0
    subst e11
    exact again I11 hm w10
 have J3':Inv (X.comp (ow++fr) scope s3.heap.objs.size s3 (upd H1 s.heap.objs.size (.lst [])) fp) [] (cσ ow fr ix σ) (upd H1 s.heap.objs.size (.lst [])) {s with heap:=h₁,toks:=s.toks}:=by
  rw[<-hS3]at J3 ⊢
  exact J3
 exact codeAny_compStart_list (loop _ J3' st3) (T.self _ 0 _ _ _ st3 (loop _ J3' st3))
theorem pe_lc(S:CompScope X ow fr ix scope)(hc:X.calm=true)(hi:PI X tg iter wi)
 (hg:∀C s₀ H₀ ex,PG (X.comp (ow++fr) scope C s₀ H₀ ex) tg g) (ht:∀C s₀ H₀ ex,PTs (X.comp (ow++fr) scope C s₀ H₀ ex) ifs tc) (he:∀C s₀ H₀ ex,PE (X.comp (ow++fr) scope C s₀ H₀ ex) elt te)
 (hs:∀x,foldedSetIterable iter X.env x=pure x:=by intro _;rfl):PE X (.ListComp elt [⟨tg,iter,ifs,0⟩] scope pos) (tLC X.K (cσ ow fr ix) wi g tc te):=by
 intro pins s σ H Q I h
 rw[eval_ListComp]
 refine wpAny_comprehension_free (use:=none) rfl hs (zc5 λy hy e=>I.ok.has _ (S.free y hy e)) S.kind S.names (thn (hi pins s σ H _ I h) λv s1 h1=>thn h1 λitv s2 h2=>?_)
 exact zfj (RR:=λacc C=>compPost (model X.prog X.w) X.A X.xe none (EP X pins σ Q) acc C) S hc hg ht he h2 λD C H' s' m _ hn hI q=>⟨m,hn,λh'' hs''=>⟨.ref D,H',hI h'' hs'',rfl,q⟩⟩
theorem zpe{i:Nat}{y:Str}{py spos:Pos}(hN:X.N.Nodup)(hiy:X.N[i]?=some y)(hy:Loc X.env.scope y)(S:CompScope X ow fr ix scope)(hc:X.calm=true)(hi:PI X tg iter wi)
 (hg:∀C s₀ H₀ ex,PG (X.comp (ow++fr) scope C s₀ H₀ ex) tg g) (ht:∀C s₀ H₀ ex,PTs (X.comp (ow++fr) scope C s₀ H₀ ex) ifs tc) (he:∀C s₀ H₀ ex,PE (X.comp (ow++fr) scope C s₀ H₀ ex) elt te)
 (hsw:swapsWith (.ListComp elt [⟨tg,iter,ifs,0⟩] scope pos) (some (.Name y py)) spos.line X.env=pure true:=by rfl)
 (hf:X.fn y=true\/X.env.scope.names.lookup y=some .local:=by first|exact .inl rfl|exact .inr rfl|assumption)
 (hs:∀x,foldedSetIterable iter X.env x=pure x:=by intro _;rfl):PS X (.Assign [.Name y py] (.ListComp elt [⟨tg,iter,ifs,0⟩] scope pos) spos) (tAsg (tLC X.K (cσ ow fr ix) wi g tc te) (gName i)):=by
 intro pins s σ H D I h
 rw[exec_Assign_Name_used _ _ _ _ hsw]
 refine vaa (veb (vaa ?_))
 show wpAny _ X.A (do let _ <-comprehension (.ListComp elt [⟨tg,iter,ifs,0⟩] scope pos) scope X.env _ (newList []) false (eval iter X.env) (some (assign (.Name y py) X.env))) _ _ s
 refine vaa (vc0 (wpAny_comprehension_free (use:=some (assign (.Name y py) X.env)) (Q:=λ_ s'=>SP X pins D .next s') rfl hs (zc5 λy hy e=>I.ok.has _ (S.free y hy e)) S.kind S.names
  (thn (hi pins s σ H _ I h) λv s1 h1=>thn h1 λitv s2 h2=>?_)) (λ_ s' hq=>vah (vah hq)) λ_ _ e=>e)
 refine zfj (Q:=λx H1=>gName i x σ H1 D.nx) (RR:=λacc C=>compPost (model X.prog X.w) X.A X.xe (some (assign (.Name y py) X.env)) (λ_ s'=>SP X pins D .next s') acc C) S hc hg ht he h2 λd C H' s' m hC hn hI q=>?_
 show wpAny _ X.A (assign (.Name y py) X.env (.ref d)) _ _ _
 have I':Inv X pins σ H' s':=by
  have z:=hI s'.heap (.refl ..)
  exact z
 refine wpAny_assign_Name (zhf I' hN hiy hy (v:=.ref d) rfl (λs'' I'' ⟨a,hsb,ha⟩=>?_) hf)
 obtain⟨c0,c1,c2,c3,c4,c5⟩:=hC
 have hCa:C≠a:=by
  rcases ha with rfl|ha
  .exact c1
  .exact λz=>c4 _ _ ha z.symm
 refine⟨m,hn.sameBut hsb hCa,λh'' hs''=>⟨_,H',I''.turned (t':=s''.toks) (it:=C) (λb o hb e=>(hs''.2 b hb).trans e) c0 c1 c3 c4 c5,q⟩⟩
end
end L2
set_option maxHeartbeats 4000000
namespace L2
open PySem PySem.Spec PyProof.Rows
mutual
inductive Rp(K:vga)(M:Addr->Prop)(H:Hp):V->PyData->Prop
 |non:Rp K M H .non .none
 |bl (b:Bool):Rp K M H (.bl b) (.bool b)
 |int (i:Int):Rp K M H (.int i) (.int i)
 |str (x:Str):Rp K M H (.str x) (.str x)
 |tup {a:Addr} {xs:List V} {ds:List PyData}:SqT K H a xs->¬M a->Rps K M H xs ds->Rp K M H (.ref a) (.tuple ds)
 |lst {a:Addr} {xs:List V} {ds:List PyData}:SqL K H a xs->¬M a->Rps K M H xs ds->Rp K M H (.ref a) (.list ds)
inductive Rps(K:vga)(M:Addr->Prop)(H:Hp):List V->List PyData->Prop
 |nil:Rps K M H [] []
 |cons {x:V} {d:PyData} {xs:List V} {ds:List PyData}:Rp K M H x d->Rps K M H xs ds->Rps K M H (x::xs) (d::ds)
end
section
variable{X:Cx}{pins:List (Addr×Obj)}{σ:St}{H:Hp}{s:Shared}{M:Addr->Prop}
mutual
theorem Rp.reads(I:Inv X pins σ H s):∀{x:V} {d:PyData} {u:Value},Rp X.K M H x d->RelV x u->∃as,Reads s.heap u d as
 |_,_,_,.non,r=>by cases r;exact⟨_,.none⟩
 |_,_,_,.bl b,r=>by cases r;exact⟨_,.bool b⟩
 |_,_,_,.int i,r=>by obtain⟨t,rfl⟩:=r;exact⟨_,.int i t⟩
 |_,_,_,.str x,r=>by obtain⟨t,rfl⟩:=r;exact⟨_,.str x t⟩
 |_,_,_,.tup h n rr,r=>by
  cases r
  obtain⟨its,rv,p,_⟩:=I.tuple h
  obtain⟨o,ho,hc,m,hd⟩:=p
  obtain⟨as,ra⟩:=Rps.reads I rr rv
  exact⟨_,.tuple ho hc hd (by simpa using ra)⟩
 |_,_,_,.lst h n rr,r=>by
  cases r
  obtain⟨its,rv,p,_⟩:=I.list h
  obtain⟨o,m,ho,hc,_,hd⟩:=p
  obtain⟨as,ra⟩:=Rps.reads I rr rv
  exact⟨_,.list ho hc hd (by simpa using ra)⟩
theorem Rps.reads(I:Inv X pins σ H s):∀{xs:List V} {ds:List PyData} {us:List Value},Rps X.K M H xs ds->Vals xs us->∃as,ReadsAll s.heap us ds as
 |_,_,_,.nil,.nil=>⟨_,.nil⟩
 |_,_,_,.cons r t,.cons q v=>by
  obtain⟨as,h1⟩:=Rp.reads I r q
  obtain⟨bs,h2⟩:=Rps.reads I t v
  exact⟨_,.cons h1 h2⟩
end
noncomputable def rEqD(K:vga):R2:=λx y H Q=>∃d e,Rp K (λ_=>False) H x d/\Rp K (λ_=>False) H y e/\SeqAt.shaped d=true/\SeqAt.shaped e=true/\Q (.bl (PyData.eqv d e)) H
noncomputable def rNeD(K:vga):R2:=λx y H Q=>∃d e,Rp K (λ_=>False) H x d/\Rp K (λ_=>False) H y e/\SeqAt.shaped d=true/\SeqAt.shaped e=true/\Q (.bl (!PyData.eqv d e)) H
theorem zvl(hu:X.A.units+64<cLine):OpR X (compareOp .Eq) (rEqD X.K):=by
 intro pins s σ H x y v u Q I rx ry h
 obtain⟨d,e,r1,r2,s1,s2,q⟩:=h
 obtain⟨as,ra⟩:=r1.reads I rx
 obtain⟨bs,rb⟩:=r2.reads I ry
 exact PyProof.Rows.eq_dataH ra rb s1 s2 hu ⟨.bl _,H,I,rfl,q⟩
theorem zvm(hu:X.A.units+64<cLine):OpR X (compareOp .NotEq) (rNeD X.K):=by
 intro pins s σ H x y v u Q I rx ry h
 obtain⟨d,e,r1,r2,s1,s2,q⟩:=h
 obtain⟨as,ra⟩:=r1.reads I rx
 obtain⟨bs,rb⟩:=r2.reads I ry
 exact PyProof.Rows.ne_dataH ra rb s1 s2 hu ⟨.bl _,H,I,rfl,q⟩
end
section
variable{prog:Program}{w:World}{A:Around}{E:Value->Shared->Prop}{s:Shared}
theorem zfk{I t:Addr}{k:Nat}{its:Array Value}{y:Value}{Q:Value->Shared->Prop}(hi:s.heap.IsTupleIter I t k)(ht:s.heap.IsTuple t its)(hy:its[k]?=some y)
 (q:∀g,g.IsTupleIter I t (k+1)->Heap.SameBut I s.heap g->Q y {s with heap:=g}):wpAny (model prog w) A (Builtin.SmallTypes.nextOf (.ref I)) Q E s:=by
 obtain⟨oi,e1,e2,e3⟩:=id hi
 obtain⟨ot,e4,_,kt,e5⟩:=ht
 unfold Builtin.SmallTypes.nextOf
 refine vaa (vb0 (name:=Str.ofString "__next__") hi.typeIs vct (vb4 vct hi.typeIs F.entry_tuple_iterator_next ?_ (F.args_tuple_iterator_next_1 _)))
 show wpAny _ _ (field (.ref I) 0 >>= _) _ _ s
 refine vaa (vbz e1 e3 (x:=.ref t) rfl ?_)
 show wpAny _ _ (if(Value.ref t==Value.none)=true then _ else _) _ _ s
 rw[if_neg (show ¬((Value.ref t==Value.none)=true)from λz=>nomatch z)]
 show wpAny _ _ (field (.ref I) 1 >>= _) _ _ s
 refine vaa (vbz e1 e3 (x:=.int k 0) rfl ?_)
 show wpAny _ _ (seqItems? (.ref t) >>= _) _ _ s
 refine vaa (vcj e4 e5 ?_)
 simp only[vbt,hy]
 refine vaa (wpAny_setField e1 e3 (by simp) (vah ⟨y,rfl,vah (q _ ?_ (Heap.SameBut.update ..))⟩))
 refine⟨_,Heap.get?_update_self _ e1 (Obj.isFreed_of_fields (Obj.data_mapFields e3 _)),(Obj.cls_mapFields ..).trans e2,?_⟩
 rw[Obj.data_mapFields e3]
 simp[rawInt]
theorem zep{I t:Addr}{k:Nat}{its:Array Value}{Q:Value->Shared->Prop}(hA:A.handled=none)(hi:s.heap.IsTupleIter I t k)(ht:s.heap.IsTuple t its)(hy:its[k]?=none)
 (q:∀g e,Heap.ExtBut I s.heap g->(∃o,g.get? e=some o/\o.cls=.type "StopIteration")->E (.ref e) {s with heap:=g}):wpAny (model prog w) A (Builtin.SmallTypes.nextOf (.ref I)) Q E s:=by
 obtain⟨oi,e1,e2,e3⟩:=id hi
 obtain⟨ot,e4,_,kt,e5⟩:=ht
 unfold Builtin.SmallTypes.nextOf
 refine vaa (vb0 (name:=Str.ofString "__next__") hi.typeIs vct (vb4 vct hi.typeIs F.entry_tuple_iterator_next ?_ (F.args_tuple_iterator_next_1 _)))
 show wpAny _ _ (field (.ref I) 0 >>= _) _ _ s
 refine vaa (vbz e1 e3 (x:=.ref t) rfl ?_)
 show wpAny _ _ (if(Value.ref t==Value.none)=true then _ else _) _ _ s
 rw[if_neg (show ¬((Value.ref t==Value.none)=true)from λz=>nomatch z)]
 show wpAny _ _ (field (.ref I) 1 >>= _) _ _ s
 refine vaa (vbz e1 e3 (x:=.int k 0) rfl ?_)
 show wpAny _ _ (seqItems? (.ref t) >>= _) _ _ s
 refine vaa (vcj e4 e5 ?_)
 simp only[vbt,hy]
 refine vaa (vd7 (vaa (wpAny_setField e1 e3 (by simp) ?_)))
 show wpAny _ _ (newExc (.type "StopIteration") [] >>= _) _ _ _
 refine vaa ?_
 simp only[newExc,newTuple]
 refine vaa (vbq ?_ (by size_fits))
 refine vaa (m:=firstArgMember _ _) (wpAny_of_eq (a:=Value.none) (by first|rfl|(simp only[firstArgMember];rfl)) ?_)
 refine vbq ?_ (by size_fits)
 simp only[raiseNew]
 refine vaa (wpAny_handled ?_)
 first|rw[show A.in1.handled=none from hA]|rw[hA]
 refine vaa (vah (wpAny_throw ?_))
 exact q _ _ (((Heap.SameBut.update ..).extBut.push _).push _) ⟨_,vas _ rfl,rfl⟩
end
theorem zjr{h h':Heap}{a:Addr}{its:Array Value}(x:h.IsTuple a its)(e:∀o,h.get? a=some o->h'.get? a=some o):h'.IsTuple a its:=let⟨o,ho,r⟩:=x;⟨o,e _ ho,r⟩
theorem zvn{prog:Program}{w:World}{A:Around}(hA:A.handled=none)(I t:Addr)(hne:t≠I)(its:Array Value) :
 Draws prog w A I [I,t] its.size (λi v=>its[i]?=some v) (λi h=>h.IsTupleIter I t i/\h.IsTuple t its)where
 live:=λ_ _ st=>let⟨o,ho,_⟩:=st.1;⟨o,ho⟩
 frame:=λ_ _ _ st hk=>⟨st.1.at λo e=>hk I (by simp) o e,zjr st.2 λo e=>hk t (by simp) o e⟩
 item:=λi s Q E hi st q=>zfk st.1 st.2 (y:=its[i]) (by simp[hi]) λg a b=>q _ g s.toks (by simp[hi]) ⟨a,st.2.extBut b.extBut hne⟩ b
 done:=λs Q E st q=>zep hA st.1 st.2 (by simp) q
theorem zix(l:Addr)(its:Array Value)(n:Nat)(dc:Option Addr)(sl:Array (Option Value)) :
 Meets (Builtin.«enumerate.__new__» ⟨[.type "enumerate",.ref l],[]⟩) (λ_ R s=>s.heap.get? l=some {cls:=.type "tuple",dict:=dc,data:=.seq its n,slots:=sl}/\
  R (.ok (.ret (.ref (s.heap.push {cls:=.type "tuple_iterator",data:=.fields #[.ref l,.int 0 0]}).objs.size)))
   {s with heap:=(s.heap.push {cls:=.type "tuple_iterator",data:=.fields #[.ref l,.int 0 0]}).push {cls:=.type "enumerate",data:=.fields #[.none,.bool false,.ref s.heap.objs.size,rawInt 0,.none,.none]}}):=
 .of_wp λprog w A R s h=>by
  obtain⟨hp,g,d,tk,os⟩:=s
  obtain⟨e,h⟩:=h
  have hsub:=sub_enumerate
  have hT:Heap.IsTuple (Shared.heap ⟨hp,g,d,tk,os⟩) l its:=⟨_,e,rfl,n,rfl⟩
  wp_walk using va7 e
  refine wpAny_stack_any λst=>vah ?_
  split
  .rename_i c _ _ _ _ _
   cases(c==Value.type "enumerate")<;> (wp_walk using va7 e,vcm hT;exact⟨_,rfl,h⟩)
  .wp_walk using va7 e,vcm hT
   exact⟨_,rfl,h⟩
theorem zk7{prog:Program}{w:World}{A:Around}{E:Value->Shared->Prop}{s:Shared}{l:Addr}{its:Array Value}{Q:Value->Shared->Prop}(hL:s.heap.IsTuple l its)
 (h:∀g,IsEnum g (s.heap.objs.size+1) s.heap.objs.size 0 .none->g.IsTupleIter s.heap.objs.size l 0->g.objs.size=s.heap.objs.size+2->(∀b o,s.heap.get? b=some o->g.get? b=some o)->Q (.ref (s.heap.objs.size+1)) {s with heap:=g}) :
 wpAny (model prog w) A (call (.type "enumerate") [.ref l]) Q E s:=by
 obtain⟨⟨c,dc,dt,sl⟩,e1,e2,n,e3⟩:=hL
 replace e2:c=.type "tuple":=e2
 replace e3:dt=.seq its n:=e3
 subst e2 e3
 refine callType_new F.called_enumerate (by decide) (F.typeCall_enumerate_1 _) (F.newCall_enumerate_1 _) (λobj=>F.args_object_init_2 obj _) F.entry_enumerate_new (zix l its n dc sl) ⟨e1,?_⟩
 have hz:(s.heap.push {cls:=.type "tuple_iterator",data:=.fields #[.ref l,.int 0 0]}).objs.size=s.heap.objs.size+1:=vb9 ..
 show _/\_
 rw[hz]
 have he:IsEnum ((s.heap.push {cls:=.type "tuple_iterator",data:=.fields #[.ref l,.int 0 0]}).push {cls:=.type "enumerate",data:=.fields #[.none,.bool false,.ref s.heap.objs.size,rawInt 0,.none,.none]}) (s.heap.objs.size+1) s.heap.objs.size 0 .none:=by
  rw[<-hz]
  exact vas _ rfl
 exact⟨⟨_,he,rfl⟩,h _ he ⟨_,vae _ (vas _ rfl),rfl,rfl⟩ (by rw[vb9,hz]) λb o x=>vae _ (vae _ x)⟩
noncomputable def IteT(K:vga)(a:Addr):It:=
 ⟨λi H=>∃xs x,SqT K H a xs/\xs[i]?=some x,λi H x H'=>∃T v,x=.ref T/\H T=none/\H'=upd H T (.tup [.int i,v])/\∀xs,SqT K H a xs->xs[i]?=some v,λi H=>∃xs,SqT K H a xs/\xs.length<=i⟩
theorem zk8{P:Program}{w:World}{K:vga}{elts:List Expr}{kx:Nat}{tp:Pos}(a e it:Addr)(hei:e≠it)(hae:a≠e)(hai:a≠it) :
 Turn P w K (.Tuple elts kx tp) (IteT K a) [e,it] e (λi h=>(∃old,IsEnum h e it i old)/\h.IsTupleIter it a i)where
 mem:=by simp
 obj:=λi h st b hb=>by
  obtain⟨⟨old,he⟩,o,ho,hc,hd⟩:=st
  rcases vax.mp hb with rfl|hb
  .exact⟨_,he,λv z=>by
    have z':Data.fields _=Data.cell v:=z
    cases z'⟩
  .have e':b=it:=by simpa using hb
   subst e'
   exact⟨o,ho,λv z=>by rw[hd]at z;cases z⟩
 keep:=λi h h' st k=>by
  obtain⟨⟨old,he⟩,st⟩:=st
  exact⟨⟨old,k e (by simp) _ he⟩,st.at λo q=>k it (by simp) o q⟩
 item:=by
  intro X hP hw hK hc i pins s σ H E I hf st hg
  subst hP hw hK
  obtain⟨xs,x,hq,hx⟩:=hg
  obtain⟨⟨old,he⟩,st⟩:=st
  obtain⟨its,rv,p,hz⟩:=I.tuple hq
  obtain⟨u,hu,ru⟩:=rv.get hx
  have hd:X.A.in1.handled=none:=I.ok.hd hc
  have p:s.heap.IsTuple a its.toArray:=p
  refine wpAny_pyNext_enum_itemD (zvn hd it a hai its.toArray) he ⟨st,p⟩ (by
   have:i<its.length:=by
    rw[<-rv.length]
    exact(va8.mp hx).1
   simpa using this) hei (by simp[hei,vbw hae]) λx' h1 tk hx' ho hit hT hsz hk=>?_
  obtain rfl:u=x':=by
   have:its[i]?=some x':=by simpa using hx'
   rw[hu]at this
   cases this;rfl
  refine⟨_,rfl,wpAny_letOwnedTupleGo_enum ho λh2 he2 hs2=>?_⟩
  have hTn:H s.heap.objs.size=none:=I.hok.fresh (vai _)
  have hTe:s.heap.objs.size≠e:=vck (vaq he)
  have hTi:s.heap.objs.size≠it:=by
   obtain⟨o,q,_⟩:=st
   exact vck (vaq q)
  have hs2:Heap.SameBut e h1 h2:=hs2
  have kk:∀b o,b≠e->b≠it->s.heap.get? b=some o->h2.get? b=some o:=λb o h1 h2 q=>(hs2.2 b h1).trans (hk b o h1 h2 q)
  have f0:=λb hb=>(hf b hb).1
  have nE:∀b o,H b=some o->b≠e/\b≠it:=λb o q=>⟨λz=>(by rw[z,f0 e (by simp)]at q;cases q),λz=>(by rw[z,f0 it (by simp)]at q;cases q)⟩
  have hT2:h2.get? s.heap.objs.size=some {cls:=.type "tuple",data:=.seq #[.int i tk,u]}:=(hs2.2 _ hTe).trans hT
  have I2:Inv X pins σ (upd H s.heap.objs.size (.tup [.int i,x])) {s with heap:=h2,gens:=s.gens,drawn:=s.drawn,toks:=tk+1}:=by
   refine I.step (ch:=[e,it]) (λb hb=>?_) (λb o _ _ hc e1 _=>kk b o (λz=>hc (by simp[z])) (λz=>hc (by simp[z])) e1) (λb o _ _ hc e1 _=>⟨o.slots,kk b o (λz=>hc (by simp[z])) (λz=>hc (by simp[z])) e1⟩)
    (λb o hc e1 n=>by rw[zag (va4 (vaq e1))];exact n) (λb o hc e1=>⟨o,kk b o (λz=>hc (by simp[z])) (λz=>hc (by simp[z])) e1⟩)
    (λb ys q=>by rw[zag (zaf q hTn)];exact q) (λb o u q=>by rw[zag (zaf q hTn)];exact q) (λb ps q=>⟨#[],by rw[zag (zaf q hTn),q];simp⟩) (λm hm=>?_) (λb ob q=>?_) I.bare
   .obtain⟨_,a1,a2,a3,a4,a5⟩:=hf b hb
    exact⟨a3,a1,a4,a5⟩
   .obtain⟨o,es,ep,ho',r⟩:=hm
    exact⟨o,es,ep,kk _ o (vbw (hf e (by simp)).2.1) (vbw (hf it (by simp)).2.1) ho',r⟩
   .by_cases hb:b=s.heap.objs.size
    .subst hb
     rw[zaq]at q;cases q
     exact⟨by show 2<=sizeLine;decide,[.int i tk,u],.cons ⟨_,rfl⟩ (.cons ru .nil),⟨_,hT2,rfl,⟨_,rfl⟩,rfl⟩⟩
    .rw[zag hb]at q
     refine(I.hok b ob q).stay (λc v hc z=>kk c v ?_ ?_ z) (λc z=>by rw[zag (zaf z hTn)];exact z) λc ys z=>by rw[zag (zaf z hTn)];exact z
     .rcases hc with rfl|hc
      .exact(nE c ob q).1
      .exact(nE c _ hc).1
     .rcases hc with rfl|hc
      .exact(nE c ob q).2
      .exact(nE c _ hc).2
  refine⟨.ref s.heap.objs.size,_,I2,rfl,⟨_,x,rfl,hTn,rfl,λys hy=>by rw[I.tuple_inj hy hq];exact hx⟩,⟨⟨u,by simpa using he2⟩,hit.1.at λo q=>(hs2.2 it (vbw hei)).trans q⟩,λb hb=>?_⟩
  rw[zag ?_]
  .exact f0 b hb
  .rcases vax.mp hb with rfl|hb
   .exact vbw hTe
   .have e':b=it:=by simpa using hb
    subst e'
    exact vbw hTi
 done:=by
  intro X hP hw hK hc i pins s σ H E I hf st hg
  subst hP hw hK
  obtain⟨xs,hq,hx⟩:=hg
  obtain⟨⟨old,he⟩,st⟩:=st
  obtain⟨its,rv,p,hz⟩:=I.tuple hq
  obtain⟨f0,f1,f2,f3,f4,f5⟩:=hf it (by simp)
  have hl:=rv.length
  have hd:X.A.in1.handled=none:=I.ok.hd hc
  have p:s.heap.IsTuple a its.toArray:=p
  refine PySem.wpAny_pyNext_enum_endD (n:=0) (P:=λ_ _=>True) (St:=λ_ h=>h.IsTupleIter it a i/\h.IsTuple a its.toArray) (fp:=[it,a]) ⟨?_,?_,?_,?_⟩ he ⟨st,p⟩ λh' eb=>⟨rfl,I.turned (t':=s.toks) (λb o hb q=>eb b o hb q) f0 f1 f3 f4 f5⟩
  .exact λ_ _ st=>let⟨o,ho,_⟩:=st.1;⟨o,ho⟩
  .exact λ_ _ _ st hk=>⟨st.1.at λo e=>hk it (by simp) o e,zjr st.2 λo e=>hk a (by simp) o e⟩
  .exact λj s' Q' E' hj=>absurd hj (Nat.not_lt_zero _)
  .exact λs' Q' E' st' q'=>zep hd st'.1 st'.2 (by simp;omega) q'
 self:=λ_ _ _ _ _ st h=>by
  obtain⟨⟨old,he⟩,_⟩:=st
  exact wpAny_pyIter_enum he h
section
variable{κ:Type}[DecidableEq κ]
noncomputable def valV(kvs:List (κ×V))(k:κ):Option V:=(kvs.find? λkv=>decide (kv.1=k)).map (·.2)
theorem zgd{p:κ×V}{r:List (κ×V)}{k:κ}(e:p.1=k):valV (p::r) k=some p.2:=by simp[valV,vbk,e]
theorem zd5{p:κ×V}{r:List (κ×V)}{k:κ}(e:¬p.1=k):valV (p::r) k=valV r k:=by simp[valV,vbk,e]
theorem RelO.getD{o:Option V}{u:Option Value}{d:V}{d':Value}(r:RelO o u)(rd:RelV d d'):RelV (o.getD d) (u.getD d'):=by
 cases o with
 |none=>cases u with
  |none=>exact rd
  |some _=>exact(show False from r).elim
 |some _=>cases u with
  |none=>exact(show False from r).elim
  |some _=>exact r
theorem KV.val{kvs:List (κ×V)}{vs:List (κ×Value)}(r:KV kvs vs)(k:κ):RelO (valV kvs k) (valueAt vs k):=by
 unfold KV at r
 induction r with
 |nil=>exact True.intro
 | @cons p q ps qs h t ih=>
  obtain⟨h1,h2⟩:=h
  by_cases e:p.1=k
  .have e':q.1=k:=h1.symm.trans e
   have b:valueAt (q::qs) k=some q.2:=by simp[valueAt,vbk,e']
   rw[zgd e,b];exact h2
  .have e':¬q.1=k:=λz=>e (h1.trans z)
   have b:valueAt (q::qs) k=valueAt qs k:=by simp[valueAt,vbk,e']
   rw[zd5 e,b];exact ih
end
theorem kV_is{P:Program}{w:World}{k:Key}{u:Value}(r:RelV (kV k) u):(zax P w).is k u=true:=by
 cases k with
 |inl i=>obtain⟨t,e⟩:=(show ∃t,u=Value.int i t from r);subst e;exact ziu P w i t
 |inr x=>obtain⟨t,e⟩:=(show ∃t,u=Value.str x t from r);subst e;exact zcu P w x t
theorem zht{P:Program}{w:World}:∀{ks:List Key} {us:List Value},Vals (ks.map kV) us->ItemsAre (zax P w) ks us
 |[],_,r=>by rw[vdi]at r;cases r;exact .nil
 |k::ks,_,r=>by
  rw[vao]at r
  cases r with
  |cons h t=>exact .cons (kV_is h) (zht t)
noncomputable abbrev KT(H:Hp):List (List Key×V)->List (List Key×Addr×Value)->Prop:=Paired λp q=>p.1=q.1/\H q.2.1=some (.tup (p.1.map kV))/\RelV p.2 q.2.2
theorem KT.val{H:Hp}{kvs:List (List Key×V)}{xs:List (List Key×Addr×Value)}(r:KT H kvs xs)(k:List Key):RelO (valV kvs k) ((atKey xs k).map (·.2)):=by
 induction r with
 |nil=>exact True.intro
 | @cons p q ps qs h t ih=>
  obtain⟨h1,_,h2⟩:=h
  by_cases e:p.1=k
  .have e':q.1=k:=h1.symm.trans e
   have b:atKey (q::qs) k=some q.2:=by simp[atKey,vbk,e']
   rw[zgd e,b];exact h2
  .have e':¬q.1=k:=λz=>e (h1.trans z)
   have b:atKey (q::qs) k=atKey qs k:=by simp[atKey,vbk,e']
   rw[zd5 e,b];exact ih
section
variable{P:Program}{w:World}{H:Hp}{h:Heap}{a:Addr}
theorem rd_of{u:HO}(ok:HOk P w H h)(e:Rd H a u):ObjOk P w H h a u:=e.ok ok
theorem dk_rd{kvs:List (Key×V)}(ok:HOk P w H h)(e:Rd H a (.dK kvs)):kvs.length<=sizeLine/\(a==sysModules)=false/\∃vs,KV kvs vs/\h.DictOf (zax P w) a vs:=
 show ObjOk P w H h a (.dK kvs)from rd_of ok e
theorem zqw{ks:List Key}(ok:HOk P w H h)(e:H a=some (.tup (ks.map kV))):(tupleKind (zax P w)).is h ks a:=by
 obtain⟨_,its,r,o,h1,h2,⟨n,h3⟩,_⟩:=(show ObjOk P w H h a (.tup (ks.map kV))from ok a _ e)
 exact⟨o,its.toArray,n,h1,h2,h3,by simpa using zht r⟩
theorem dt_rd{kvs:List (List Key×V)}(ok:HOk P w H h)(e:Rd H a (.dT kvs)):kvs.length<=sizeLine/\(a==sysModules)=false/\
 ∃xs,KT H kvs xs/\h.DictOfH (tupleKind (zax P w)) a xs:=by
 obtain⟨z,y,xs,r,o,es,ep,h1,h2,h3,h4,h5⟩:=(show ObjOk P w H h a (.dT kvs)from rd_of ok e)
 refine⟨z,y,xs,r,o,es,ep,h1,h2,h3,h4,λx hx=>?_,h5⟩
 have all:∀{l:List (List Key×V)}{m:List (List Key×Addr×Value)},KT H l m->∀x∈m,(tupleKind (zax P w)).is h x.1 x.2.1:=by
  intro l m q
  induction q with
  |nil=>intro x hx;exact nomatch hx
  | @cons p q ps qs hq t ih=>
   intro x hx
   rcases vax.mp hx with e|hx
   .subst e
    exact zqw ok (by rw[<-hq.1];exact hq.2.1)
   .exact ih x hx
 exact all r x hx
end
noncomputable def DGet(H:Hp)(a:Addr)(y:V)(r:Option V):Prop:=
 (∃kvs k,Rd H a (.dK kvs)/\y=kV k/\r=valV kvs k)\/∃kvs k b,Rd H a (.dT kvs)/\y=.ref b/\H b=some (.tup (k.map kV))/\r=valV kvs k
section
variable{X:Cx}{pins:List (Addr×Obj)}{σ:St}{H:Hp}{s:Shared}{a:Addr}{y v:V}{u r:Value}{o:Option V}{A:Around}{E:Value->Shared->Prop}
theorem Inv.big(I:Inv X pins σ H s):sysModules<s.heap.objs.size:=by
 have h:mainGlobals<s.heap.objs.size:=(I.mod.glob.keeps I.bk).lt
 exact Nat.lt_trans (by decide) h
theorem zmn{Q:Value->Shared->Prop}(hu:A.units+1<cLine)(I:Inv X pins σ H s)(g:DGet H a y (some v))(ry:RelV y u)(h:∀w' s',Inv X pins σ H s'->RelV v w'->Q w' s') :
 wpAny (model X.prog X.w) A (getItem (.ref a) u) Q E s:=by
 rcases g with⟨kvs,k,e,ey,l⟩|⟨kvs,k,b,e,ey,eb,l⟩
 .subst ey
  obtain⟨z,hd,vs,rel,dd⟩:=dk_rd I.hok e
  obtain⟨w',hw,rw'⟩:=RelO.some_of (v:=v) (o:=valueAt vs k) (by rw[l];exact rel.val k)
  exact wpAny_getItem_of (kV_is ry) dd.mapOf hw (h w' _ (I.tok _) rw')
 .subst ey
  cases(show u=Value.ref b from ry)
  obtain⟨z,hd,xs,rel,dd⟩:=dt_rd I.hok e
  obtain⟨w',hw,rw'⟩:=RelO.some_of (v:=v) (o:=(atKey xs k).map (·.2)) (by rw[l];exact rel.val k)
  obtain⟨p,hp,hp2⟩:=Option.map_eq_some_iff.mp hw
  refine wpAny_getItem_heap (tupleKind_room_in1 hu) (zqw I.hok eb) dd hp ?_
  rw[hp2]
  exact h w' _ (I.tok _) rw'
theorem zsl{h':Heap}{t':Nat}{ob:HO}(I:Inv X pins σ H s)(mu:Mut (H a))(hs:Heap.SameBut a s.heap h')(he:∃q,h'.get? a=some q)(new:ObjOk X.prog X.w (upd H a ob) h' a ob) :
 Inv X pins σ (upd H a ob) {s with heap:=h',toks:=t'}:=
 I.write (x:=a) (e:=a) mu (.inl rfl) (λb q hb z=>(hs.2 b hb).trans z) he new
end
theorem ziy{X:Cx}{pins:List (Addr×Obj)}{σ:St}{H:Hp}{s:Shared}{a:Addr}{y:V}{o:Option V}(I:Inv X pins σ H s)(g:DGet H a y o):s.TypeIs (.ref a) "dict":=by
 rcases g with⟨kvs,k,e,_,_⟩|⟨kvs,k,b,e,_,_,_⟩
 .obtain⟨_,_,vs,_,dd⟩:=dk_rd I.hok e
  exact dd.typeIs
 .obtain⟨_,_,xs,_,dd⟩:=dt_rd I.hok e
  exact dd.typeIs
theorem zpf{P:Program}{w:World}{H:Hp}(h:Heap)(hb:sysModules<h.objs.size):ObjOk P w H (h.push {cls:=.type "dict",data:=.dict #[]}) h.objs.size (.dK []):=
 ⟨vbu _,vcf.mpr (vbw (va4 hb)),[],.nil,Heap.DictOf.new h⟩
noncomputable def zvo:TE:=λ_ H Q=>∀p,H p=none->Q (.ref p) (upd H p (.dK []))
section
variable{X:Cx}{pos:Pos}
theorem zpg:PE X (.Dict [] [] pos) zvo:=λpins s σ H Q I h=>
 wpAny_Dict_empty ⟨.ref s.heap.objs.size,_,I.laid (a:=s.heap.objs.size) (o:=.dK []) (t':=s.toks) (λ_ _ q=>vae _ q) (vai _) (zpf s.heap I.big),rfl,h _ (I.hok.fresh (vai _))⟩
end
structure M2(X:Cx)(o:Expr)(m:Str)(apos:Pos)(e f:Expr)(cpos:Pos):Prop where
 base:attributeBase o m X.env (eval o X.env)=eval o X.env
 few:((backTo cpos (starEach [e,f] X.env)).all (λx=>!x.1)&& (backToKw cpos (keywordEach [] X.env)).all (λx=>x.1.isSome)
  && decide (([e,f]:List Expr).length+ ([]:List Keyword).length+ (if([]:List Keyword).isEmpty then 0 else 1)<30))=true
 line:(apos.endLine==cpos.line)=true
 trees:backTo cpos (starEach [e,f] X.env)=[(false,eval e X.env),(false,eval f X.env)]
theorem zge:fillsNumberSlot (.type "tuple") "mul" = pure false:=
 PySem.fillsNumberSlot_seq (id:="tuple.__mul__") (r:=some (.builtin "tuple.__rmul__")) vde.lookup (by decide +kernel) F.slot_tuple_rmul.lookup (by decide +kernel)
theorem zmo:seqRepeat? (.type "tuple")=pure (some (.builtin "tuple.__mul__")):=by
 unfold seqRepeat?
 rw[PySem.seqSlot_of (T:="tuple") (name:="__mul__") (id:="tuple.__mul__") vde.lookup (by decide +kernel),PySem.seqSlot_of (T:="tuple") (name:="__rmul__") (id:="tuple.__rmul__") F.slot_tuple_rmul.lookup (by decide +kernel)]
 rfl
theorem zph(k:Int)(t:Tok)(l:Addr)(its:Array Value)(n:Nat)(dd:Option Addr)(sl:Array (Option Value)) :
 Meets (Builtin.«int.__rmul__» ⟨[.int k t,.ref l],[]⟩) (λ_ R s=>s.heap.get? l=some {cls:=.type "tuple",dict:=dd,data:=.seq its n,slots:=sl}/\R (.ok (.ret Value.notImplemented)) s):=
 .of_wp λprog w A R s h=>by
  obtain⟨hp,g,d,tk,os⟩:=s
  obtain⟨e,h⟩:=h
  wp_walk using va7 e
  exact⟨_,rfl,h⟩
theorem zpi(l:Addr)(its:Array Value)(n:Nat)(dd:Option Addr)(sl:Array (Option Value))(k:Int)(t:Tok)(h1:¬(decide (k < -(2 ^ 63))||decide (k>=2 ^ 63))=true)(h2:(its.isEmpty||k==1)=true) :
 Meets (Builtin.«tuple.__mul__» ⟨[.ref l,.int k t],[]⟩) (λ_ R s=>s.heap.get? l=some {cls:=.type "tuple",dict:=dd,data:=.seq its n,slots:=sl}/\R (.ok (.ret (.ref l))) s):=
 .of_wp λprog w A R s h=>by
  obtain⟨hp,g,d,tk,os⟩:=s
  obtain⟨e,h⟩:=h
  have f1:=AutoSeq1.idx_int
  wp_walk using va7 e
  refine wpAny_ite ?_
  rw[if_neg h1]
  wp_walk using va7 e
  exact⟨_,rfl,h⟩
theorem zpj(l:Addr)(its:Array Value)(n:Nat)(dd:Option Addr)(sl:Array (Option Value))(k:Int)(t:Tok)(h1:¬(decide (k < -(2 ^ 63))||decide (k>=2 ^ 63))=true)(h2:¬(its.isEmpty||k==1)=true)(h3:(decide (k<=0)||its.isEmpty)=true) :
 Meets (Builtin.«tuple.__mul__» ⟨[.ref l,.int k t],[]⟩) (λ_ R s=>s.heap.get? l=some {cls:=.type "tuple",dict:=dd,data:=.seq its n,slots:=sl}/\R (.ok (.ret (.ref s.heap.objs.size))) {s with heap:=s.heap.push {cls:=.type "tuple",data:=.seq #[]}}):=
 .of_wp λprog w A R s h=>by
  obtain⟨hp,g,d,tk,os⟩:=s
  obtain⟨e,h⟩:=h
  have f1:=AutoSeq1.idx_int
  wp_walk using va7 e
  refine wpAny_ite ?_
  rw[if_neg h1]
  wp_walk using va7 e
  exact⟨_,rfl,h⟩
theorem zpk(l:Addr)(its:Array Value)(n:Nat)(dd:Option Addr)(sl:Array (Option Value))(k:Int)(t:Tok)(h1:¬(decide (k < -(2 ^ 63))||decide (k>=2 ^ 63))=true)(h2:¬(its.isEmpty||k==1)=true)(h3:¬(decide (k<=0)||its.isEmpty)=true)
 (h4:¬(its.size*k> (2 ^ 63-1)/8)) (h5:¬Builtin.Tuple.tupleTooMany (its.size*k)=true) (h6:((vgc k.toNat its).foldl (· ++ ·) #[]).size<=sizeLine) :
 Meets (Builtin.«tuple.__mul__» ⟨[.ref l,.int k t],[]⟩) (λ_ R s=>s.heap.get? l=some {cls:=.type "tuple",dict:=dd,data:=.seq its n,slots:=sl}/\R (.ok (.ret (.ref s.heap.objs.size))) {s with heap:=s.heap.push {cls:=.type "tuple",data:=.seq ((vgc k.toNat its).foldl (· ++ ·) #[])}}):=
 .of_wp λprog w A R s h=>by
  obtain⟨hp,g,d,tk,os⟩:=s
  obtain⟨e,h⟩:=h
  have f1:=AutoSeq1.idx_int
  wp_walk using va7 e
  refine wpAny_ite ?_
  rw[if_neg h1]
  wp_walk using va7 e
  refine wpAny_ite ?_
  rw[if_neg h4]
  wp_walk using va7 e
  exact⟨_,rfl,h⟩
section
variable{X:Cx}
noncomputable def rRepT(K:vga):R2:=λx y H Q=>∃a k xs,x=.ref a/\y=.int k/\SqT K H a xs/\-(2 ^ 62)<=k/\k<2 ^ 62/\xs.length*k.toNat<=sizeLine/\
 ((xs.isEmpty||k==1)=true->Q (.ref a) H)/\((xs.isEmpty||k==1)=false->∀p,H p=none->Q (.ref p) (upd H p (.tup (vgc k.toNat xs).flatten)))
theorem zeq{xs:List V}{us:List Value}(r:Vals xs us):us.toArray.isEmpty=xs.isEmpty:=by
 cases r<;>rfl
theorem zsm:OpR X (binaryOp .Mult) (rRepT X.K):=by
 intro pins s σ H x y v u Q I rx ry h
 obtain⟨a,k,xs,rfl,rfl,ha,k1,k2,hz,q1,q2⟩:=h
 cases rx
 obtain⟨t,rfl⟩:=ry
 obtain⟨its,r,p,_⟩:=I.tuple ha
 obtain⟨⟨c,dd,dt,sl⟩,e1,e2,n,e3⟩:=p
 replace e2:c=.type "tuple":=e2
 replace e3:dt=.seq its.toArray n:=e3
 subst e2 e3
 have hl:xs.length=its.length:=r.length
 have h1:¬(decide (k < -(2 ^ 63))||decide (k>=2 ^ 63))=true:=by
  simp only[vb3,vaj]
  lia
 refine wpAny_binaryOp_repeat_ref (T:="tuple") (U:="int") (by decide) ⟨_,e1,rfl⟩ (λs'=>typeIs_int s' k t) zge F.fills_int_mul F.slot_int_rmul zmo F.slot_int_index.lookup
  (vd6 F.slot_int_rmul (typeIs_int s k t) F.entry_int_rmul (F.args_int_rmul_2 _ _) (zph k t a its.toArray n dd sl) ⟨e1,rfl,⟨_,e1,rfl⟩,?_⟩)
 by_cases h2:(its.toArray.isEmpty||k==1)=true
 .refine vd6 vde ⟨_,e1,rfl⟩ F.entry_tuple_mul (F.args_tuple_mul_2 _ _) (zpi a its.toArray n dd sl k t h1 h2) ⟨e1,?_⟩
  exact⟨.ref a,H,I,rfl,q1 (by rw[<-zeq r];exact h2)⟩
 .have q2:=q2 (by rw[<-zeq r];simpa using h2)
  by_cases h3:(decide (k<=0)||its.toArray.isEmpty)=true
  .have hk:k.toNat=0:=by
    have:its.toArray.isEmpty=false:=by
     cases q:its.toArray.isEmpty with
     |false=>rfl
     |true=>rw[q]at h2;exact absurd rfl h2
    rw[this,Bool.or_false,vaj]at h3
    lia
   refine vd6 vde ⟨_,e1,rfl⟩ F.entry_tuple_mul (F.args_tuple_mul_2 _ _) (zpj a its.toArray n dd sl k t h1 h2 h3) ⟨e1,?_⟩
   rw[hk]at q2
   exact⟨.ref s.heap.objs.size,_,I.laid (t':=s.toks) (o:=.tup []) (λb ob q=>vae _ q) (vai _) ⟨vbu _,[],.nil,zbp.new _ _⟩,rfl,q2 _ (I.hok.fresh (vai _))⟩
  .have hk:0<k:=by
    simp only[vb3,vaj,not_or]at h3
    lia
   have hkn:((k.toNat:Nat):Int)=k:=vdg (by lia)
   have hmul:(its.toArray.size:Int)*k=((xs.length*k.toNat:Nat):Int):=by
    rw[van,<-hl,Int.natCast_mul,hkn]
   have hsl:(sizeLine:Nat)=16777216:=rfl
   have fl:(vgc k.toNat its.toArray).foldl (· ++ ·) #[]=(vgc k.toNat its).flatten.toArray:=by
    have:=zhp its k.toNat []
    rw[vcc]at this
    exact this
   refine vd6 vde ⟨_,e1,rfl⟩ F.entry_tuple_mul (F.args_tuple_mul_2 _ _) (zpk a its.toArray n dd sl k t h1 h2 h3 (by rw[hmul];lia) (by
    unfold Builtin.Tuple.tupleTooMany
    rw[hmul,vaj]
    lia) (by rw[fl,van,zmi,Nat.mul_comm,<-hl];exact hz)) ⟨e1,?_⟩
   rw[fl]
   exact⟨.ref s.heap.objs.size,_,I.laid (t':=s.toks) (o:=.tup (vgc k.toNat xs).flatten) (λb ob q=>vae _ q) (vai _) ⟨by rw[zmi,Nat.mul_comm];exact hz,_,r.rep k.toNat,zbp.new _ _⟩,rfl,q2 _ (I.hok.fresh (vai _))⟩
noncomputable def zqx(K:vga):R2:=λx y H Q=>∃a b ys,x=.ref a/\y=.ref b/\SqT K H a []/\SqT K H b ys/\Q (.ref b) H
theorem zpl:OpR X (binaryOp .Add) (zqx X.K):=by
 intro pins s σ H x y v u Q I rx ry h
 obtain⟨a,b,ys,rfl,rfl,ha,hb,q⟩:=h
 cases rx
 cases ry
 obtain⟨its,r1,p1,_⟩:=I.tuple ha
 obtain⟨its2,r2,p2,_⟩:=I.tuple hb
 cases r1
 obtain⟨⟨c,dd,dt,sl⟩,e1,e2,n,e3⟩:=p1
 obtain⟨⟨c2,dd2,dt2,sl2⟩,f1,f2,n2,f3⟩:=p2
 replace e2:c=.type "tuple":=e2
 replace e3:dt=.seq ([]:List Value).toArray n:=e3
 replace f2:c2=.type "tuple":=f2
 replace f3:dt2=.seq its2.toArray n2:=f3
 subst e2 e3 f2 f3
 exact concat_meets ⟨_,e1,rfl⟩ ⟨_,f1,rfl⟩ noFill_tuple_add seq_tuple_add PySem.F.slot_tuple_add PySem.F.entry_tuple_add (PySem.F.args_tuple_add_2 _ _) (tuple_addW0 a b ([]:List Value).toArray its2.toArray n n2 dd dd2 sl sl2 rfl) ⟨e1,f1,⟨.ref b,H,I,rfl,q⟩⟩
noncomputable def anyEq(ds:List PyData)(d:PyData):Bool:=ds.any λe=>PyData.eqv e d
noncomputable def rInD(K:vga)(neg:Bool):R2:=λx y H Q=>∃p xs ds d,y=.ref p/\(SqL K H p xs\/SqT K H p xs)/\Rps K (λ_=>False) H xs ds/\Rp K (λ_=>False) H x d/\ds.all SeqAt.shaped=true/\SeqAt.shaped d=true/\Q (.bl (if neg then !anyEq ds d else anyEq ds d)) H
theorem zcd{h:Heap}:∀{us:List Value} {ds:List PyData} {as:List Addr} {i:Nat} {u:Value},ReadsAll h us ds as->us[i]?=some u->∃d bs,ds[i]?=some d/\Reads h u d bs
 |_,_,_,i,u,.nil,e=>by simp at e
 |_,_,_,0,u,.cons r _,e=>by simp at e;subst e;exact⟨_,_,rfl,r⟩
 |_,_,_,i+1,u,.cons _ rs,e=>by
  obtain⟨d,bs,h1,h2⟩:=zcd rs (by simpa using e)
  exact⟨d,bs,by simpa using h1,h2⟩
open Classical in
noncomputable def eqOf(us:List Value)(ds:List PyData)(d:PyData)(u:Value):Bool:=decide (∃(i:Nat) (e:PyData),us[i]?=some u/\ds[i]?=some e/\PyData.eqv e d=true)
open Classical in
theorem zd6{us:List Value}{ds:List PyData}{d:PyData}{u:Value}:eqOf us ds d u=true↔∃(i:Nat) (e:PyData),us[i]?=some u/\ds[i]?=some e/\PyData.eqv e d=true:=by
 unfold eqOf
 exact decide_eq_true_iff
theorem zd7{us:List Value}{ds:List PyData}{d:PyData}(hl:us.length=ds.length):us.any (eqOf us ds d)=anyEq ds d:=by
 cases q:anyEq ds d with
 |true=>
  unfold anyEq at q
  rw[List.any_eq_true]at q
  obtain⟨e,h1,h2⟩:=q
  obtain⟨i,hi,h3⟩:=List.mem_iff_getElem.mp h1
  rw[List.any_eq_true]
  refine⟨us[i]'(by lia),List.getElem_mem _,?_⟩
  rw[zd6]
  exact⟨i,e,by simp,by rw[va0 hi,h3],h2⟩
 |false=>
  unfold anyEq at q
  rw[List.any_eq_false]at q ⊢
  intro u hu z
  rw[zd6]at z
  obtain⟨i,e,h1,h2,h3⟩:=z
  exact q e (vdc h2) h3
theorem zce{h:Heap}:∀{us:List Value} {ds:List PyData} {as:List Addr},ReadsAll h us ds as->us.length=ds.length
 |_,_,_,.nil=>rfl
 |_,_,_,.cons _ r=>by rw[vap,vap,zce r]
theorem zgf{A:Around}{s:Shared}{us:List Value}{ds:List PyData}{as bs:List Addr}{d:PyData}{v:Value}(hu:A.units+64<cLine)(ra:ReadsAll s.heap us ds as)(rb:Reads s.heap v d bs)(s1:ds.all SeqAt.shaped=true)(s2:SeqAt.shaped d=true) :
 ∀u∈us,SeqAt.EqAt A s u v (eqOf us ds d u):=by
 intro u hm
 have sh:∀(i:Nat)(e:PyData),ds[i]?=some e->SeqAt.shaped e=true:=λi e q=>vbi.mp s1 e (vdc q)
 cases q:eqOf us ds d u with
 |true=>
  rw[zd6]at q
  obtain⟨i,e,h1,h2,h3⟩:=q
  obtain⟨e',cs,h4,h5⟩:=zcd ra h1
  rw[h2]at h4;cases h4
  have:=SeqAt.eqAt_reads e d A s u v cs bs h5 rb (vc2 (sh i e h2)) (vc2 s2) (SeqAt.room_of_shaped (sh i e h2) hu)
  rw[h3]at this;exact this
 |false=>
  obtain⟨i,hi,h1⟩:=List.mem_iff_getElem.mp hm
  have h1:us[i]?=some u:=by rw[va0 hi,h1]
  obtain⟨e,cs,h4,h5⟩:=zcd ra h1
  have h3:PyData.eqv e d=false:=by
   cases z:PyData.eqv e d with
   |false=>rfl
   |true=>
    rw[zd6.mpr ⟨i,e,h1,h4,z⟩]at q
    cases q
  have:=SeqAt.eqAt_reads e d A s u v cs bs h5 rb (vc2 (sh i e h4)) (vc2 s2) (SeqAt.room_of_shaped (sh i e h4) hu)
  rw[h3]at this;exact this
theorem zvp(hu:X.A.in1.units+64<cLine):OpR X (compareOp .In) (rInD X.K false):=by
 intro pins s σ H x y v u Q I rx ry h
 obtain⟨p,xs,ds,d,rfl,hq,r1,r2,s1,s2,q⟩:=h
 cases ry
 obtain⟨bs,rb⟩:=r2.reads I rx
 rcases hq with hq|hq
 .obtain⟨its,r,pl,hz⟩:=I.list hq
  obtain⟨as,ra⟩:=r1.reads I r
  refine SeqAt.in_listAt (eqOf its ds d) pl.isList (λw hw=>zgf hu ra rb s1 s2 w (by simpa using hw)) ⟨.bl _,H,I,rfl,?_⟩
  rw[show its.toArray.any (eqOf its ds d)=its.any (eqOf its ds d) by simp,zd7 (zce ra)]
  exact q
 .obtain⟨its,r,pl,hz⟩:=I.tuple hq
  obtain⟨as,ra⟩:=r1.reads I r
  refine SeqAt.in_tupleAt (eqOf its ds d) pl (λw hw=>zgf hu ra rb s1 s2 w (by simpa using hw)) ⟨.bl _,H,I,rfl,?_⟩
  rw[show its.toArray.any (eqOf its ds d)=its.any (eqOf its ds d) by simp,zd7 (zce ra)]
  exact q
theorem zmp(hu:X.A.in1.units+64<cLine):OpR X (compareOp .NotIn) (rInD X.K true):=by
 intro pins s σ H x y v u Q I rx ry h
 obtain⟨p,xs,ds,d,rfl,hq,r1,r2,s1,s2,q⟩:=h
 cases ry
 obtain⟨bs,rb⟩:=r2.reads I rx
 rcases hq with hq|hq
 .obtain⟨its,r,pl,hz⟩:=I.list hq
  obtain⟨as,ra⟩:=r1.reads I r
  refine SeqAt.notIn_listAt (eqOf its ds d) pl.isList (λw hw=>zgf hu ra rb s1 s2 w (by simpa using hw)) ⟨.bl _,H,I,rfl,?_⟩
  rw[show its.toArray.any (eqOf its ds d)=its.any (eqOf its ds d) by simp,zd7 (zce ra)]
  exact q
 .obtain⟨its,r,pl,hz⟩:=I.tuple hq
  obtain⟨as,ra⟩:=r1.reads I r
  refine SeqAt.notIn_tupleAt (eqOf its ds d) pl (λw hw=>zgf hu ra rb s1 s2 w (by simpa using hw)) ⟨.bl _,H,I,rfl,?_⟩
  rw[show its.toArray.any (eqOf its ds d)=its.any (eqOf its ds d) by simp,zd7 (zce ra)]
  exact q
end
end L2
namespace HT
open PySem PySem.Spec PyProof.Rows
section
variable{prog:Program}{w:World}{A:Around}{E:Value->Shared->Prop}{s:Shared}
theorem getItem_tuple_whole{t sl:Addr}{items:Array Value}{vl vu:Value}{lo hi:Option Int}{Q:Value->Shared->Prop}(ht:IsTup s.heap t items)(hs:s.heap.IsSliceOf sl vl vu .none)(pl:IsPart vl lo)(pu:IsPart vu hi)
 (hw:sIx items.size 0 lo=0/\sIx items.size items.size hi=items.size)
 (h:Q (.ref t) s):wpAny (model prog w) A (getItem (.ref t) (.ref sl)) Q E s:=by
 obtain⟨os,hos,hcs,hds⟩:=id hs
 have hTs:s.TypeIs (.ref sl) "slice":=⟨os,hos,hcs⟩
 unfold getItem
 try with_reducible refine vcx ?_
 first|refine vaa (vah ?_)|skip
 refine vaa (wpAny_sequenceKey ht.typeIs (by decide) ?_)
 refine vaa (vb0 (name:=Str.ofString "__getitem__") ht.typeIs vaz
  (vb4 vaz ht.typeIs entry_tuple_getitem ?_ (args_tuple_getitem _ _)))
 show wpAny _ _ (Builtin.Tuple.tupleItemsOf (.ref t) >>= _) _ _ s
 refine vaa (tupleItemsOf_ ht ?_)
 refine vaa (vee hTs ?_)
 rw[if_pos (by decide)]
 refine vaa (zb8 hs pl pu ?_)
 have hyes:((((sIx items.size 0 lo:Nat):Int)==0&& (1:Int)==1&& (sIx items.size items.size hi-sIx items.size 0 lo)==items.size)=true):=by
  rw[hw.1,hw.2];simp
 show wpAny _ _ (if(((sIx items.size 0 lo:Nat):Int)==0&& (1:Int)==1&& (sIx items.size items.size hi-sIx items.size 0 lo)==items.size)=true then _ else _) _ _ s
 rw[if_pos hyes]
 unfold Builtin.Tuple.tupleIsExact
 refine vaa (vaa (vee ht.typeIs (vah ?_)))
 rw[if_pos (by decide)]
 refine vaa (vd7 ?_)
 exact vah ⟨_,rfl,vah h⟩
end
end HT
namespace L2
open PySem PySem.Spec PyProof.Rows
variable{X:Cx}
noncomputable def rSlW(K:vga):V->Option Int->Option Int->Hp->VK->Prop:=λx lo hi H Q=>∃a xs,x=.ref a/\SqT K H a xs/\
 (HT.sIx xs.length 0 lo=0/\HT.sIx xs.length xs.length hi=xs.length)/\Q (.ref a) H
theorem zsn:SlR X (rSlW X.K):=by
 intro pins s σ H x v vl vu lo hi sl Q I rx hs pl pu h
 obtain⟨a,xs,rfl,hx,hw,q⟩:=h
 cases rx
 obtain⟨its,r,ht,hz⟩:=I.tuple hx
 have hlen:its.toArray.size=xs.length:=by rw[van];exact r.length.symm
 refine⟨"tuple",_,vaz.lookup,ht.typeIs,?_⟩
 refine HT.getItem_tuple_whole ht hs pl pu (by rw[hlen];exact hw) ?_
 exact⟨.ref a,_,I,rfl,q⟩
noncomputable def rSlA(K:vga):V->Option Int->Option Int->Hp->VK->Prop:=λx lo hi H Q=>(rSlT K x lo hi H Q\/rSlW K x lo hi H Q)\/rSlL K x lo hi H Q
theorem zvq:SlR X (rSlA X.K):=(zvg.or zsn).or zse
noncomputable def ZI(b:Bool)(h:Heap)(I l:Addr)(k:Nat):Prop:=match b with|true=>h.IsTupleIter I l k|false=>h.IsListIter I l k
noncomputable def ZS(b:Bool)(h:Heap)(l:Addr)(xs:Array Value):Prop:=match b with|true=>h.IsTuple l xs|false=>h.IsList l xs
noncomputable def zName(b:Bool):String:=match b with|true=>"tuple_iterator" |false=>"list_iterator"
noncomputable def zIt(b:Bool)(l:Addr):Obj:={cls:=.type (zName b),data:=.fields #[.ref l,.int 0 0]}
theorem ZI.ex{b:Bool}{h h':Heap}{I l c:Addr}{k:Nat}(x:ZI b h I l k)(s:Heap.ExtBut c h h')(n:I≠c):ZI b h' I l k:=by
 cases b
 .exact Heap.IsListIter.extBut x s n
 .exact Heap.IsTupleIter.extBut x s n
theorem ZS.ex{b:Bool}{h h':Heap}{l c:Addr}{xs:Array Value}(x:ZS b h l xs)(s:Heap.ExtBut c h h')(n:l≠c):ZS b h' l xs:=by
 cases b
 .exact Heap.IsList.extBut x s n
 .exact Heap.IsTuple.extBut x s n
theorem ZI.mv{b:Bool}{h h':Heap}{I l:Addr}{k:Nat}(x:ZI b h I l k)(e:∀o,h.get? I=some o->h'.get? I=some o):ZI b h' I l k:=by
 cases b
 .exact Heap.IsListIter.at x e
 .exact Heap.IsTupleIter.at x e
theorem ZI.ob{b:Bool}{h:Heap}{I l:Addr}{k:Nat}(x:ZI b h I l k):∃o,h.get? I=some o/\∀v,o.data≠.cell v:=by
 cases b
 .obtain⟨o,h1,h2,h3⟩:=x;exact⟨o,h1,λv z=>by rw[h3]at z;cases z⟩
 .obtain⟨o,h1,h2,h3⟩:=x;exact⟨o,h1,λv z=>by rw[h3]at z;cases z⟩
theorem ZS.lt{b:Bool}{h:Heap}{l:Addr}{xs:Array Value}(x:ZS b h l xs):l<h.objs.size:=by
 cases b<;> (obtain⟨o,h1,_⟩:=x;exact vaq h1)
theorem ZS.push{b:Bool}{h:Heap}{l:Addr}{xs:Array Value}(x:ZS b h l xs)(o:Obj):ZS b (h.push o) l xs:=by
 cases b
 .exact Heap.IsList.push x o
 .exact Heap.IsTuple.push x o
section
variable{prog:Program}{w:World}{A:Around}{E:Value->Shared->Prop}{s:Shared}
theorem zmq{b:Bool}{I l:Addr}{k:Nat}{xs:Array Value}{y:Value}{Q:Value->Shared->Prop}(hi:ZI b s.heap I l k)(hl:ZS b s.heap l xs)(hy:xs[k]?=some y)
 (q:∀g,ZI b g I l (k+1)->Heap.SameBut I s.heap g->Q y {s with heap:=g}):wpAny (model prog w) A (Builtin.SmallTypes.nextOf (.ref I)) Q E s:=by
 cases b
 .exact wpAny_nextOf_list_item hi hl hy q
 .exact zfk hi hl hy q
theorem z_end{b:Bool}{I l:Addr}{k:Nat}{xs:Array Value}{Q:Value->Shared->Prop}(hA:A.handled=none)(hi:ZI b s.heap I l k)(hl:ZS b s.heap l xs)(hy:xs[k]?=none)
 (q:∀g e,Heap.ExtBut I s.heap g->(∃o,g.get? e=some o/\o.cls=.type "StopIteration")->E (.ref e) {s with heap:=g}):wpAny (model prog w) A (Builtin.SmallTypes.nextOf (.ref I)) Q E s:=by
 cases b
 .exact wpAny_nextOf_list_end hA hi hl hy q
 .exact zep hA hi hl hy q
structure ZA(z TI TO i1 i2 l1 l2:Addr):Prop where
 a1:TI≠z/\TO≠z/\i1≠z/\i2≠z
 a2:TI≠TO/\TI≠i1/\TI≠i2/\TO≠i1/\TO≠i2/\i1≠i2
 a3:l1≠z/\l1≠TO/\l1≠i1/\l1≠i2
 a4:l2≠z/\l2≠TO/\l2≠i1/\l2≠i2
theorem zvr{n l1 l2:Nat}(h1:l1<n)(h2:l2<n):ZA (n+4) (n+2) (n+3) n (n+1) l1 l2:=by
 have e:∀{a b:Nat},(a<b\/b<a)->a≠b:=λh=>h.elim va4 vck
 refine⟨⟨?_,?_,?_,?_⟩,⟨?_,?_,?_,?_,?_,?_⟩,⟨?_,?_,?_,?_⟩,?_,?_,?_,?_⟩<;>exact e (by omega)
theorem zso{b c:Bool}{z TI TO i1 i2 l1 l2:Addr}{k:Nat}{xs ys:Array Value}{x y p q:Value}{Q:Value->Shared->Prop}(D:ZA z TI TO i1 i2 l1 l2)
 (hz:IsZip s.heap z TI TO .none) (hTI:IsPair s.heap TI (.ref i1) (.ref i2)) (hTO:IsPair s.heap TO p q)
 (h1:ZI b s.heap i1 l1 k) (h2:ZI c s.heap i2 l2 k) (hl1:ZS b s.heap l1 xs) (hl2:ZS c s.heap l2 ys) (hx:xs[k]?=some x) (hy:ys[k]?=some y)
 (hQ:∀h',IsZip h' z TI TO (rawInt s.heap.objs.size)->IsPair h' TO x y->ZI b h' i1 l1 (k+1)->ZI c h' i2 l2 (k+1)->IsPair h' s.heap.objs.size x y->h'.objs.size=s.heap.objs.size+1->
   (∀c o,c≠z->c≠TO->c≠i1->c≠i2->s.heap.get? c=some o->h'.get? c=some o)->Q (.ref s.heap.objs.size) {s with heap:=h'}) :
 wpAny (model prog w) A (Builtin.«zip.__next__» ⟨[.ref z],[]⟩) (λfin s'=>∃v,fin=.done (.ret v)/\Q v s') E s:=by
 obtain⟨⟨d1,d2,d3,d4⟩,⟨d5,d6,d7,d8,d9,d10⟩,⟨d11,d12,d13,d14⟩,d15,d16,d17,d18⟩:=D
 show wpAny _ _ (field (.ref z) 2 >>= _) _ _ _;refine vaa (vbz hz rfl (x:=.bool false) rfl ?_)
 show wpAny _ _ (field (.ref z) 3 >>= _) _ _ _;refine vaa (vbz hz rfl (x:=.ref TI) rfl (vaa (vcj hTI rfl ?_)))
 show wpAny _ _ (Builtin.SmallTypes.ownedTupleIsFree (.ref z) >>= _) _ _ _;refine vaa ?_;unfold Builtin.SmallTypes.ownedTupleIsFree
 refine vaa (vbz hz rfl (x:=.none) rfl (vah ?_));simp only[va3]
 refine vaa (vd7 (vaa (vbz hz rfl (x:=.ref TO) rfl (vaa (vcu hz (by simp) λg1 z1 s1=>?_)))))
 replace z1:IsZip g1 z TI TO .ellipsis:=z1
 refine vaa ?_;simp only[List.zipIdx_cons,List.zipIdx_nil,vdl,vc1]
 refine vaa (vaa (vec ?_));show wpAny _ _ (Builtin.SmallTypes.nextOf (.ref i1) >>= _) _ _ _
 refine vaa (zmq (h1.ex s1.extBut d3) (hl1.ex s1.extBut d11) hx λg2 y1 s2=>vah ?_)
 have t2:IsPair g2 TO p q:=s2.extBut _ _ d8 (s1.extBut _ _ d2 hTO)
 refine vaa (vcj t2 rfl (vaa (wpAny_updateSeq_pair t2 λg3 t3 s3=>?_)))
 replace t3:IsPair g3 TO x q:=t3
 refine vaa (wpAny_letGo (vah (vaa (vaa (vec ?_)))));show wpAny _ _ (Builtin.SmallTypes.nextOf (.ref i2) >>= _) _ _ _
 refine vaa (zmq (((h2.ex s1.extBut d4).ex s2.extBut (vbw d10)).ex s3.extBut (vbw d9)) (((hl2.ex s1.extBut d15).ex s2.extBut d17).ex s3.extBut d16) hy λg4 y2 s4=>vah ?_)
 have t4:IsPair g4 TO x q:=s4.extBut _ _ d9 t3
 refine vaa (vcj t4 rfl (vaa (wpAny_updateSeq_pair t4 λg5 t5 s5=>?_)))
 replace t5:IsPair g5 TO x y:=t5
 refine vaa (wpAny_letGo (vah (vah (vaa (vcj t5 rfl (vaa (wpAny_newTuple ?_)))))))
 have hsz:g5.objs.size=s.heap.objs.size:=by rw[s5.1,s4.1,s3.1,s2.1,s1.1]
 have z5:IsZip g5 z TI TO .ellipsis:=s5.extBut _ _ (vbw d2) (s4.extBut _ _ (vbw d4) (s3.extBut _ _ (vbw d2) (s2.extBut _ _ (vbw d3) z1)))
 have k5:∀c o,c≠z->c≠TO->c≠i1->c≠i2->s.heap.get? c=some o->g5.get? c=some o:=λc o c1 c2 c3 c4 e=>s5.extBut _ _ c2 (s4.extBut _ _ c4 (s3.extBut _ _ c2 (s2.extBut _ _ c3 (s1.extBut _ _ c1 e))))
 have i15:ZI b g5 i1 l1 (k+1):=((y1.ex s3.extBut (vbw d8)).ex s4.extBut d10).ex s5.extBut (vbw d8)
 have i25:ZI c g5 i2 l2 (k+1):=y2.ex s5.extBut (vbw d9)
 have zlt:z<g5.objs.size:=vaq z5
 show wpAny _ _ (Builtin.SmallTypes.ownedTupleHandOut (.ref z) (.ref g5.objs.size) >>= _) _ _ _;refine vaa ?_;unfold Builtin.SmallTypes.ownedTupleHandOut
 have z6:IsZip (g5.push {cls:=.type "tuple",data:=.seq #[x,y]}) z TI TO .ellipsis:=vae _ z5
 refine vaa (vcu z6 (by simp) λg7 z7 s7=>?_)
 replace z7:IsZip g7 z TI TO (rawInt g5.objs.size):=z7
 refine vcu z7 (by simp) λg8 z8 s8=>?_
 replace z8:IsZip g8 z TI TO (rawInt g5.objs.size):=z8
 have up:∀c o,c≠z->g5.get? c=some o->g8.get? c=some o:=λc o c1 e=>s8.extBut _ _ c1 (s7.extBut _ _ c1 (vae _ e))
 have p8:IsPair g8 g5.objs.size x y:=s8.extBut _ _ (vck zlt) (s7.extBut _ _ (vck zlt) (vas _ rfl))
 have n8:g8.objs.size=g5.objs.size+1:=by rw[s8.1,s7.1,vb9]
 rw[hsz]at z8 p8 n8
 refine vah ⟨_,rfl,?_⟩;show Q (.ref g5.objs.size) _;rw[hsz]
 exact hQ g8 z8 (up _ _ d2 t5) (i15.mv λo e=>up _ o d3 e) (i25.mv λo e=>up _ o d4 e) p8 n8 λc o c1 c2 c3 c4 e=>up c o c1 (k5 c o c1 c2 c3 c4 e)
theorem zvs{b c:Bool}{z TI TO i1 i2 l1 l2:Addr}{k:Nat}{xs ys:Array Value}{p q:Value}{Q:Fin->Shared->Prop}(hA:A.handled=none)(D:ZA z TI TO i1 i2 l1 l2)
 (hz:IsZip s.heap z TI TO .none) (hTI:IsPair s.heap TI (.ref i1) (.ref i2)) (hTO:IsPair s.heap TO p q)
 (h1:ZI b s.heap i1 l1 k) (h2:ZI c s.heap i2 l2 k) (hl1:ZS b s.heap l1 xs) (hl2:ZS c s.heap l2 ys) (he:xs[k]?=none\/ys[k]?=none)
 (hE:∀h' e,(∀c o,c≠z->c≠TO->c≠i1->c≠i2->s.heap.get? c=some o->h'.get? c=some o)->(∃o,h'.get? e=some o/\o.cls=.type "StopIteration")->E (.ref e) {s with heap:=h'}) :
 wpAny (model prog w) A (Builtin.«zip.__next__» ⟨[.ref z],[]⟩) Q E s:=by
 obtain⟨⟨d1,d2,d3,d4⟩,⟨d5,d6,d7,d8,d9,d10⟩,⟨d11,d12,d13,d14⟩,d15,d16,d17,d18⟩:=D
 show wpAny _ _ (field (.ref z) 2 >>= _) _ _ _;refine vaa (vbz hz rfl (x:=.bool false) rfl ?_)
 show wpAny _ _ (field (.ref z) 3 >>= _) _ _ _;refine vaa (vbz hz rfl (x:=.ref TI) rfl (vaa (vcj hTI rfl ?_)))
 show wpAny _ _ (Builtin.SmallTypes.ownedTupleIsFree (.ref z) >>= _) _ _ _;refine vaa ?_;unfold Builtin.SmallTypes.ownedTupleIsFree
 refine vaa (vbz hz rfl (x:=.none) rfl (vah ?_));simp only[va3]
 refine vaa (vd7 (vaa (vbz hz rfl (x:=.ref TO) rfl (vaa (vcu hz (by simp) λg1 z1 s1=>?_)))))
 replace z1:IsZip g1 z TI TO .ellipsis:=z1
 refine vaa ?_;simp only[List.zipIdx_cons,List.zipIdx_nil,vdl,vc1]
 refine vaa (vaa (vec ?_));show wpAny _ _ (Builtin.SmallTypes.nextOf (.ref i1) >>= _) _ _ _
 cases hx:xs[k]? with
 |none=>
  refine vaa (z_end hA (h1.ex s1.extBut d3) (hl1.ex s1.extBut d11) hx λg2 e s2 hs=>?_)
  obtain⟨oe,hoe,hce⟩:=hs
  have z2:IsZip g2 z TI TO .ellipsis:=s2 _ _ (vbw d3) z1
  have nez:e≠z:=λx=>by subst x;rw[z2]at hoe;cases hoe;simp at hce
  exact vcu z2 (by simp) λg3 _ s3=>hE g3 e (λc o c1 _ c3 _ x=>s3.extBut _ _ c1 (s2 _ _ c3 (s1.extBut _ _ c1 x))) ⟨oe,s3.extBut _ _ nez hoe,hce⟩
 |some x=>
  have hy:ys[k]?=none:=by rcases he with h|h;rw[hx]at h;cases h;exact h
  refine vaa (zmq (h1.ex s1.extBut d3) (hl1.ex s1.extBut d11) hx λg2 y1 s2=>vah ?_)
  have t2:IsPair g2 TO p q:=s2.extBut _ _ d8 (s1.extBut _ _ d2 hTO)
  refine vaa (vcj t2 rfl (vaa (wpAny_updateSeq_pair t2 λg3 t3 s3=>?_)))
  refine vaa (wpAny_letGo (vah (vaa (vaa (vec ?_)))));show wpAny _ _ (Builtin.SmallTypes.nextOf (.ref i2) >>= _) _ _ _
  refine vaa (z_end hA (((h2.ex s1.extBut d4).ex s2.extBut (vbw d10)).ex s3.extBut (vbw d9)) (((hl2.ex s1.extBut d15).ex s2.extBut d17).ex s3.extBut d16) hy λg4 e s4 hs=>?_)
  obtain⟨oe,hoe,hce⟩:=hs
  have z4:IsZip g4 z TI TO .ellipsis:=s4 _ _ (vbw d4) (s3.extBut _ _ (vbw d2) (s2.extBut _ _ (vbw d3) z1))
  have nez:e≠z:=λx=>by subst x;rw[z4]at hoe;cases hoe;simp at hce
  exact vcu z4 (by simp) λg5 _ s5=>hE g5 e (λc o c1 c2 c3 c4 x=>s5.extBut _ _ c1 (s4 _ _ c4 (s3.extBut _ _ c2 (s2.extBut _ _ c3 (s1.extBut _ _ c1 x))))) ⟨oe,s5.extBut _ _ nez hoe,hce⟩
theorem zsp{b c:Bool}{z TI TO i1 i2 l1 l2:Addr}{k:Nat}{xs ys:Array Value}{x y p q:Value}{Q:Option Value->Shared->Prop}(D:ZA z TI TO i1 i2 l1 l2)
 (hz:IsZip s.heap z TI TO .none) (hTI:IsPair s.heap TI (.ref i1) (.ref i2)) (hTO:IsPair s.heap TO p q)
 (h1:ZI b s.heap i1 l1 k) (h2:ZI c s.heap i2 l2 k) (hl1:ZS b s.heap l1 xs) (hl2:ZS c s.heap l2 ys) (hx:xs[k]?=some x) (hy:ys[k]?=some y)
 (hQ:∀h',IsZip h' z TI TO (rawInt s.heap.objs.size)->IsPair h' TO x y->ZI b h' i1 l1 (k+1)->ZI c h' i2 l2 (k+1)->IsPair h' s.heap.objs.size x y->h'.objs.size=s.heap.objs.size+1->
   (∀c o,c≠z->c≠TO->c≠i1->c≠i2->s.heap.get? c=some o->h'.get? c=some o)->Q (some (.ref s.heap.objs.size)) {s with heap:=h'}):wpAny (model prog w) A (pyNext (.ref z)) Q E s:=by
 have hT:s.TypeIs (.ref z) "zip":=⟨_,hz,rfl⟩
 unfold pyNext
 exact vaa (wpAny_attempt (vb0 (name:=Str.ofString "__next__") hT vdy (vb4 vdy hT F.entry_zip_next (zso D hz hTI hTO h1 h2 hl1 hl2 hx hy λh' a1 a2 a3 a4 a5 a6 a7=>vah (hQ h' a1 a2 a3 a4 a5 a6 a7)) (F.args_zip_next_1 _))))
theorem zvt{b c:Bool}{z TI TO i1 i2 l1 l2:Addr}{k:Nat}{xs ys:Array Value}{p q:Value}{Q:Option Value->Shared->Prop}(hA:A.in1.handled=none)(D:ZA z TI TO i1 i2 l1 l2)
 (hz:IsZip s.heap z TI TO .none) (hTI:IsPair s.heap TI (.ref i1) (.ref i2)) (hTO:IsPair s.heap TO p q)
 (h1:ZI b s.heap i1 l1 k) (h2:ZI c s.heap i2 l2 k) (hl1:ZS b s.heap l1 xs) (hl2:ZS c s.heap l2 ys) (he:xs[k]?=none\/ys[k]?=none)
 (hQ:∀h',(∀c o,c≠z->c≠TO->c≠i1->c≠i2->s.heap.get? c=some o->h'.get? c=some o)->Q none {s with heap:=h'}):wpAny (model prog w) A (pyNext (.ref z)) Q E s:=by
 have hT:s.TypeIs (.ref z) "zip":=⟨_,hz,rfl⟩
 unfold pyNext
 refine vaa (wpAny_attempt (vb0 (name:=Str.ofString "__next__") hT vdy (vb4 vdy hT F.entry_zip_next (zvs hA D hz hTI hTO h1 h2 hl1 hl2 he λh' e hk hs=>?_) (F.args_zip_next_1 _))))
 obtain⟨o,ho,hc⟩:=hs
 exact vaa (vds (T:="StopIteration") (b:=true) ⟨o,ho,hc⟩ isSubtype_stop (vah (hQ _ hk)))
noncomputable def zh1(h:Heap)(b:Bool)(l1:Addr):Heap:=h.push (zIt b l1)
noncomputable def zh2(h:Heap)(b c:Bool)(l1 l2:Addr):Heap:=(zh1 h b l1).push (zIt c l2)
noncomputable def zh3(h:Heap)(b c:Bool)(l1 l2:Addr):Heap:=(zh2 h b c l1 l2).push {cls:=.type "tuple",data:=.seq #[.ref h.objs.size,.ref (zh1 h b l1).objs.size]}
noncomputable def zh4(h:Heap)(b c:Bool)(l1 l2:Addr):Heap:=(zh3 h b c l1 l2).push {cls:=.type "tuple",data:=.seq #[.none,.none]}
noncomputable def zh5(h:Heap)(b c:Bool)(l1 l2:Addr):Heap:=(zh4 h b c l1 l2).push {cls:=.type "zip",data:=.fields #[.none,.bool false,.bool false,.ref (zh2 h b c l1 l2).objs.size,.ref (zh3 h b c l1 l2).objs.size]}
theorem zpm(b c:Bool)(l1 l2:Addr)(xs ys:Array Value):Meets (Builtin.«zip.__new__» ⟨[.type "zip",.ref l1,.ref l2],[]⟩) (λ_ R s=>ZS b s.heap l1 xs/\ZS c s.heap l2 ys/\
 R (.ok (.ret (.ref (zh4 s.heap b c l1 l2).objs.size))) {s with heap:=zh5 s.heap b c l1 l2}):=
 .of_wp λprog w A R s h=>by
  obtain⟨hp,g,d,tk,os⟩:=s;obtain⟨m1,m2,h⟩:=h
  have hsub:=sub_zip
  have e1:ZS b (Shared.heap ⟨hp,g,d,tk,os⟩) l1 xs:=m1
  have e2:ZS c (Shared.heap ⟨hp.push (zIt b l1),g,d,tk,os⟩) l2 ys:=m2.push _
  cases b<;>cases c
  .have q1:Heap.IsList (Shared.heap ⟨hp,g,d,tk,os⟩) l1 xs:=e1
   have q2:Heap.IsList (Shared.heap ⟨hp.push {cls:=.type "list_iterator",data:=.fields #[.ref l1,.int 0 0]},g,d,tk,os⟩) l2 ys:=e2
   wp_walk using vc9 q1,vc9 q2
   exact⟨_,rfl,h⟩
  .have q1:Heap.IsList (Shared.heap ⟨hp,g,d,tk,os⟩) l1 xs:=e1
   have q2:Heap.IsTuple (Shared.heap ⟨hp.push {cls:=.type "list_iterator",data:=.fields #[.ref l1,.int 0 0]},g,d,tk,os⟩) l2 ys:=e2
   wp_walk using vc9 q1,vcm q2
   exact⟨_,rfl,h⟩
  .have q1:Heap.IsTuple (Shared.heap ⟨hp,g,d,tk,os⟩) l1 xs:=e1
   have q2:Heap.IsList (Shared.heap ⟨hp.push {cls:=.type "tuple_iterator",data:=.fields #[.ref l1,.int 0 0]},g,d,tk,os⟩) l2 ys:=e2
   wp_walk using vcm q1,vc9 q2
   exact⟨_,rfl,h⟩
  .have q1:Heap.IsTuple (Shared.heap ⟨hp,g,d,tk,os⟩) l1 xs:=e1
   have q2:Heap.IsTuple (Shared.heap ⟨hp.push {cls:=.type "tuple_iterator",data:=.fields #[.ref l1,.int 0 0]},g,d,tk,os⟩) l2 ys:=e2
   wp_walk using vcm q1,vcm q2
   exact⟨_,rfl,h⟩
theorem zqy{b:Bool}{h:Heap}{l:Addr}{a:Addr}(e:h.get? a=some (zIt b l)):ZI b h a l 0:=by
 cases b<;>exact⟨_,e,rfl,rfl⟩
theorem zsq{b c:Bool}{l1 l2:Addr}{xs ys:Array Value}{Q:Value->Shared->Prop}(m1:ZS b s.heap l1 xs)(m2:ZS c s.heap l2 ys)
 (h:∀h',IsZip h' (s.heap.objs.size+4) (s.heap.objs.size+2) (s.heap.objs.size+3) .none->IsPair h' (s.heap.objs.size+2) (.ref s.heap.objs.size) (.ref (s.heap.objs.size+1))->
   IsPair h' (s.heap.objs.size+3) .none .none->ZI b h' s.heap.objs.size l1 0->ZI c h' (s.heap.objs.size+1) l2 0->h'.objs.size=s.heap.objs.size+5->
   (∀c o,s.heap.get? c=some o->h'.get? c=some o)->Q (.ref (s.heap.objs.size+4)) {s with heap:=h'}):wpAny (model prog w) A (call (.type "zip") [.ref l1,.ref l2]) Q E s:=by
 refine callType_new F.called_zip (by decide) (F.typeCall_zip_2 _ _) (F.newCall_zip_2 _ _) (λobj=>F.args_object_init_3 obj _ _) F.entry_zip_new (zpm b c l1 l2 xs ys) ⟨m1,m2,?_⟩
 have n1:(zh1 s.heap b l1).objs.size=s.heap.objs.size+1:=vb9 ..
 have n2:(zh2 s.heap b c l1 l2).objs.size=s.heap.objs.size+2:=by unfold zh2;rw[vb9,n1]
 have n3:(zh3 s.heap b c l1 l2).objs.size=s.heap.objs.size+3:=by unfold zh3;rw[vb9,n2]
 have n4:(zh4 s.heap b c l1 l2).objs.size=s.heap.objs.size+4:=by unfold zh4;rw[vb9,n3]
 have n5:(zh5 s.heap b c l1 l2).objs.size=s.heap.objs.size+5:=by unfold zh5;rw[vb9,n4]
 have g5:(zh5 s.heap b c l1 l2).get? (zh4 s.heap b c l1 l2).objs.size=some _:=vas _ rfl
 have g4:(zh5 s.heap b c l1 l2).get? (zh3 s.heap b c l1 l2).objs.size=some _:=vae _ (vas _ rfl)
 have g3:(zh5 s.heap b c l1 l2).get? (zh2 s.heap b c l1 l2).objs.size=some _:=vae _ (vae _ (vas _ rfl))
 have g2:(zh5 s.heap b c l1 l2).get? (zh1 s.heap b l1).objs.size=some _:=vae _ (vae _ (vae _ (vas _ rfl)))
 have g1:(zh5 s.heap b c l1 l2).get? s.heap.objs.size=some _:=vae _ (vae _ (vae _ (vae _ (vas _ rfl))))
 show _/\_
 rw[n2,n3,n4]at g5
 rw[n1,n2]at g3
 rw[n3]at g4
 rw[n1]at g2
 rw[n4]
 exact⟨⟨_,g5,rfl⟩,h _ g5 g3 g4 (zqy g1) (zqy g2) n5 λc o x=>vae _ (vae _ (vae _ (vae _ (vae _ x))))⟩
end
noncomputable def SqB(b:Bool)(K:vga)(H:Hp)(a:Addr)(xs:List V):Prop:=match b with|true=>SqT K H a xs|false=>SqL K H a xs
theorem zfl{b:Bool}{X:Cx}{pins:List (Addr×Obj)}{σ:St}{H:Hp}{s:Shared}{a:Addr}{xs:List V}(I:Inv X pins σ H s)(h:SqB b X.K H a xs):∃its:List Value,Vals xs its/\ZS b s.heap a its.toArray/\xs.length<=sizeLine:=by
 cases b
 .obtain⟨its,r,p,z⟩:=I.list h
  exact⟨its,r,p.isList,z⟩
 .exact I.tuple h
theorem zmr{b:Bool}{X:Cx}{pins:List (Addr×Obj)}{σ:St}{H:Hp}{s:Shared}{a:Addr}{xs ys:List V}(I:Inv X pins σ H s)(h:SqB b X.K H a xs)(h':SqB b X.K H a ys):xs=ys:=by
 cases b
 .exact I.list_inj h h'
 .exact I.tuple_inj h h'
noncomputable def IteZ(K:vga)(b c:Bool)(a1 a2:Addr):It:=
 ⟨λi H=>∃xs ys x y,SqB b K H a1 xs/\SqB c K H a2 ys/\xs[i]?=some x/\ys[i]?=some y,
  λi H v H'=>∃T x y,v=.ref T/\H T=none/\H'=upd H T (.tup [x,y])/\(∀xs,SqB b K H a1 xs->xs[i]?=some x)/\∀ys,SqB c K H a2 ys->ys[i]?=some y,
  λi H=>∃xs ys,SqB b K H a1 xs/\SqB c K H a2 ys/\(xs.length<=i\/ys.length<=i)⟩
theorem Inv.turnedZ{X:Cx}{pins:List (Addr×Obj)}{σ:St}{H:Hp}{s:Shared}{h2:Heap}{t':Nat}{fp:List Addr}(I:Inv X pins σ H s)(hf:∀b∈fp,FpOk X pins H b)(kk:∀b o,b∉fp->s.heap.get? b=some o->h2.get? b=some o) :
 Inv X pins σ H {s with heap:=h2,toks:=t'}:=by
 have f0:=λb hb=>(hf b hb).1
 have nE:∀b o,H b=some o->b∉fp:=λb o q z=>by rw[f0 b z]at q;cases q
 refine I.step (g':=s.gens) (d':=s.drawn) (ch:=fp) (λb hb=>?_) (λb o _ _ hc e1 _=>kk b o hc e1) (λb o _ _ hc e1 _=>⟨o.slots,kk b o hc e1⟩) (λ_ _ _ _ n=>n) (λb o hc e1=>⟨o,kk b o hc e1⟩)
  (λ_ _ q=>q) (λ_ _ _ q=>q) (λb ps q=>⟨#[],by rw[q];simp⟩) (λm hm=>?_) (λb ob q=>?_) I.bare
 .obtain⟨_,a1,a2,a3,a4,a5⟩:=hf b hb
  exact⟨a3,a1,a4,a5⟩
 .obtain⟨o,es,ep,ho',r⟩:=hm
  exact⟨o,es,ep,kk _ o (λz=>(hf _ z).2.1 rfl) ho',r⟩
 .refine(I.hok b ob q).stay (λc v hc z=>kk c v ?_ z) (λ_ z=>z) λ_ _ z=>z
  rcases hc with rfl|hc
  .exact nE c ob q
  .exact nE c _ hc
theorem Inv.turnedT{X:Cx}{pins:List (Addr×Obj)}{σ:St}{H:Hp}{s:Shared}{h2:Heap}{fp:List Addr}{xs:List V}{us:List Value}(I:Inv X pins σ H s)(hf:∀b∈fp,FpOk X pins H b)(kk:∀b o,b∉fp->s.heap.get? b=some o->h2.get? b=some o)
 (hT:h2.get? s.heap.objs.size=some {cls:=.type "tuple",data:=.seq us.toArray}) (hv:Vals xs us) (hz:xs.length<=sizeLine):Inv X pins σ (upd H s.heap.objs.size (.tup xs)) {s with heap:=h2}:=by
 have hTn:H s.heap.objs.size=none:=I.hok.fresh (vai _)
 have f0:=λb hb=>(hf b hb).1
 have nE:∀b o,H b=some o->b∉fp:=λb o q z=>by rw[f0 b z]at q;cases q
 refine I.step (g':=s.gens) (d':=s.drawn) (ch:=fp) (λb hb=>?_) (λb o _ _ hc e1 _=>kk b o hc e1) (λb o _ _ hc e1 _=>⟨o.slots,kk b o hc e1⟩) (λb o hc e1 n=>by rw[zag (va4 (vaq e1))];exact n) (λb o hc e1=>⟨o,kk b o hc e1⟩)
  (λb ys q=>by rw[zag (zaf q hTn)];exact q) (λb o u q=>by rw[zag (zaf q hTn)];exact q) (λb ps q=>⟨#[],by rw[zag (zaf q hTn),q];simp⟩) (λm hm=>?_) (λb ob q=>?_) I.bare
 .obtain⟨_,a1,a2,a3,a4,a5⟩:=hf b hb
  exact⟨a3,a1,a4,a5⟩
 .obtain⟨o,es,ep,ho',r⟩:=hm
  exact⟨o,es,ep,kk _ o (λz=>(hf _ z).2.1 rfl) ho',r⟩
 .by_cases hb:b=s.heap.objs.size
  .subst hb
   rw[zaq]at q;cases q
   exact⟨hz,us,hv,⟨_,hT,rfl,⟨_,rfl⟩,rfl⟩⟩
  .rw[zag hb]at q
   refine(I.hok b ob q).stay (λc v hc z=>kk c v ?_ z) (λc z=>by rw[zag (zaf z hTn)];exact z) λc ys z=>by rw[zag (zaf z hTn)];exact z
   rcases hc with rfl|hc
   .exact nE c ob q
   .exact nE c _ hc
theorem zpn{P:Program}{w:World}{K:vga}{elts:List Expr}{kx:Nat}{tp:Pos}{b c:Bool}(a1 a2 z TI TO i1 i2:Addr)(D:ZA z TI TO i1 i2 a1 a2) :
 Turn P w K (.Tuple elts kx tp) (IteZ K b c a1 a2) [z,TI,TO,i1,i2] z (λi h=>IsZip h z TI TO .none/\IsPair h TI (.ref i1) (.ref i2)/\(∃p q,IsPair h TO p q)/\ZI b h i1 a1 i/\ZI c h i2 a2 i)where
 mem:=by simp
 obj:=λi h st d hd=>by
  obtain⟨hz,hTI,⟨p,q,hTO⟩,h1,h2⟩:=st
  simp only[vax,List.not_mem_nil,or_false]at hd
  rcases hd with rfl|rfl|rfl|rfl|rfl
  .exact⟨_,hz,λv z=>by
    have z':Data.fields _=Data.cell v:=z
    cases z'⟩
  .exact⟨_,hTI,λv z=>by
    have z':Data.seq _ _=Data.cell v:=z
    cases z'⟩
  .exact⟨_,hTO,λv z=>by
    have z':Data.seq _ _=Data.cell v:=z
    cases z'⟩
  .exact h1.ob
  .exact h2.ob
 keep:=λi h h' st k=>by
  obtain⟨hz,hTI,⟨p,q,hTO⟩,h1,h2⟩:=st
  exact⟨k z (by simp) _ hz,k TI (by simp) _ hTI,⟨p,q,k TO (by simp) _ hTO⟩,h1.mv λo e=>k i1 (by simp) o e,h2.mv λo e=>k i2 (by simp) o e⟩
 item:=by
  intro X hP hw hK hc i pins s σ H E I hf st hg
  subst hP hw hK
  obtain⟨xs,ys,x,y,q1,q2,hx,hy⟩:=hg
  obtain⟨hz,hTI,⟨p,q,hTO⟩,h1,h2⟩:=st
  obtain⟨its,rv,m1,_⟩:=zfl I q1
  obtain⟨jts,rw',m2,_⟩:=zfl I q2
  obtain⟨u,hu,ru⟩:=rv.get hx
  obtain⟨v,hv,rv'⟩:=rw'.get hy
  refine zsp D hz hTI hTO h1 h2 m1 m2 (x:=u) (y:=v) (by simpa using hu) (by simpa using hv) λg b1 b2 b3 b4 b5 b6 b7=>⟨_,rfl,wpAny_letOwnedTupleGo_zip b1 λg2 c1 c2=>?_⟩
  obtain⟨⟨d1,d2,d3,d4⟩,⟨d5,d6,d7,d8,d9,d10⟩,_,_⟩:=D
  have c2:Heap.SameBut z g g2:=c2
  have zlt:s.heap.objs.size≠z:=vck (vaq hz)
  have kk:∀d o,d∉[z,TI,TO,i1,i2]->s.heap.get? d=some o->g2.get? d=some o:=λd o hd e=>(c2.2 d λx=>hd (by simp[x])).trans (b7 d o (λx=>hd (by simp[x])) (λx=>hd (by simp[x])) (λx=>hd (by simp[x])) (λx=>hd (by simp[x])) e)
  have hT:g2.get? s.heap.objs.size=some {cls:=.type "tuple",data:=.seq [u,v].toArray}:=(c2.2 _ zlt).trans b5
  have I2:=Inv.turnedT (xs:=[x,y]) I hf kk hT (.cons ru (.cons rv' .nil)) (by show 2<=sizeLine;decide)
  have hTn:H s.heap.objs.size=none:=I.hok.fresh (vai _)
  refine⟨.ref s.heap.objs.size,_,I2,rfl,⟨_,x,y,rfl,hTn,rfl,λzs hzs=>by rw[zmr I hzs q1];exact hx,λzs hzs=>by rw[zmr I hzs q2];exact hy⟩,
   ⟨c1,(c2.2 TI d1).trans (b7 TI _ d1 d5 d6 d7 hTI),⟨u,v,(c2.2 TO d2).trans b2⟩,b3.mv λo e=>(c2.2 i1 d3).trans e,b4.mv λo e=>(c2.2 i2 d4).trans e⟩,λd hd=>?_⟩
  rw[zag ?_]
  .exact(hf d hd).1
  .intro e
   obtain⟨o,ho⟩:∃o,s.heap.get? d=some o:=by
    simp only[vax,List.not_mem_nil,or_false]at hd
    rcases hd with rfl|rfl|rfl|rfl|rfl
    .exact⟨_,hz⟩
    .exact⟨_,hTI⟩
    .exact⟨_,hTO⟩
    .exact let⟨o,h,_⟩:=h1.ob;⟨o,h⟩
    .exact let⟨o,h,_⟩:=h2.ob;⟨o,h⟩
   exact va4 (vaq ho) e
 done:=by
  intro X hP hw hK hc i pins s σ H E I hf st hg
  subst hP hw hK
  obtain⟨xs,ys,q1,q2,hl⟩:=hg
  obtain⟨hz,hTI,⟨p,q,hTO⟩,h1,h2⟩:=st
  obtain⟨its,rv,m1,_⟩:=zfl I q1
  obtain⟨jts,rw',m2,_⟩:=zfl I q2
  have l1:=rv.length
  have l2:=rw'.length
  exact zvt (I.ok.hd hc) D hz hTI hTO h1 h2 m1 m2 (hl.imp (λh=>by simp;omega) λh=>by simp;omega) λg hk=>⟨rfl,Inv.turnedZ (t':=s.toks) I hf λd o hd e=>hk d o (λx=>hd (by simp[x])) (λx=>hd (by simp[x])) (λx=>hd (by simp[x])) (λx=>hd (by simp[x])) e⟩
 self:=λ_ _ _ _ _ st h=>wpAny_pyIter_zip st.1 h
noncomputable def oIs:Option Int->Value->Bool
 |none,.none=>true
 |some i,v=>Value.isInt i v
 |none,_=>false
noncomputable def oHash:Option Int->Int
 |none=>0xFCA86420
 |some i=>hashInt i
theorem zbe:∀{k:Option Int} {v:Value},oIs k v=true->(k=none/\v=.none)\/∃i t,k=some i/\v=.int i t
 |none,v,h=>by cases v<;>first|exact .inl ⟨rfl,rfl⟩|cases h
 |some i,v,h=>by
  obtain⟨t,e⟩:=Value.isInt_shape (k:=i) (v:=v) h
  exact .inr ⟨i,t,rfl,e⟩
theorem zms{prog:Program}{w:World}{A:Around}{E:Value->Shared->Prop}{s:Shared}{Q:Int->Shared->Prop}(h:Q 0xFCA86420 {s with toks:=s.toks+1}):wpAny (model prog w) A (PySem.pyHash .none) Q E s:=by
 have hT:s.TypeIs .none "NoneType":=rfl
 unfold pyHash
 refine vaa (wpAny_cRoomFor_or (.inl rfl) ?_)
 refine vaa (vc4 hT vdd.lookup ?_)
 show wpAny _ _ (if(some (Value.builtin "NoneType.__hash__")==some Value.none)=true then _ else _) Q E s
 rw[if_neg (by rw[beq_builtin_none];exact vcb)]
 refine vaa (vc4 hT vdd.lookup ?_)
 show wpAny _ _ (callSpecialIfBoundUnlessNone? .none "__hash__" _ >>= _) Q E s
 refine vaa (wpAny_callSpecialIfBoundUnlessNone?_slot hT vdd
  (vb4 vdd hT F.entry_NoneType_hash
    (show wpAny _ _ (do ret (<-mkInt 0xFCA86420)) _ _ s from wpAny_ret_mkInt ?_) (F.args_NoneType_hash_1 _)))
 show wpAny _ _ (if(decide (-(2:Int) ^ 63<=0xFCA86420)&&decide ((0xFCA86420:Int)<2 ^ 63))=true then _ else _) Q E _
 rw[if_pos (by decide)]
 exact vah h
noncomputable def oKind(prog:Program)(w:World):KeyKind prog w (Option Int)where
 is:=oIs
 hash:=oHash
 inj:=λv a b ha hb=>by
  rcases zbe ha with⟨rfl,rfl⟩|⟨i,t,rfl,rfl⟩
  .rcases zbe hb with⟨rfl,_⟩|⟨j,u,rfl,e⟩
   .rfl
   .cases e
  .rcases zbe hb with⟨rfl,e⟩|⟨j,u,rfl,e⟩
   .cases e
   .cases e;rfl
 byValue:=λk v h=>by
  rcases zbe h with⟨rfl,rfl⟩|⟨i,t,rfl,rfl⟩<;>rfl
 pyHash:=λhv h=>by
  rcases zbe hv with⟨rfl,rfl⟩|⟨i,t,rfl,rfl⟩
  .exact zms h
  .exact wpAny_pyHash_int h
 eqBool:=λ{A E s a b u v Q} hu hv h=>by
  rcases zbe hu with⟨rfl,rfl⟩|⟨i,t,rfl,rfl⟩
  .rcases zbe hv with⟨rfl,rfl⟩|⟨j,u,rfl,rfl⟩
   .exact SeqAt.EqAt.same (A:=A) (s:=s) .none prog w E Q (by simpa using h)
   .exact SeqAt.EqAt.none_int (A:=A) (s:=s) j u prog w E Q (by simpa using h)
  .rcases zbe hv with⟨rfl,rfl⟩|⟨j,u,rfl,rfl⟩
   .exact SeqAt.EqAt.int_none (A:=A) (s:=s) i t prog w E Q (by simpa using h)
   .refine wpAny_eqBool_int ?_
    by_cases e:i=j
    .subst e;simpa using h
    .have e':(i==j)=false:=by simpa using e
     rw[e'];simpa[e]using h
 «strs»:=λk x t v h=>by
  rcases zbe h with⟨_,e⟩|⟨i,t,_,e⟩<;>cases e
noncomputable abbrev DK:=List Int×Option Int
section
variable(prog:Program)(w:World)
noncomputable def IsDK(h:Heap)(k:DK)(a:Addr):Prop:=∃o n b v,h.get? a=some o/\o.cls=.type "tuple"/\o.data=.seq #[.ref b,v] n/\IsTupleKey (intKind prog w) h k.1 b/\oIs k.2 v=true
noncomputable def zmt(k:DK):Int:=reduceHash (Builtin.Tuple.tupleHashOf [tupleKeyHash (intKind prog w) k.1,oHash k.2])
variable{prog w}
theorem IsDK.typeIs{s:Shared}{k:DK}{a:Addr}(x:IsDK prog w s.heap k a):s.TypeIs (.ref a) "tuple":=let⟨o,_,_,_,ho,hc,_⟩:=x;⟨o,ho,hc⟩
theorem IsDK.inj{h:Heap}{a:Addr}{x y:DK}(hx:IsDK prog w h x a)(hy:IsDK prog w h y a):x=y:=by
 obtain⟨o,n,b,v,ho,_,hd,hi,hv⟩:=hx
 obtain⟨o',n',b',v',ho',_,hd',hi',hv'⟩:=hy
 obtain rfl:o=o':=vbj (ho.symm.trans ho')
 rw[hd]at hd'
 injection hd' with h1 _
 have h2:=vdv Array.toList h1
 simp only[List.cons.injEq,and_true,Value.ref.injEq]at h2
 obtain⟨rfl,rfl⟩:=h2
 exact Prod.ext (hi.inj hi') ((oKind prog w).inj _ _ _ hv hv')
theorem IsDK.keeps{h h':Heap}{k:DK}{a d:Addr}{o:Obj}{es ep}(x:IsDK prog w h k a)(ho:h.get? d=some o)(hd:o.data=.dict es ep)(hs:Heap.SameBut d h h'):IsDK prog w h' k a:=by
 obtain⟨o',n,b,v,ho',hc,hd',hi,hv⟩:=x
 have hne:a≠d:=by
  rintro rfl
  obtain rfl:o'=o:=vbj (ho'.symm.trans ho)
  rw[hd]at hd';exact nomatch hd'
 exact⟨o',n,b,v,(hs.2 a hne).trans ho',hc,hd',hi.keeps ho hd hs,hv⟩
variable{A:Around}{E:Value->Shared->Prop}{s:Shared}
theorem zmu{k:DK}{a:Addr}{Q:Int->Shared->Prop}(hu:A.units+1<cLine)(hk:IsDK prog w s.heap k a)(h:Q (zmt prog w k) {s with toks:=s.toks+ (k.1.length+3)}) :
 wpAny (model prog w) A (pyHash (.ref a)) Q E s:=by
 have hT:=hk.typeIs
 obtain⟨o,n,b,v,ho,_,hd,hi,hv⟩:=hk
 unfold pyHash
 refine vaa (wpAny_cRoomFor_or (.inr (by omega)) ?_)
 refine vaa (vc4 hT vdo.lookup ?_)
 show wpAny _ _ (if(some (Value.builtin "tuple.__hash__")==some Value.none)=true then _ else _) Q E s
 rw[if_neg (by rw[beq_builtin_none];exact vcb)]
 refine vaa (vc4 hT vdo.lookup ?_)
 show wpAny _ _ (callSpecialIfBoundUnlessNone? (.ref a) "__hash__" _ >>= _) Q E s
 refine vaa (wpAny_callSpecialIfBoundUnlessNone?_slot hT vdo (vb4 vdo hT F.entry_tuple_hash ?_ (F.args_tuple_hash_1 _)))
 show wpAny _ _ (Builtin.Tuple.tupleItemsOf (.ref a) >>= _) _ _ s
 refine vaa (wpAny_tupleItemsOf ho hd ?_)
 refine vaa ?_
 rw[<-Array.forIn_toList]
 refine vdt _
  (λrest (acc:Array Int) s'=>(rest=[.ref b,v]/\acc.toList=[]/\s'=s)\/(rest=[v]/\acc.toList=[tupleKeyHash (intKind prog w) k.1]/\s' ={s with toks:=s.toks+ (k.1.length+1)})\/(rest=[]/\acc.toList=[tupleKeyHash (intKind prog w) k.1,oHash k.2]/\s' ={s with toks:=s.toks+ (k.1.length+1)+1}))
  _ ?_ ?_ _ _ (.inl ⟨rfl,rfl,rfl⟩)
 .rintro x rest acc s' (⟨e,ha,rfl⟩|⟨e,ha,rfl⟩|⟨e,_⟩)
  .cases e
   refine vaa (wpAny_pyHash_tuple hu hi ?_)
   first
    |exact vah (.inr (.inl ⟨rfl,by simp[ha],rfl⟩))
    |exact vaa (vah (vah (.inr (.inl ⟨rfl,by simp[ha],rfl⟩))))
  .cases e
   refine vaa ((oKind prog w).pyHash (k:=k.2) hv ?_)
   first
    |exact vah (.inr (.inr ⟨rfl,by simp[ha];rfl,rfl⟩))
    |exact vaa (vah (vah (.inr (.inr ⟨rfl,by simp[ha];rfl,rfl⟩))))
  .cases e
 .rintro acc s' (⟨e,_⟩|⟨e,_⟩|⟨_,ha,rfl⟩)
  .cases e
  .cases e
  .show wpAny _ _ (retInt (Builtin.Tuple.tupleHashOf acc.toList)) _ _ _
   rw[ha]
   refine wpAny_ret_mkInt ?_
   show wpAny _ _ (if(decide (-(2:Int) ^ 63<=Builtin.Tuple.tupleHashOf [tupleKeyHash (intKind prog w) k.1,oHash k.2])&&decide (Builtin.Tuple.tupleHashOf [tupleKeyHash (intKind prog w) k.1,oHash k.2]<2 ^ 63))=true then _ else _) Q E _
   unfold zmt reduceHash at h
   by_cases hr:(decide (-(2:Int) ^ 63<=Builtin.Tuple.tupleHashOf [tupleKeyHash (intKind prog w) k.1,oHash k.2])&&decide (Builtin.Tuple.tupleHashOf [tupleKeyHash (intKind prog w) k.1,oHash k.2]<2 ^ 63))=true
   .rw[if_pos hr]
    rw[if_pos hr]at h
    exact vah (by simpa[Nat.add_assoc]using h)
   .rw[if_neg hr]
    rw[if_neg hr]at h
    exact vaa (vd7 (vah (by simpa[Nat.add_assoc]using h)))
theorem zk9{x y:DK}{a b:Addr}{P:Fin->Shared->Prop}(hu:A.units<cLine)(hx:IsDK prog w s.heap x a)(hy:IsDK prog w s.heap y b)(h:P (.done (.ret (.bool (decide (x=y))))) s) :
 wpAny (model prog w) A (Builtin.«tuple.__eq__» ⟨[.ref a,.ref b],[]⟩) P E s:=by
 have hTb:=hy.typeIs
 obtain⟨oa,na,a1,v1,hoa,_,hda,hia,hva⟩:=hx
 obtain⟨ob,nb,b1,v2,hob,_,hdb,hib,hvb⟩:=hy
 show wpAny _ _ (isInstance (.ref b) (.type "tuple") >>= _) _ _ s
 refine vaa (vds hTb isSubtype_tuple_tuple ?_)
 simp only[vcd,vam,vbb]
 refine vaa (wpAny_tupleItemsOf hoa hda ?_)
 refine vaa (wpAny_tupleItemsOf hob hdb ?_)
 refine vaa ?_
 refine vdt _
  (λrest r s'=>r.1=none/\s'=s/\((rest=[(Value.ref a1,Value.ref b1),(v1,v2)])\/(rest=[(v1,v2)]/\x.1=y.1)\/(rest=[]/\x=y)))
  _ ?_ ?_ _ _ ⟨rfl,rfl,.inl rfl⟩
 .rintro⟨u,v⟩ rest r s' ⟨hr,rfl,e|⟨e,hxy⟩|⟨e,_⟩⟩
  .cases e
   refine vaa (wpAny_eqBool_tuple hu hia hib ?_)
   by_cases hk:x.1=y.1
   .rw[vbs hk]
    simp only[vcd,vam,vbb]
    exact vah ⟨rfl,rfl,.inr (.inl ⟨(by first|rfl|trivial),hk⟩)⟩
   .rw[vbe hk]
    simp only[vdp,va3]
    have hf:decide (x=y)=false:=vbe λz=>hk (by rw[z])
    rw[hf]at h
    exact vaa (vah (vah (vah h)))
  .cases e
   refine vaa ((oKind prog w).eqBool (a:=x.2) (b:=y.2) hva hvb ?_)
   by_cases hk:x.2=y.2
   .rw[vbs hk]
    simp only[vcd,vam,vbb]
    exact vah ⟨rfl,rfl,.inr (.inr ⟨(by first|rfl|trivial),Prod.ext hxy hk⟩)⟩
   .rw[vbe hk]
    simp only[vdp,va3]
    have hf:decide (x=y)=false:=vbe λz=>hk (by rw[z])
    rw[hf]at h
    exact vaa (vah (vah (vah h)))
  .cases e
 .rintro⟨r1,r2⟩ s' ⟨hr,rfl,e|⟨e,_⟩|⟨_,e⟩⟩
  .cases e
  .cases e
  .simp only at hr
   subst hr
   refine vah ?_
   rw[vbs e]at h
   exact h
theorem zmv{x y:DK}{a b:Addr}{Q:Bool->Shared->Prop}(hu:A.units+1<cLine)(hx:IsDK prog w s.heap x a)(hy:IsDK prog w s.heap y b)(h:Q (decide (x=y)) s) :
 wpAny (model prog w) A (eqBool (.ref a) (.ref b)) Q E s:=by
 unfold eqBool
 try with_reducible refine vcx ?_
 show wpAny _ _ (if(Value.ref a==Value.ref b)=true then _ else _) Q E s
 by_cases hab:(Value.ref a==Value.ref b)=true
 .rw[if_pos hab]
  have e:a=b:=by have:=eq_of_beq hab;injection this
  subst e
  obtain rfl:=hx.inj hy
  exact vaa (vd7 (vah (by simpa using h)))
 .rw[if_neg hab]
  exact vaa (wpAny_richCompare_same_room (op:=.Eq) hx.typeIs hy.typeIs vdz
   (vb4 vdz hx.typeIs F.entry_tuple_eq (zk9 hu hx hy ⟨_,rfl,(λe=>nomatch e),vb8 h⟩) (F.args_tuple_eq_2 _ _)) (by omega))
theorem ziz{n:Nat}{ks:List Int}{a:Addr}{Q:Bool->Shared->Prop}(hk:IsTupleKey (intKind prog w) s.heap ks a)(h:Q true s):wpAny (model prog w) A (eqIsQuiet (n+1) (.ref a)) Q E s:=by
 have hT:=hk.typeIs
 obtain⟨o,items,m,ho,_,hd,hi⟩:=hk
 unfold eqIsQuiet
 refine vaa (vc4 hT vdz.lookup ?_)
 show wpAny _ _ (isInstance (.ref a) (.type "tuple") >>= _) _ _ s
 refine vaa (vds hT isSubtype_tuple_tuple ?_)
 simp only[vcd,vam,vbb]
 refine vaa (vcj ho hd ?_)
 refine vaa ?_
 show wpAny _ _ (forIn items _ _) _ _ s
 rw[<-Array.forIn_toList]
 refine vdt _ (λrest r s'=>r.1=none/\s'=s/\∀v∈rest,carriedByValue v=true) _ ?_ ?_ _ _ ⟨rfl,rfl,hi.byValue⟩
 .rintro v rest r s' ⟨hr,rfl,hall⟩
  rw[eqIsQuiet_byValue _ (hall v vaf)]
  refine vaa (vah ?_)
  simp only[vcd,vam,vbb]
  exact vah ⟨rfl,rfl,λu hu'=>hall u (vad _ hu')⟩
 .rintro⟨r1,r2⟩ s' ⟨hr,rfl,_⟩
  simp only at hr
  subst hr
  exact vah h
theorem zpo{k:DK}{a:Addr}{Q:Bool->Shared->Prop}(hk:IsDK prog w s.heap k a)(h:Q true s):wpAny (model prog w) A (eqIsQuiet 8 (.ref a)) Q E s:=by
 have hT:=hk.typeIs
 obtain⟨o,n,b,v,ho,_,hd,hi,hv⟩:=hk
 unfold eqIsQuiet
 refine vaa (vc4 hT vdz.lookup ?_)
 show wpAny _ _ (isInstance (.ref a) (.type "tuple") >>= _) _ _ s
 refine vaa (vds hT isSubtype_tuple_tuple ?_)
 simp only[vcd,vam,vbb]
 refine vaa (vcj ho hd ?_)
 refine vaa ?_
 show wpAny _ _ (forIn #[.ref b,v] _ _) _ _ s
 rw[<-Array.forIn_toList]
 refine vdt _ (λrest r s'=>r.1=none/\s'=s/\(rest=[.ref b,v]\/rest=[v]\/rest=[])) _ ?_ ?_ _ _ ⟨rfl,rfl,.inl rfl⟩
 .rintro u rest r s' ⟨hr,rfl,e|e|e⟩
  .cases e
   refine vaa (ziz hi ?_)
   simp only[vcd,vam,vbb]
   exact vah ⟨rfl,rfl,.inr (.inl (by first|rfl|trivial))⟩
  .cases e
   rw[eqIsQuiet_byValue _ ((oKind prog w).byValue _ _ hv)]
   refine vaa (vah ?_)
   simp only[vcd,vam,vbb]
   exact vah ⟨rfl,rfl,.inr (.inr (by first|rfl|trivial))⟩
  .cases e
 .rintro⟨r1,r2⟩ s' ⟨hr,rfl,_⟩
  simp only at hr
  subst hr
  exact vah h
end
noncomputable def dKind(prog:Program)(w:World):HeapKind prog w DK where
 is:=IsDK prog w
 hash:=zmt prog w
 draws:=λk=>k.1.length+3
 room:=λA=>A.units+1<cLine
 inj:=λhx hy=>hx.inj hy
 keeps:=λx ho hd hs=>x.keeps ho hd hs
 pyHash:=λhu hk h=>zmu hu hk h
 eqBool:=λhu hx hy h=>zmv hu hx hy h
 quiet:=λhk h=>zpo hk h
noncomputable def dkh(k:DK):Int:=reduceHash (Builtin.Tuple.tupleHashOf [reduceHash (Builtin.Tuple.tupleHashOf (k.1.map hashInt)),oHash k.2])
noncomputable def ovV:Option Int->V
 |none=>.non
 |some i=>.int i
noncomputable abbrev DX:=List (DK×Addr×V)
noncomputable abbrev dtP(xs:DX)(us:List (DK×Addr×Value)):Prop:=Paired (λ(p:DK×Addr×V) (q:DK×Addr×Value)=>p.1=q.1/\p.2.1=q.2.1/\RelV p.2.2 q.2.2) xs us
noncomputable def dtF(xs:DX)(a:Addr)(h:Heap):Prop:=xs.length<=sizeLine/\(a==sysModules)=false/\(xs.map (·.1)).Nodup/\∃us,dtP xs us/\∃o es ep,h.get? a=some o/\o.ExactDict/\o.data=.dict es ep/\es.toList=us.map λx=>⟨dkh x.1,.ref x.2.1,x.2.2⟩
noncomputable def dtH(xs:DX)(a:Addr):HO:=.ext (dtF xs a)
theorem zvu{P:Program}{w:World}{H:Hp}{h:Heap}{a:Addr}{xs:DX}(e:dtF xs a h):ObjOk P w H h a (dtH xs a):=by
 refine⟨e,?_,?_⟩
 .obtain⟨_,_,_,us,_,o,_,_,h1,_⟩:=e
  exact⟨o,h1⟩
 .rintro h1 h2 ⟨a1,a2,a3,us,a4,o,es,ep,b1,b2⟩ k
  exact⟨a1,a2,a3,us,a4,o,es,ep,k o b1,b2⟩
theorem zvv{P:Program}{w:World}{H:Hp}{h:Heap}{a:Addr}{xs:DX}(ok:HOk P w H h)(e:H a=some (dtH xs a)):dtF xs a h:=(ok a _ e).1
noncomputable def KeyAt(K:vga)(H:Hp)(k:DK)(b:Addr):Prop:=∃c,SqT K H b [.ref c,ovV k.2]/\SqT K H c (k.1.map .int)
noncomputable def DT(K:vga)(H:Hp)(a:Addr)(xs:DX):Prop:=(H a=some (dtH xs a)/\∀p∈xs,KeyAt K H p.1 p.2.1)\/(xs=[]/\Rd H a (.dK []))
noncomputable def findX(xs:DX)(k:DK):Option (Addr×V):=(xs.find? λx=>decide (x.1=k)).map (·.2)
noncomputable def putX(xs:DX)(k:DK)(b:Addr)(v:V):DX:=if(findX xs k).isSome then xs.map (λx=>if x.1=k then(x.1,x.2.1,v)else x)else xs++[(k,b,v)]
theorem zd8{xs:DX}{us:List (DK×Addr×Value)}(r:dtP xs us)(k:DK):(findX xs k=none/\atKey us k=none)\/∃p q,findX xs k=some p/\atKey us k=some q/\RelV p.2 q.2:=by
 induction r with
 |nil=>exact .inl ⟨rfl,rfl⟩
 | @cons p q ps qs h t ih=>
  obtain⟨h1,h2,h3⟩:=h
  by_cases e:p.1=k
  .refine .inr ⟨p.2,q.2,?_,?_,h3⟩
   .simp[findX,vbk,e]
   .simp[atKey,vbk,h1.symm.trans e]
  .have e':¬q.1=k:=λz=>e (h1.trans z)
   have b1:findX (p::ps) k=findX ps k:=by simp[findX,vbk,e]
   have b2:atKey (q::qs) k=atKey qs k:=by simp[atKey,vbk,e']
   rw[b1,b2];exact ih
theorem zsr{xs:DX}{us:List (DK×Addr×Value)}(r:dtP xs us)(k:DK)(b:Addr){v:V}{u:Value}(rv:RelV v u):dtP (putX xs k b v) (storedH us k b u):=by
 unfold putX storedH
 have e:(findX xs k).isSome=(atKey us k).isSome:=by
  rcases zd8 r k with⟨h1,h2⟩|⟨p,q,h1,h2,_⟩<;> (rw[h1,h2];rfl)
 rw[e]
 by_cases z:(atKey us k).isSome=true
 .rw[if_pos z,if_pos z]
  clear e z
  induction r with
  |nil=>exact .nil
  | @cons p q ps qs h t ih=>
   rw[vao,vao]
   refine .cons ?_ ih
   obtain⟨h1,h2,h3⟩:=h
   unfold putAt
   by_cases e:p.1=k
   .rw[if_pos e,if_pos (h1.symm.trans e)];exact⟨h1,h2,rv⟩
   .rw[if_neg e,if_neg (λz=>e (h1.trans z))];exact⟨h1,h2,h3⟩
 .rw[if_neg z,if_neg z]
  exact Paired.snoc r ⟨rfl,rfl,rv⟩
theorem zss(xs:DX)(k:DK)(b:Addr)(v:V):(putX xs k b v).length<=xs.length+1:=by
 unfold putX
 split
 .rw[vab];omega
 .rw[vag];exact vai _
section
variable{X:Cx}{pins:List (Addr×Obj)}{σ:St}{H:Hp}{s:Shared}{a b:Addr}{k:DK}{xs:DX}{v:V}{r:Value}{A:Around}{E:Value->Shared->Prop}
theorem zjs:∀{ls:List Int} {us:List Value},Vals (ls.map .int) us->ItemsAre (intKind X.prog X.w) ls us
 |[],_,.nil=>.nil
 |x::ls,_,.cons h t=>by
  obtain⟨t',rfl⟩:=h
  exact .cons (by show Value.isInt x (.int x t')=true;simp[Value.isInt]) (zjs t)
theorem KeyAt.is(I:Inv X pins σ H s)(h:KeyAt X.K H k b):IsDK X.prog X.w s.heap k b:=by
 obtain⟨c,h1,h2⟩:=h
 obtain⟨its,r1,⟨o,e1,e2,n,e3⟩,_⟩:=I.tuple h1
 obtain⟨its2,r2,⟨o2,f1,f2,n2,f3⟩,_⟩:=I.tuple h2
 cases r1 with
 | @cons _ u0 _ us0 q1 q2=>
  cases q2 with
  | @cons _ u1 _ us1 q3 q4=>
   cases q4
   have q1:u0=.ref c:=q1
   subst q1
   refine⟨o,n,c,u1,e1,e2,e3,⟨o2,its2.toArray,n2,f1,f2,f3,zjs r2⟩,?_⟩
   cases z:k.2 with
   |none=>rw[z]at q3;cases q3;rfl
   |some i=>rw[z]at q3;obtain⟨t,rfl⟩:=q3;show Value.isInt i (.int i t)=true;simp[Value.isInt]
theorem DT.dict(I:Inv X pins σ H s)(h:DT X.K H a xs):xs.length<=sizeLine/\(a==sysModules)=false/\∃us,dtP xs us/\s.heap.DictOfH (dKind X.prog X.w) a us:=by
 rcases h with⟨e,hk⟩|⟨rfl,e⟩
 .obtain⟨a1,a2,a3,us,a4,o,es,ep,b1,b2,b3,b4⟩:=zvv I.hok e
  refine⟨a1,a2,us,a4,o,es,ep,b1,b2,b3,b4,?_,?_⟩
  .intro x hx
   have:∃p∈xs,p.1=x.1/\p.2.1=x.2.1:=by
    clear a1 a3 b4 hk e
    induction a4 with
    |nil=>cases hx
    | @cons p q ps qs h t ih=>
     rcases vax.mp hx with rfl|hx
     .exact⟨p,vaf,h.1,h.2.1⟩
     .obtain⟨p',h1,h2⟩:=ih hx
      exact⟨p',vad _ h1,h2⟩
   obtain⟨p,hp,h1,h2⟩:=this
   have:=KeyAt.is I (hk p hp)
   rw[h1,h2]at this
   exact this
  .have:us.map (·.1)=xs.map (·.1):=by
    clear a1 a3 b4 hk e
    induction a4 with
    |nil=>rfl
    | @cons p q ps qs h t ih=>rw[vao,vao,ih,h.1]
   rw[this];exact a3
 .obtain⟨z,y,vs,r,o,es,ep,b1,b2,b3,b4,b5,b6⟩:=dk_rd I.hok e
  cases r
  refine⟨vbu _,y,[],.nil,o,es,ep,b1,b2,b3,?_,(λx hx=>nomatch hx),List.nodup_nil⟩
  generalize es.toList=l at b5 ⊢
  cases b5
  rfl
theorem zvw{Q:Value->Shared->Prop}{p:Addr×V}(hu:A.units+2<cLine)(I:Inv X pins σ H s)(d:DT X.K H a xs)(kk:KeyAt X.K H k b)(g:findX xs k=some p)(h:∀w' s',Inv X pins σ H s'->RelV p.2 w'->Q w' s') :
 wpAny (model X.prog X.w) A (getItem (.ref a) (.ref b)) Q E s:=by
 obtain⟨_,_,us,r,dd⟩:=d.dict I
 rcases zd8 r k with⟨h1,_⟩|⟨p',q,h1,h2,h3⟩
 .rw[g]at h1;cases h1
 .rw[g]at h1;cases h1
  exact wpAny_getItem_heap (knd:=dKind X.prog X.w) (by show A.in1.units+1<cLine;exact hu) (kk.is I) dd h2 (h _ _ (I.tok _) h3)
theorem dt_in{Q:Value->Shared->Prop}(hu:A.units+2<cLine)(I:Inv X pins σ H s)(d:DT X.K H a xs)(kk:KeyAt X.K H k b)(h:∀s',Inv X pins σ H s'->Q (.bool (findX xs k).isSome) s') :
 wpAny (model X.prog X.w) A (compareOp .In (.ref b) (.ref a)) Q E s:=by
 obtain⟨_,y,us,r,dd⟩:=d.dict I
 have e:(findX xs k).isSome=(atKey us k).isSome:=by
  rcases zd8 r k with⟨h1,h2⟩|⟨p,q,h1,h2,_⟩<;> (rw[h1,h2];rfl)
 refine wpAny_in_heap (knd:=dKind X.prog X.w) (by show A.in1.units+1<cLine;exact hu) (kk.is I) y dd ?_
 rw[<-e]
 exact h _ (I.tok _)
theorem zpp{Q:Value->Shared->Prop}(hu:A.units+2<cLine)(I:Inv X pins σ H s)(d:DT X.K H a xs)(kk:KeyAt X.K H k b)(h:∀s',Inv X pins σ H s'->Q (.bool (!(findX xs k).isSome)) s') :
 wpAny (model X.prog X.w) A (compareOp .NotIn (.ref b) (.ref a)) Q E s:=by
 obtain⟨_,y,us,r,dd⟩:=d.dict I
 have e:(findX xs k).isSome=(atKey us k).isSome:=by
  rcases zd8 r k with⟨h1,h2⟩|⟨p,q,h1,h2,_⟩<;> (rw[h1,h2];rfl)
 refine wpAny_notIn_heap (knd:=dKind X.prog X.w) (by show A.in1.units+1<cLine;exact hu) (kk.is I) y dd ?_
 rw[<-e]
 exact h _ (I.tok _)
theorem zvx{Q:Unit->Shared->Prop}(hu:A.units+2<cLine)(I:Inv X pins σ H s)(d:DT X.K H a xs)(mu:Mut (H a))(kk:KeyAt X.K H k b)(hz:xs.length<sizeLine)(rv:RelV v r)(h:∀s',Inv X pins σ (upd H a (dtH (putX xs k b v) a)) s'->Q () s') :
 wpAny (model X.prog X.w) A (setItem (.ref a) (.ref b) r) Q E s:=by
 obtain⟨_,y,us,rl,dd⟩:=d.dict I
 refine wpAny_setItem_heap (knd:=dKind X.prog X.w) (hsz:=by rw[<-vea rl];omega) (by show A.in1.units+1<cLine;exact hu) (kk.is I) dd λh' dd' hs=>h _ ?_
 obtain⟨q,es,ep,hq,h2,h3,h4,_,h5⟩:=dd'
 have pr:=zsr rl k b rv
 refine zsl I mu hs ⟨q,hq⟩ (zvu ⟨?_,y,?_,_,pr,q,es,ep,hq,h2,h3,h4⟩)
 .have:=zss xs k b v;omega
 .have:(putX xs k b v).map (·.1)=(storedH us k b r).map (·.1):=by
   generalize putX xs k b v=ys at pr
   generalize storedH us k b r=zs at pr
   clear h4 h5
   induction pr with
   |nil=>rfl
   | @cons p q ps qs h t ih=>rw[vao,vao,ih,h.1]
  rw[this];exact h5
end
end L2
namespace L2
open PySem PySem.Spec PyProof.Rows PySem.W
open AutoSeq1 (wpAny_loadPart')
noncomputable def DE(h:Heap)(d:Addr)(es:Array DictEntry)(ep:Nat):Prop:=∃o,h.get? d=some o/\o.ExactDict/\o.data=.dict es ep
theorem DE.ty{s:Shared}{d:Addr}{es:Array DictEntry}{ep:Nat}(x:DE s.heap d es ep):s.TypeIs (.ref d) "dict":=let⟨o,a,b,_⟩:=x;⟨o,a,b.1⟩
end L2
namespace L2
open PySem PySem.Spec PyProof.Rows PySem.W
section
variable{X:Cx}{pins:List (Addr×Obj)}{σ:St}{H:Hp}{s:Shared}{a b:Addr}{k:DK}{xs:DX}
theorem DT.de(I:Inv X pins σ H s)(h:DT X.K H a xs):∃(es:Array DictEntry) (ep:Nat),DE s.heap a es ep/\es.size=xs.length/\∀(i:Nat) (p:DK×Addr×V),xs[i]?=some p->∃e:DictEntry,es[i]?=some e/\e.key=Value.ref p.2.1:=by
 obtain⟨g1,_,us,r,o,es,ep,b1,b2,b3,b4,g2⟩:=h.dict I
 clear h g1 g2
 refine⟨es,ep,⟨o,b1,b2,b3⟩,?_,λi p hp=>?_⟩
 .rw[<-vcq,b4,vab,vea r]
 .have:∃q,us[i]?=some q/\p.2.1=q.2.1:=by
   clear b4
   revert i
   induction r with
   |nil=>intro i hp;simp at hp
   | @cons p0 q0 ps qs h t ih=>
    intro i hp
    cases i with
    |zero=>simp at hp;subst hp;exact⟨q0,rfl,h.2.1⟩
    |succ i=>exact ih i (by simpa using hp)
  obtain⟨q,h1,h2⟩:=this
  refine⟨⟨dkh q.1,.ref q.2.1,q.2.2⟩,?_,by rw[h2]⟩
  rw[<-Array.getElem?_toList,b4,va2,h1];rfl
noncomputable def rInX(K:vga)(neg:Bool):R2:=λx y H Q=>∃a b xs k,y=.ref a/\x=.ref b/\DT K H a xs/\KeyAt K H k b/\Q (.bl (if neg then !(findX xs k).isSome else(findX xs k).isSome)) H
theorem zvy(hu:X.A.units+2<cLine):OpR X (compareOp .In) (rInX X.K false):=by
 intro pins s σ H x y v u Q I rx ry h
 obtain⟨a,b,xs,k,rfl,rfl,d,kk,q⟩:=h
 cases rx;cases ry
 exact dt_in hu I d kk λs' I'=>⟨.bl _,H,I',rfl,q⟩
theorem zmw(hu:X.A.units+2<cLine):OpR X (compareOp .NotIn) (rInX X.K true):=by
 intro pins s σ H x y v u Q I rx ry h
 obtain⟨a,b,xs,k,rfl,rfl,d,kk,q⟩:=h
 cases rx;cases ry
 exact zpp hu I d kk λs' I'=>⟨.bl _,H,I',rfl,q⟩
theorem DT.typeIs(I:Inv X pins σ H s)(h:DT X.K H a xs):s.TypeIs (.ref a) "dict":=let⟨_,_,d,_⟩:=h.de I;d.ty
noncomputable def rIxX(K:vga):R2:=λx y H Q=>∃a b xs k p,x=.ref a/\y=.ref b/\DT K H a xs/\KeyAt K H k b/\findX xs k=some p/\Q p.2 H
theorem ix_dt(hu:X.A.units+2<cLine):IxR X (rIxX X.K):=by
 intro value slice pins s σ H x y v u Q I rx ry q hs
 obtain⟨a,b,xs,k,p,rfl,rfl,d,kk,g,q⟩:=q
 cases rx;cases ry
 exact tail_any (d.typeIs I) PySem.F.slot_dict_getitem.lookup (zvw hu I d kk g λw' s3 I3 rw'=>⟨p.2,H,I3,rw',q⟩) hs
noncomputable def rSetX(K:vga):V->V->V->Hp->(Hp->Prop)->Prop:=λo i v H Q=>∃a b xs k,o=.ref a/\i=.ref b/\DT K H a xs/\Mut (H a)/\KeyAt K H k b/\xs.length<sizeLine/\Q (upd H a (dtH (putX xs k b v) a))
theorem zvz(hu:X.A.units+2<cLine):PSet X (rSetX X.K):=by
 intro pins s σ H o i v ov iv u Q I ro ri rv h
 obtain⟨a,b,xs,k,rfl,rfl,d,mu,kk,hz,q⟩:=h
 cases ro;cases ri
 exact zvx hu I d mu kk hz rv λs' I'=>⟨_,I',q⟩
theorem PSet.or{t t':V->V->V->Hp->(Hp->Prop)->Prop}(h:PSet X t)(h':PSet X t'):PSet X (λo i v H Q=>t o i v H Q\/t' o i v H Q):=by
 intro pins s σ H o i v ov iv u Q I ro ri rv q
 rcases q with q|q
 .exact h pins s σ H o i v ov iv u Q I ro ri rv q
 .exact h' pins s σ H o i v ov iv u Q I ro ri rv q
end
end L2
namespace RF
open PySem
inductive W where
 |non|bl (b:Bool)|int (i:Int)|str (x:Str)|tup (ws:List W)|fz (ws:List W)|ref (i:Nat)
mutual
noncomputable def W.lt(n:Nat):W->Bool
 |.tup ws=>W.lts n ws
 |.fz ws=>W.lts n ws
 |.ref i=>Nat.blt i n
 |_=>true
noncomputable def W.lts(n:Nat):List W->Bool
 |[]=>true
 |w::ws=>W.lt n w&&W.lts n ws
end
inductive VO where
 |lst (ws:List W)|dk (kvs:List (L2.Key×W))|dt (ks ws:List W)|ins (C:Addr) (xs:List Str) (ws:List W)
structure VH where
 n:Nat
 lo:Nat
 os:List VO
noncomputable def VH.get(h:VH)(i:Nat):Option VO:=if Nat.blt i h.n then h.os[h.n-1-i]? else none
noncomputable def VH.set(h:VH)(i:Nat)(o:VO):VH:=⟨h.n,if Nat.blt i h.lo then i else h.lo,h.os.set (h.n-1-i) o⟩
noncomputable def VH.new(h:VH)(o:VO):VH:=⟨h.n+1,h.lo,o::h.os⟩
inductive Res(α:Type)where
 |ok (a:α) (h:VH)|ex (x:W) (h:VH)|no
noncomputable def Res.bind{α β:Type}(r:Res α)(f:α->VH->Res β):Res β:=match r with
 |.ok a h=>f a h
 |.ex x h=>.ex x h
 |.no=>.no
noncomputable def Res.of{α:Type}(o:Option α)(h:VH):Res α:=match o with
 |some a=>.ok a h
 |none=>.no
inductive Op where
 |add|sub|mul|fdiv|mod|shl|pow
 deriving DecidableEq
inductive Cp where
 |eq|ne|lt|le|gt|ge|isn|notn|inn|nin
 deriving DecidableEq
inductive Ty where
 |int|bool|tuple|list|str|dict
 deriving DecidableEq
inductive Bi where
 |len|list|tuple|int|abs|max|min|all|lrng|rev|cget|sum
 deriving DecidableEq
inductive Mt where
 |append
 deriving DecidableEq
inductive Kd where
 |seq|rng1|enm|zip
 deriving DecidableEq
inductive Tg where
 |one (i:Nat)|many (is:List Nat)
 deriving DecidableEq
inductive E where
 |var (i:Nat)|cst (w:W)
 |nil|cons (a r:E)
 |tup (a:E)|lst (a:E)|dsp (a:E)
 |op (o:Op) (a b:E)|neg (a:E)
 |cmp (c:Cp) (a b:E)|chn (c d:Cp) (a b e:E)
 |not (a:E)|and (a b:E)|or (a b:E)|tru (a:E)|ite (c a b:E)
 |idx (a b:E)|slc (a:E) (bl:Bool) (lo:E) (bh:Bool) (hi:E)
 |call (f:Nat) (a:E)|bi (b:Bi) (a:E)|isi (t:Ty) (a:E)|mt (m:Mt) (o a:E)
 |lc (k:Kd) (a:E) (t:Tg) (ow:Nat) (ix:List Nat) (c e:E)
 |att (C:Addr) (x:Str) (a:E)
 |mk (C:Addr) (f:Nat) (a:E)|mcall (C:Addr) (mt:Str) (f:Nat) (o a:E)
inductive S where
 |skip|seq (a b:S)|set (i:Nat) (e:E)|unp (is:List Nat) (e:E)|aug (i:Nat) (o:Op) (e:E)
 |sat (C:Addr) (x:Str) (o v:E)|put (o i v:E)|ite (c:E) (a b:S)|ret (e:E)|expr (e:E)|brk|cnt
 |for (k:Kd) (a:E) (t:Tg) (b:S)|whl (c:E) (b:S)|no
noncomputable abbrev En:=List (Option W)
inductive Fl where
 |nx (ρ:En)|rt (w:W)|bk (ρ:En)|ct (ρ:En)
noncomputable def mapO{α β:Type}(f:α->Option β):List α->Option (List β)
 |[]=>some []
 |a::r=>match f a with
  |some b=>(match mapO f r with
   |some bs=>some (b::bs)
   |none=>none)
  |none=>none
noncomputable def toD(h:VH):Nat->W->Option PyData
 |0,_=>none
 |n+1,w=>match w with
  |.non=>some .none
  |.bl b=>some (.bool b)
  |.int i=>some (.int i)
  |.str x=>some (.str x)
  |.tup ws=>(mapO (toD h n) ws).map .tuple
  |.fz ws=>(mapO (toD h n) ws).map .list
  |.ref i=>match h.get i with
   |some (.lst ws)=>(mapO (toD h n) ws).map .list
   |_=>none
noncomputable def eqW(h:VH)(x y:W):Option Bool:=
 match toD h 24 x,toD h 24 y with
 |some d,some e=>if SeqAt.shaped d&&SeqAt.shaped e then some (PyData.eqv d e)else none
 |_,_=>none
noncomputable def big:Nat:=16777216
noncomputable def zb4(i:Int):Bool:=decide (-(2 ^ 64)<i)&&decide (i<2 ^ 64)
noncomputable def opI:Op->Int->Int->Option Int
 |.add,i,j=>some (i+j)
 |.sub,i,j=>some (i-j)
 |.mul,i,j=>if zb4 i||zb4 j then some (i*j)else none
 |.fdiv,i,j=>if decide (0<j)&&decide (j<1073741824)then some (i/j)else none
 |.mod,i,j=>if decide (0<j)then some (i % j)else none
 |.shl,i,j=>if decide (0<=j)&&decide (j<=1000000)&&decide (i.natAbs<2 ^ 64)then some (i*2 ^ j.toNat)else none
 |.pow,i,j=>if decide (0<=j)&&decide (j<=1000000)&&decide (i.natAbs<2 ^ 64)then some (i ^ j.toNat)else none
noncomputable def opT:Op->List W->List W->Option (List W)
 |.add,xs,ys=>if Nat.ble (xs.length+ys.length) big then some (xs++ys)else none
 |_,_,_=>none
noncomputable def opL:Op->List W->List W->Option (List W)
 |.add,xs,ys=>if Nat.ble (xs.length+ys.length) big then some (xs++ys)else none
 |_,_,_=>none
noncomputable def fits(i:Int):Bool:=decide (-(2 ^ 62)<=i)&&decide (i<2 ^ 62)
noncomputable def repW(o:Op)(xs:List W)(k:Int):Option (List W):=match o with
 |.mul=>if fits k&&Nat.ble (xs.length*k.toNat) big then some (vgc k.toNat xs).flatten else none
 |_=>none
noncomputable def opW(o:Op)(x y:W)(h:VH):Res W:=match x,y with
 |.int i,.int j=>.of ((opI o i j).map .int) h
 |.tup xs,.tup ys=>.of ((opT o xs ys).map .tup) h
 |.tup xs,.int k=>.of ((repW o xs k).map .tup) h
 |.ref i,.ref j=>match h.get i,h.get j with
  |some (.lst xs),some (.lst ys)=>(match opL o xs ys with
   |some zs=>.ok (.ref h.n) (h.new (.lst zs))
   |none=>.no)
  |_,_=>.no
 |_,_=>.no
noncomputable def ipW(o:Op)(x y:W)(h:VH):Res W:=match x,y with
 |.int i,.int j=>(match o with
  |.add=>.ok (.int (i+j)) h
  |_=>.no)
 |_,_=>.no
noncomputable def cmpI:Cp->Int->Int->Option Bool
 |.lt,i,j=>some (decide (i<j))
 |.le,i,j=>some (decide (i<=j))
 |.gt,i,j=>some (decide (j<i))
 |.ge,i,j=>some (decide (j<=i))
 |_,_,_=>none
noncomputable def isNon:W->Bool
 |.non=>true
 |_=>false
noncomputable def seqW(h:VH):W->Option (List W)
 |.tup ws=>some ws
 |.fz ws=>some ws
 |.ref i=>match h.get i with
  |some (.lst ws)=>some ws
  |_=>none
 |_=>none
noncomputable def intD:W->Option Int
 |.int i=>some i
 |_=>none
noncomputable def keyD:W->Option L2.DK
 |.tup [.tup ws,.non]=>(mapO intD ws).map λis=>(is,none)
 |.tup [.tup ws,.int i]=>(mapO intD ws).map λis=>(is,some i)
 |_=>none
noncomputable def lookD:List W->List W->L2.DK->Option W
 |k::ks,w::ws,d=>if keyD k=some d then some w else lookD ks ws d
 |_,_,_=>none
noncomputable def inD(h:VH)(x y:W):Option Bool:=match y with
 |.ref a=>(match h.get a,keyD x with
  |some (.dt ks ws),some k=>some (lookD ks ws k).isSome
  |_,_=>none)
 |_=>none
noncomputable def idxD(h:VH)(a:Nat)(y:W):Option W:=match h.get a,keyD y with
 |some (.dt ks ws),some k=>lookD ks ws k
 |_,_=>none
noncomputable def inW(h:VH)(x y:W):Option Bool:=match seqW h y,toD h 24 x with
 |some ws,some d=>(match mapO (toD h 24) ws with
  |some ds=>if ds.all SeqAt.shaped&&SeqAt.shaped d then some (L2.anyEq ds d)else none
  |none=>none)
 |_,_=>inD h x y
noncomputable def cmpW(c:Cp)(h:VH)(x y:W):Option Bool:=match c with
 |.inn=>inW h x y
 |.nin=>(inW h x y).map (!·)
 |.eq=>eqW h x y
 |.ne=>(eqW h x y).map (!·)
 |.isn=>if isNon y then some (isNon x)else none
 |.notn=>if isNon y then some (!isNon x)else none
 |c=>match x,y with
  |.int i,.int j=>cmpI c i j
  |_,_=>none
noncomputable def truW(h:VH):W->Option Bool
 |.bl b=>some b
 |.int i=>some (i != 0)
 |.non=>some false
 |.tup ws=>some (!ws.isEmpty)
 |.ref i=>match h.get i with
  |some (.lst ws)=>some (!ws.isEmpty)
  |_=>none
 |_=>none
noncomputable def keyW:W->Option L2.Key
 |.int i=>some (.inl i)
 |.str x=>some (.inr x)
 |_=>none
noncomputable def lookK(kvs:List (L2.Key×W))(k:L2.Key):Option W:=(kvs.find? λkv=>decide (kv.1=k)).map (·.2)
noncomputable def putKW(kvs:List (L2.Key×W))(k:L2.Key)(w:W):List (L2.Key×W):=
 if(kvs.any λkv=>decide (kv.1=k))=true then kvs.map (λkv=>if kv.1=k then(kv.1,w)else kv)else kvs++[(k,w)]
noncomputable def idxW(h:VH)(x y:W):Option W:=match x,y with
 |.tup ws,.int i=>L2.atI ws i
 |.fz ws,.int i=>L2.atI ws i
 |.ref a,.int i=>(match h.get a with
  |some (.lst ws)=>L2.atI ws i
  |some (.dk kvs)=>lookK kvs (.inl i)
  |_=>none)
 |.ref a,.str x=>(match h.get a with
  |some (.dk kvs)=>lookK kvs (.inr x)
  |_=>none)
 |.ref a,y=>idxD h a y
 |_,_=>none
noncomputable def partW(b:Bool)(w:W):Option (Option Int):=match b,w with
 |false,_=>some none
 |true,.int i=>some (some i)
 |_,_=>none
noncomputable def cutW(ws:List W)(lo hi:Option Int):List W:=(ws.drop (HT.sIx ws.length 0 lo)).take (HT.sIx ws.length ws.length hi-HT.sIx ws.length 0 lo)
noncomputable def slcW(x:W)(l u:Option Int)(h:VH):Res W:=match x with
 |.tup ws=>.ok (.tup (cutW ws l u)) h
 |.ref i=>(match h.get i with
  |some (.lst ws)=>.ok (.ref h.n) (h.new (.lst (cutW ws l u)))
  |_=>.no)
 |_=>.no
@[simp] theorem slcW_tup {ws:List W} {l u:Option Int} {h:VH}:slcW (.tup ws) l u h=.ok (.tup (cutW ws l u)) h:=rfl
noncomputable def tyIs:Ty->VH->W->Option Bool
 |t,_,.non=>some false
 |t,_,.bl _=>some (t == .int||t == .bool)
 |t,_,.int _=>some (t == .int)
 |t,_,.str _=>some (t == .str)
 |t,_,.tup _=>some (t == .tuple)
 |_,_,.fz _=>none
 |t,h,.ref i=>match h.get i with
  |some (.lst _)=>some (t == .list)
  |some (.dk _)=>some (t == .dict)
  |_=>none
noncomputable def lenW(xs:List W)(h:VH):Res W:=match xs with
 |[x]=>.of (match seqW h x with
  |some ws=>some (.int ws.length)
  |none=>none) h
 |_=>.no
noncomputable def listW(xs:List W)(h:VH):Res W:=match xs with
 |[x]=>(match seqW h x with
  |some ws=>.ok (.ref h.n) (h.new (.lst ws))
  |none=>.no)
 |_=>.no
noncomputable def zer(xs:List W)(h:VH):Res W:=match xs with
 |[x]=>.of (match seqW h x with
  |some ws=>some (.tup ws)
  |none=>none) h
 |_=>.no
noncomputable def intW(xs:List W)(h:VH):Res W:=match xs with
 |[.int i]=>.ok (.int i) h
 |[.bl b]=>.ok (.int (if b then 1 else 0)) h
 |_=>.no
noncomputable def absW(xs:List W)(h:VH):Res W:=match xs with
 |[.int i]=>.ok (.int (if i<0 then -i else i)) h
 |_=>.no
noncomputable def maxW(xs:List W)(h:VH):Res W:=match xs with
 |[.int i,.int j]=>.ok (.int (if j>i then j else i)) h
 |_=>.no
noncomputable def minW(xs:List W)(h:VH):Res W:=match xs with
 |[.int i,.int j]=>.ok (.int (if j<i then j else i)) h
 |_=>.no
noncomputable def blW:W->Option Bool
 |.bl b=>some b
 |_=>none
noncomputable def allW(xs:List W)(h:VH):Res W:=match xs with
 |[.ref i]=>(match h.get i with
  |some (.lst ws)=>.of ((mapO blW ws).map λbs=>.bl (bs.all id)) h
  |_=>.no)
 |_=>.no
noncomputable def ints0(j:Nat):List W:=(List.range' 0 j).map λ(i:Nat)=>W.int (0+ (i:Int))
noncomputable def lrngW(xs:List W)(h:VH):Res W:=match xs with
 |[.int i]=>if decide (0<=i)&&Nat.ble i.toNat big then .ok (.ref h.n) (h.new (.lst (ints0 i.toNat)))else .no
 |_=>.no
noncomputable def revW(xs:List W)(h:VH):Res W:=match xs with
 |[.tup ws,.int (-1)]=>.ok (.tup ws.reverse) h
 |_=>.no
noncomputable def decK:List W->Option (List (L2.Key×W))
 |[]=>some []
 |.tup [.str x,w]::r=>(decK r).map λl=>(.inr x,w)::l
 |_=>none
noncomputable def cgetW(xs:List W)(h:VH):Res W:=match xs with
 |[.tup ps,x,d]=>(match decK ps,keyW x with
  |some kvs,some k=>.ok ((lookK kvs k).getD d) h
  |_,_=>.no)
 |_=>.no
noncomputable def iZ:W->Option Int
 |.int i=>some i
 |_=>none
noncomputable def sumW(xs:List W)(h:VH):Res W:=match xs with
 |[.ref i]=>(match h.get i with
  |some (.lst ws)=>.of ((mapO iZ ws).map λis=>.int is.sum) h
  |_=>.no)
 |_=>.no
noncomputable def biW(b:Bi)(xs:List W)(h:VH):Res W:=match b with
 |.abs=>absW xs h
 |.max=>maxW xs h
 |.min=>minW xs h
 |.all=>allW xs h
 |.lrng=>lrngW xs h
 |.rev=>revW xs h
 |.cget=>cgetW xs h
 |.sum=>sumW xs h
 |.len=>lenW xs h
 |.list=>listW xs h
 |.tuple=>zer xs h
 |.int=>intW xs h
noncomputable def mtW(m:Mt)(o:W)(xs:List W)(h:VH):Res W:=match m,o,xs with
 |.append,.ref i,[x]=>(match h.get i with
  |some (.lst ws)=>if Nat.blt ws.length big then .ok .non (h.set i (.lst (ws++[x])))else .no
  |_=>.no)
 |_,_,_=>.no
noncomputable def zhu(m:Mt)(h:VH)(o:W):Bool:=match m,o with
 |.append,.ref i=>(match h.get i with
  |some (.lst _)=>true
  |_=>false)
 |_,_=>false
noncomputable def nxt(k:Kd)(x:W)(i:Nat)(h:VH):Option (Option W):=match k with
 |.seq=>(seqW h x).map λws=>ws[i]?
 |.enm=>(match x with
  |.tup ws=>some ((ws[i]?).map λw=>.tup [.int i,w])
  |_=>none)
 |.zip=>(match x with
  |.tup [u,v]=>(match seqW h u,seqW h v with
   |some ws,some zs=>some (match ws[i]?,zs[i]? with
    |some a,some b=>some (.tup [a,b])
    |_,_=>none)
   |_,_=>none)
  |_=>none)
 |.rng1=>(match x with
  |.tup [.int j]=>if fits j then some (if decide ((i:Int)<j)then some (.int (0+i))else none)else none
  |_=>none)
noncomputable def za1:List Nat->List W->En->Option En
 |[],[],ρ=>some ρ
 |i::is,w::ws,ρ=>za1 is ws (ρ.set i (some w))
 |_,_,_=>none
noncomputable def tgW(t:Tg)(w:W)(h:VH)(ρ:En):Option En:=match t with
 |.one i=>some (ρ.set i (some w))
 |.many is=>match seqW h w with
  |some ws=>za1 is ws ρ
  |none=>none
noncomputable def fuel:Nat:=1000000
noncomputable def inner(ow:Nat)(ix:List Nat)(ρ:En):En:=vgc ow none++ix.map λj=>(ρ[j]?).join
noncomputable def lcG(nx:Nat->VH->Option (Option W))(tg:W->VH->En->Option En)(c:En->VH->Res W)(e:En->VH->Res W):Nat->Nat->En->VH->List W->Res (List W)
 |0,_,_,_,_=>.no
 |f+1,i,ρ,h,acc=>match nx i h with
  |none=>.no
  |some none=>.ok acc.reverse h
  |some (some w)=>match tg w h ρ with
   |none=>.no
   |some ρ=>(c ρ h).bind λb h=>match b with
    |.bl true=>(e ρ h).bind λy h=>lcG nx tg c e f (i+1) ρ h (y::acc)
    |.bl false=>lcG nx tg c e f (i+1) ρ h acc
    |_=>.no
noncomputable def forG(nx:Nat->VH->Option (Option W))(tg:W->VH->En->Option En)(b:En->VH->Res Fl):Nat->Nat->En->VH->Res Fl
 |0,_,_,_=>.no
 |f+1,i,ρ,h=>match nx i h with
  |none=>.no
  |some none=>.ok (.nx ρ) h
  |some (some w)=>match tg w h ρ with
   |none=>.no
   |some ρ=>(b ρ h).bind λfl h=>match fl with
    |.nx ρ=>forG nx tg b f (i+1) ρ h
    |.ct ρ=>forG nx tg b f (i+1) ρ h
    |.bk ρ=>.ok (.nx ρ) h
    |.rt w=>.ok (.rt w) h
noncomputable def whlG(c:En->VH->Res W)(b:En->VH->Res Fl):Nat->En->VH->Res Fl
 |0,_,_=>.no
 |f+1,ρ,h=>(c ρ h).bind λt h=>match t with
  |.bl false=>.ok (.nx ρ) h
  |.bl true=>(b ρ h).bind λfl h=>match fl with
   |.nx ρ=>whlG c b f ρ h
   |.ct ρ=>whlG c b f ρ h
   |.bk ρ=>.ok (.nx ρ) h
   |.rt w=>.ok (.rt w) h
  |_=>.no
noncomputable def zmx:List W->Option (List (L2.Key×W))
 |[]=>some []
 |k::v::r=>match keyW k with
  |some k=>(match zmx r with
   |some kvs=>some ((k,v)::kvs)
   |none=>none)
  |none=>none
 |_=>none
noncomputable def zv0(kvs more:List (L2.Key×W)):List (L2.Key×W):=more.foldl (λacc kv=>putKW acc kv.1 kv.2) kvs
noncomputable def dkO:List (L2.Key×W)->VO
 |[]=>.dt [] []
 |kvs=>.dk (zv0 [] kvs)
noncomputable def dspD(ys:List W)(h:VH):Res W:=match ys with
 |[k,w]=>(match keyD k with
  |some _=>.ok (.ref h.n) (h.new (.dt [k] [w]))
  |none=>.no)
 |_=>.no
noncomputable def putD(ρ:En)(a:Nat)(y w:W)(h:VH):Res Fl:=match h.get a,keyD y with
 |some (.dt ks ws),some k=>if(lookD ks ws k).isNone&&Nat.blt ks.length big then .ok (.nx ρ) (h.set a (.dt (ks++[y]) (ws++[w])))else .no
 |_,_=>.no
noncomputable def lookF(x:Str):List Str->List W->Option W
 |y::ys,w::ws=>if y=x then some w else lookF x ys ws
 |_,_=>none
noncomputable def putN(x:Str):List Str->List Str
 |[]=>[x]
 |y::ys=>if y=x then y::ys else y::putN x ys
noncomputable def putV(x:Str)(w:W):List Str->List W->List W
 |y::ys,v::vs=>if y=x then w::vs else v::putV x w ys vs
 |_,_=>[w]
noncomputable def attW(C:Addr)(x:Str)(o:W)(h:VH):Option W:=match o with
 |.ref i=>(match h.get i with
  |some (.ins D xs ws)=>if D=C then lookF x xs ws else none
  |_=>none)
 |_=>none
noncomputable def satW(ρ:En)(C:Addr)(x:Str)(o w:W)(h:VH):Res Fl:=match o with
 |.ref i=>(match h.get i with
  |some (.ins D xs ws)=>if D=C&&Nat.blt xs.length 1000 then .ok (.nx ρ) (h.set i (.ins D (putN x xs) (putV x w xs ws)))else .no
  |_=>.no)
 |_=>.no
noncomputable def isIns(C:Addr)(m:Str)(h:VH)(x:W):Bool:=match x with
 |.ref i=>(match h.get i with
  |some (.ins D xs ws)=>decide (D=C)&& (lookF m xs ws).isNone
  |_=>false)
 |_=>false
noncomputable abbrev Call:=Nat->List W->VH->Res W
noncomputable abbrev mkR(C:Addr)(g:List W->VH->Res W):List W->VH->Res W:=λys h=>(g (.ref h.n::ys) (h.new (.ins C [] []))).bind λv h'=>if isNon v then .ok (.ref h.n) h' else .no
noncomputable def ev(cl:Call):E->En->VH->Res W
 |.var i,ρ,h=>.of (ρ[i]?).join h
 |.cst w,_,h=>.ok w h
 |.nil,_,h=>.ok (.tup []) h
 |.cons a r,ρ,h=>(ev cl a ρ h).bind λx h=>(ev cl r ρ h).bind λy h=>match y with
  |.tup ys=>.ok (.tup (x::ys)) h
  |_=>.no
 |.tup a,ρ,h=>(ev cl a ρ h).bind λy h=>match y with
  |.tup ys=>if Nat.ble ys.length 1000 then .ok (.tup ys) h else .no
  |_=>.no
 |.lst a,ρ,h=>(ev cl a ρ h).bind λy h=>match y with
  |.tup ys=>if Nat.ble ys.length 1000 then .ok (.ref h.n) (h.new (.lst ys))else .no
  |_=>.no
 |.dsp a,ρ,h=>(ev cl a ρ h).bind λy h=>match y with
  |.tup ys=>(match zmx ys with
   |some kvs=>if Nat.ble kvs.length 15 then .ok (.ref h.n) (h.new (dkO kvs))else .no
   |none=>dspD ys h)
  |_=>.no
 |.op o a b,ρ,h=>(ev cl a ρ h).bind λx h=>(ev cl b ρ h).bind λy h=>opW o x y h
 |.neg a,ρ,h=>(ev cl a ρ h).bind λx h=>match x with
  |.int i=>.ok (.int (-i)) h
  |_=>.no
 |.cmp c a b,ρ,h=>(ev cl a ρ h).bind λx h=>(ev cl b ρ h).bind λy h=>.of ((cmpW c h x y).map .bl) h
 |.chn c d a b e,ρ,h=>(ev cl a ρ h).bind λx h=>(ev cl b ρ h).bind λy h=>match cmpW c h x y with
  |some true=>(ev cl e ρ h).bind λz h=>.of ((cmpW d h y z).map .bl) h
  |some false=>.ok (.bl false) h
  |none=>.no
 |.not a,ρ,h=>(ev cl a ρ h).bind λx h=>match x with
  |.bl b=>.ok (.bl (!b)) h
  |_=>.no
 |.and a b,ρ,h=>(ev cl a ρ h).bind λx h=>match x with
  |.bl true=>ev cl b ρ h
  |.bl false=>.ok (.bl false) h
  |_=>.no
 |.or a b,ρ,h=>(ev cl a ρ h).bind λx h=>match x with
  |.bl true=>.ok (.bl true) h
  |.bl false=>ev cl b ρ h
  |_=>.no
 |.tru a,ρ,h=>(ev cl a ρ h).bind λx h=>.of ((truW h x).map .bl) h
 |.ite c a b,ρ,h=>(ev cl c ρ h).bind λx h=>match x with
  |.bl true=>ev cl a ρ h
  |.bl false=>ev cl b ρ h
  |_=>.no
 |.idx a b,ρ,h=>(ev cl a ρ h).bind λx h=>(ev cl b ρ h).bind λy h=>.of (idxW h x y) h
 |.slc a bl lo bh hi,ρ,h=>(ev cl a ρ h).bind λx h=>(ev cl lo ρ h).bind λl h=>(ev cl hi ρ h).bind λu h=>match partW bl l,partW bh u with
  |some l,some u=>slcW x l u h
  |_,_=>.no
 |.call f a,ρ,h=>(ev cl a ρ h).bind λy h=>match y with
  |.tup ys=>cl f ys h
  |_=>.no
 |.bi b a,ρ,h=>(ev cl a ρ h).bind λy h=>match y with
  |.tup ys=>biW b ys h
  |_=>.no
 |.isi t a,ρ,h=>(ev cl a ρ h).bind λx h=>.of ((tyIs t h x).map .bl) h
 |.mt m o a,ρ,h=>(ev cl o ρ h).bind λx h=>if zhu m h x then(ev cl a ρ h).bind λy h=>match y with
  |.tup ys=>mtW m x ys h
  |_=>.no
  else .no
 |.lc k a t ow ix c e,ρ,h=>(ev cl a ρ h).bind λx h=>(lcG (nxt k x) (tgW t) (ev cl c) (ev cl e) fuel 0 (inner ow ix ρ) h []).bind λys h=>if Nat.ble ys.length big then .ok (.ref h.n) (h.new (.lst ys))else .no
 |.mk C f a,ρ,h=>(ev cl a ρ h).bind λy h=>match y with
  |.tup ys=>mkR C (cl f) ys h
  |_=>.no
 |.mcall C mt f o a,ρ,h=>(ev cl o ρ h).bind λx h=>if isIns C mt h x then(ev cl a ρ h).bind λy h=>match y with
  |.tup ys=>cl f (x::ys) h
  |_=>.no
  else .no
 |.att C x a,ρ,h=>(ev cl a ρ h).bind λo h=>.of (attW C x o h) h
noncomputable def exs(cl:Call):S->En->VH->Res Fl
 |.skip,ρ,h=>.ok (.nx ρ) h
 |.seq a b,ρ,h=>(exs cl a ρ h).bind λfl h=>match fl with
  |.nx ρ=>exs cl b ρ h
  |fl=>.ok fl h
 |.set i e,ρ,h=>(ev cl e ρ h).bind λw h=>.ok (.nx (ρ.set i (some w))) h
 |.unp is e,ρ,h=>(ev cl e ρ h).bind λw h=>.of ((tgW (.many is) w h ρ).map .nx) h
 |.aug i o e,ρ,h=>match(ρ[i]?).join with
  |some x=>(ev cl e ρ h).bind λy h=>(ipW o x y h).bind λz h=>.ok (.nx (ρ.set i (some z))) h
  |none=>.no
 |.sat C x o v,ρ,h=>(ev cl v ρ h).bind λw h=>(ev cl o ρ h).bind λo h=>satW ρ C x o w h
 |.put o i v,ρ,h=>(ev cl v ρ h).bind λw h=>(ev cl o ρ h).bind λx h=>(ev cl i ρ h).bind λy h=>match x,y with
  |.ref a,.int j=>(match h.get a with
   |some (.lst ws)=>(match L2.ixN ws.length j with
    |some k=>.ok (.nx ρ) (h.set a (.lst (ws.set k w)))
    |none=>.no)
   |_=>.no)
  |.ref a,y=>putD ρ a y w h
  |_,_=>.no
 |.ite c a b,ρ,h=>(ev cl c ρ h).bind λx h=>match x with
  |.bl true=>exs cl a ρ h
  |.bl false=>exs cl b ρ h
  |_=>.no
 |.ret e,ρ,h=>(ev cl e ρ h).bind λw h=>.ok (.rt w) h
 |.expr e,ρ,h=>(ev cl e ρ h).bind λ_ h=>.ok (.nx ρ) h
 |.brk,ρ,h=>.ok (.bk ρ) h
 |.cnt,ρ,h=>.ok (.ct ρ) h
 |.for k a t b,ρ,h=>(ev cl a ρ h).bind λx h=>forG (nxt k x) (tgW t) (exs cl b) fuel 0 ρ h
 |.whl c b,ρ,h=>whlG (ev cl c) (exs cl b) fuel ρ h
 |.no,_,_=>.no
structure Fn where
 ps:Nat
 n:Nat
 body:S
noncomputable def leave(h:VH)(w:W)(h':VH):Res W:=
 if Nat.ble h.n h'.lo&&W.lt h.n w then .ok w h else .ok w ⟨h'.n,if Nat.ble h.lo h'.lo then h.lo else h'.lo,h'.os⟩
noncomputable def run(F:Nat->Option Fn):Nat->Call
 |0,_,_,_=>.no
 |k+1,f,ws,h=>match F f with
  |some fn=>if Nat.beq ws.length fn.ps then
   (exs (run F k) fn.body (ws.map some++vgc (fn.n-fn.ps) none) ⟨h.n,h.n,h.os⟩).bind λfl h'=>match fl with
     |.nx _=>leave h .non h'
     |.rt w=>leave h w h'
     |_=>.no
   else .no
  |none=>.no
open L2 PyProof.Rows PySem.Spec
noncomputable def Fz(K:vga)(H:Hp)(a:Addr)(xs:List V):Prop:=
 (∃o,H a=some (.frz o (.lst xs)))\/∃(o:Obj) (its:Array Value) (n:Nat),K.lookup a=some o/\o.cls=.type "list"/\o.dict=none/\o.data=.seq its n/\its.size<=sizeLine/\Vals xs its.toList
theorem Fz.sq{K:vga}{H:Hp}{a:Addr}{xs:List V}(h:Fz K H a xs):SqL K H a xs:=h.elim (λ⟨o,q⟩=>.inl (.inr ⟨o,q⟩)) .inr
mutual
inductive VRep(K:vga)(m:Nat->Addr)(n:Nat)(H:Hp):V->W->Prop
 |non:VRep K m n H .non .non
 |bl (b:Bool):VRep K m n H (.bl b) (.bl b)
 |int (i:Int):VRep K m n H (.int i) (.int i)
 |str (x:Str):VRep K m n H (.str x) (.str x)
 |tup {a:Addr} {vs:List V} {ws:List W}:SqT K H a vs->VReps K m n H vs ws->VRep K m n H (.ref a) (.tup ws)
 |fz {a:Addr} {vs:List V} {ws:List W}:Fz K H a vs->VReps K m n H vs ws->VRep K m n H (.ref a) (.fz ws)
 |ref {i:Nat}:i<n->VRep K m n H (.ref (m i)) (.ref i)
inductive VReps(K:vga)(m:Nat->Addr)(n:Nat)(H:Hp):List V->List W->Prop
 |nil:VReps K m n H [] []
 |cons {v:V} {w:W} {vs:List V} {ws:List W}:VRep K m n H v w->VReps K m n H vs ws->VReps K m n H (v::vs) (w::ws)
end
inductive KReps(K:vga)(m:Nat->Addr)(n:Nat)(H:Hp):List (Key×V)->List (Key×W)->Prop
 |nil:KReps K m n H [] []
 |cons {k:Key} {v:V} {w:W} {vs:List (Key×V)} {ws:List (Key×W)}:VRep K m n H v w->KReps K m n H vs ws->KReps K m n H ((k,v)::vs) ((k,w)::ws)
noncomputable def ORep(K:vga)(m:Nat->Addr)(n:Nat)(H:Hp)(a:Addr):VO->Prop
 |.lst ws=>∃vs,H a=some (.lst vs)/\VReps K m n H vs ws
 |.dk kvs=>∃kv,Rd H a (.dK kv)/\KReps K m n H kv kvs
 |.dt ks ws=>∃xs:DX,(H a=some (dtH xs a)\/(xs=[]/\H a=some (.dK [])))/\mapO keyD ks=some (xs.map (·.1))/\VReps K m n H (xs.map λx=>.ref x.2.1) ks/\VReps K m n H (xs.map λx=>x.2.2) ws
 |.ins C xs ws=>∃dx vs,H a=some (.ins C dx vs)/\vs.map (·.1)=xs/\VReps K m n H (vs.map (·.2)) ws
structure Rel(K:vga)(m:Nat->Addr)(h:VH)(H:Hp):Prop where
 obj:∀i,i<h.n->∃o,h.get i=some o/\ORep K m h.n H (m i) o
 inj:∀i j,i<h.n->j<h.n->m i=m j->i=j
 len:h.os.length=h.n
structure Stp(m:Nat->Addr)(n:Nat)(H:Hp)(m':Nat->Addr)(n':Nat)(H':Hp):Prop where
 le:n<=n'
 same:∀i,i<n->m' i=m i
 new:∀i,n<=i->i<n'->H (m' i)=none
 apart:∀i j,n<=i->i<n'->j<n->m' i≠m' j
 tup:∀b vs,H b=some (.tup vs)->H' b=some (.tup vs)
 frz:∀b o u,H b=some (.frz o u)->H' b=some (.frz o u)
 keep:∀b o,(∀i,i<n->m i≠b)->H b=some o->H' b=some o
section
variable{K:vga}{m m' m1 m2:Nat->Addr}{n n' n1 n2:Nat}{h h':VH}{H H' H1 H2:Hp}
theorem Stp.refl:Stp m n H m n H:=⟨vai _,λ_ _=>rfl,λi a b=>absurd b (vci.mpr a),λi j a b=>absurd b (vci.mpr a),λ_ _ q=>q,λ_ _ _ q=>q,λ_ _ _ q=>q⟩
theorem Stp.trans(a:Stp m n H m1 n1 H1)(b:Stp m1 n1 H1 m2 n2 H2):Stp m n H m2 n2 H2 where
 le:=vbx a.le b.le
 same:=λi hi=>(b.same i (vak hi a.le)).trans (a.same i hi)
 new:=λi hi hi2=>by
  by_cases hc:i<n1
  .rw[b.same i hc];exact a.new i hi hc
  .have hc:=vci.mp hc
   cases q:H (m2 i)with
   |none=>rfl
   |some o=>
    have q1:H1 (m2 i)=none:=b.new i hc hi2
    rw[a.keep _ o (λj hj z=>b.apart i j hc hi2 (vak hj a.le) ((b.same j (vak hj a.le)).trans ((a.same j hj).trans z)).symm) q]at q1
    cases q1
 apart:=λi j hi hi2 hj=>by
  by_cases hc:i<n1
  .rw[b.same i hc,b.same j (vak hj a.le)];exact a.apart i j hi hc hj
  .exact b.apart i j (vci.mp hc) hi2 (vak hj a.le)
 tup:=λc vs q=>b.tup c vs (a.tup c vs q)
 frz:=λc o u q=>b.frz c o u (a.frz c o u q)
 keep:=λc o hc q=>b.keep c o (λi hi=>by
  by_cases hl:i<n
  .rw[a.same i hl];exact hc i hl
  .intro z
   have:=a.new i (vci.mp hl) hi
   rw[z,q]at this;cases this) (a.keep c o hc q)
theorem Stp.sqT{a:Addr}{vs:List V}(s:Stp m n H m' n' H')(q:SqT K H a vs):SqT K H' a vs:=by
 rcases q with(q|⟨o,q⟩)|q
 .exact .inl (.inl (s.tup _ _ q))
 .exact .inl (.inr ⟨o,s.frz _ _ _ q⟩)
 .exact .inr q
theorem Stp.fz{a:Addr}{vs:List V}(s:Stp m n H m' n' H')(q:Fz K H a vs):Fz K H' a vs:=by
 rcases q with⟨o,q⟩|q
 .exact .inl ⟨o,s.frz _ _ _ q⟩
 .exact .inr q
mutual
theorem VRep.stp(s:Stp m n H m' n' H'):∀{v:V} {w:W},VRep K m n H v w->VRep K m' n' H' v w
 |_,_,.non=>.non
 |_,_,.bl b=>.bl b
 |_,_,.int b=>.int b
 |_,_,.str b=>.str b
 |_,_,.tup q r=>.tup (s.sqT q) (VReps.stp s r)
 |_,_,.fz q r=>.fz (s.fz q) (VReps.stp s r)
 |_,_,.ref (i:=i) q=>by rw[<-s.same i q];exact .ref (vak q s.le)
theorem VReps.stp(s:Stp m n H m' n' H'):∀{vs:List V} {ws:List W},VReps K m n H vs ws->VReps K m' n' H' vs ws
 |_,_,.nil=>.nil
 |_,_,.cons q r=>.cons (VRep.stp s q) (VReps.stp s r)
end
theorem KReps.stp(s:Stp m n H m' n' H'):∀{vs:List (Key×V)} {ws:List (Key×W)},KReps K m n H vs ws->KReps K m' n' H' vs ws
 |_,_,.nil=>.nil
 |_,_,.cons q r=>.cons (q.stp s) (KReps.stp s r)
theorem VReps.length:∀{vs:List V} {ws:List W},VReps K m n H vs ws->vs.length=ws.length
 |_,_,.nil=>rfl
 |_,_,.cons _ r=>by rw[vap,vap,VReps.length r]
theorem VReps.get:∀{vs:List V} {ws:List W} {i:Nat} {w:W},VReps K m n H vs ws->ws[i]?=some w->∃v,vs[i]?=some v/\VRep K m n H v w
 |_,_,_,_,.nil,e=>by simp at e
 |_,_,0,_,.cons q _,e=>by simp at e;subst e;exact⟨_,rfl,q⟩
 |_,_,i+1,w,.cons _ r,e=>by
  obtain⟨v,h1,h2⟩:=VReps.get (i:=i) (w:=w) r (by simpa using e)
  exact⟨v,by simpa using h1,h2⟩
theorem VReps.append:∀{vs us:List V} {ws zs:List W},VReps K m n H vs ws->VReps K m n H us zs->VReps K m n H (vs++us) (ws++zs)
 |_,_,_,_,.nil,r=>r
 |_,_,_,_,.cons q r,t=>.cons q (VReps.append r t)
theorem VReps.drop:∀(k:Nat) {vs:List V} {ws:List W},VReps K m n H vs ws->VReps K m n H (vs.drop k) (ws.drop k)
 |0,_,_,r=>r
 |_+1,_,_,.nil=>.nil
 |k+1,_,_,.cons _ r=>VReps.drop k r
theorem VReps.take:∀(k:Nat) {vs:List V} {ws:List W},VReps K m n H vs ws->VReps K m n H (vs.take k) (ws.take k)
 |0,_,_,r=>.nil
 |_+1,_,_,.nil=>.nil
 |k+1,_,_,.cons q r=>.cons q (VReps.take k r)
theorem VReps.set{v:V}{w:W}(q:VRep K m n H v w):∀(k:Nat) {vs:List V} {ws:List W},VReps K m n H vs ws->VReps K m n H (vs.set k v) (ws.set k w)
 |_,_,_,.nil=>.nil
 |0,_,_,.cons _ r=>.cons q r
 |k+1,_,_,.cons p r=>.cons p (VReps.set q k r)
theorem ORep.stp{a:Addr}{o:VO}(s:Stp m n H m' n' H')(e:H' a=H a)(q:ORep K m n H a o):ORep K m' n' H' a o:=by
 cases o with
 |lst ws=>obtain⟨vs,h1,h2⟩:=q;exact⟨vs,e.trans h1,h2.stp s⟩
 |dk ws=>obtain⟨vs,h1,h2⟩:=q;exact⟨vs,h1.imp (λz=>e.trans z) λ⟨o,z⟩=>⟨o,e.trans z⟩,h2.stp s⟩
 |dt ks ws=>obtain⟨xs,h1,h0,h2,h3⟩:=q;exact⟨xs,h1.imp (λz=>e.trans z) λ⟨o,z⟩=>⟨o,e.trans z⟩,h0,h2.stp s,h3.stp s⟩
 |ins C xs ws=>obtain⟨dx,vs,h1,h0,h2⟩:=q;exact⟨dx,vs,e.trans h1,h0,h2.stp s⟩
theorem ORep.some{a:Addr}{o:VO}(q:ORep K m n H a o):∃u,H a=some u:=by
 cases o with
 |lst ws=>obtain⟨vs,h1,h2⟩:=q;exact⟨_,h1⟩
 |dk ws=>
  obtain⟨vs,h1,h2⟩:=q
  rcases h1 with h1|⟨o,h1⟩<;>exact⟨_,h1⟩
 |dt ks ws=>
  obtain⟨xs,h1,_⟩:=q
  rcases h1 with h1|⟨_,h1⟩<;>exact⟨_,h1⟩
 |ins C xs ws=>obtain⟨dx,vs,h1,_⟩:=q;exact⟨_,h1⟩
theorem zan{i j:Nat}:Nat.blt i j=true↔i<j:=by
 unfold Nat.blt;rw[vd8];exact Iff.rfl
theorem zao{i:Nat}{o:VO}(q:h.get i=some o):i<h.n:=by
 unfold VH.get at q
 split at q
 .rename_i z;exact zan.mp z
 .cases q
theorem Rel.at_(r:Rel K m h H){i:Nat}{o:VO}(q:h.get i=some o):ORep K m h.n H (m i) o:=by
 obtain⟨o',h1,h2⟩:=r.obj i (zao q)
 rw[q]at h1;cases h1;exact h2
theorem Rel.lst(r:Rel K m h H){i:Nat}{ws:List W}(q:h.get i=some (.lst ws)):∃vs,H (m i)=some (.lst vs)/\VReps K m h.n H vs ws:=r.at_ q
theorem Rel.dk(r:Rel K m h H){i:Nat}{ws:List (Key×W)}(q:h.get i=some (.dk ws)):∃vs,Rd H (m i) (.dK vs)/\KReps K m h.n H vs ws:=r.at_ q
theorem Rel.dt(r:Rel K m h H){i:Nat}{ks ws:List W}(q:h.get i=some (.dt ks ws)):∃xs:DX,(H (m i)=some (dtH xs (m i))\/(xs=[]/\H (m i)=some (.dK [])))/\mapO keyD ks=some (xs.map (·.1))/\VReps K m h.n H (xs.map λx=>.ref x.2.1) ks/\VReps K m h.n H (xs.map λx=>x.2.2) ws:=r.at_ q
theorem Rel.ins(r:Rel K m h H){i:Nat}{C:Addr}{xs:List Str}{ws:List W}(q:h.get i=some (.ins C xs ws)):∃dx vs,H (m i)=some (.ins C dx vs)/\vs.map (·.1)=xs/\VReps K m h.n H (vs.map (·.2)) ws:=r.at_ q
theorem zak{i:Nat}{o:VO}(hi:i<h.n):(h.new o).get i=h.get i:=by
 unfold VH.get VH.new
 have h1:Nat.blt i (h.n+1)=true:=zan.mpr (Nat.lt_succ_of_lt hi)
 have h2:Nat.blt i h.n=true:=zan.mpr hi
 simp only[h1,h2,va3]
 have:h.n+1-1-i=(h.n-1-i)+1:=by lia
 rw[this];rfl
theorem zat{o:VO}:(h.new o).get h.n=some o:=by
 unfold VH.get VH.new
 have h1:Nat.blt h.n (h.n+1)=true:=zan.mpr (vbo _)
 simp only[h1,va3]
 have:h.n+1-1-h.n=0:=by lia
 rw[this];rfl
theorem Rel.alloc(r:Rel K m h H){p:Addr}{o:VO}{u:HO}(hp:H p=none)(hu:∀t,u≠.tup t)
 (ho:Stp m h.n H (λi=>if i=h.n then p else m i) (h.n+1) (upd H p u)->ORep K (λi=>if i=h.n then p else m i) (h.n+1) (upd H p u) p o) :
 Stp m h.n H (λi=>if i=h.n then p else m i) (h.n+1) (upd H p u)/\Rel K (λi=>if i=h.n then p else m i) (h.new o) (upd H p u):=by
 have tr:∀i,i<h.n->m i≠p:=λi hi z=>by
  obtain⟨o',_,h2⟩:=r.obj i hi
  obtain⟨u',h3⟩:=h2.some
  rw[z,hp]at h3;cases h3
 have st:Stp m h.n H (λi=>if i=h.n then p else m i) (h.n+1) (upd H p u):=by
  refine⟨vdf _,λi hi=>by simp only[if_neg (va4 hi)],λi hi hi2=>?_,λi j hi hi2 hj=>?_,λb vs q=>?_,λb o u q=>?_,λb o _ q=>?_⟩
  .have:i=h.n:=by lia
   subst this;simp only[va3];exact hp
  .have:i=h.n:=by lia
   subst this;simp only[va3,if_neg (va4 hj)];exact(tr j hj).symm
  .rw[zag (zaf q hp)];exact q
  .rw[zag (zaf q hp)];exact q
  .rw[zag (zaf q hp)];exact q
 refine⟨st,⟨λi hi=>?_,λi j hi hj z=>?_,?_⟩⟩
 .have hi:i<h.n+1:=hi
  by_cases e:i=h.n
  .subst e;exact⟨o,zat,by simp only[va3];exact ho st⟩
  .have hl:i<h.n:=by lia
   obtain⟨o',h1,h2⟩:=r.obj i hl
   refine⟨o',(zak hl).trans h1,?_⟩
   simp only[if_neg e]
   exact ORep.stp st (zag (tr i hl)) h2
 .have hi:i<h.n+1:=hi
  have hj:j<h.n+1:=hj
  by_cases e:i=h.n
  .by_cases e2:j=h.n
   .lia
   .simp only[if_pos e,if_neg e2]at z
    exact absurd z.symm (tr j (by lia))
  .by_cases e2:j=h.n
   .simp only[if_neg e,if_pos e2]at z
    exact absurd z (tr i (by lia))
   .simp only[if_neg e,if_neg e2]at z
    exact r.inj i j (by lia) (by lia) z
 .show(o::h.os).length=h.n+1
  rw[vap,r.len]
theorem zhv(r:Rel K m h H){i:Nat}{o:VO}(hi:i<h.n):(h.set i o).get i=some o:=by
 unfold VH.get VH.set
 have h1:Nat.blt i h.n=true:=zan.mpr hi
 simp only[h1,va3]
 rw[vce]
 rw[r.len];lia
theorem zdl{i j:Nat}{o:VO}(hi:i<h.n)(hj:j≠i):(h.set i o).get j=h.get j:=by
 unfold VH.get VH.set
 by_cases h1:j<h.n
 .have h2:Nat.blt j h.n=true:=zan.mpr h1
  simp only[h2,va3]
  rw[vcv]
  lia
 .have h2:Nat.blt j h.n=false:=by
   cases q:Nat.blt j h.n with
   |false=>rfl
   |true=>exact absurd (zan.mp q) h1
  simp only[h2,vam,vbb]
theorem Rel.write(r:Rel K m h H){i:Nat}{o:VO}{u u0:HO}(hi:i<h.n)(h0:H (m i)=some u0)(hn:∀t,u0≠.tup t)(hf:∀o t,u0≠.frz o t)
 (ho:Stp m h.n H m h.n (upd H (m i) u)->ORep K m h.n (upd H (m i) u) (m i) o) :
 Stp m h.n H m h.n (upd H (m i) u)/\Rel K m (h.set i o) (upd H (m i) u):=by
 have st:Stp m h.n H m h.n (upd H (m i) u):=by
  refine⟨vai _,λ_ _=>rfl,λj a b=>absurd b (vci.mpr a),λj k a b=>absurd b (vci.mpr a),λb vs q=>?_,λb o t q=>?_,λb o nb q=>?_⟩
  .rw[zag (ne_of q h0 (λz=>hn vs z.symm))];exact q
  .rw[zag (ne_of q h0 (λz=>hf o t z.symm))];exact q
  .rw[zag (nb i hi).symm];exact q
 refine⟨st,⟨λj hj=>?_,λa b ha hb=>r.inj a b ha hb,?_⟩⟩
 .have hj:j<h.n:=hj
  by_cases e:j=i
  .subst e;exact⟨o,zhv r hj,ho st⟩
  .obtain⟨o',h1,h2⟩:=r.obj j hj
   exact⟨o',(zdl hi e).trans h1,ORep.stp st (zag λz=>e (r.inj j i hj hi z)) h2⟩
 .show(h.os.set _ o).length=h.n
  rw[vdk,r.len]
theorem Rel.more(r:Rel K m h H){p:Addr}{u:HO}(hp:H p=none):Stp m h.n H m h.n (upd H p u)/\Rel K m h (upd H p u):=by
 have st:Stp m h.n H m h.n (upd H p u):=by
  refine⟨vai _,λ_ _=>rfl,λj a b=>absurd b (vci.mpr a),λj k a b=>absurd b (vci.mpr a),λb vs q=>?_,λb o t q=>?_,λb o nb q=>?_⟩
  .rw[zag (zaf q hp)];exact q
  .rw[zag (zaf q hp)];exact q
  .rw[zag (zaf q hp)];exact q
 refine⟨st,⟨λj hj=>?_,r.inj,r.len⟩⟩
 obtain⟨o',h1,h2⟩:=r.obj j hj
 obtain⟨u',h3⟩:=h2.some
 exact⟨o',h1,ORep.stp st (zag (zaf h3 hp)) h2⟩
end
theorem zst{α β:Type}{r:Res α}{f:α->VH->Res β}{b:β}{h':VH}(q:r.bind f=.ok b h'):∃a h1,r=.ok a h1/\f a h1=.ok b h':=by
 cases r with
 |ok a h=>exact⟨a,h,rfl,q⟩
 |ex x h=>cases q
 |no=>cases q
theorem zad{α β:Type}{r:Res α}{f:α->VH->Res β}{w:β}{h':VH}{P:Prop}(e:r.bind f=.ok w h')(k:∀x h1,r=.ok x h1->f x h1=.ok w h'->P):P:=by
 obtain⟨x,h1,a,b⟩:=zst e
 exact k x h1 a b
theorem of_ok{α:Type}{o:Option α}{h h':VH}{a:α}(q:Res.of o h=.ok a h'):o=some a/\h'=h:=by
 cases o with
 |none=>cases q
 |some b=>cases q;exact⟨rfl,rfl⟩
structure Fr(K:vga)(m:Nat->Addr)(n:Nat)(H:Hp)(σ:L2.St)(ρ:En):Prop where
 len:σ.length=ρ.length
 val:∀(i:Nat)(w:W),ρ[i]?=some (some w)->∃v,σ[i]?=some (some v)/\VRep K m n H v w
noncomputable abbrev FE:=En->VH->Res W
noncomputable abbrev FS:=En->VH->Res Fl
noncomputable def lft(K:vga)(f:FE):TE:=λσ H Q=>∃ρ h m w h',Fr K m h.n H σ ρ/\Rel K m h H/\f ρ h=.ok w h'/\
 ∀v H' m',Stp m h.n H m' h'.n H'->Rel K m' h' H'->VRep K m' h'.n H' v w->Q v H'
noncomputable def lftT(K:vga)(f:FE):TT:=λσ H Q=>∃ρ h m b h',Fr K m h.n H σ ρ/\Rel K m h H/\f ρ h=.ok (.bl b) h'/\
 ∀H' m',Stp m h.n H m' h'.n H'->Rel K m' h' H'->Q b H'
noncomputable def lftA(K:vga)(f:FE):TA:=λσ H Q=>∃ρ h m ws h',Fr K m h.n H σ ρ/\Rel K m h H/\f ρ h=.ok (.tup ws) h'/\
 ∀vs H' m',Stp m h.n H m' h'.n H'->Rel K m' h' H'->VReps K m' h'.n H' vs ws->Q vs H'
section
variable{K:vga}{m:Nat->Addr}{σ:L2.St}{H:Hp}{P:Prop}{fa:FE}{ρ:En}{h h':VH}
theorem lft.el{Q:VK}(q:lft K fa σ H Q)(k:∀ρ h m w h',Fr K m h.n H σ ρ->Rel K m h H->fa ρ h=.ok w h'->(∀v H' m',Stp m h.n H m' h'.n H'->Rel K m' h' H'->VRep K m' h'.n H' v w->Q v H')->P):P:=by
 obtain⟨ρ,h,m,w,h',f,r,e,k'⟩:=q
 exact k ρ h m w h' f r e k'
theorem lft.mk{Q:VK}{w:W}(f:Fr K m h.n H σ ρ)(r:Rel K m h H)(e:fa ρ h=.ok w h')(k:∀v H' m',Stp m h.n H m' h'.n H'->Rel K m' h' H'->VRep K m' h'.n H' v w->Q v H'):lft K fa σ H Q:=⟨ρ,h,m,w,h',f,r,e,k⟩
theorem lftT.el{Q:Bool->Hp->Prop}(q:lftT K fa σ H Q)(k:∀ρ h m b h',Fr K m h.n H σ ρ->Rel K m h H->fa ρ h=.ok (.bl b) h'->(∀H' m',Stp m h.n H m' h'.n H'->Rel K m' h' H'->Q b H')->P):P:=by
 obtain⟨ρ,h,m,w,h',f,r,e,k'⟩:=q
 exact k ρ h m w h' f r e k'
theorem lftT.mk{Q:Bool->Hp->Prop}{b:Bool}(f:Fr K m h.n H σ ρ)(r:Rel K m h H)(e:fa ρ h=.ok (.bl b) h')(k:∀H' m',Stp m h.n H m' h'.n H'->Rel K m' h' H'->Q b H'):lftT K fa σ H Q:=⟨ρ,h,m,b,h',f,r,e,k⟩
theorem lftA.el{Q:List V->Hp->Prop}(q:lftA K fa σ H Q)(k:∀ρ h m ws h',Fr K m h.n H σ ρ->Rel K m h H->fa ρ h=.ok (.tup ws) h'->(∀vs H' m',Stp m h.n H m' h'.n H'->Rel K m' h' H'->VReps K m' h'.n H' vs ws->Q vs H')->P):P:=by
 obtain⟨ρ,h,m,w,h',f,r,e,k'⟩:=q
 exact k ρ h m w h' f r e k'
theorem lftA.mk{Q:List V->Hp->Prop}{ws:List W}(f:Fr K m h.n H σ ρ)(r:Rel K m h H)(e:fa ρ h=.ok (.tup ws) h')(k:∀vs H' m',Stp m h.n H m' h'.n H'->Rel K m' h' H'->VReps K m' h'.n H' vs ws->Q vs H'):lftA K fa σ H Q:=⟨ρ,h,m,ws,h',f,r,e,k⟩
end
noncomputable abbrev SE(X:Cx)(e:Expr)(f:FE):Prop:=PE X e (lft X.K f)
noncomputable abbrev ST(X:Cx)(e:Expr)(f:FE):Prop:=PT X e (lftT X.K f)
noncomputable abbrev SW(X:Cx)(e:Expr)(f:FE):Prop:=PW X e (lftT X.K f)
noncomputable abbrev SA(X:Cx)(es:List Expr)(f:FE):Prop:=PA X es (lftA X.K f)
theorem _root_.L2.PE.imp{X:Cx}{e:Expr}{t t':TE}(h:PE X e t)(k:∀σ H Q,t' σ H Q->t σ H Q):PE X e t':=λpins s σ H Q I q=>h pins s σ H Q I (k σ H Q q)
theorem _root_.L2.PT.imp{X:Cx}{e:Expr}{t t':TT}(h:PT X e t)(k:∀σ H Q,t' σ H Q->t σ H Q):PT X e t':=λpins s σ H Q I q=>h pins s σ H Q I (k σ H Q q)
theorem _root_.L2.PW.imp{X:Cx}{e:Expr}{t t':TT}(h:PW X e t)(k:∀σ H Q,t' σ H Q->t σ H Q):PW X e t':=λwh pins s σ H Q I q=>h wh pins s σ H Q I (k σ H Q q)
theorem _root_.L2.PA.imp{X:Cx}{es:List Expr}{t t':TA}(h:PA X es t)(k:∀σ H Q,t' σ H Q->t σ H Q):PA X es t':=λp pins s σ H Q I q=>h p pins s σ H Q I (k σ H Q q)
theorem _root_.L2.PS.imp{X:Cx}{st:Stmt}{t t':TS}(h:PS X st t)(k:∀D σ H,t' D σ H->t D σ H):PS X st t':=λpins s σ H D I q=>h pins s σ H D I (k D σ H q)
theorem _root_.L2.PSs.imp{X:Cx}{st:List Stmt}{t t':TS}(h:PSs X st t)(k:∀D σ H,t' D σ H->t D σ H):PSs X st t':=λpins s σ H D I q=>h pins s σ H D I (k D σ H q)
section
variable{K:vga}{m m':Nat->Addr}{n n':Nat}{h h':VH}{H H':Hp}{σ:L2.St}{ρ:En}
theorem Fr.stp(f:Fr K m n H σ ρ)(s:Stp m n H m' n' H'):Fr K m' n' H' σ ρ:=⟨f.len,λi w e=>let⟨v,h1,h2⟩:=f.val i w e;⟨v,h1,h2.stp s⟩⟩
theorem Fr.set(f:Fr K m n H σ ρ){v:V}{w:W}(q:VRep K m n H v w)(i:Nat):Fr K m n H (σ.set i (some v)) (ρ.set i (some w)):=by
 refine⟨by rw[vdk,vdk];exact f.len,λj w' e=>?_⟩
 by_cases hj:i=j
 .subst hj
  by_cases hl:i<ρ.length
  .rw[vce hl]at e
   cases e
   exact⟨v,by rw[vce (by rw[f.len];exact hl)],q⟩
  .rw[List.getElem?_eq_none (by rw[vdk];omega)]at e;cases e
 .rw[vcv hj]at e
  obtain⟨v',h1,h2⟩:=f.val j w' e
  exact⟨v',by rw[vcv hj];exact h1,h2⟩
noncomputable def Wants(K:vga)(m:Nat->Addr)(n:Nat)(H:Hp)(w:W)(h':VH)(Q:VK):Prop:=∀v H' m',Stp m n H m' h'.n H'->Rel K m' h' H'->VRep K m' h'.n H' v w->Q v H'
theorem Wants.here{w:W}{Q:VK}(k:Wants K m h.n H w h Q)(r:Rel K m h H){v:V}(q:VRep K m h.n H v w):Q v H:=k v H m .refl r q
theorem Wants.list{ws:List W}{vs:List V}{Q:VK}(k:Wants K m h.n H (.ref h.n) (h.new (.lst ws)) Q)(r:Rel K m h H)(q:VReps K m h.n H vs ws){p:Addr}(hp:H p=none):Q (.ref p) (upd H p (.lst vs)):=by
 obtain⟨st,r'⟩:=r.alloc (o:=.lst ws) (u:=.lst vs) hp (λ_ z=>nomatch z) (λst=>⟨vs,zaq,q.stp st⟩)
 refine k _ _ _ st r' ?_
 have:VRep K (λi=>if i=h.n then p else m i) (h.n+1) (upd H p (.lst vs)) (.ref ((λi=>if i=h.n then p else m i) h.n)) (.ref h.n):=.ref (vbo _)
 simp only[va3]at this
 exact this
theorem Wants.dictD{ks ws:List W}{xs:DX}{u:HO}{Q:VK}(k:Wants K m h.n H (.ref h.n) (h.new (.dt ks ws)) Q)(r:Rel K m h H){p:Addr}(hp:H p=none)(hu:u=dtH xs p\/(xs=[]/\u=.dK []))(q0:mapO keyD ks=some (xs.map (·.1)))(q1:VReps K m h.n H (xs.map λx=>.ref x.2.1) ks)(q2:VReps K m h.n H (xs.map λx=>x.2.2) ws):Q (.ref p) (upd H p u):=by
 obtain⟨st,r'⟩:=r.alloc (o:=.dt ks ws) (u:=u) hp (λt z=>by rcases hu with e|⟨_,e⟩<;> (rw[e]at z;exact nomatch z)) (λst=>⟨xs,hu.imp (λe=>by rw[zaq,e]) λ⟨a,e⟩=>⟨a,by rw[zaq,e]⟩,q0,q1.stp st,q2.stp st⟩)
 refine k _ _ _ st r' ?_
 have:VRep K (λi=>if i=h.n then p else m i) (h.n+1) (upd H p u) (.ref ((λi=>if i=h.n then p else m i) h.n)) (.ref h.n):=.ref (vbo _)
 simp only[va3]at this
 exact this
theorem Wants.tuple{ws:List W}{vs:List V}{Q:VK}(k:Wants K m h.n H (.tup ws) h Q)(r:Rel K m h H)(q:VReps K m h.n H vs ws){p:Addr}(hp:H p=none):Q (.ref p) (upd H p (.tup vs)):=by
 obtain⟨st,r'⟩:=r.more (u:=.tup vs) hp
 exact k _ _ _ st r' (.tup (SqT.of zaq) (q.stp st))
theorem zqz{fa:FE}{g:W->VH->Res W}{G:V->Hp->VK->Prop}
 (hG:∀(m:Nat->Addr)(h:VH)(H:Hp)(v:V)(x w:W)(h':VH)(Q:VK),Rel K m h H->VRep K m h.n H v x->g x h=.ok w h'->Wants K m h.n H w h' Q->G v H Q) {Q:VK}
 (q:lft K (λρ h=>(fa ρ h).bind λx h=>g x h) σ H Q):lft K fa σ H λv H1=>G v H1 Q:=by
 refine q.el λρ h m w h' f r e k=>?_
 refine zad e λx h1 e1 e2=>?_
 exact(.mk f r e1 λv H1 m1 s1 r1 q1=>hG m1 h1 H1 v x w h' Q r1 q1 e2 λv' H' m' s' r' q'=>k v' H' m' (s1.trans s') r' q')
theorem zgg{fa fb:FE}{g:W->W->VH->Res W}{G:V->V->Hp->VK->Prop}
 (hG:∀(m:Nat->Addr)(h:VH)(H:Hp)(v u:V)(x y w:W)(h':VH)(Q:VK),Rel K m h H->VRep K m h.n H v x->VRep K m h.n H u y->g x y h=.ok w h'->Wants K m h.n H w h' Q->G v u H Q) {Q:VK}
 (q:lft K (λρ h=>(fa ρ h).bind λx h=>(fb ρ h).bind λy h=>g x y h) σ H Q):lft K fa σ H λv H1=>lft K fb σ H1 λu H2=>G v u H2 Q:=by
 refine q.el λρ h m w h' f r e k=>?_
 refine zad e λx h1 e1 e2=>?_
 refine zad e2 λy h2 e3 e4=>?_
 refine(.mk f r e1 λv H1 m1 s1 r1 q1=>(.mk (f.stp s1) r1 e3 λu H2 m2 s2 r2 q2=>?_))
 exact hG m2 h2 H2 v u x y w h' Q r2 (q1.stp s2) q2 e4 λv' H' m' s' r' q'=>k v' H' m' ((s1.trans s2).trans s') r' q'
theorem zcf{fa:FE}{g:List W->VH->Res W}{G:List V->Hp->VK->Prop}
 (hG:∀(m:Nat->Addr)(h:VH)(H:Hp)(vs:List V)(xs:List W)(w:W)(h':VH)(Q:VK),Rel K m h H->VReps K m h.n H vs xs->g xs h=.ok w h'->Wants K m h.n H w h' Q->G vs H Q) {Q:VK}
 (q:lft K (λρ h=>(fa ρ h).bind λy h=>match y with|.tup ys=>g ys h|_=>.no) σ H Q):lftA K fa σ H λvs H1=>G vs H1 Q:=by
 refine q.el λρ h m w h' f r e k=>?_
 refine zad e λx h1 e1 e2=>?_
 cases x with
 |tup ys=>exact(.mk f r e1 λvs H1 m1 s1 r1 q1=>hG m1 h1 H1 vs ys w h' Q r1 q1 e2 λv' H' m' s' r' q'=>k v' H' m' (s1.trans s') r' q')
 |_=>cases e2
theorem zjt{f:FE}{Q:Bool->Hp->Prop}(q:lftT K f σ H Q):lft K f σ H λx H'=>∃k,x=.bl k/\Q k H':=by
 refine q.el λρ h m b h' f r e k=>?_
 exact(.mk f r e λv H' m' s' r' q'=>by cases q';exact⟨b,rfl,k H' m' s' r'⟩)
end
section
variable{X:Cx}{a b c e:Expr}{es:List Expr}{fa fb fc:FE}{pos:Pos}
theorem zv1{i:Nat}{x:Str}{pos:Pos}(hN:X.N[i]?=some x)(hv:Vis X.env.scope x)(hd:(x==("__debug__" : Str))=false)(hcd:(x==("__classdict__" : Str))=false):SE X (.Name x pos) (λρ h=>.of (ρ[i]?).join h):=
 (zui hN hv hd hcd).imp λσ H Q z9=>z9.el λρ h m w h' f r e k=>by
   obtain⟨e1,e2⟩:=of_ok e
   subst e2
   have e3:ρ[i]?=some (some w):=by
    cases q:ρ[i]? with
    |none=>rw[q]at e1;cases e1
    |some o=>rw[q]at e1;rw[<-e1];rfl
   obtain⟨v,h1,h2⟩:=f.val i w e3
   exact⟨v,h1,k v H m .refl r h2⟩
theorem zhw{w:W}{v:V}(h:PE X e (tC v))(hv:∀m n H,VRep X.K m n H v w):SE X e (λ_ h=>.ok w h):=
 h.imp λσ H Q z9=>z9.el λρ h m w h' f r e k=>by cases e;exact k v H m .refl r (hv m h.n H)
theorem zv2{i j pos}:SE X (.Constant (.int i) j pos) (λ_ h=>.ok (.int i) h):=zhw zuj λ_ _ _=>.int i
theorem se_bl{i j pos}:SE X (.Constant (.bool i) j pos) (λ_ h=>.ok (.bl i) h):=zhw pe_bl λ_ _ _=>.bl i
theorem zv3{j pos}:SE X (.Constant .none j pos) (λ_ h=>.ok .non h):=zhw zuk λ_ _ _=>.non
theorem zv4{i j pos}:SE X (.Constant (.str i) j pos) (λ_ h=>.ok (.str i) h):=zhw zul λ_ _ _=>.str i
theorem zmy:SA X [] (λ_ h=>.ok (.tup []) h):=zjo.imp λσ H Q z9=>z9.el λρ h m ws h' f r e k=>by cases e;exact k [] H m .refl r .nil
theorem zgh(ha:SE X e fa)(hr:SA X es fb)(hs:starEach (e::es) X.env=(false,eval e X.env)::starEach es X.env) :
 SA X (e::es) (λρ h=>(fa ρ h).bind λx h=>(fb ρ h).bind λy h=>match y with|.tup ys=>.ok (.tup (x::ys)) h|_=>.no):=
 (zej ha hr hs).imp λσ H Q z9=>z9.el λρ h m ws h' f r e k=>by
   refine zad e λx h1 e1 e2=>?_
   refine zad e2 λy h2 e3 e4=>?_
   cases y with
   |tup ys=>
    cases e4
    exact(.mk f r e1 λv H1 m1 s1 r1 q1=>(.mk (f.stp s1) r1 e3 λvs H2 m2 s2 r2 q2=>k _ H2 m2 (s1.trans s2) r2 (.cons (q1.stp s2) q2)))
   |_=>cases e4
theorem zq0{k:Nat}(h:Nat.ble k 1000=true):k<=sizeLine:=vdr (zhs (va5 h))
theorem zv5{x1:Nat}(ha:SA X es fa):SE X (.Tuple es x1 pos) (λρ h=>(fa ρ h).bind λy h=>match y with|.tup ys=>(if Nat.ble ys.length 1000 then .ok (.tup ys) h else .no)|_=>.no):=
 (zvd ha).imp λσ H Q q=>zcf (g:=λys h=>if Nat.ble ys.length 1000 then .ok (.tup ys) h else .no) (G:=λxs H1 Q=>xs.length<=sizeLine/\∀p,H1 p=none->Q (.ref p) (upd H1 p (.tup xs)))
   (λm h H vs xs w h' Q r q e k=>by
     split at e
     .rename_i hl
      cases e
      exact⟨by rw[q.length];exact zq0 hl,λp hp=>Wants.tuple k r q hp⟩
     .cases e) q
theorem zv6(ha:SA X es fa):SE X (.List es pos) (λρ h=>(fa ρ h).bind λy h=>match y with|.tup ys=>(if Nat.ble ys.length 1000 then .ok (.ref h.n) (h.new (.lst ys))else .no)|_=>.no):=
 (zve ha).imp λσ H Q q=>zcf (g:=λys h=>if Nat.ble ys.length 1000 then .ok (.ref h.n) (h.new (.lst ys))else .no) (G:=λxs H1 Q=>xs.length<=sizeLine/\∀p,H1 p=none->Q (.ref p) (upd H1 p (.lst xs)))
   (λm h H vs xs w h' Q r q e k=>by
     split at e
     .rename_i hl
      cases e
      exact⟨by rw[q.length];exact zq0 hl,λp hp=>Wants.list k r q hp⟩
     .cases e) q
noncomputable def OpV(K:vga)(r:R2)(g:W->W->VH->Res W):Prop:=∀(m:Nat->Addr) (h:VH) (H:Hp) (v u:V) (x y w:W) (h':VH) (Q:VK),Rel K m h H->VRep K m h.n H v x->VRep K m h.n H u y->g x y h=.ok w h'->Wants K m h.n H w h' Q->r v u H Q
theorem se_op{O:Operator}{r:R2}{g:W->W->VH->Res W}(ho:OpR X (binaryOp O) r)(hg:OpV X.K r g)(ha:SE X a fa)(hb:SE X b fb):SE X (.BinOp a O b pos) (λρ h=>(fa ρ h).bind λx h=>(fb ρ h).bind λy h=>g x y h):=
 (pe_op ho ha hb).imp λσ H Q q=>zgg (G:=r) hg q
noncomputable def opOf:Operator->Option Op
 |.Add=>some .add|.Sub=>some .sub|.Mult=>some .mul|.FloorDiv=>some .fdiv|.Mod=>some .mod|.Pow=>some .pow
 |_=>none
noncomputable def cI:Op->Int->Int->Prop
 |.mul=>CMul|.fdiv=>CDiv|.mod=>λ_ j=>0<j|.shl=>CPow|.pow=>CPow
 |_=>λ_ _=>True
noncomputable def gI:Op->Int->Int->Int
 |.add=>(· + ·)|.sub=>(· - ·)|.mul=>(· * ·)|.fdiv=>(· / ·)|.mod=>(· % ·)|.shl=>λi j=>i*2 ^ j.toNat|.pow=>λi j=>i ^ j.toNat
noncomputable def rX(K:vga):Op->R2
 |.add=>λx y H Q=>rCatT K x y H Q\/zqx K x y H Q\/rCat x y H Q
 |.mul=>λx y H Q=>rRepT K x y H Q
 |_=>λ_ _ _ _=>False
noncomputable def rB(K:vga)(o:Op):R2:=λx y H Q=>rI (cI o) (λi j=>.int (gI o i j)) x y H Q\/rX K o x y H Q
theorem zdm{f:Value->Value->Sem Value}{r r':R2}(h:OpR X f r)(k:∀x y H Q,r' x y H Q->r x y H Q):OpR X f r':=λpins s σ H x y v u Q I rx ry q=>h pins s σ H x y v u Q I rx ry (k _ _ _ _ q)
theorem op_ok{O:Operator}{o:Op}(e:opOf O=some o):OpR X (binaryOp O) (rB X.K o):=by
 have tr:∀{g:Int->Int->V}{x y H Q},rI (λ_ _=>True) g x y H Q->rI0 g x y H Q:=λ⟨i,j,h1,h2,_,h3⟩=>⟨i,j,h1,h2,h3⟩
 cases O<;>cases e
 .exact zdm (zu3.or (zsc.or (zpl.or zvk))) λx y H Q q=>q.elim (λz=>.inl (tr z)) .inr
 .exact zdm zu4 λx y H Q q=>q.elim (λz=>tr z) λz=>z.elim
 .exact zdm (zu5.or zsm) λx y H Q q=>q
 .exact zdm zu6 λx y H Q q=>q.elim id λz=>z.elim
 .exact zdm zu7 λx y H Q q=>q.elim id λz=>z.elim
 .exact zdm zr0 λx y H Q q=>q.elim id λz=>z.elim
theorem zes{i:Int}(h:zb4 i=true):-(2 ^ 64)<i/\i<2 ^ 64:=by
 unfold zb4 at h
 rw[vac]at h
 exact⟨vbc h.1,vbc h.2⟩
theorem zv7{o:Op}{i j z:Int}(e:opI o i j=some z):cI o i j/\z=gI o i j:=by
 cases o<;>simp only[opI]at e
 .cases e;exact⟨trivial,rfl⟩
 .cases e;exact⟨trivial,rfl⟩
 .split at e
  .rename_i hc
   cases e
   rw[vb3]at hc
   exact⟨hc.elim (λq=>.inl (zes q)) (λq=>.inr (zes q)),rfl⟩
  .cases e
 .split at e
  .rename_i hc
   cases e
   rw[vac]at hc
   exact⟨⟨vbc hc.1,vbc hc.2⟩,rfl⟩
  .cases e
 .split at e
  .rename_i hc
   cases e
   exact⟨(vbc hc:0<j),rfl⟩
  .cases e
 .split at e
  .rename_i hc
   cases e
   rw[vac,vac]at hc
   exact⟨⟨vbc hc.1.1,vbc hc.1.2,vbc hc.2⟩,rfl⟩
  .cases e
 .split at e
  .rename_i hc
   cases e
   rw[vac,vac]at hc
   exact⟨⟨vbc hc.1.1,vbc hc.1.2,vbc hc.2⟩,rfl⟩
  .cases e
theorem zi0{i:Int}(h:fits i=true):-(2 ^ 62)<=i/\i<2 ^ 62:=by
 unfold fits at h
 rw[vac]at h
 exact⟨vbc h.1,vbc h.2⟩
theorem zsu{o:Op}{xs zs:List W}{k:Int}(e:repW o xs k=some zs):o=.mul/\(-(2 ^ 62)<=k/\k<2 ^ 62)/\xs.length*k.toNat<=sizeLine/\zs=(vgc k.toNat xs).flatten:=by
 unfold repW at e
 split at e
 .split at e
  .rename_i hc
   cases e
   rw[vac]at hc
   exact⟨rfl,zi0 hc.1,va5 hc.2,rfl⟩
  .cases e
 .cases e
theorem VReps.rep{K:vga}{m:Nat->Addr}{n:Nat}{H:Hp}{vs:List V}{ws:List W}(q:VReps K m n H vs ws):∀k:Nat,VReps K m n H (vgc k vs).flatten (vgc k ws).flatten
 |0=>.nil
 |k+1=>by
  rw[vbd,vbd,vch,vch]
  exact q.append (VReps.rep q k)
theorem zi1{K:vga}{m:Nat->Addr}{n:Nat}{H:Hp}{vs:List V}{ws:List W}(q:VReps K m n H vs ws):vs.isEmpty=ws.isEmpty:=by cases q<;>rfl
theorem zpq{ws:List W}{k:Int}(h:(ws.isEmpty||k==1)=true):(vgc k.toNat ws).flatten=ws:=by
 rw[vb3]at h
 rcases h with h|h
 .have:ws=[]:=by simpa using h
  subst this
  induction k.toNat with
  |zero=>rfl
  |succ j ih=>rw[vbd,vch,ih];rfl
 .have:k=1:=by simpa using h
  subst this
  show(vgc 1 ws).flatten=ws
  simp
theorem zv8{K:vga}(o:Op):OpV K (rB K o) (opW o):=by
 intro m h H v u x y w h' Q r qv qu e k
 unfold opW at e
 split at e
 .rename_i i j
  obtain⟨e,rfl⟩:=of_ok e
  cases qv;cases qu
  cases q:opI o i j with
  |none=>rw[q]at e;cases e
  |some z=>
   rw[q]at e;cases e
   obtain⟨h1,rfl⟩:=zv7 q
   exact .inl ⟨i,j,rfl,rfl,h1,Wants.here k r (.int _)⟩
 .rename_i xs ys
  obtain⟨e,rfl⟩:=of_ok e
  cases q:opT o xs ys with
  |none=>rw[q]at e;cases e
  |some zs=>
   rw[q]at e;cases e
   cases o<;>simp only[opT]at q
   split at q
   .rename_i hc
    cases q
    cases qv with
    |tup qa ra=>
     cases qu with
     |tup qb rb=>
      rename_i a va b vb
      have hl:=va5 hc
      cases xs with
      |nil=>
       cases ra
       exact .inr (.inr (.inl ⟨a,b,vb,rfl,rfl,qa,qb,Wants.here k r (.tup qb rb)⟩))
      |cons x0 xs0=>
       refine .inr (.inl ⟨a,b,va,vb,rfl,rfl,qa,qb,λz=>?_,by rw[ra.length,rb.length];exact hl,λz=>?_,λ_ p hp=>Wants.tuple k r (ra.append rb) hp⟩)
       .subst z;cases ra
       .subst z;cases rb
        rw[vb2]at k
        exact Wants.here k r (.tup qa ra)
   .cases q
   all_goals cases q
 .rename_i xs kk
  obtain⟨e,rfl⟩:=of_ok e
  cases q:repW o xs kk with
  |none=>rw[q]at e;cases e
  |some zs=>
   rw[q]at e;cases e
   obtain⟨rfl,⟨k1,k2⟩,hz,rfl⟩:=zsu q
   cases qu
   cases qv with
   |tup qa ra=>
    rename_i a va
    refine .inr ⟨a,kk,va,rfl,rfl,qa,k1,k2,by rw[ra.length];exact hz,λz=>?_,λz p hp=>Wants.tuple k r (ra.rep _) hp⟩
    rw[zi1 ra]at z
    rw[zpq z]at k
    exact Wants.here k r (.tup qa ra)
 .rename_i i j
  split at e
  .rename_i xs ys hx hy
   split at e
   .rename_i zs q
    cases e
    cases o<;>simp only[opL]at q
    split at q
    .rename_i hc
     cases q
     obtain⟨va,pa,ra⟩:=r.lst hx
     obtain⟨vb,pb,rb⟩:=r.lst hy
     cases qv;cases qu
     exact .inr (.inr (.inr ⟨m i,m j,va,vb,rfl,rfl,pa,pb,by rw[ra.length,rb.length];exact va5 hc,λp hp=>Wants.list k r (ra.append rb) hp⟩))
    .cases q
    all_goals cases q
   .cases e
  .cases e
 .cases e
end
section
variable{K:vga}{m:Nat->Addr}{h:VH}{H:Hp}
theorem zhx{f:W->Option PyData}(ih:∀(w:W) (d:PyData) (v:V),f w=some d->VRep K m h.n H v w->Rp K (λ_=>False) H v d):∀{ws:List W} {ds:List PyData} {vs:List V},mapO f ws=some ds->VReps K m h.n H vs ws->Rps K (λ_=>False) H vs ds
 |[],ds,_,e,.nil=>by cases e;exact .nil
 |w::ws,ds,_,e,.cons q r=>by
  unfold mapO at e
  split at e
  .rename_i d hd
   split at e
   .rename_i bs hb
    cases e
    exact .cons (ih w d _ hd q) (zhx ih hb r)
   .cases e
  .cases e
theorem rp_of(r:Rel K m h H):∀(n:Nat) (w:W) (d:PyData) (v:V),toD h n w=some d->VRep K m h.n H v w->Rp K (λ_=>False) H v d
 |0,_,_,_,e,_=>by cases e
 |n+1,w,d,v,e,q=>by
  cases q with
  |non=>cases e;exact .non
  |bl b=>cases e;exact .bl b
  |int b=>cases e;exact .int b
  |str b=>cases e;exact .str b
  | @tup a vs ws sq rs=>
   simp only[toD]at e
   cases z:mapO (toD h n) ws with
   |none=>rw[z]at e;cases e
   |some ds=>rw[z]at e;cases e;exact .tup sq (λz=>z) (zhx (rp_of r n) z rs)
  | @fz a vs ws sq rs=>
   simp only[toD]at e
   cases z:mapO (toD h n) ws with
   |none=>rw[z]at e;cases e
   |some ds=>rw[z]at e;cases e;exact .lst sq.sq (λz=>z) (zhx (rp_of r n) z rs)
  | @ref i hi=>
   simp only[toD]at e
   cases g:h.get i with
   |none=>rw[g]at e;cases e
   |some o=>
    rw[g]at e
    cases o with
    |dk _=>cases e
    |dt _ _=>cases e
    |ins _ _ _=>cases e
    |lst ws=>
     obtain⟨vs,h1,h2⟩:=r.lst g
     simp only at e
     cases z:mapO (toD h n) ws with
     |none=>rw[z]at e;cases e
     |some ds=>rw[z]at e;cases e;exact .lst (SqL.of h1) (λz=>z) (zhx (rp_of r n) z h2)
theorem zq1(r:Rel K m h H){x y:W}{v u:V}{b:Bool}(e:eqW h x y=some b)(qv:VRep K m h.n H v x)(qu:VRep K m h.n H u y) :
 ∃d e',Rp K (λ_=>False) H v d/\Rp K (λ_=>False) H u e'/\SeqAt.shaped d=true/\SeqAt.shaped e'=true/\b=PyData.eqv d e':=by
 unfold eqW at e
 split at e
 .rename_i d e' h1 h2
  split at e
  .rename_i hc
   cases e
   rw[vac]at hc
   exact⟨d,e',rp_of r _ _ _ _ h1 qv,rp_of r _ _ _ _ h2 qu,hc.1,hc.2,rfl⟩
  .cases e
 .cases e
end
theorem zdn{K:vga}{m:Nat->Addr}{h:VH}{H:Hp}{v:V}{w:W}{ws:List W}(r:Rel K m h H)(q:VRep K m h.n H v w)(e:seqW h w=some ws):∃p vs,v=.ref p/\(SqL K H p vs\/SqT K H p vs)/\VReps K m h.n H vs ws:=by
 cases q<;>try cases e
 .exact⟨_,_,rfl,.inr ‹_›,‹_›⟩
 .rename_i q _;exact⟨_,_,rfl,.inl q.sq,‹_›⟩
 .rename_i i hi
  simp only[seqW]at e
  cases g:h.get i with
  |none=>rw[g]at e;cases e
  |some o=>
   rw[g]at e
   cases o with
   |dk _=>cases e
   |dt _ _=>cases e
   |ins _ _ _=>cases e
   |lst ws=>
    cases e
    obtain⟨vs,h1,h2⟩:=r.lst g
    exact⟨_,vs,rfl,.inl (SqL.of h1),h2⟩
theorem zi2{K:vga}{m:Nat->Addr}{n:Nat}{H:Hp}:∀{vs:List V} {ws:List W} {is:List Int},VReps K m n H vs ws->mapO intD ws=some is->vs=is.map .int
 |_,_,_,.nil,e=>by cases e;rfl
 |_,_,_,.cons (w:=w) q r,e=>by
  simp only[mapO]at e
  cases q<;>try cases e
  rename_i i _ ws _
  simp only[intD]at e
  cases z:mapO intD ws with
  |none=>rw[z]at e;cases e
  |some js=>rw[z]at e;cases e;rw[vao,zi2 r z]
theorem zgi{K:vga}{m:Nat->Addr}{n:Nat}{H:Hp}{v:V}{w:W}{k:DK}(q:VRep K m n H v w)(e:keyD w=some k):∃b,v=.ref b/\KeyAt K H k b:=by
 unfold keyD at e
 split at e
 .rename_i ws
  cases z:mapO intD ws with
  |none=>rw[z]at e;cases e
  |some is=>
   rw[z]at e;cases e
   cases q with
   | @tup b vs _ sq rs=>
    cases rs with
    |cons q1 rs=>
     cases rs with
     |cons q2 rs=>
      cases rs;cases q2
      cases q1 with
      | @tup c us _ sq1 rs1=>
       refine⟨b,rfl,c,sq,?_⟩
       rw[<-zi2 rs1 z];exact sq1
 .rename_i ws i
  cases z:mapO intD ws with
  |none=>rw[z]at e;cases e
  |some is=>
   rw[z]at e;cases e
   cases q with
   | @tup b vs _ sq rs=>
    cases rs with
    |cons q1 rs=>
     cases rs with
     |cons q2 rs=>
      cases rs;cases q2
      cases q1 with
      | @tup c us _ sq1 rs1=>
       refine⟨b,rfl,c,sq,?_⟩
       rw[<-zi2 rs1 z];exact sq1
 .cases e
theorem dt_ok{K:vga}{m:Nat->Addr}{n:Nat}{H:Hp}:∀{xs:DX} {ks:List W},mapO keyD ks=some (xs.map (·.1))->VReps K m n H (xs.map λx=>.ref x.2.1) ks->∀p∈xs,KeyAt K H p.1 p.2.1
 |[],_,_,_,p,hp=>nomatch hp
 |x::xs,ks,e,r,p,hp=>by
  rw[vao]at r
  obtain⟨w,ks,rfl,q,r⟩:∃w ks',ks=w::ks'/\VRep K m n H (.ref x.2.1) w/\VReps K m n H (xs.map λx=>.ref x.2.1) ks':=by cases r with|cons q r=>exact⟨_,_,rfl,q,r⟩
  simp only[mapO]at e
  cases z:keyD w with
  |none=>rw[z]at e;cases e
  |some k=>
   rw[z]at e
   simp only at e
   cases z2:mapO keyD ks with
   |none=>rw[z2]at e;cases e
   |some js=>
    rw[z2]at e
    simp only[vao,Option.some.injEq,List.cons.injEq]at e
    rcases vax.mp hp with rfl|hp
    .obtain⟨b,e1,e2⟩:=zgi q z
     cases e1
     rw[<-e.1];exact e2
    .exact dt_ok (by rw[z2,e.2]) r p hp
theorem dt_DT{K:vga}{m:Nat->Addr}{n:Nat}{H:Hp}{a:Addr}{xs:DX}{ks:List W}(h:H a=some (dtH xs a)\/(xs=[]/\H a=some (.dK [])))(e:mapO keyD ks=some (xs.map (·.1)))(q:VReps K m n H (xs.map λx=>.ref x.2.1) ks):DT K H a xs:=
 h.imp (λz=>⟨z,dt_ok e q⟩) λ⟨z,y⟩=>⟨z,.inl y⟩
theorem zgj{K:vga}{m:Nat->Addr}{n:Nat}{H:Hp}:∀{xs:DX} {ks ws:List W} (k:DK),mapO keyD ks=some (xs.map (·.1))->VReps K m n H (xs.map λx=>x.2.2) ws->(findX xs k=none/\lookD ks ws k=none)\/∃p w,findX xs k=some p/\lookD ks ws k=some w/\VRep K m n H p.2 w
 |[],ks,ws,k,e,r=>by
  cases ks with
  |nil=>exact .inl ⟨rfl,by unfold lookD;rfl⟩
  |cons c ks=>
   simp only[mapO]at e
   split at e
   .split at e<;>cases e
   .cases e
 |x::xs,ks,ws,k,e,r=>by
  rw[vao]at r
  obtain⟨w,ws,rfl,q,r⟩:∃w ws',ws=w::ws'/\VRep K m n H x.2.2 w/\VReps K m n H (xs.map λx=>x.2.2) ws':=by cases r with|cons q r=>exact⟨_,_,rfl,q,r⟩
  cases ks with
  |nil=>cases e
  |cons c ks=>
   simp only[mapO]at e
   cases z:keyD c with
   |none=>rw[z]at e;cases e
   |some k'=>
    rw[z]at e
    simp only at e
    cases z2:mapO keyD ks with
    |none=>rw[z2]at e;cases e
    |some js=>
     rw[z2]at e
     simp only[vao,Option.some.injEq,List.cons.injEq]at e
     unfold lookD
     rw[z,e.1]
     by_cases y:x.1=k
     .rw[if_pos (by rw[y])]
      exact .inr ⟨x.2,w,by simp[findX,vbk,y],rfl,q⟩
     .rw[if_neg (λz=>y (vbj z))]
      have:findX (x::xs) k=findX xs k:=by simp[findX,vbk,y]
      rw[this]
      exact zgj k (by rw[z2,e.2]) r
theorem zq2{K:vga}{m:Nat->Addr}{h:VH}{H:Hp}(r:Rel K m h H){x y:W}{v u:V}{b:Bool}(e:inD h x y=some b)(qv:VRep K m h.n H v x)(qu:VRep K m h.n H u y) :
 ∃a c xs k,u=.ref a/\v=.ref c/\DT K H a xs/\KeyAt K H k c/\b=(findX xs k).isSome:=by
 unfold inD at e
 split at e
 .rename_i i
  split at e
  .rename_i ks ws k g hk
   cases e
   cases qu
   obtain⟨xs,p1,p2,p3,p4⟩:=r.dt g
   obtain⟨c,rfl,kk⟩:=zgi qv hk
   refine⟨m i,c,xs,k,rfl,rfl,dt_DT p1 p2 p3,kk,?_⟩
   rcases zgj k p2 p4 with⟨z1,z2⟩|⟨p,w,z1,z2,_⟩<;> (rw[z1,z2];rfl)
  .cases e
 .cases e
theorem zq3{K:vga}{m:Nat->Addr}{h:VH}{H:Hp}(r:Rel K m h H){x y:W}{v u:V}{b:Bool}(e:inW h x y=some b)(qv:VRep K m h.n H v x)(qu:VRep K m h.n H u y) :
 (∃p vs ds d,u=.ref p/\(SqL K H p vs\/SqT K H p vs)/\Rps K (λ_=>False) H vs ds/\Rp K (λ_=>False) H v d/\ds.all SeqAt.shaped=true/\SeqAt.shaped d=true/\b=anyEq ds d)\/inD h x y=some b:=by
 unfold inW at e
 split at e
 .rename_i ws d h1 h2
  split at e
  .rename_i ds h3
   split at e
   .rename_i hc
    cases e
    rw[vac]at hc
    obtain⟨p,vs,rfl,h4,h5⟩:=zdn r qu h1
    exact .inl ⟨p,vs,ds,d,rfl,h4,zhx (rp_of r 24) h3 h5,rp_of r _ _ _ _ h2 qv,hc.1,hc.2,rfl⟩
   .cases e
  .cases e
 .exact .inr e
noncomputable def cpOf:CmpOp->Option Cp
 |.Eq=>some .eq|.NotEq=>some .ne|.Lt=>some .lt|.LtE=>some .le|.Gt=>some .gt|.GtE=>some .ge|.Is=>some .isn|.IsNot=>some .notn|.In=>some .inn|.NotIn=>some .nin
noncomputable def rC(K:vga):Cp->R2
 |.eq=>rEqD K
 |.ne=>rNeD K
 |.lt=>rI0 λi j=>.bl (decide (i<j))
 |.le=>rI0 λi j=>.bl (decide (i<=j))
 |.gt=>rI0 λi j=>.bl (decide (j<i))
 |.ge=>rI0 λi j=>.bl (decide (j<=i))
 |.isn=>λx y H Q=>y=.non/\Q (.bl (decide (x=.non))) H
 |.notn=>λx y H Q=>y=.non/\Q (.bl (!decide (x=.non))) H
 |.inn=>λx y H Q=>rInD K false x y H Q\/rInX K false x y H Q
 |.nin=>λx y H Q=>rInD K true x y H Q\/rInX K true x y H Q
noncomputable def zcr:Expr->Bool
 |.Set ..=>false
 |_=>true
theorem zi3{op:CmpOp}{b:Expr}(h:zcr b=true):behindInMarks op b=false:=by
 cases b<;>first|rfl|cases h
section
variable{X:Cx}{a b c e:Expr}{es:List Expr}{fa fb fc:FE}{pos:Pos}
theorem zfm(hu:X.A.units+65<cLine){O:CmpOp}{c:Cp}(e:cpOf O=some c):OpR X (compareOp O) (rC X.K c):=by
 cases O<;>cases e
 .exact zvl (by omega)
 .exact zvm (by omega)
 .exact op_lt
 .exact op_le
 .exact op_gt
 .exact op_ge
 .exact zu9
 .exact zr1
 .exact(zvp (by show X.A.units+1+64<cLine;omega)).or (zvy (by omega))
 .exact(zmp (by show X.A.units+1+64<cLine;omega)).or (zmw (by omega))
theorem zd9{K:vga}{m:Nat->Addr}{n:Nat}{H:Hp}{v:V}{w:W}(q:VRep K m n H v w):isNon w=decide (v=.non):=by
 cases q<;>simp[isNon]
theorem zgk{K:vga}(c:Cp):OpV K (rC K c) (λx y h=>.of ((cmpW c h x y).map .bl) h):=by
 intro m h H v u x y w h' Q r qv qu e k
 obtain⟨e,rfl⟩:=of_ok e
 cases z:cmpW c h' x y with
 |none=>rw[z]at e;cases e
 |some b=>
  rw[z]at e;cases e
  have fin:Q (.bl b) H:=Wants.here k r (.bl b)
  unfold cmpW at z
  split at z
  .rcases zq3 r z qv qu with⟨p,vs,ds,d,h1,h2,h3,h4,h5,h6,rfl⟩|z3
   .exact .inl ⟨p,vs,ds,d,h1,h2,h3,h4,h5,h6,fin⟩
   .obtain⟨a,c,xs,dk,h1,h2,h3,h4,rfl⟩:=zq2 r z3 qv qu
    exact .inr ⟨a,c,xs,dk,h1,h2,h3,h4,fin⟩
  .cases z2:inW h' x y with
   |none=>rw[z2]at z;cases z
   |some b2=>
    rw[z2]at z;cases z
    rcases zq3 r z2 qv qu with⟨p,vs,ds,d,h1,h2,h3,h4,h5,h6,rfl⟩|z3
    .exact .inl ⟨p,vs,ds,d,h1,h2,h3,h4,h5,h6,fin⟩
    .obtain⟨a,c,xs,dk,h1,h2,h3,h4,rfl⟩:=zq2 r z3 qv qu
     exact .inr ⟨a,c,xs,dk,h1,h2,h3,h4,fin⟩
  .obtain⟨d,e',h1,h2,h3,h4,rfl⟩:=zq1 r z qv qu
   exact⟨d,e',h1,h2,h3,h4,fin⟩
  .cases z2:eqW h' x y with
   |none=>rw[z2]at z;cases z
   |some b2=>
    rw[z2]at z;cases z
    obtain⟨d,e',h1,h2,h3,h4,rfl⟩:=zq1 r z2 qv qu
    exact⟨d,e',h1,h2,h3,h4,fin⟩
  .split at z
   .rename_i hn
    cases z
    have:=zd9 qu
    rw[hn]at this
    refine⟨vbc this.symm,?_⟩
    rw[<-zd9 qv];exact fin
   .cases z
  .split at z
   .rename_i hn
    cases z
    have:=zd9 qu
    rw[hn]at this
    refine⟨vbc this.symm,?_⟩
    rw[<-zd9 qv];exact fin
   .cases z
  .split at z
   .rename_i i j
    cases qv;cases qu
    cases c<;>simp only[cmpI]at z<;>cases z<;>exact⟨i,j,rfl,rfl,fin⟩
   .cases z
theorem zv9(hu:X.A.units+65<cLine){O:CmpOp}{c:Cp}(e:cpOf O=some c)(hs:zcr b=true)(ha:SE X a fa)(hb:SE X b fb) :
 SE X (.Compare a [O] [b] pos) (λρ h=>(fa ρ h).bind λx h=>(fb ρ h).bind λy h=>.of ((cmpW c h x y).map .bl) h):=
 (zr2 (zfm hu e) ha hb (zi3 hs)).imp λσ H Q q=>zgg (G:=rC X.K c) (zgk c) q
theorem zwa(hu:X.A.units+65<cLine){O:CmpOp}{c:Cp}(e:cpOf O=some c)(hs:zcr b=true)(ha:SE X a fa)(hb:SE X b fb) :
 ST X (.Compare a [O] [b] pos) (λρ h=>(fa ρ h).bind λx h=>(fb ρ h).bind λy h=>.of ((cmpW c h x y).map .bl) h):=
 (zr3 (zfm hu e) ha hb (zi3 hs)).imp λσ H Q q=>zgg (G:=rC X.K c) (zgk c) (zjt q)
theorem lm2{O O':CmpOp}{a b:Expr}(h:zcr b=true):lastMarks [O,O'] [a,b]=false:=zi3 h
theorem zhy{K:vga}{c1 c2:Cp}{σ:L2.St}{H:Hp}{Q:VK}
 (q:lft K (λρ h=>(fa ρ h).bind λx h=>(fb ρ h).bind λy h=>match cmpW c1 h x y with
   |some true=>(fc ρ h).bind λz h=>.of ((cmpW c2 h y z).map .bl) h
   |some false=>.ok (.bl false) h
   |none=>.no) σ H Q):zl3 (rC K c1) (rC K c2) (lft K fa) (lft K fb) (lft K fc) σ H Q:=by
 refine q.el λρ h m w h' f r e k=>?_
 refine zad e λx h1 e1 e2=>?_
 refine zad e2 λy h2 e3 e4=>?_
 refine(.mk f r e1 λv H1 m1 s1 r1 q1=>(.mk (f.stp s1) r1 e3 λu H2 m2 s2 r2 q2=>?_))
 have f2:=(f.stp s1).stp s2
 have k2:Wants K m2 h2.n H2 w h' Q:=λv' H' m' s' r' q'=>k v' H' m' ((s1.trans s2).trans s') r' q'
 cases z:cmpW c1 h2 x y with
 |none=>rw[z]at e4;cases e4
 |some b=>
  rw[z]at e4
  refine zgk c1 m2 h2 H2 v u x y (.bl b) h2 _ r2 (q1.stp s2) q2 (by show Res.of ((cmpW c1 h2 x y).map W.bl) h2=_;rw[z];rfl) λv3 H3 m3 s3 r3 q3=>?_
  cases q3
  refine⟨b,rfl,?_⟩
  cases b with
  |true=>
   refine zad e4 λz' h4 e5 e6=>?_
   rw[if_pos rfl]
   refine⟨ρ,h2,m3,z',h4,f2.stp s3,r3,e5,λv4 H4 m4 s4 r4 q4=>?_⟩
   exact zgk c2 m4 h4 H4 u v4 y z' w h' Q r4 ((q2.stp s3).stp s4) q4 e6 λv' H' m' s' r' q'=>k2 v' H' m' ((s3.trans s4).trans s') r' q'
  |false=>
   cases e4
   simp only[vam,vbb]
   exact k2 _ H3 m3 s3 r3 (.bl false)
theorem zwb(hu:X.A.units+65<cLine){O O':CmpOp}{c1 c2:Cp}(e:cpOf O=some c1)(e':cpOf O'=some c2)(hs:zcr c=true)(ha:SE X a fa)(hb:SE X b fb)(hc:SE X c fc) :
 SE X (.Compare a [O,O'] [b,c] pos) (λρ h=>(fa ρ h).bind λx h=>(fb ρ h).bind λy h=>match cmpW c1 h x y with
  |some true=>(fc ρ h).bind λz h=>.of ((cmpW c2 h y z).map .bl) h
  |some false=>.ok (.bl false) h
  |none=>.no):=(zo0 (zfm hu e) (zfm hu e') ha hb hc (lm2 hs)).imp λσ H Q q=>zhy q
theorem zwc(hu:X.A.units+65<cLine){O O':CmpOp}{c1 c2:Cp}(e:cpOf O=some c1)(e':cpOf O'=some c2)(hs:zcr c=true)(ha:SE X a fa)(hb:SE X b fb)(hc:SE X c fc) :
 ST X (.Compare a [O,O'] [b,c] pos) (λρ h=>(fa ρ h).bind λx h=>(fb ρ h).bind λy h=>match cmpW c1 h x y with
  |some true=>(fc ρ h).bind λz h=>.of ((cmpW c2 h y z).map .bl) h
  |some false=>.ok (.bl false) h
  |none=>.no):=(zo1 (zfm hu e) (zfm hu e') ha hb hc (lm2 hs)).imp λσ H Q q=>zhy (zjt q)
noncomputable abbrev gNot(fa:FE):FE:=λρ h=>(fa ρ h).bind λx h=>match x with|.bl b=>.ok (.bl (!b)) h|_=>.no
noncomputable abbrev gAnd(fa fb:FE):FE:=λρ h=>(fa ρ h).bind λx h=>match x with|.bl true=>fb ρ h|.bl false=>.ok (.bl false) h|_=>.no
noncomputable abbrev gOr(fa fb:FE):FE:=λρ h=>(fa ρ h).bind λx h=>match x with|.bl true=>.ok (.bl true) h|.bl false=>fb ρ h|_=>.no
noncomputable abbrev gIte(fa fb fc:FE):FE:=λρ h=>(fa ρ h).bind λx h=>match x with|.bl true=>fb ρ h|.bl false=>fc ρ h|_=>.no
variable{rest:List Expr}
theorem zwd(ha:ST X a fa):ST X (.UnaryOp .Not a pos) (gNot fa):=(zuo ha).imp λσ H Q z9=>z9.el λρ h m b h' f r e k=>by
 refine zad e λx h1 e1 e2=>?_
 cases x<;>try cases e2
 rename_i b
 exact(.mk f r e1 λH' m' s' r'=>k H' m' s' r')
theorem zwe(ha:SE X a fa):SE X (.UnaryOp .Not a pos) (gNot fa):=(zur ha).imp λσ H Q z9=>z9.el λρ h m b h' f r e k=>by
 refine zad e λx h1 e1 e2=>?_
 cases x<;>try cases e2
 rename_i b
 exact(.mk f r e1 λv H' m' s' r' q=>by cases q;exact⟨b,rfl,k _ H' m' s' r' (.bl _)⟩)
theorem zq4{op:BoolOp}(ha:ST X a fa):SW X (.BoolOp op [a] pos) fa:=by
 cases op
 .exact zru ha
 .exact zum ha
theorem zwf(ha:ST X a fa)(hb:SW X (.BoolOp .And (b::rest) pos) fb):SW X (.BoolOp .And (a::b::rest) pos) (gAnd fa fb):=(zun ha hb).imp λσ H Q z9=>z9.el λρ h m b h' f r e k=>by
 refine zad e λx h1 e1 e2=>?_
 cases x<;>try cases e2
 rename_i c
 refine(.mk f r e1 λH1 m1 s1 r1=>?_)
 cases c with
 |true=>rw[if_pos rfl];exact(.mk (f.stp s1) r1 e2 λH' m' s' r'=>k H' m' (s1.trans s') r')
 |false=>cases e2;simp only[vam,vbb];exact k H1 m1 s1 r1
theorem sw_or(ha:ST X a fa)(hb:SW X (.BoolOp .Or (b::rest) pos) fb):SW X (.BoolOp .Or (a::b::rest) pos) (gOr fa fb):=(pw_or ha hb).imp λσ H Q z9=>z9.el λρ h m b h' f r e k=>by
 refine zad e λx h1 e1 e2=>?_
 cases x<;>try cases e2
 rename_i c
 refine(.mk f r e1 λH1 m1 s1 r1=>?_)
 cases c with
 |true=>cases e2;rw[if_pos rfl];exact k H1 m1 s1 r1
 |false=>simp only[vam,vbb];exact(.mk (f.stp s1) r1 e2 λH' m' s' r'=>k H' m' (s1.trans s') r')
theorem zq5{op:BoolOp}(ha:SE X a fa):SE X (.BoolOp op [a] pos) fa:=zup ha
theorem zwg(ha:SE X a fa)(hb:SE X (.BoolOp .And (b::rest) pos) fb):SE X (.BoolOp .And (a::b::rest) pos) (gAnd fa fb):=(zuq ha hb).imp λσ H Q z9=>z9.el λρ h m w h' f r e k=>by
 refine zad e λx h1 e1 e2=>?_
 cases x<;>try cases e2
 rename_i c
 refine(.mk f r e1 λv H1 m1 s1 r1 q1=>?_)
 cases q1
 refine⟨c,rfl,?_⟩
 cases c with
 |true=>rw[if_pos rfl];exact(.mk (f.stp s1) r1 e2 λv H' m' s' r' q'=>k v H' m' (s1.trans s') r' q')
 |false=>cases e2;simp only[vam,vbb];exact k _ H1 m1 s1 r1 (.bl false)
theorem se_or(ha:SE X a fa)(hb:SE X (.BoolOp .Or (b::rest) pos) fb):SE X (.BoolOp .Or (a::b::rest) pos) (gOr fa fb):=(pe_or ha hb).imp λσ H Q z9=>z9.el λρ h m w h' f r e k=>by
 refine zad e λx h1 e1 e2=>?_
 cases x<;>try cases e2
 rename_i c
 refine(.mk f r e1 λv H1 m1 s1 r1 q1=>?_)
 cases q1
 refine⟨c,rfl,?_⟩
 cases c with
 |true=>cases e2;rw[if_pos rfl];exact k _ H1 m1 s1 r1 (.bl true)
 |false=>simp only[vam,vbb];exact(.mk (f.stp s1) r1 e2 λv H' m' s' r' q'=>k v H' m' (s1.trans s') r' q')
theorem zwh(hc:ST X c fc)(ha:SE X a fa)(hb:SE X b fb):SE X (.IfExp c a b pos) (gIte fc fa fb):=(zot hc ha hb).imp λσ H Q z9=>z9.el λρ h m w h' f r e k=>by
 refine zad e λx h1 e1 e2=>?_
 cases x<;>try cases e2
 rename_i c
 refine(.mk f r e1 λH1 m1 s1 r1=>?_)
 cases c with
 |true=>rw[if_pos rfl];exact(.mk (f.stp s1) r1 e2 λv H' m' s' r' q'=>k v H' m' (s1.trans s') r' q')
 |false=>simp only[vam,vbb];exact(.mk (f.stp s1) r1 e2 λv H' m' s' r' q'=>k v H' m' (s1.trans s') r' q')
theorem zd0{K:vga}{m:Nat->Addr}{n:Nat}{H:Hp}{vs:List V}{ws:List W}(q:VReps K m n H vs ws):vs.isEmpty=ws.isEmpty:=by cases q<;>rfl
theorem zsv{K:vga}{m:Nat->Addr}{h:VH}{H:Hp}{v:V}{w:W}{b:Bool}(r:Rel K m h H)(q:VRep K m h.n H v w)(e:truW h w=some b):TruV K v H b:=by
 cases q with
 |non=>cases e;rfl
 |bl x=>cases e;rfl
 |int i=>cases e;rfl
 |str x=>cases e
 |fz _ _=>cases e
 |tup sq rs=>cases e;exact .inr (.inl ⟨_,sq,by rw[zd0 rs]⟩)
 | @ref i hi=>
  simp only[truW]at e
  cases g:h.get i with
  |none=>rw[g]at e;cases e
  |some o=>
   rw[g]at e
   cases o with
   |dk _=>cases e
   |dt _ _=>cases e
   |ins _ _ _=>cases e
   |lst ws=>
    cases e
    obtain⟨vs,h1,h2⟩:=r.lst g
    exact .inl ⟨vs,SqL.of h1,by rw[zd0 h2]⟩
theorem zmz(ha:SE X a fa)(he:∀whole,isTrue a X.env whole=(do let v <-whole;standAt a.pos;holding [v] (truthy v))) :
 ST X a (λρ h=>(fa ρ h).bind λx h=>.of ((truW h x).map .bl) h):=(zo2 ha he).imp λσ H Q z9=>z9.el λρ h m b h' f r e k=>by
 refine zad e λx h1 e1 e2=>?_
 obtain⟨e2,rfl⟩:=of_ok e2
 cases z:truW h' x with
 |none=>rw[z]at e2;cases e2
 |some c=>
  rw[z]at e2;cases e2
  exact(.mk f r e1 λv H' m' s' r' q=>⟨b,zsv r' q z,k H' m' s' r'⟩)
theorem zwi(ha:SE X a fa):SE X (.UnaryOp .USub a pos) (λρ h=>(fa ρ h).bind λx h=>match x with|.int i=>.ok (.int (-i)) h|_=>.no):=
 (pe_un zu8 ha).imp λσ H Q q=>zqz (g:=λx h=>match x with|.int i=>.ok (.int (-i)) h|_=>.no) (G:=rU λi=>.int (-i)) (λm h H v x w h' Q r q e k=>by
   cases q<;>try cases e
   rename_i i
   exact⟨i,rfl,Wants.here k r (.int _)⟩) q
end
section
variable{K:vga}{m m0:Nat->Addr}{n n0:Nat}{h:VH}{H H0:Hp}
theorem Rel.adopt(r:Rel K m h H){p:Addr}{o:VO}{u u0:HO}(hp:∀i,i<h.n->m i≠p)(hu:H p=some u0)(ht:∀t,u0≠.tup t)(hf:∀o t,u0≠.frz o t)(s:Stp m0 n0 H0 m h.n H)(h0:H0 p=none)
 (ho:Stp m h.n H (λi=>if i=h.n then p else m i) (h.n+1) (upd H p u)\/True->(∀{v:V}{w:W},VRep K m h.n H v w->VRep K (λi=>if i=h.n then p else m i) (h.n+1) (upd H p u) v w)->ORep K (λi=>if i=h.n then p else m i) (h.n+1) (upd H p u) p o) :
 Stp m0 n0 H0 (λi=>if i=h.n then p else m i) (h.n+1) (upd H p u)/\Rel K (λi=>if i=h.n then p else m i) (h.new o) (upd H p u):=by
 have kt:∀b vs,H b=some (.tup vs)->upd H p u b=some (.tup vs):=λb vs q=>by rw[zag (ne_of q hu λz=>ht vs z.symm)];exact q
 have kf:∀b o t,H b=some (.frz o t)->upd H p u b=some (.frz o t):=λb o t q=>by rw[zag (ne_of q hu λz=>hf o t z.symm)];exact q
 have mv:∀{v:V}{w:W},VRep K m h.n H v w->VRep K (λi=>if i=h.n then p else m i) (h.n+1) (upd H p u) v w:=by
  intro v w q
  have st:Stp m h.n (λb=>if b=p then none else H b) (λi=>if i=h.n then p else m i) (h.n+1) (upd H p u):=by
   refine⟨vdf _,λi hi=>by simp only[if_neg (va4 hi)],λi hi hi2=>?_,λi j hi hi2 hj=>?_,λb vs q=>?_,λb o t q=>?_,λb o _ q=>?_⟩
   .have:i=h.n:=by lia
    subst this;simp only[va3]
   .have:i=h.n:=by lia
    subst this;simp only[va3,if_neg (va4 hj)];exact(hp j hj).symm
   .split at q
    .cases q
    .exact kt b vs q
   .split at q
    .cases q
    .exact kf b o t q
   .split at q
    .cases q
    .rename_i z;rw[zag z];exact q
  refine VRep.stp st ?_
  have back:∀{a vs},SqT K H a vs->SqT K (λb=>if b=p then none else H b) a vs:=by
   intro a vs q
   rcases q with(q|⟨o,q⟩)|q
   .exact .inl (.inl (by simp only[if_neg (ne_of q hu λz=>ht vs z.symm)];exact q))
   .exact .inl (.inr ⟨o,by simp only[if_neg (ne_of q hu λz=>hf o _ z.symm)];exact q⟩)
   .exact .inr q
  have backf:∀{a vs},Fz K H a vs->Fz K (λb=>if b=p then none else H b) a vs:=by
   intro a vs q
   rcases q with⟨o,q⟩|q
   .exact .inl ⟨o,by simp only[if_neg (ne_of q hu λz=>hf o _ z.symm)];exact q⟩
   .exact .inr q
  exact(VRep.rec (K:=K) (m:=m) (n:=h.n) (H:=H) (motive_1:=λv w _=>VRep K m h.n (λb=>if b=p then none else H b) v w) (motive_2:=λvs ws _=>VReps K m h.n (λb=>if b=p then none else H b) vs ws)
   .non .bl .int .str (λsq _ ih=>.tup (back sq) ih) (λsq _ ih=>.fz (backf sq) ih) (λhi=>.ref hi) .nil (λ_ _ i1 i2=>.cons i1 i2) q)
 refine⟨⟨Nat.le_succ_of_le s.le,λi hi=>?_,λi hi hi2=>?_,λi j hi hi2 hj=>?_,λb vs q=>kt b vs (s.tup b vs q),λb o t q=>kf b o t (s.frz b o t q),λb o nb q=>?_⟩,⟨λi hi=>?_,λi j hi hj z=>?_,?_⟩⟩
 .have:=s.le
  simp only[if_neg (show i≠h.n by lia)];exact s.same i hi
 .by_cases e:i=h.n
  .subst e;simp only[va3];exact h0
  .simp only[if_neg e];exact s.new i hi (by lia)
 .have:=s.le
  simp only[if_neg (show j≠h.n by lia)]
  by_cases e:i=h.n
  .subst e;simp only[va3];exact(hp j (by lia)).symm
  .simp only[if_neg e];exact s.apart i j hi (by lia) hj
 .rw[zag (zaf q h0)];exact s.keep b o nb q
 .have hi:i<h.n+1:=hi
  by_cases e:i=h.n
  .subst e;exact⟨o,zat,by simp only[va3];exact ho (.inr trivial) mv⟩
  .have hl:i<h.n:=by lia
   obtain⟨o',h1,h2⟩:=r.obj i hl
   refine⟨o',(zak hl).trans h1,?_⟩
   simp only[if_neg e]
   have eq:upd H p u (m i)=H (m i):=zag (hp i hl)
   cases o' with
   |lst ws=>
    obtain⟨vs,q1,q2⟩:=h2
    exact⟨vs,eq.trans q1,VReps.rec (K:=K) (m:=m) (n:=h.n) (H:=H) (motive_1:=λv w _=>VRep K m h.n H v w) (motive_2:=λvs ws _=>VReps K (λi=>if i=h.n then p else m i) (h.n+1) (upd H p u) vs ws)
     .non .bl .int .str (λsq q _=>.tup sq q) (λsq q _=>.fz sq q) (λhi=>.ref hi) .nil (λq _ _ i2=>.cons (mv q) i2) q2⟩
   |dk ws=>
    obtain⟨vs,q1,q2⟩:=h2
    have go:∀{vs:List (Key×V)}{ws:List (Key×W)},KReps K m h.n H vs ws->KReps K (λi=>if i=h.n then p else m i) (h.n+1) (upd H p u) vs ws:=by
     intro vs ws q2
     induction q2 with
     |nil=>exact .nil
     |cons q _ ih=>exact .cons (mv q) ih
    exact⟨vs,q1.imp (λz=>eq.trans z) λ⟨o,z⟩=>⟨o,eq.trans z⟩,go q2⟩
   |dt ks ws=>
    obtain⟨xs,q1,q0,q2,q3⟩:=h2
    have go:∀{vs:List V}{ws:List W},VReps K m h.n H vs ws->VReps K (λi=>if i=h.n then p else m i) (h.n+1) (upd H p u) vs ws:=λq2=>
     VReps.rec (K:=K) (m:=m) (n:=h.n) (H:=H) (motive_1:=λv w _=>VRep K m h.n H v w) (motive_2:=λvs ws _=>VReps K (λi=>if i=h.n then p else m i) (h.n+1) (upd H p u) vs ws)
      .non .bl .int .str (λsq q _=>.tup sq q) (λsq q _=>.fz sq q) (λhi=>.ref hi) .nil (λq _ _ i2=>.cons (mv q) i2) q2
    exact⟨xs,q1.imp (λz=>eq.trans z) λ⟨o,z⟩=>⟨o,eq.trans z⟩,q0,go q2,go q3⟩
   |ins C xs ws=>
    obtain⟨dx,vs,q1,q0,q2⟩:=h2
    have go:∀{vs:List V}{ws:List W},VReps K m h.n H vs ws->VReps K (λi=>if i=h.n then p else m i) (h.n+1) (upd H p u) vs ws:=λq2=>
     VReps.rec (K:=K) (m:=m) (n:=h.n) (H:=H) (motive_1:=λv w _=>VRep K m h.n H v w) (motive_2:=λvs ws _=>VReps K (λi=>if i=h.n then p else m i) (h.n+1) (upd H p u) vs ws)
      .non .bl .int .str (λsq q _=>.tup sq q) (λsq q _=>.fz sq q) (λhi=>.ref hi) .nil (λq _ _ i2=>.cons (mv q) i2) q2
    exact⟨dx,vs,eq.trans q1,q0,go q2⟩
 .have hi:i<h.n+1:=hi
  have hj:j<h.n+1:=hj
  by_cases e:i=h.n
  .by_cases e2:j=h.n
   .lia
   .simp only[if_pos e,if_neg e2]at z
    exact absurd z.symm (hp j (by lia))
  .by_cases e2:j=h.n
   .simp only[if_neg e,if_pos e2]at z
    exact absurd z (hp i (by lia))
   .simp only[if_neg e,if_neg e2]at z
    exact r.inj i j (by lia) (by lia) z
 .show(o::h.os).length=h.n+1
  rw[vap,r.len]
theorem VReps.map{m':Nat->Addr}{n':Nat}{H':Hp}(mv:∀{v:V} {w:W},VRep K m n H v w->VRep K m' n' H' v w):∀{vs:List V} {ws:List W},VReps K m n H vs ws->VReps K m' n' H' vs ws
 |_,_,.nil=>.nil
 |_,_,.cons q r=>.cons (mv q) (VReps.map mv r)
theorem KReps.map{m':Nat->Addr}{n':Nat}{H':Hp}(mv:∀{v:V} {w:W},VRep K m n H v w->VRep K m' n' H' v w):∀{vs:List (Key×V)} {ws:List (Key×W)},KReps K m n H vs ws->KReps K m' n' H' vs ws
 |_,_,.nil=>.nil
 |_,_,.cons q r=>.cons (mv q) (KReps.map mv r)
theorem KReps.look(k:Key):∀{vs:List (Key×V)} {ws:List (Key×W)},KReps K m n H vs ws->(valV vs k=none/\lookK ws k=none)\/∃v w,valV vs k=some v/\lookK ws k=some w/\VRep K m n H v w
 |_,_,.nil=>.inl ⟨rfl,rfl⟩
 |_,_,.cons (k:=k') (v:=v) (w:=w) q r=>by
  by_cases e:k'=k
  .refine .inr ⟨v,w,zgd (p:=(k',v)) e,?_,q⟩
   unfold lookK;rw[vbk];simp[e]
  .rcases KReps.look k r with⟨a,b⟩|⟨v',w',a,b,c⟩
   .refine .inl ⟨(zd5 (p:=(k',v)) e).trans a,?_⟩
    unfold lookK at b ⊢;rw[vbk];simp only[vbe e];exact b
   .refine .inr ⟨v',w',(zd5 (p:=(k',v)) e).trans a,?_,c⟩
    unfold lookK at b ⊢;rw[vbk];simp only[vbe e];exact b
theorem zsw{v:V}{w:W}{k:Key}(q:VRep K m n H v w)(e:keyW w=some k):v=kV k:=by
 cases q<;>cases e<;>rfl
theorem zgl{vs:List V}{ws:List W}{i:Int}{w:W}(q:VReps K m n H vs ws)(e:atI ws i=some w):∃v,atI vs i=some v/\VRep K m n H v w:=by
 unfold atI at e ⊢
 rw[q.length]
 cases z:ixN ws.length i with
 |none=>rw[z]at e;cases e
 |some j=>
  rw[z]at e
  exact q.get e
end
noncomputable def rIdx(K:vga):R2:=λx y H Q=>rIxL K x y H Q\/rIxT K x y H Q\/(∃a v,x=.ref a/\DGet H a y (some v)/\Q v H)\/rIxX K x y H Q
section
variable{X:Cx}{a b c e o:Expr}{es:List Expr}{fa fb fc fo:FE}{pos:Pos}
theorem zsx(hu:X.A.units+1<cLine):IxR X (λx y H Q=>∃a v,x=.ref a/\DGet H a y (some v)/\Q v H):=by
 intro value slice pins s σ H x y v u Q I rx ry q hs
 obtain⟨a,v',rfl,g,q⟩:=q
 obtain rfl:v=Value.ref a:=rx
 exact tail_any (ziy I g) PySem.F.slot_dict_getitem.lookup (zmn hu I g ry λw' s3 I3 rw'=>⟨v',H,I3,rw',q⟩) hs
theorem ix_ok(hu:X.A.units+2<cLine):IxR X (rIdx X.K):=zsd.or (zvh.or ((zsx (by lia)).or (ix_dt hu)))
theorem zsy{K:vga}:OpV K (rIdx K) (λx y h=>.of (idxW h x y) h):=by
 intro m h H v u x y w h' Q r qv qu e0 k
 obtain⟨e,e1⟩:=of_ok e0
 clear e0
 subst e1
 unfold idxW at e
 split at e
 .cases qv with
  |tup sq rs=>
   cases qu
   obtain⟨v',h1,h2⟩:=zgl rs e
   exact .inr (.inl ⟨_,_,_,v',rfl,rfl,sq,h1,Wants.here k r h2⟩)
 .cases qv with
  |fz sq rs=>
   cases qu
   obtain⟨v',h1,h2⟩:=zgl rs e
   exact .inl ⟨_,_,_,v',rfl,rfl,sq.sq,h1,Wants.here k r h2⟩
 .rename_i i j
  cases qv;cases qu
  cases g:h'.get i with
  |none=>rw[g]at e;cases e
  |some ob=>
   rw[g]at e
   cases ob with
   |lst ws=>
    obtain⟨vs,p1,p2⟩:=r.lst g
    obtain⟨v',h1,h2⟩:=zgl p2 e
    exact .inl ⟨_,_,_,v',rfl,rfl,SqL.of p1,h1,Wants.here k r h2⟩
   |dk ws=>
    have e:lookK ws (.inl j)=some w:=e
    obtain⟨vs,p1,p2⟩:=r.dk g
    rcases p2.look (.inl j)with⟨_,z⟩|⟨v',w',z1,z2,z3⟩
    .rw[z]at e;cases e
    .rw[z2]at e;cases e
     exact .inr (.inr (.inl ⟨_,v',rfl,by rw[<-z1];exact .inl ⟨vs,.inl j,p1,rfl,rfl⟩,Wants.here k r z3⟩))
   |dt _ _=>cases e
   |ins _ _ _=>cases e
 .rename_i i j
  cases qv;cases qu
  cases g:h'.get i with
  |none=>rw[g]at e;cases e
  |some ob=>
   rw[g]at e
   cases ob with
   |lst ws=>cases e
   |dk ws=>
    have e:lookK ws (.inr j)=some w:=e
    obtain⟨vs,p1,p2⟩:=r.dk g
    rcases p2.look (.inr j)with⟨_,z⟩|⟨v',w',z1,z2,z3⟩
    .rw[z]at e;cases e
    .rw[z2]at e;cases e
     exact .inr (.inr (.inl ⟨_,v',rfl,by rw[<-z1];exact .inl ⟨vs,.inr j,p1,rfl,rfl⟩,Wants.here k r z3⟩))
   |dt _ _=>cases e
   |ins _ _ _=>cases e
 .rename_i i _ _
  cases qv
  unfold idxD at e
  split at e
  .rename_i ks ws dk g hk
   obtain⟨xs,p1,p2,p3,p4⟩:=r.dt g
   obtain⟨c,rfl,kk⟩:=zgi qu hk
   rcases zgj dk p2 p4 with⟨_,z2⟩|⟨p,w',z1,z2,z3⟩
   .rw[z2]at e;cases e
   .rw[z2]at e;cases e
    exact .inr (.inr (.inr ⟨_,c,xs,dk,p,rfl,rfl,dt_DT p1 p2 p3,kk,z1,Wants.here k r z3⟩))
  .cases e
 .cases e
theorem zwj(hu:X.A.units+2<cLine)(ha:SE X a fa)(hb:SE X b fb)(hs:ziw b):SE X (.Subscript a b pos) (λρ h=>(fa ρ h).bind λx h=>(fb ρ h).bind λy h=>.of (idxW h x y) h):=
 (pe_ix (ix_ok hu) ha hb hs).imp λσ H Q q=>zgg (G:=rIdx X.K) zsy q
noncomputable def lftO(K:vga)(b:Bool)(f:FE):TO:=λσ H Q=>∃ρ h m w o h',Fr K m h.n H σ ρ/\Rel K m h H/\f ρ h=.ok w h'/\partW b w=some o/\∀H' m',Stp m h.n H m' h'.n H'->Rel K m' h' H'->Q o H'
theorem lftO.el{K:vga}{σ:L2.St}{H:Hp}{P:Prop}{b:Bool}{fa:FE}{Q:Option Int->Hp->Prop}(q:lftO K b fa σ H Q)(k:∀ρ h m w o h',Fr K m h.n H σ ρ->Rel K m h H->fa ρ h=.ok w h'->partW b w=some o->(∀H' m',Stp m h.n H m' h'.n H'->Rel K m' h' H'->Q o H')->P):P:=by
 obtain⟨ρ,h,m,w,o,h',f,r,e,ep,k'⟩:=q
 exact k ρ h m w o h' f r e ep k'
theorem lftO.mk{K:vga}{σ:L2.St}{H:Hp}{m:Nat->Addr}{ρ:En}{h h':VH}{w:W}{o:Option Int}{b:Bool}{fa:FE}{Q:Option Int->Hp->Prop}(f:Fr K m h.n H σ ρ)(r:Rel K m h H)(e:fa ρ h=.ok w h')(ep:partW b w=some o)(k:∀H' m',Stp m h.n H m' h'.n H'->Rel K m' h' H'->Q o H'):lftO K b fa σ H Q:=⟨ρ,h,m,w,o,h',f,r,e,ep,k⟩
theorem zsz{w:W}:PO X none (lftO X.K false (λ_ h=>.ok w h)):=λpins s σ H Q I z9=>z9.el λρ h m w o h' f r e ep k=>by
 cases e
 have:o=none:=by
  unfold partW at ep
  cases ep;rfl
 subst this
 exact zsa pins s σ H Q I (k H m .refl r)
theorem zm0(ha:SE X e fa):PO X (some e) (lftO X.K true fa):=λpins s σ H Q I z9=>z9.el λρ h m w o h' f r e ep k=>by
 refine zsb ha pins s σ H Q I (.mk f r e λv H' m' s' r' q=>?_)
 cases q<;>cases ep
 exact⟨_,rfl,k H' m' s' r'⟩
theorem zju{K:vga}{m:Nat->Addr}{n:Nat}{H:Hp}{vs:List V}{ws:List W}(q:VReps K m n H vs ws)(lo hi:Option Int):VReps K m n H (cutV vs lo hi) (cutW ws lo hi):=by
 unfold cutV cutW
 rw[q.length]
 exact(q.drop _).take _
theorem zla{ws:List W}{lo hi:Option Int}(h:HT.sIx ws.length 0 lo=0/\HT.sIx ws.length ws.length hi=ws.length):cutW ws lo hi=ws:=by
 unfold cutW
 rw[h.1,h.2]
 simp
theorem zwk{lo hi:Option Expr}{fl fh:FE}{p2:Pos}{bl bh:Bool}(ha:SE X a fa)(hl:PO X lo (lftO X.K bl fl))(hh:PO X hi (lftO X.K bh fh)) :
 SE X (.Subscript a (.Slice lo hi none p2) pos) (λρ h=>(fa ρ h).bind λx h=>(fl ρ h).bind λl h=>(fh ρ h).bind λu h=>match partW bl l,partW bh u with
 |some l,some u=>slcW x l u h
 |_,_=>.no):=
 (zo9 zvq ha hl hh).imp λσ H Q z9=>z9.el λρ h m w h' f r e k=>by
   refine zad e λx h1 e1 e2=>?_
   refine zad e2 λl h2 e3 e4=>?_
   refine zad e4 λu h3 e5 e6=>?_
   split at e6
   .rename_i l' u' pl pu
    refine(.mk f r e1 λv H1 m1 s1 r1 q1=>(.mk (f.stp s1) r1 e3 pl λH2 m2 s2 r2=>(.mk ((f.stp s1).stp s2) r2 e5 pu λH3 m3 s3 r3=>?_)))
    have q3:=(q1.stp s2).stp s3
    have kk:Wants X.K m3 h3.n H3 w h' Q:=λv' H' m' s' r' q'=>k v' H' m' (((s1.trans s2).trans s3).trans s') r' q'
    unfold slcW at e6
    split at e6
    .rename_i ws
     cases e6
     cases q3 with
     | @tup a vs _ sq rs=>
      by_cases hw:HT.sIx vs.length 0 l'=0/\HT.sIx vs.length vs.length u'=vs.length
      .refine .inl (.inr ⟨_,_,rfl,sq,hw,?_⟩)
       have hw':=hw
       rw[rs.length]at hw'
       rw[zla hw']at kk
       exact Wants.here kk r3 (.tup sq rs)
      .exact .inl (.inl ⟨_,_,rfl,sq,hw,λp hp=>Wants.tuple kk r3 (zju rs l' u') hp⟩)
    .rename_i i
     cases q3
     cases g:h3.get i with
     |none=>rw[g]at e6;cases e6
     |some ob=>
      rw[g]at e6
      cases ob with
      |lst ws=>
       cases e6
       obtain⟨vs,p1,p2⟩:=r3.lst g
       exact .inr ⟨_,_,rfl,SqL.of p1,λp hp=>Wants.list kk r3 (zju p2 l' u') hp⟩
      |dk ws=>cases e6
      |dt _ _=>cases e6
      |ins _ _ _=>cases e6
    .cases e6
   .cases e6
end
noncomputable def zay:Expr->Bool
 |.Starred ..=>false
 |_=>true
theorem zai{e:Expr}{es:List Expr}{env:Env}(h:zay e=true):starEach (e::es) env=(false,eval e env)::starEach es env:=by
 cases e<;>first|rfl|cases h
theorem zbn{pos:Pos}{env:Env}:∀{es:List Expr},es.all zay=true->(backTo pos (starEach es env)).any (·.1)=false
 |[],_=>rfl
 |e::es,h=>by
  rw[vb5,vac]at h
  rw[zai h.1]
  show(false|| (backTo pos (starEach es env)).any (·.1))=false
  rw[zbn h.2];rfl
noncomputable abbrev aNil:FE:=λ_ h=>.ok (.tup []) h
noncomputable abbrev aCons(fa fb:FE):FE:=λρ h=>(fa ρ h).bind λx h=>(fb ρ h).bind λy h=>match y with|.tup ys=>.ok (.tup (x::ys)) h|_=>.no
section
variable{X:Cx}{a b c e o:Expr}{es:List Expr}{fa fb fc fo:FE}{pos p:Pos}{x:Str}
noncomputable abbrev gArg(fa:FE)(g:List W->VH->Res W):FE:=λρ h=>(fa ρ h).bind λy h=>match y with|.tup ys=>g ys h|_=>.no
noncomputable def CallV(K:vga)(r:List V->Hp->VK->Prop)(g:List W->VH->Res W):Prop:=∀(m:Nat->Addr) (h:VH) (H:Hp) (vs:List V) (xs:List W) (w:W) (h':VH) (Q:VK),Rel K m h H->VReps K m h.n H vs xs->g xs h=.ok w h'->Wants K m h.n H w h' Q->r vs H Q
theorem zc6{id:String}{r:List V->Hp->VK->Prop}{g:List W->VH->Res W}(hc:CallR X (.builtin id) r)(hv:CallV X.K r g)(hg:Gl X x)(hm:X.mg x=none)(hb:bootBuiltins x=some (.builtin id))(ha:SA X (e::es) fa)(hs:(e::es).all zay=true)
 (hn:x≠"__name__") (hdb:(x==("__debug__" : Str))=false):SE X (.Call (.Name x p) (e::es) [] pos) (gArg fa g):=by
 rw[vb5,vac]at hs
 exact(zjq hc hg hm hb ha hn hdb (zai hs.1) (zbn hs.2)).imp λσ H Q q=>zcf hv q
theorem zet{T:String}{r:List V->Hp->VK->Prop}{g:List W->VH->Res W}(hc:CallR X (.type T) r)(hv:CallV X.K r g)(hg:Gl X x)(hm:X.mg x=none)(hb:bootBuiltins x=some (.type T))(ha:SA X (e::es) fa)(hs:(e::es).all zay=true)
 (hn:x≠"__name__") (hdb:(x==("__debug__" : Str))=false):SE X (.Call (.Name x p) (e::es) [] pos) (gArg fa g):=by
 rw[vb5,vac]at hs
 exact(zme hc hg hm hb ha hn hdb (zai hs.1) (zbn hs.2)).imp λσ H Q q=>zcf hv q
theorem reps1{K:vga}{m:Nat->Addr}{n:Nat}{H:Hp}{vs:List V}{w:W}(q:VReps K m n H vs [w]):∃v,vs=[v]/\VRep K m n H v w:=by
 cases q with|cons q r=>cases r;exact⟨_,rfl,q⟩
theorem zwl{K:vga}:CallV K (λxs H Q=>∃p ys,xs=[.ref p]/\(SqL K H p ys\/SqT K H p ys)/\Q (.int ys.length) H) lenW:=by
 intro m h H vs xs w h' Q r q e k
 unfold lenW at e
 split at e<;>try cases e
 rename_i x
 obtain⟨v,rfl,q1⟩:=reps1 q
 obtain⟨e,rfl⟩:=of_ok e
 cases z:seqW h' x with
 |none=>rw[z]at e;cases e
 |some ws=>
  rw[z]at e;cases e
  obtain⟨p,us,rfl,h1,h2⟩:=zdn r q1 z
  exact⟨p,us,rfl,h1,by rw[h2.length];exact Wants.here k r (.int _)⟩
theorem zs0{K:vga}:CallV K (λxs H Q=>∃p ys,xs=[.ref p]/\(SqL K H p ys\/SqT K H p ys)/\∀l,H l=none->Q (.ref l) (upd H l (.lst ys))) listW:=by
 intro m h H vs xs w h' Q r q e k
 unfold listW at e
 split at e<;>try cases e
 rename_i x
 obtain⟨v,rfl,q1⟩:=reps1 q
 cases z:seqW h x with
 |none=>rw[z]at e;cases e
 |some ws=>
  rw[z]at e;cases e
  obtain⟨p,us,rfl,h1,h2⟩:=zdn r q1 z
  exact⟨p,us,rfl,h1,λl hl=>Wants.list k r h2 hl⟩
theorem zpr{K:vga}:CallV K (λxs H Q=>∃p ys,xs=[.ref p]/\((SqL K H p ys/\∀l,H l=none->Q (.ref l) (upd H l (.tup ys)))\/(SqT K H p ys/\Q (.ref p) H))) zer:=by
 intro m h H vs xs w h' Q r q e k
 unfold zer at e
 split at e<;>try cases e
 rename_i x
 obtain⟨v,rfl,q1⟩:=reps1 q
 obtain⟨e,rfl⟩:=of_ok e
 cases z:seqW h' x with
 |none=>rw[z]at e;cases e
 |some ws=>
  rw[z]at e;cases e
  obtain⟨p,us,rfl,h1,h2⟩:=zdn r q1 z
  rcases h1 with h1|h1
  .exact⟨p,us,rfl,.inl ⟨h1,λl hl=>Wants.tuple k r h2 hl⟩⟩
  .exact⟨p,us,rfl,.inr ⟨h1,Wants.here k r (.tup h1 h2)⟩⟩
theorem zwm{K:vga}:CallV K (λxs H Q=>(∃i,xs=[.int i]/\Q (.int i) H)\/∃k,xs=[.bl k]/\Q (.int (if k then 1 else 0)) H) intW:=by
 intro m h H vs xs w h' Q r q e k
 unfold intW at e
 split at e<;>try cases e
 .obtain⟨v,rfl,q1⟩:=reps1 q
  cases q1
  exact .inl ⟨_,rfl,Wants.here k r (.int _)⟩
 .obtain⟨v,rfl,q1⟩:=reps1 q
  cases q1
  exact .inr ⟨_,rfl,Wants.here k r (.int _)⟩
theorem zwn{K:vga}:CallV K (λxs H Q=>∃i,xs=[.int i]/\Q (.int (if i<0 then -i else i)) H) absW:=by
 intro m h H vs xs w h' Q r q e k
 unfold absW at e
 split at e<;>try cases e
 obtain⟨v,rfl,q1⟩:=reps1 q
 cases q1
 exact⟨_,rfl,Wants.here k r (.int _)⟩
theorem reps2{K:vga}{m:Nat->Addr}{n:Nat}{H:Hp}{vs:List V}{w z:W}(q:VReps K m n H vs [w,z]):∃v u,vs=[v,u]/\VRep K m n H v w/\VRep K m n H u z:=by
 cases q with|cons q r=>obtain⟨u,rfl,h⟩:=reps1 r;exact⟨_,_,rfl,q,h⟩
theorem zwo{K:vga}:CallV K (λxs H Q=>∃i j,xs=[.int i,.int j]/\Q (.int (if j>i then j else i)) H) maxW:=by
 intro m h H vs xs w h' Q r q e k
 unfold maxW at e
 split at e<;>try cases e
 obtain⟨v,u,rfl,q1,q2⟩:=reps2 q
 cases q1;cases q2
 exact⟨_,_,rfl,Wants.here k r (.int _)⟩
theorem zwp{K:vga}:CallV K (λxs H Q=>∃i j,xs=[.int i,.int j]/\Q (.int (if j<i then j else i)) H) minW:=by
 intro m h H vs xs w h' Q r q e k
 unfold minW at e
 split at e<;>try cases e
 obtain⟨v,u,rfl,q1,q2⟩:=reps2 q
 cases q1;cases q2
 exact⟨_,_,rfl,Wants.here k r (.int _)⟩
noncomputable def tyN:Ty->String
 |.int=>"int" |.bool=>"bool" |.tuple=>"tuple" |.list=>"list" |.str=>"str" |.dict=>"dict"
noncomputable def rIsi(K:vga)(n:String):List V->Hp->VK->Prop:=λxs H Q=>∃x b,xs=[x,.ty n]/\((∃t,TyOf K H x t/\PySem.W.kitOne K t (.type n)=some b)\/(∃a vs,x=.ref a/\SqT K H a vs/\PySem.W.kitOne K (.type "tuple") (.type n)=some b)\/∃a kvs,x=.ref a/\Rd H a (.dK kvs)/\PySem.W.kitOne K (.type "dict") (.type n)=some b)/\Q (.bl b) H
theorem zps(n:String):CallR X (.builtin "isinstance") (rIsi X.K n):=by
 intro pins s σ H xs us Q I r h
 obtain⟨x,b,rfl,hi,q⟩:=h
 obtain⟨u,u2,rfl,rx,rc⟩:=vals2 r
 obtain rfl:u2=Value.type n:=rc
 rcases hi with⟨t,ty,e⟩|⟨a,vs,rfl,sq,e⟩|⟨a,kvs,rfl,rd,e⟩
 .exact zl9 I rx ty e λtk=>⟨.bl b,H,I.tok _,rfl,q⟩
 .obtain rfl:u=Value.ref a:=rx
  obtain⟨its,_,p,_⟩:=I.tuple sq
  obtain⟨o,h1,h2,_⟩:=p
  exact vbp PySem.W.kitx_tuple I.kIn ⟨o,h1,h2⟩ e (λz=>nomatch z) λtk=>⟨.bl b,H,I.tok _,rfl,q⟩
 .obtain rfl:u=Value.ref a:=rx
  obtain⟨_,_,_,_,o,_,_,h1,h2,_⟩:=dk_rd I.hok rd
  exact vbp PySem.W.kitx_dict I.kIn ⟨o,h1,h2.1⟩ e (λz=>nomatch z) λtk=>⟨.bl b,H,I.tok _,rfl,q⟩
theorem zwq{K:vga}(t:Ty){m:Nat->Addr}{h:VH}{H:Hp}{v:V}{x:W}{b:Bool}(r:Rel K m h H)(q:VRep K m h.n H v x)(e:tyIs t h x=some b) :
 (∃t',TyOf K H v t'/\PySem.W.kitOne K t' (.type (tyN t))=some b)\/(∃a vs,v=.ref a/\SqT K H a vs/\PySem.W.kitOne K (.type "tuple") (.type (tyN t))=some b)\/∃a kvs,v=.ref a/\Rd H a (.dK kvs)/\PySem.W.kitOne K (.type "dict") (.type (tyN t))=some b:=by
 cases q with
 |non=>cases e;refine .inl ⟨_,.non,?_⟩;cases t<;>rfl
 |bl x=>cases e;refine .inl ⟨_,.bl x,?_⟩;cases t<;>rfl
 |int x=>cases e;refine .inl ⟨_,.int x,?_⟩;cases t<;>rfl
 |str x=>cases e;refine .inl ⟨_,.str x,?_⟩;cases t<;>rfl
 |tup sq rs=>cases e;refine .inr (.inl ⟨_,_,rfl,sq,?_⟩);cases t<;>rfl
 |fz _ _=>cases e
 | @ref i hi=>
  simp only[tyIs]at e
  cases g:h.get i with
  |none=>rw[g]at e;cases e
  |some o=>
   rw[g]at e
   cases o with
   |lst ws=>
    cases e
    obtain⟨vs,h1,h2⟩:=r.lst g
    refine .inl ⟨_,.lst h1,?_⟩;cases t<;>rfl
   |dk ws=>
    cases e
    obtain⟨vs,h1,h2⟩:=r.dk g
    refine .inr (.inr ⟨_,_,rfl,h1,?_⟩);cases t<;>rfl
   |dt _ _=>cases e
   |ins _ _ _=>cases e
theorem zwr(t:Ty){T:Str}{p2:Pos}(ha:SE X e fa)(hs:zay e=true)(hg:Gl X "isinstance")(hm:X.mg "isinstance" = none)(hgT:Gl X T)(hmT:X.mg T=none)(hbT:bootBuiltins T=some (.type (tyN t)))(hn:T≠"__name__")(hd:(T==("__debug__" : Str))=false) :
 SE X (.Call (.Name "isinstance" p) [e,.Name T p2] [] pos) (λρ h=>(fa ρ h).bind λx h=>.of ((tyIs t h x).map .bl) h):=by
 have hT:PE X (.Name T p2) (tC (.ty (tyN t))):=zrt hgT hmT hbT rfl hn hd
 refine(zjq (zps (tyN t)) hg hm PyProof.Rows.boot_isinstance (zej ha (zej hT zjo) (zai hs)) (by decide) (by decide) (zai hs) rfl).imp λσ H Q q=>?_
 refine zqz (g:=λx h=>.of ((tyIs t h x).map .bl) h) (G:=λv H1 Q=>rIsi X.K (tyN t) [v,.ty (tyN t)] H1 Q) (λm h H v x w h' Q r q e k=>?_) q
 obtain⟨e,rfl⟩:=of_ok e
 cases z:tyIs t h' x with
 |none=>rw[z]at e;cases e
 |some b=>
  rw[z]at e;cases e
  exact⟨v,b,rfl,zwq t r q z,Wants.here k r (.bl b)⟩
noncomputable def zdo:Expr->Bool
 |.Name .. |.Subscript ..=>true
 |_=>false
theorem zgm{o:Expr}{m:Str}{env:Env}(h:zdo o=true):attributeBase o m env (eval o env)=eval o env:=by
 cases o<;>first|rfl|cases h
noncomputable abbrev gMt(m:Mt)(fo fa:FE):FE:=λρ h=>(fo ρ h).bind λx h=>if zhu m h x then(fa ρ h).bind λy h=>match y with|.tup ys=>mtW m x ys h|_=>.no else .no
theorem zm1{apos:Pos}(ho:SE X o fo)(he:SE X e fa)(hb:zdo o=true)(hs:zay e=true)(hl:(apos.endLine==pos.line)=true) :
 SE X (.Call (.Attribute o "append" apos) [e] [] pos) (gMt .append fo (aCons fa aNil)):=by
 refine(pe_bm (X:=X) PySem.F.plainAttrs_list PySem.F.slot_list_append PySem.F.type_list_append zhq ho (zej he zjo (zai hs)) (zgm hb) ?_ hl (zai hs) rfl).imp λσ H Q z9=>z9.el λρ h m w h' f r e k=>?_
 .rw[zai hs];rfl
 .refine zad e λx h1 e1 e2=>?_
  split at e2
  .rename_i hk
   refine zad e2 λy h2 e3 e4=>?_
   refine zad e3 λz h3 e5 e6=>?_
   cases e6
   refine(.mk f r e1 λv H1 m1 s1 r1 q1=>?_)
   cases x<;>try cases hk
   rename_i i
   simp only[zhu]at hk
   cases g:h1.get i with
   |none=>rw[g]at hk;cases hk
   |some ob=>
    rw[g]at hk
    cases ob with
    |dk _=>cases hk
    |dt _ _=>cases hk
    |ins _ _ _=>cases hk
    |lst ws0=>
     cases q1
     obtain⟨vs0,p1,_⟩:=r1.lst g
     refine⟨.inl ⟨rfl,vs0,SqL.of p1⟩,ρ,h1,m1,z,h2,f.stp s1,r1,e5,λv2 H2 m2 s2 r2 q2=>?_⟩
     simp only[mtW]at e4
     cases g2:h2.get i with
     |none=>rw[g2]at e4;cases e4
     |some ob=>
      rw[g2]at e4
      cases ob with
      |dk _=>cases e4
      |dt _ _=>cases e4
      |ins _ _ _=>cases e4
      |lst ws=>
       simp only at e4
       split at e4
       .rename_i hz
        cases e4
        obtain⟨vs,p2,p3⟩:=r2.lst g2
        have hmi:m1 i=m2 i:=(s2.same i (zao g)).symm
        refine⟨m1 i,vs,v2,rfl,rfl,by rw[hmi];exact p2,by rw[p3.length];exact zan.mp hz,?_⟩
        obtain⟨st,r'⟩:=r2.write (i:=i) (o:=.lst (ws++[z])) (u:=.lst (vs++[v2])) (zao g2) p2 (λ_ z=>nomatch z) (λ_ _ z=>nomatch z) λst=>⟨vs++[v2],zaq,(p3.stp st).append (.cons (q2.stp st) .nil)⟩
        rw[hmi]
        exact k .non _ m2 ((s1.trans s2).trans st) r' .non
       .cases e4
  .cases e2
end
section
variable{K:vga}{m m' m1:Nat->Addr}{n n' n1:Nat}{h h':VH}{H H' H1:Hp}
mutual
theorem VRep.mono(hn:n<=n')(hm:∀i,i<n->m' i=m i)(kt:∀b vs,H b=some (.tup vs)->H' b=some (.tup vs))(kf:∀b o u,H b=some (.frz o u)->H' b=some (.frz o u)):∀{v:V} {w:W},VRep K m n H v w->VRep K m' n' H' v w
 |_,_,.non=>.non
 |_,_,.bl b=>.bl b
 |_,_,.int b=>.int b
 |_,_,.str b=>.str b
 |_,_,.tup q r=>.tup (by
  rcases q with(q|⟨o,q⟩)|q
  .exact .inl (.inl (kt _ _ q))
  .exact .inl (.inr ⟨o,kf _ _ _ q⟩)
  .exact .inr q) (VReps.mono hn hm kt kf r)
 |_,_,.fz q r=>.fz (by
  rcases q with⟨o,q⟩|q
  .exact .inl ⟨o,kf _ _ _ q⟩
  .exact .inr q) (VReps.mono hn hm kt kf r)
 |_,_,.ref (i:=i) q=>by rw[<-hm i q];exact .ref (vak q hn)
theorem VReps.mono(hn:n<=n')(hm:∀i,i<n->m' i=m i)(kt:∀b vs,H b=some (.tup vs)->H' b=some (.tup vs))(kf:∀b o u,H b=some (.frz o u)->H' b=some (.frz o u)):∀{vs:List V} {ws:List W},VReps K m n H vs ws->VReps K m' n' H' vs ws
 |_,_,.nil=>.nil
 |_,_,.cons q r=>.cons (VRep.mono hn hm kt kf q) (VReps.mono hn hm kt kf r)
end
theorem Rel.side(r:Rel K m h H){D:Addr}{u u0:HO}(hu:H D=some u0)(ht:∀t,u0≠.tup t)(hf:∀o t,u0≠.frz o t)(ho:∀i,i<h.n->m i≠D)(s:Stp m1 n1 H1 m h.n H)(h0:H1 D=none) :
 Stp m1 n1 H1 m h.n (upd H D u)/\Rel K m h (upd H D u)/\∀{v:V}{w:W},VRep K m h.n H v w->VRep K m h.n (upd H D u) v w:=by
 have kt:∀b vs,H b=some (.tup vs)->upd H D u b=some (.tup vs):=λb vs q=>by rw[zag (ne_of q hu λz=>ht vs z.symm)];exact q
 have kf:∀b o t,H b=some (.frz o t)->upd H D u b=some (.frz o t):=λb o t q=>by rw[zag (ne_of q hu λz=>hf o t z.symm)];exact q
 have mv:∀{v:V}{w:W},VRep K m h.n H v w->VRep K m h.n (upd H D u) v w:=λq=>q.mono (vai _) (λ_ _=>rfl) kt kf
 refine⟨⟨s.le,s.same,s.new,s.apart,λb vs q=>kt b vs (s.tup b vs q),λb o t q=>kf b o t (s.frz b o t q),λb o nb q=>by rw[zag (zaf q h0)];exact s.keep b o nb q⟩,⟨λi hi=>?_,r.inj,r.len⟩,mv⟩
 obtain⟨o,h1,h2⟩:=r.obj i hi
 have eq:upd H D u (m i)=H (m i):=zag (ho i hi)
 refine⟨o,h1,?_⟩
 cases o with
 |lst ws=>obtain⟨vs,q1,q2⟩:=h2;exact⟨vs,eq.trans q1,q2.map mv⟩
 |dk ws=>obtain⟨vs,q1,q2⟩:=h2;exact⟨vs,q1.imp (λz=>eq.trans z) λ⟨o,z⟩=>⟨o,eq.trans z⟩,q2.map mv⟩
 |dt ks ws=>obtain⟨xs,q1,q0,q2,q3⟩:=h2;exact⟨xs,q1.imp (λz=>eq.trans z) λ⟨o,z⟩=>⟨o,eq.trans z⟩,q0,q2.map mv,q3.map mv⟩
 |ins C xs ws=>obtain⟨dx,vs,q1,q0,q2⟩:=h2;exact⟨dx,vs,eq.trans q1,q0,q2.map mv⟩
theorem Rel.out(r:Rel K m h H){p:Addr}(hp:H p=none):∀i,i<h.n->m i≠p:=λi hi z=>by
 obtain⟨o',_,h2⟩:=r.obj i hi
 obtain⟨u',h3⟩:=h2.some
 rw[z,hp]at h3;cases h3
theorem Stp.out(s:Stp m n H m' n' H'){p:Addr}{u:HO}(hp:∀i,i<n->m i≠p)(hu:H p=some u):∀i,i<n'->m' i≠p:=λi hi z=>by
 by_cases hl:i<n
 .exact hp i hl ((s.same i hl).symm.trans z)
 .have:=s.new i (vci.mp hl) hi
  rw[z,hu]at this;cases this
end
section
variable{X:Cx}{a b c e o:Expr}{es:List Expr}{fa fb fc fo fr:FE}{pos p:Pos}{x:Str}
noncomputable abbrev gDsp(f:FE):FE:=λρ h=>(f ρ h).bind λy h=>match y with
 |.tup ys=>(match zmx ys with
  |some kvs=>if Nat.ble kvs.length 15 then .ok (.ref h.n) (h.new (dkO kvs))else .no
  |none=>dspD ys h)
 |_=>.no
theorem zs1:SE X (.Dict [] [] pos) (gDsp aNil):=zpg.imp λσ H Q z9 p hp=>z9.el λρ h m w h' f r e k=>by
 cases e
 exact Wants.dictD (ks:=[]) (ws:=[]) (xs:=[]) k r hp (.inr ⟨rfl,rfl⟩) rfl .nil .nil
noncomputable def spV(K:vga)(np:Nat)(g:List W->VH->Res W):Sp:=λvs H Q _=>vs.length=np/\∃h m ws w h',Rel K m h H/\VReps K m h.n H vs ws/\g ws h=.ok w h'/\Wants K m h.n H w h' Q
theorem zs2{k:Nat}{f:Addr}{fd:FuncData}{ps:List Str}{g:List W->VH->Res W}(F:FnOk X.prog X.w X.K X.mg X.base CX0 k f fd ps (spV X.K ps.length g))(hr:Room k X.A)(hg:Gl X x)(hm:X.mg x=some (.ref f))(hk:PySem.W.keepIn X.K (.ref f)=true)
 (hb:Binds X.K fd ps []) (ha:SA X (e::es) fa) (hs:(e::es).all zay=true) (hdb:(x==("__debug__" : Str))=false) (hn:∀ws h w h',g ws h=.ok w h'->ws.length=ps.length):SE X (.Call (.Name x p) (e::es) [] pos) (gArg fa g):=by
 rw[vb5,vac]at hs
 refine(zmb F hr hg hm hk hb .nil pass0 ha hdb (zai hs.1) (zbn hs.2)).imp λσ H Q q=>zcf (G:=λvs H1 Q=>spV X.K ps.length g (vs++[]) H1 Q E0) (λm h H vs xs w h' Q r q e k=>?_) q
 rw[vb2]
 exact⟨by rw[q.length];exact hn _ _ _ _ e,h,m,xs,w,h',r,q,e,k⟩
theorem zpt{k:Nat}{f:Addr}{fd:FuncData}{ps:List Str}{g:List W->VH->Res W}(F:FnOk X.prog X.w X.K X.mg X.base CX0 k f fd ps (spV X.K ps.length g))(hr:Room k X.A)(hg:Gl X x)(hm:X.mg x=some (.ref f))(hk:PySem.W.keepIn X.K (.ref f)=true)
 (hb:Binds X.K fd ps []) (hdb:(x==("__debug__" : Str))=false) (hn:∀ws h w h',g ws h=.ok w h'->ws.length=ps.length):SE X (.Call (.Name x p) [] [] pos) (gArg aNil g):=by
 refine(zo6 F hr hg hm hk hb .nil pass0 hdb).imp λσ H Q z9=>z9.el λρ h m w h' f r e k=>?_
 exact⟨hn _ _ _ _ e,h,m,[],w,h',r,.nil,e,k⟩
theorem zpu{k:Nat}{f:Addr}{fd:FuncData}{ps:List Str}{g:List W->VH->Res W}(F:FnOk X.prog X.w X.K X.mg X.base CX0 k f fd ps (spV X.K ps.length g))(hr:Room k X.A)(hg:Gl X x)(hm:X.mg x=some (.ref f))(hk:PySem.W.keepIn X.K (.ref f)=true)
 (hb:Binds X.K fd ps [.none]) (ha:SA X (e::es) fa) (hs:(e::es).all zay=true) (hdb:(x==("__debug__" : Str))=false) (hn:∀ws h w h',g ws h=.ok w h'->ws.length=ps.length):SE X (.Call (.Name x p) (e::es) [] pos) (gArg fa λws h=>g (ws++[.non]) h):=by
 rw[vb5,vac]at hs
 refine(zmb F hr hg hm hk hb (dvs:=[V.non]) (.cons rfl .nil) pass0 ha hdb (zai hs.1) (zbn hs.2)).imp λσ H Q q=>zcf (G:=λvs H1 Q=>spV X.K ps.length g (vs++[V.non]) H1 Q E0) (λm h H vs xs w h' Q r q e k=>?_) q
 have q':VReps X.K m h.n H (vs++[V.non]) (xs++[W.non]):=q.append (.cons .non .nil)
 exact⟨by rw[q'.length];exact hn _ _ _ _ e,h,m,xs++[W.non],w,h',r,q',e,k⟩
noncomputable def ItOk(K:vga)(nx:Nat->VH->Option (Option W))(J:It)(P:(Nat->Addr)->Nat->Hp->Prop):Prop:=
 (∀m n H m' n' H',n<=n'->(∀i,i<n->m' i=m i)->(∀b vs,H b=some (.tup vs)->H' b=some (.tup vs))->(∀b o u,H b=some (.frz o u)->H' b=some (.frz o u))->P m n H->P m' n' H')/\
 ∀m h H,Rel K m h H->P m h.n H->∀i,(∀w,nx i h=some (some w)->J.go i H/\∀y H3,J.yld i H y H3->Stp m h.n H m h.n H3/\Rel K m h H3/\VRep K m h.n H3 y w)/\(nx i h=some none->J.stop i H)
noncomputable def lftI(K:vga)(kd:Kd)(f:FE):TI:=λσ H R=>∃ρ h m x h',Fr K m h.n H σ ρ/\Rel K m h H/\f ρ h=.ok x h'/\(∃o,nxt kd x 0 h'=some o)/\
 ∀J P H' m',Stp m h.n H m' h'.n H'->Rel K m' h' H'->ItOk K (nxt kd x) J P->P m' h'.n H'->R J H'
theorem lftI.el{K:vga}{σ:L2.St}{H:Hp}{P:Prop}{kd:Kd}{fa:FE}{R}(q:lftI K kd fa σ H R)(k:∀ρ h m x h',Fr K m h.n H σ ρ->Rel K m h H->fa ρ h=.ok x h'->∀o,nxt kd x 0 h'=some o->(∀J P H' m',Stp m h.n H m' h'.n H'->Rel K m' h' H'->ItOk K (nxt kd x) J P->P m' h'.n H'->R J H')->P):P:=by
 obtain⟨ρ,h,m,w,h',f,r,e,⟨o,eo⟩,k'⟩:=q
 exact k ρ h m w h' f r e o eo k'
theorem lftI.mk{K:vga}{σ:L2.St}{H:Hp}{m:Nat->Addr}{ρ:En}{h h':VH}{x:W}{kd:Kd}{fa:FE}{R}(f:Fr K m h.n H σ ρ)(r:Rel K m h H)(e:fa ρ h=.ok x h')(eo:∃o,nxt kd x 0 h'=some o)(k:∀J P H' m',Stp m h.n H m' h'.n H'->Rel K m' h' H'->ItOk K (nxt kd x) J P->P m' h'.n H'->R J H'):lftI K kd fa σ H R:=⟨ρ,h,m,x,h',f,r,e,eo,k⟩
theorem zgn{K:vga}{H H':Hp}{a:Addr}{vs:List V}(kt:∀b vs,H b=some (.tup vs)->H' b=some (.tup vs))(kf:∀b o u,H b=some (.frz o u)->H' b=some (.frz o u))(q:SqT K H a vs):SqT K H' a vs:=by
 rcases q with(q|⟨o,q⟩)|q
 .exact .inl (.inl (kt _ _ q))
 .exact .inl (.inr ⟨o,kf _ _ _ q⟩)
 .exact .inr q
theorem zm2{K:vga}{H H':Hp}{a:Addr}{vs:List V}(kf:∀b o u,H b=some (.frz o u)->H' b=some (.frz o u))(q:Fz K H a vs):Fz K H' a vs:=by
 rcases q with⟨o,q⟩|q
 .exact .inl ⟨o,kf _ _ _ q⟩
 .exact .inr q
theorem zfn{ws:List W}{h:VH}{x:W}{i:Nat}{o:Option W}(e:seqW h x=some ws)(q:nxt .seq x i h=some o):ws[i]?=o:=by
 simp only[nxt,e]at q
 cases q;rfl
theorem zws{K:vga}{a:Addr}{vs:List V}{ws:List W}:ItOk K (nxt .seq (.tup ws)) (Itt K a) (λm n H=>SqT K H a vs/\VReps K m n H vs ws):=by
 refine⟨λm n H m' n' H' hn hm kt kf ⟨q1,q2⟩=>⟨zgn kt kf q1,q2.mono hn hm kt kf⟩,λm h H r ⟨q1,q2⟩ i=>⟨λw e=>?_,λe=>?_⟩⟩
 .have e:=zfn (ws:=ws) rfl e
  obtain⟨v,h1,h2⟩:=q2.get e
  refine⟨⟨vs,v,q1,h1⟩,λy H3 ⟨e3,y3⟩=>?_⟩
  subst e3
  have:=y3 vs q1
  rw[h1]at this;cases this
  exact⟨.refl,r,h2⟩
 .have e:=zfn (ws:=ws) rfl e
  exact⟨vs,q1,by rw[q2.length];exact vbm.mp e⟩
theorem it_fz{K:vga}{a:Addr}{vs:List V}{ws:List W}:ItOk K (nxt .seq (.fz ws)) (Itl K a) (λm n H=>Fz K H a vs/\VReps K m n H vs ws):=by
 refine⟨λm n H m' n' H' hn hm kt kf ⟨q1,q2⟩=>⟨zm2 kf q1,q2.mono hn hm kt kf⟩,λm h H r ⟨q1,q2⟩ i=>⟨λw e=>?_,λe=>?_⟩⟩
 .have e:=zfn (ws:=ws) rfl e
  obtain⟨v,h1,h2⟩:=q2.get e
  refine⟨⟨vs,v,q1.sq,h1⟩,λy H3 ⟨e3,y3⟩=>?_⟩
  subst e3
  have:=y3 vs q1.sq
  rw[h1]at this;cases this
  exact⟨.refl,r,h2⟩
 .have e:=zfn (ws:=ws) rfl e
  exact⟨vs,q1.sq,by rw[q2.length];exact vbm.mp e⟩
theorem zwt{K:vga}{a:Addr}{l:Nat}:ItOk K (nxt .seq (.ref l)) (Itl K a) (λm n H=>l<n/\a=m l):=by
 refine⟨λm n H m' n' H' hn hm kt kf ⟨q1,q2⟩=>⟨vak q1 hn,by rw[hm l q1];exact q2⟩,λm h H r ⟨q1,q2⟩ i=>?_⟩
 subst q2
 cases g:h.get l with
 |none=>exact⟨λw e=>by simp[nxt,seqW,g]at e,λe=>by simp[nxt,seqW,g]at e⟩
 |some o=>
  cases o with
  |dk _=>exact⟨λw e=>by simp[nxt,seqW,g]at e,λe=>by simp[nxt,seqW,g]at e⟩
  |dt _ _=>exact⟨λw e=>by simp[nxt,seqW,g]at e,λe=>by simp[nxt,seqW,g]at e⟩
  |ins _ _ _=>exact⟨λw e=>by simp[nxt,seqW,g]at e,λe=>by simp[nxt,seqW,g]at e⟩
  |lst ws=>
   have hs:seqW h (.ref l)=some ws:=by simp[seqW,g]
   obtain⟨vs,p1,p2⟩:=r.lst g
   refine⟨λw e=>?_,λe=>?_⟩
   .have e:=zfn hs e
    obtain⟨v,h1,h2⟩:=p2.get e
    refine⟨⟨vs,v,SqL.of p1,h1⟩,λy H3 ⟨e3,y3⟩=>?_⟩
    subst e3
    have:=y3 vs (SqL.of p1)
    rw[h1]at this;cases this
    exact⟨.refl,r,h2⟩
   .have e:=zfn hs e
    exact⟨vs,SqL.of p1,by rw[p2.length];exact vbm.mp e⟩
theorem zwu{K:vga}{kd:Kd}{x:W}{lo:Int}{k:Nat}(hx:∀i h,nxt kd x i h=some (if i<k then some (.int (lo+i))else none)):ItOk K (nxt kd x) (Itr lo k) (λ_ _ _=>True):=by
 refine⟨λ_ _ _ _ _ _ _ _ _ _ _=>trivial,λm h H r _ i=>⟨λw e=>?_,λe=>?_⟩⟩
 .rw[hx]at e
  split at e
  .rename_i hi
   cases e
   refine⟨hi,λy H3 ⟨e3,y3⟩=>?_⟩
   subst e3 y3
   exact⟨.refl,r,.int _⟩
  .cases e
 .rw[hx]at e
  split at e
  .cases e
  .rename_i hi
   exact vci.mp hi
theorem zq6{tg:Expr}(ha:SE X e fa):PI X tg e (lftI X.K .seq fa):=λpins s σ H R I z9=>z9.el λρ h m x h' f r ee o en k=>by
 have hs:∃ws,seqW h' x=some ws:=by
  cases z:seqW h' x with
  |none=>simp[nxt,z]at en
  |some ws=>exact⟨ws,rfl⟩
 obtain⟨ws,hs⟩:=hs
 cases x<;>try cases hs
 .exact zu1 ha pins s σ H R I (.mk f r ee λv H' m' s' r' q=>by
   cases q with
   |tup sq rs=>exact⟨_,rfl,⟨_,sq⟩,k _ _ H' m' s' r' zws ⟨sq,rs⟩⟩)
 .exact zl0 ha pins s σ H R I (.mk f r ee λv H' m' s' r' q=>by
   cases q with
   |fz sq rs=>exact⟨_,rfl,⟨_,sq.sq⟩,k _ _ H' m' s' r' it_fz ⟨sq,rs⟩⟩)
 .rename_i l
  exact zl0 ha pins s σ H R I (.mk f r ee λv H' m' s' r' q=>by
   obtain⟨p,vs,e1,e2,e3⟩:=zdn r' q hs
   cases q with
   |ref hi=>
    cases g:h'.get l with
    |none=>simp[seqW,g]at hs
    |some ob=>
     cases ob with
     |dk _=>simp[seqW,g]at hs
     |dt _ _=>simp[seqW,g]at hs
     |ins _ _ _=>simp[seqW,g]at hs
     |lst ws'=>
      obtain⟨vs',p1,_⟩:=r'.lst g
      exact⟨_,rfl,⟨_,SqL.of p1⟩,k _ _ H' m' s' r' zwt ⟨hi,rfl⟩⟩)
theorem zs3{tg:Expr}(ha:SA X [e] fa)(hs:zay e=true)(hg:Gl X "range")(hm:X.mg "range" = none):PI X tg (.Call (.Name "range" p) [e] [] pos) (lftI X.K .rng1 fa):=λpins s σ H R I z9=>z9.el λρ h m x h' f r ee o en k=>by
 simp only[nxt]at en
 split at en
 .rename_i j
  split at en
  .rename_i hf
   refine zl1 hg hm ha (zai hs) pins s σ H R I (.mk f r ee λvs H' m' s' r' q=>?_)
   obtain⟨v,rfl,q1⟩:=reps1 q
   cases q1
   refine⟨_,rfl,(zi0 hf).1,(zi0 hf).2,k _ _ H' m' s' r' (zwu λi h=>?_) trivial⟩
   simp only[nxt,hf,va3]
   split<;>split<;>first|rfl|(exfalso;simp at *;omega)
  .cases en
 .cases en
theorem zpv{elts:List Expr}{kx:Nat}{tp:Pos}{l:Expr}{ta:TA}(hg:Gl X "enumerate")(hm:X.mg "enumerate" = none)(hv:bootBuiltins "enumerate" = some (.type "enumerate"))(ha:PA X [l] ta)(hs:starEach [l] X.env=[(false,eval l X.env)]) :
 PI X (.Tuple elts kx tp) (.Call (.Name "enumerate" p) [l] [] pos) (λσ H R=>ta σ H λvs H1=>∃a,vs=[.ref a]/\(∃xs,SqT X.K H1 a xs)/\R (IteT X.K a) H1):=by
 intro pins s σ H R I h
 refine Call_ (zfe I hg hm hv (vcr (thn (ha pos pins s σ H _ I h) λus s1 ⟨vs,H1,I1,r1,q1⟩=>?_) hs rfl))
 obtain⟨a,e,⟨xs,hq⟩,q⟩:=q1
 subst e
 obtain⟨u,rfl,ru⟩:=vals1 r1
 cases ru
 obtain⟨its,rv,pl,hz⟩:=I1.tuple hq
 have pl:s1.heap.IsTuple a its.toArray:=pl
 have hlt:a<s1.heap.objs.size:=by obtain⟨o,q,_⟩:=pl;exact vaq q
 refine zk7 pl λh' he hit hsz kk=>wpAny_pyIter_enum he ?_
 have hf:∀b,s1.heap.objs.size<=b->FpOk X pins H1 b:=λb hb=>I1.fpOk hb (I1.hok.fresh hb)
 refine⟨s1.heap.objs.size+1,[s1.heap.objs.size+1,s1.heap.objs.size],_,_,H1,rfl,I1.kept (t':=s1.toks) kk,zk8 a _ _ (vck (vbo _)) (va4 (Nat.lt_succ_of_lt hlt)) (va4 hlt),⟨⟨_,he⟩,hit⟩,λb hb=>hf b ?_,q⟩
 rcases vax.mp hb with rfl|hb
 .exact vdf _
 .have e':b=s1.heap.objs.size:=by simpa using hb
  rw[e'];exact vai _
theorem zq7{ws:List W}{h:VH}{i:Nat}{o:Option W}(q:nxt .enm (.tup ws) i h=some o):o=(ws[i]?).map λw=>.tup [.int i,w]:=by
 cases q;rfl
theorem zs4{K:vga}{a:Addr}{vs:List V}{ws:List W}:ItOk K (nxt .enm (.tup ws)) (IteT K a) (λm n H=>SqT K H a vs/\VReps K m n H vs ws):=by
 refine⟨λm n H m' n' H' hn hm kt kf ⟨q1,q2⟩=>⟨zgn kt kf q1,q2.mono hn hm kt kf⟩,λm h H r ⟨q1,q2⟩ i=>⟨λw e=>?_,λe=>?_⟩⟩
 .have e:=zq7 (ws:=ws) e
  cases z:ws[i]? with
  |none=>rw[z]at e;cases e
  |some w0=>
   rw[z]at e;cases e
   obtain⟨v,h1,h2⟩:=q2.get z
   refine⟨⟨vs,v,q1,h1⟩,λy H3 ⟨T,v3,e1,e2,e3,y3⟩=>?_⟩
   subst e1 e3
   have:=y3 vs q1
   rw[h1]at this;cases this
   obtain⟨st,r'⟩:=r.more (u:=.tup [.int i,v]) e2
   exact⟨st,r',.tup (SqT.of zaq) (.cons (.int _) (.cons (h2.stp st) .nil))⟩
 .have e:=zq7 (ws:=ws) e
  cases z:ws[i]? with
  |some w0=>rw[z]at e;cases e
  |none=>exact⟨vs,q1,by rw[q2.length];exact vbm.mp z⟩
theorem zm3:bootBuiltins "enumerate" = some (.type "enumerate"):=by decide +kernel
theorem zwv(ha:SE X e fa)(hs:zay e=true):PA X [e] (λσ H Q=>lft X.K fa σ H λv H1=>Q [v] H1):=λp pins s σ H Q I q=>by
 refine zej ha zjo (zai hs) p pins s σ H Q I ?_
 refine q.el λρ h m w h' f r ee k=>?_
 exact(.mk f r ee λv H' m' s' r' q'=>k v H' m' s' r' q')
theorem zww{elts:List Expr}{kx:Nat}{tp:Pos}(ha:SE X e fa)(hs0:zay e=true)(hg:Gl X "enumerate")(hm:X.mg "enumerate" = none):PI X (.Tuple elts kx tp) (.Call (.Name "enumerate" p) [e] [] pos) (lftI X.K .enm fa):=λpins s σ H R I z9=>z9.el λρ h m x h' f r ee o en k=>by
 cases x with
 |tup ws=>exact zpv hg hm zm3 (zwv ha hs0) (zai hs0) pins s σ H R I ⟨ρ,h,m,_,h',f,r,ee,λv H' m' s' r' q=>by
  cases q with
  |tup sq rs=>exact⟨_,rfl,⟨_,sq⟩,k _ _ H' m' s' r' zs4 ⟨sq,rs⟩⟩⟩
 |_=>cases en
theorem zwx{elts:List Expr}{kx:Nat}{tp:Pos}{l l2:Expr}{ta:TA}(hg:Gl X "zip")(hm:X.mg "zip" = none)(ha:PA X [l,l2] ta)(hs:starEach [l,l2] X.env=[(false,eval l X.env),(false,eval l2 X.env)])(hs2:starEach [l2] X.env=[(false,eval l2 X.env)]) :
 PI X (.Tuple elts kx tp) (.Call (.Name "zip" p) [l,l2] [] pos) (λσ H R=>ta σ H λvs H1=>∃b c a1 a2,vs=[.ref a1,.ref a2]/\(∃xs,SqB b X.K H1 a1 xs)/\(∃ys,SqB c X.K H1 a2 ys)/\R (IteZ X.K b c a1 a2) H1):=by
 intro pins s σ H R I h
 refine Call_ (zfe I hg hm PyProof.Rows.boot_zip (vcr (thn (ha pos pins s σ H _ I h) λus s1 ⟨vs,H1,I1,r1,q1⟩=>?_) (by rw[hs,hs2]) (by rw[hs2];rfl)))
 obtain⟨b,c,a1,a2,e,⟨xs,hq⟩,⟨ys,hr⟩,q⟩:=q1
 subst e
 cases r1 with
 |cons r rr=>
  cases rr with
  |cons r' rr=>
   cases rr
   cases r
   cases r'
   obtain⟨its,_,pl,_⟩:=zfl I1 hq
   obtain⟨jts,_,pl2,_⟩:=zfl I1 hr
   refine zsq pl pl2 λh' e1 e2 e3 e4 e5 hsz kk=>wpAny_pyIter_zip e1 ?_
   have hf:∀b,s1.heap.objs.size<=b->FpOk X pins H1 b:=λb hb=>I1.fpOk hb (I1.hok.fresh hb)
   refine⟨s1.heap.objs.size+4,_,_,_,H1,rfl,I1.kept (t':=s1.toks) kk,zpn a1 a2 _ _ _ _ _ (zvr pl.lt pl2.lt),⟨e1,e2,⟨_,_,e3⟩,e4,e5⟩,λb hb=>hf b ?_,q⟩
   simp only[vax,List.not_mem_nil,or_false]at hb
   rcases hb with rfl|rfl|rfl|rfl|rfl
   .exact vcz _ _
   .exact vcz _ _
   .exact vcz _ _
   .exact vai _
   .exact vcz _ _
noncomputable def Src(K:vga)(b:Bool)(a:Addr)(u:W)(P:(Nat->Addr)->Nat->Hp->Prop):Prop:=
 (∀m n H m' n' H',n<=n'->(∀i,i<n->m' i=m i)->(∀b vs,H b=some (.tup vs)->H' b=some (.tup vs))->(∀b o u,H b=some (.frz o u)->H' b=some (.frz o u))->P m n H->P m' n' H')/\
 ∀m h H ws,Rel K m h H->P m h.n H->seqW h u=some ws->∃vs,SqB b K H a vs/\VReps K m h.n H vs ws
theorem zq8{K:vga}{m:Nat->Addr}{h:VH}{H:Hp}{v:V}{u:W}{ws:List W}(r:Rel K m h H)(q:VRep K m h.n H v u)(e:seqW h u=some ws):∃b a P,v=.ref a/\Src K b a u P/\P m h.n H/\∃xs,SqB b K H a xs:=by
 cases q with
 |non=>cases e
 |bl b=>cases e
 |int b=>cases e
 |str b=>cases e
 |tup sq rs=>exact⟨true,_,λm n H=>SqT K H _ _/\VReps K m n H _ _,rfl,⟨λm n H m' n' H' hn hm kt kf ⟨q1,q2⟩=>⟨zgn kt kf q1,q2.mono hn hm kt kf⟩,λm h H ws _ ⟨q1,q2⟩ z=>by cases z;exact⟨_,q1,q2⟩⟩,⟨sq,rs⟩,_,sq⟩
 |fz sq rs=>exact⟨false,_,λm n H=>Fz K H _ _/\VReps K m n H _ _,rfl,⟨λm n H m' n' H' hn hm kt kf ⟨q1,q2⟩=>⟨zm2 kf q1,q2.mono hn hm kt kf⟩,λm h H ws _ ⟨q1,q2⟩ z=>by cases z;exact⟨_,q1.sq,q2⟩⟩,⟨sq,rs⟩,_,sq.sq⟩
 |ref hi=>
  rename_i l
  have key:∀m (h:VH) H ws,Rel K m h H->seqW h (.ref l)=some ws->∃vs,H (m l)=some (.lst vs)/\VReps K m h.n H vs ws:=λm h H ws r z=>by
   cases g:h.get l with
   |none=>simp[seqW,g]at z
   |some o=>
    cases o with
    |dk _=>simp[seqW,g]at z
    |dt _ _=>simp[seqW,g]at z
    |ins _ _ _=>simp[seqW,g]at z
    |lst ws'=>
     have:ws'=ws:=by simpa[seqW,g]using z
     subst this
     exact r.lst g
  obtain⟨vs,p1,_⟩:=key m h H ws r e
  refine⟨false,_,λm' n _=>l<n/\m l=m' l,rfl,⟨λm1 n H m' n' H' hn hm kt kf ⟨q1,q2⟩=>⟨vak q1 hn,by rw[hm l q1];exact q2⟩,λm1 h H ws r' ⟨q1,q2⟩ z=>?_⟩,⟨hi,rfl⟩,vs,SqL.of p1⟩
  obtain⟨vs,g1,g2⟩:=key m1 h H ws r' z
  rw[q2]
  exact⟨vs,SqL.of g1,g2⟩
theorem zm4{u v:W}{h:VH}{i:Nat}{o:Option W}(q:nxt .zip (.tup [u,v]) i h=some o):∃ws zs,seqW h u=some ws/\seqW h v=some zs/\o=(match ws[i]?,zs[i]? with|some a,some b=>some (.tup [a,b])|_,_=>none):=by
 simp only[nxt]at q
 split at q
 .rename_i ws zs h1 h2
  cases q
  exact⟨ws,zs,h1,h2,rfl⟩
 .cases q
theorem zwy{K:vga}{b c:Bool}{a1 a2:Addr}{u v:W}{P1 P2:(Nat->Addr)->Nat->Hp->Prop}(s1:Src K b a1 u P1)(s2:Src K c a2 v P2):ItOk K (nxt .zip (.tup [u,v])) (IteZ K b c a1 a2) (λm n H=>P1 m n H/\P2 m n H):=by
 refine⟨λm n H m' n' H' hn hm kt kf ⟨q1,q2⟩=>⟨s1.1 m n H m' n' H' hn hm kt kf q1,s2.1 m n H m' n' H' hn hm kt kf q2⟩,λm h H r ⟨q1,q2⟩ i=>⟨λw e=>?_,λe=>?_⟩⟩
 .obtain⟨ws,zs,e1,e2,e3⟩:=zm4 e
  obtain⟨xs,g1,g2⟩:=s1.2 m h H ws r q1 e1
  obtain⟨ys,g3,g4⟩:=s2.2 m h H zs r q2 e2
  cases z1:ws[i]? with
  |none=>rw[z1]at e3;cases e3
  |some w1=>
   cases z2:zs[i]? with
   |none=>rw[z1,z2]at e3;cases e3
   |some w2=>
    rw[z1,z2]at e3;cases e3
    obtain⟨v1,k1,k2⟩:=g2.get z1
    obtain⟨v2,k3,k4⟩:=g4.get z2
    refine⟨⟨xs,ys,v1,v2,g1,g3,k1,k3⟩,λy H3 ⟨T,x3,y3,f1,f2,f3,f4,f5⟩=>?_⟩
    subst f1 f3
    have t1:=f4 xs g1
    have t2:=f5 ys g3
    rw[k1]at t1;cases t1
    rw[k3]at t2;cases t2
    obtain⟨st,r'⟩:=r.more (u:=.tup [v1,v2]) f2
    exact⟨st,r',.tup (SqT.of zaq) (.cons (k2.stp st) (.cons (k4.stp st) .nil))⟩
 .obtain⟨ws,zs,e1,e2,e3⟩:=zm4 e
  obtain⟨xs,g1,g2⟩:=s1.2 m h H ws r q1 e1
  obtain⟨ys,g3,g4⟩:=s2.2 m h H zs r q2 e2
  refine⟨xs,ys,g1,g3,?_⟩
  cases z1:ws[i]? with
  |none=>exact .inl (by rw[g2.length];exact vbm.mp z1)
  |some w1=>
   cases z2:zs[i]? with
   |none=>exact .inr (by rw[g4.length];exact vbm.mp z2)
   |some w2=>rw[z1,z2]at e3;cases e3
theorem zwz{elts:List Expr}{kx:Nat}{tp:Pos}(ha:SA X [a,b] fa)(hs:zay a=true)(hs2:zay b=true)(hg:Gl X "zip")(hm:X.mg "zip" = none):PI X (.Tuple elts kx tp) (.Call (.Name "zip" p) [a,b] [] pos) (lftI X.K .zip fa):=λpins s σ H R I z9=>z9.el λρ h m x h' f r ee o en k=>by
 have hx:∃u v,x=.tup [u,v]:=by
  simp only[nxt]at en
  split at en
  .exact⟨_,_,rfl⟩
  .cases en
 obtain⟨u,v,rfl⟩:=hx
 obtain⟨ws,zs,e1,e2,_⟩:=zm4 en
 refine zwx hg hm ha (by rw[zai hs,zai hs2];rfl) (zai hs2) pins s σ H R I (.mk f r ee λvs H' m' s' r' q=>?_)
 obtain⟨v1,v2,rfl,q1,q2⟩:=reps2 q
 obtain⟨b1,a1,P1,rfl,o1,p1,x1⟩:=zq8 r' q1 e1
 obtain⟨b2,a2,P2,rfl,o2,p2,x2⟩:=zq8 r' q2 e2
 exact⟨b1,b2,a1,a2,rfl,x1,x2,k _ _ H' m' s' r' (zwy o1 o2) ⟨p1,p2⟩⟩
end
section
variable{X:Cx}{a b c e o:Expr}{es:List Expr}{fa fb fc fo fr:FE}{pos p:Pos}{x:Str}
noncomputable def lftG(K:vga)(t:Tg):TG:=λv σ H Q=>∃ρ h m w ρ',Fr K m h.n H σ ρ/\Rel K m h H/\VRep K m h.n H v w/\tgW t w h ρ=some ρ'/\∀σ',Fr K m h.n H σ' ρ'->Q σ' H
theorem lftG.el{K:vga}{v:V}{σ:L2.St}{H:Hp}{P:Prop}{tg:Tg}{Q}(q:lftG K tg v σ H Q)(k:∀ρ h m w ρ',Fr K m h.n H σ ρ->Rel K m h H->VRep K m h.n H v w->tgW tg w h ρ=some ρ'->(∀σ',Fr K m h.n H σ' ρ'->Q σ' H)->P):P:=by
 obtain⟨ρ,h,m,w,h',f,r,e,eo,k'⟩:=q
 exact k ρ h m w h' f r e eo k'
theorem lftG.mk{K:vga}{v:V}{σ:L2.St}{H:Hp}{m:Nat->Addr}{ρ ρ':En}{h:VH}{w:W}{tg:Tg}{Q}(f:Fr K m h.n H σ ρ)(r:Rel K m h H)(e:VRep K m h.n H v w)(eo:tgW tg w h ρ=some ρ')(k:∀σ',Fr K m h.n H σ' ρ'->Q σ' H):lftG K tg v σ H Q:=⟨ρ,h,m,w,ρ',f,r,e,eo,k⟩
theorem zw0{i:Nat}(hN:X.N.Nodup)(hi:X.N[i]?=some x)(hx:Loc X.env.scope x)(hf:X.fn x=true\/X.env.scope.names.lookup x=some .local):PG X (.Name x pos) (lftG X.K (.one i)):=λpins s σ H v u Q I ru z9=>z9.el λρ h m w ρ' f r q e k=>by
 cases e
 exact zly hN hi hx hf pins s σ H v u Q I ru (k _ (f.set q i))
noncomputable def NmOk(X:Cx)(e:Expr)(i:Nat):Prop:=∃x p,e=.Name x p/\X.N[i]?=some x/\Loc X.env.scope x/\(X.fn x=true\/X.env.scope.names.lookup x=some .local)
noncomputable def lftGs(K:vga)(is:List Nat):TGs:=λvs σ H Q=>∃ρ m n ws ρ',Fr K m n H σ ρ/\VReps K m n H vs ws/\za1 is ws ρ=some ρ'/\∀σ',Fr K m n H σ' ρ'->Q σ' H
theorem zq9(hN:X.N.Nodup):∀{es:List Expr} {is:List Nat},Paired (NmOk X) es is->PGs X es (lftGs X.K is)/\(assignEach es X.env).length=es.length/\(assignEach es X.env).findIdx? (·.1)=none
 |_,_,.nil=>by
  refine⟨λpins s σ H vs us Q I ru ⟨ρ,m,n,ws,ρ',f,q,e,k⟩=>?_,rfl,rfl⟩
  cases ws with
  |nil=>cases e;cases q;exact zrz pins s σ H [] us Q I ru ⟨rfl,k _ f⟩
  |cons _ _=>cases e
 |e::es,i::is,.cons ⟨x,p,he,hi,hx,hf⟩ t=>by
  subst he
  obtain⟨h1,h2,h3⟩:=zq9 hN t
  refine⟨λpins s σ H vs us Q I ru ⟨ρ,m,n,ws,ρ',f,q,e,k⟩=>?_,?_,?_⟩
  .cases q with
   |nil=>cases e
   |cons q qs=>
    exact zox (zly hN hi hx hf) h1 rfl pins s σ H _ us Q I ru ⟨_,_,rfl,ρ.set i (some _),m,n,_,ρ',f.set q i,qs,e,k⟩
  .show(assignEach es X.env).length+1=es.length+1
   rw[h2]
  .show List.findIdx? _ ((false,_)::assignEach es X.env)=none
   rw[List.findIdx?_cons,h3];rfl
theorem zfo:∀{is:List Nat} {ws:List W} {ρ ρ':En},za1 is ws ρ=some ρ'->ws.length=is.length
 |[],[],_,_,_=>rfl
 |[],_::_,_,_,e=>by cases e
 |_::_,[],_,_,e=>by cases e
 |_::_,_::_,_,_,e=>by
  rw[vap,vap,zfo (by simpa only[za1]using e)]
theorem zw1{t:TGs}{n k:Nat}(hc:X.calm=true)(h:PGs X es t)(hn:(assignEach es X.env).length=n)(hst:(assignEach es X.env).findIdx? (·.1)=none) :
 PG X (.Tuple es k pos) (λv σ H Q=>∃a xs,v=.ref a/\SqL X.K H a xs/\xs.length=n/\t xs σ H Q):=by
 intro pins s σ H v u Q I r hw
 obtain⟨a,xs,rfl,hq,hl,hw⟩:=hw
 cases r
 obtain⟨its,rv,ht,hz⟩:=I.list hq
 rw[assign_Tuple]
 refine vaa (veb ?_)
 unfold unpack
 have hsz:(assignEach es X.env).length=its.toArray.size:=by rw[hn,<-hl,rv.length,van]
 rw[hst,hsz]
 refine vaa (vcx (PySem.W.kun_itemsOf (I.ok.hd hc) ht.isList λh' hx=>?_))
 have I1:Inv X pins σ H {s with heap:=h'}:=I.kept (t':=s.toks) λb o e=>hx b o (va4 (vaq e)) e
 exact h pins _ σ H xs _ Q I1 (by simpa using rv) hw
theorem zm5{is:List Nat}{k:Nat}(hc:X.calm=true)(hN:X.N.Nodup)(hs:Paired (NmOk X) es is):PG X (.Tuple es k pos) (lftG X.K (.many is)):=λpins s σ H v u Q I ru z9=>z9.el λρ h m w ρ' f r q e k=>by
 obtain⟨h1,h2,h3⟩:=zq9 hN hs
 simp only[tgW]at e
 cases z:seqW h w with
 |none=>rw[z]at e;cases e
 |some ws=>
  rw[z]at e
  have e:za1 is ws ρ=some ρ':=e
  obtain⟨p,vs,rfl,hq,qs⟩:=zdn r q z
  have hl:vs.length=es.length:=by rw[qs.length,zfo e,hs.length]
  rcases hq with hq|hq
  .exact zw1 hc h1 h2 h3 pins s σ H _ u Q I ru ⟨p,vs,rfl,hq,hl,ρ,m,h.n,ws,ρ',f,qs,e,k⟩
  .exact zuv hc h1 h2 h3 pins s σ H _ u Q I ru ⟨p,vs,rfl,hq,hl,ρ,m,h.n,ws,ρ',f,qs,e,k⟩
theorem zpw{K:vga}{m:Nat->Addr}{n:Nat}{H:Hp}{σ:L2.St}{ρ:En}{ow fr:List Str}{ix:List Nat}(f:Fr K m n H σ ρ):Fr K m n H (cσ ow fr ix σ) (inner ow.length ix ρ):=by
 unfold cσ inner
 refine⟨by simp,λi w e=>?_⟩
 by_cases hi:i<ow.length
 .rw[vbg (by simpa using hi)]at e
  rw[vco]at e
  split at e<;>cases e
 .rw[vau (by simpa using vci.mp hi)]at e
  rw[vau (by simpa using vci.mp hi)]
  simp only[vcl,vab]at e ⊢
  rw[va2]at e ⊢
  cases z:ix[i-ow.length]? with
  |none=>rw[z]at e;cases e
  |some j=>
   rw[z]at e
   simp only[va1,Option.some.injEq]at e ⊢
   have e3:ρ[j]?=some (some w):=by
    cases q:ρ[j]? with
    |none=>rw[q]at e;cases e
    |some o=>rw[q]at e;rw[<-e];rfl
   obtain⟨v,h1,h2⟩:=f.val j w e3
   exact⟨v,by rw[h1];rfl,h2⟩
theorem zi4{nx:Nat->VH->Option (Option W)}{tg:W->VH->En->Option En}{c e:FE}:∀{f i:Nat} {ρ:En} {h:VH} {acc ys:List W} {h':VH},lcG nx tg c e f i ρ h acc=.ok ys h'->acc.length<=ys.length
 |0,_,_,_,_,_,_,q=>by cases q
 |f+1,i,ρ,h,acc,ys,h',q=>by
  simp only[lcG]at q
  split at q
  .cases q
  .cases q;simp
  .split at q
   .cases q
   .refine zad q λb h1 e1 e2=>?_
    split at e2
    .refine zad e2 λy h2 e3 e4=>?_
     have:=zi4 e4
     rw[vap]at this
     omega
    .exact zi4 e2
    .cases e2
theorem zw2{nx:Nat->VH->Option (Option W)}{tg:W->VH->En->Option En}{c e:FE}{f i:Nat}{ρ:En}{h:VH}{acc ys:List W}{h':VH}(q:lcG nx tg c e (f+1) i ρ h acc=.ok ys h'):∃o,nx i h=some o:=by
 simp only[lcG]at q
 split at q
 .cases q
 .exact⟨_,by assumption⟩
 .exact⟨_,by assumption⟩
theorem zpx{H:Hp}{a:Addr}{o:HO}(h:H a=some o):upd H a o=H:=by
 funext b
 unfold upd
 split
 .rename_i e;rw[e,h]
 .rfl
noncomputable abbrev gLc(kd:Kd)(fa:FE)(t:Tg)(ow:Nat)(ix:List Nat)(fc fe:FE):FE:=λρ h=>(fa ρ h).bind λx h=>(lcG (nxt kd x) (tgW t) fc fe fuel 0 (inner ow ix ρ) h []).bind λys h=>if Nat.ble ys.length big then .ok (.ref h.n) (h.new (.lst ys))else .no
theorem lc_ok{K:vga}{kd:Kd}{t:Tg}{ow fr:List Str}{ix:List Nat}{fe:FE}{σ:L2.St}{H:Hp}{Q:VK}(q:lft K (gLc kd fa t ow.length ix fc fe) σ H Q):tLC K (cσ ow fr ix) (lftI K kd fa) (lftG K t) (lftT K fc) (lft K fe) σ H Q:=by
 refine q.el λρ h m w h' f r e k=>?_
 refine zad e λx h1 e1 e2=>?_
 refine zad e2 λys h2 e3 e4=>?_
 split at e4
 case isFalse=>cases e4
 rename_i hz
 cases e4
 have hz:=va5 hz
 refine(.mk f r e1 ?_ λJ P H1 m1 s1 r1 J1 p1 D hD hK=>?_)
 .exact zw2 (f:=999999) e3
 obtain⟨st0,r0⟩:=r1.more (u:=.lst []) hD
 have p0:=J1.1 m1 h1.n H1 m1 h1.n (upd H1 D (.lst [])) (vai _) (λ_ _=>rfl) (λb vs q=>st0.tup b vs q) (λb o u q=>st0.frz b o u q) p1
 refine⟨λi fl σ' H' vs=>∃ρ' h3 m3 acc,lcG (nxt kd x) (tgW t) fc fe fl i ρ' h3 acc=.ok ys h2/\Fr K m3 h3.n H' σ' ρ'/\Rel K m3 h3 H'/\H' D=some (.lst vs)/\VReps K m3 h3.n H' vs acc.reverse/\(∀i,i<h3.n->m3 i≠D)/\Stp m1 h1.n H1 m3 h3.n H'/\P m3 h3.n H',
  ⟨fuel,inner ow.length ix ρ,h1,m1,[],e3,zpw ((f.stp s1).stp st0),r0,zaq,.nil,r1.out hD,st0,p0⟩,?_⟩
 rintro i fl σ' H' vs ⟨ρ',h3,m3,acc,e5,f3,r3,d3,q3,o3,s3,p3⟩
 refine⟨d3,?_⟩
 cases fl with
 |zero=>cases e5
 |succ fl=>
  simp only[lcG]at e5
  obtain⟨j1,j2⟩:=J1.2 m3 h3 H' r3 p3 i
  split at e5
  .cases e5
  .rename_i hn
   cases e5
   refine .inl ⟨j2 hn,?_⟩
   obtain⟨st,r'⟩:=r3.adopt (o:=.lst acc.reverse) (u:=.lst vs) o3 d3 (λ_ z=>nomatch z) (λ_ _ z=>nomatch z) (s1.trans s3) (by
    cases z:H D with
    |none=>rfl
    |some o=>
     have:=s1.keep D o (λi hi z2=>(r1.out hD) i (vak hi s1.le) ((s1.same i hi).trans z2)) z
     rw[hD]at this;cases this) λ_ mv=>⟨_,zaq,q3.map mv⟩
   rw[zpx d3]at st r'
   refine k _ _ _ st r' ?_
   have:VRep K (λi=>if i=h2.n then D else m3 i) (h2.n+1) H' (.ref ((λi=>if i=h2.n then D else m3 i) h2.n)) (.ref h2.n):=.ref (vbo _)
   simp only[va3]at this
   exact this
  .rename_i w hn
   obtain⟨j3,j4⟩:=j1 w hn
   refine .inr ⟨j3,λy H4 hy=>?_⟩
   obtain⟨s4,r4,q4⟩:=j4 y H4 hy
   split at e5
   .cases e5
   .rename_i ρ5 ht
    refine⟨ρ',h3,m3,w,ρ5,f3.stp s4,r4,q4,ht,λσ5 f5=>?_⟩
    refine zad e5 λbv h6 e6 e7=>?_
    have d4:H4 D=some (.lst vs):=s4.keep D _ o3 d3
    have s14:=s3.trans s4
    have p4:=J1.1 m3 h3.n H' m3 h3.n H4 (vai _) (λ_ _=>rfl) (λb vs q=>s4.tup b vs q) (λb o u q=>s4.frz b o u q) p3
    cases bv<;>try cases e7
    rename_i bb
    refine⟨ρ5,h3,m3,bb,h6,f5,r4,e6,λH6 m6 s6 r6=>?_⟩
    have o6:=s6.out o3 d4
    have d6:H6 D=some (.lst vs):=s6.keep D _ o3 d4
    have p6:=J1.1 m3 h3.n H4 m6 h6.n H6 s6.le s6.same (λb vs q=>s6.tup b vs q) (λb o u q=>s6.frz b o u q) p4
    cases bb with
    |false=>
     simp only[vam,vbb]
     exact⟨fl,vbo _,ρ5,h6,m6,acc,e7,f5.stp s6,r6,d6,(q3.stp s4).stp s6,o6,s14.trans s6,p6⟩
    |true=>
     simp only[va3]
     refine zad e7 λy7 h7 e8 e9=>?_
     refine⟨ρ5,h6,m6,y7,h7,f5.stp s6,r6,e8,λv7 H7 m7 s7 r7 q7=>?_⟩
     have o7:=s7.out o6 d6
     have d7:H7 D=some (.lst vs):=s7.keep D _ o6 d6
     have p7:=J1.1 m6 h6.n H6 m7 h7.n H7 s7.le s7.same (λb vs q=>s7.tup b vs q) (λb o u q=>s7.frz b o u q) p6
     have q37:=((q3.stp s4).stp s6).stp s7
     have hlen:=zi4 e9
     rw[vap]at hlen
     refine⟨d7,?_,fl,vbo _,ρ5,h7,m7,y7::acc,e9,?_⟩
     .rw[q37.length,vb6]
      have:big=sizeLine:=rfl
      omega
     .obtain⟨st8,r8,mv⟩:=r7.side (u:=.lst (vs++[v7])) d7 (λ_ z=>nomatch z) (λ_ _ z=>nomatch z) o7 ((s14.trans s6).trans s7) hD
      have kt:∀b us,H7 b=some (.tup us)->upd H7 D (.lst (vs++[v7])) b=some (.tup us):=λb us q=>by rw[zag (ne_of q d7 λz=>nomatch z)];exact q
      have kf:∀b o u,H7 b=some (.frz o u)->upd H7 D (.lst (vs++[v7])) b=some (.frz o u):=λb o u q=>by rw[zag (ne_of q d7 λz=>nomatch z)];exact q
      refine⟨⟨(f5.stp s6).len,λi w e=>let⟨v,h1,h2⟩:=((f5.stp s6).stp s7).val i w e;⟨v,h1,mv h2⟩⟩,r8,zaq,?_,o7,st8,J1.1 m7 h7.n H7 m7 h7.n _ (vai _) (λ_ _=>rfl) kt kf p7⟩
      rw[vda]
      exact(q37.map mv).append (.cons (mv q7) .nil)
end
noncomputable def Grow(h h':VH):Prop:=h.n<=h'.n/\h'.lo<=h.lo/\∀i,i<h.n->i<h'.lo->h'.get i=h.get i
theorem Grow.refl{h:VH}:Grow h h:=⟨vai _,vai _,λ_ _ _=>rfl⟩
theorem Grow.trans{h h1 h2:VH}(a:Grow h h1)(b:Grow h1 h2):Grow h h2:=⟨vbx a.1 b.1,vbx b.2.1 a.2.1,λi hi hl=>(b.2.2 i (vak hi a.1) hl).trans (a.2.2 i hi (vak hl b.2.1))⟩
theorem Grow.new{h:VH}{o:VO}:Grow h (h.new o):=⟨vdf _,vai _,λi hi _=>zak hi⟩
theorem Grow.set{h:VH}{i:Nat}{o:VO}(hi:i<h.n):Grow h (h.set i o):=by
 refine⟨vai _,?_,λj hj hl=>zdl hi ?_⟩
 .show(if Nat.blt i h.lo then i else h.lo)<=h.lo
  split
  .rename_i q;exact vdr (zan.mp q)
  .exact vai _
 .have hl:j< (if Nat.blt i h.lo then i else h.lo):=hl
  split at hl
  .omega
  .rename_i q
   intro z
   rw[z]at hl
   exact q (zan.mpr hl)
noncomputable def Gr{α:Type}(r:Res α)(h:VH):Prop:=∀a h',r=.ok a h'->Grow h h'
section
variable{α β:Type}{h:VH}
theorem Gr.ok{a:α}:Gr (Res.ok a h) h:=λ_ _ e=>by cases e;exact .refl
theorem Gr.no:Gr (Res.no:Res α) h:=λ_ _ e=>by cases e
theorem Gr.of{o:Option α}:Gr (Res.of o h) h:=λ_ _ e=>by cases o with|none=>cases e|some a=>cases e;exact .refl
theorem Gr.new{a:α}{o:VO}:Gr (Res.ok a (h.new o)) h:=λ_ _ e=>by cases e;exact .new
theorem Gr.set{a:α}{o o':VO}{i:Nat}(g:h.get i=some o'):Gr (Res.ok a (h.set i o)) h:=λ_ _ e=>by cases e;exact .set (zao g)
theorem Gr.bind{r:Res α}{f:α->VH->Res β}(a:Gr r h)(b:∀x h1,Gr (f x h1) h1):Gr (r.bind f) h:=λy h' e=>by
 cases r with
 |ok x h1=>exact(a x h1 rfl).trans (b x h1 y h' e)
 |ex _ _=>cases e
 |no=>cases e
end
theorem gr_op{o:Op}{x y:W}{h:VH}:Gr (opW o x y h) h:=by
 unfold opW
 split
 .exact .of
 .exact .of
 .exact .of
 .split
  .split
   .exact .new
   .exact .no
  .exact .no
 .exact .no
theorem gr_ip{o:Op}{x y:W}{h:VH}:Gr (ipW o x y h) h:=by
 unfold ipW
 split
 .split
  .exact .ok
  .exact .no
 .exact .no
theorem zw3{x:W}{l u:Option Int}{h:VH}:Gr (slcW x l u h) h:=by
 unfold slcW
 split
 .exact .ok
 .split
  .exact .new
  .exact .no
 .exact .no
theorem gr_bi{b:Bi}{xs:List W}{h:VH}:Gr (biW b xs h) h:=by
 cases b<;>simp only[biW]
 .unfold lenW;split<;>first|exact .of|exact .no
 .unfold listW
  split
  .split
   .exact .new
   .exact .no
  .exact .no
 .unfold zer;split<;>first|exact .of|exact .no
 .unfold intW;split<;>first|exact .ok|exact .no
 .unfold absW;split<;>first|exact .ok|exact .no
 .unfold maxW;split<;>first|exact .ok|exact .no
 .unfold minW;split<;>first|exact .ok|exact .no
 .unfold allW
  split
  .split
   .exact .of
   .exact .no
  .exact .no
 .unfold lrngW
  split
  .split
   .exact .new
   .exact .no
  .exact .no
 .unfold revW;split<;>first|exact .ok|exact .no
 .unfold cgetW
  split
  .split
   .exact .ok
   .exact .no
  .exact .no
 .unfold sumW
  split
  .split
   .exact .of
   .exact .no
  .exact .no
theorem gr_mt{m:Mt}{o:W}{xs:List W}{h:VH}:Gr (mtW m o xs h) h:=by
 unfold mtW
 split
 .split
  .split
   .rename_i g _;exact .set g
   .exact .no
  .exact .no
 .exact .no
theorem gr_lc{nx:Nat->VH->Option (Option W)}{tg:W->VH->En->Option En}{c e:En->VH->Res W}(hc:∀ρ h,Gr (c ρ h) h)(he:∀ρ h,Gr (e ρ h) h):∀(f i:Nat) (ρ:En) (h:VH) (acc:List W),Gr (lcG nx tg c e f i ρ h acc) h
 |0,_,_,_,_=>.no
 |f+1,i,ρ,h,acc=>by
  simp only[lcG]
  split
  .exact .no
  .exact .ok
  .split
   .exact .no
   .refine .bind (hc _ _) λb h1=>?_
    split
    .exact .bind (he _ _) λy h2=>gr_lc hc he f _ _ _ _
    .exact gr_lc hc he f _ _ _ _
    .exact .no
theorem zm6{nx:Nat->VH->Option (Option W)}{tg:W->VH->En->Option En}{b:En->VH->Res Fl}(hb:∀ρ h,Gr (b ρ h) h):∀(f i:Nat) (ρ:En) (h:VH),Gr (forG nx tg b f i ρ h) h
 |0,_,_,_=>.no
 |f+1,i,ρ,h=>by
  simp only[forG]
  split
  .exact .no
  .exact .ok
  .split
   .exact .no
   .refine .bind (hb _ _) λfl h1=>?_
    split
    .exact zm6 hb f _ _ _
    .exact zm6 hb f _ _ _
    .exact .ok
    .exact .ok
theorem zm7{c:En->VH->Res W}{b:En->VH->Res Fl}(hc:∀ρ h,Gr (c ρ h) h)(hb:∀ρ h,Gr (b ρ h) h):∀(f:Nat) (ρ:En) (h:VH),Gr (whlG c b f ρ h) h
 |0,_,_=>.no
 |f+1,ρ,h=>by
  simp only[whlG]
  refine .bind (hc _ _) λt h1=>?_
  split
  .exact .ok
  .refine .bind (hb _ _) λfl h2=>?_
   split
   .exact zm7 hc hb f _ _
   .exact zm7 hc hb f _ _
   .exact .ok
   .exact .ok
  .exact .no
section
variable{cl:Call}
theorem gr_ev(hcl:∀f ws h,Gr (cl f ws h) h):∀(e:E) (ρ:En) (h:VH),Gr (ev cl e ρ h) h:=by
 intro e
 induction e with
 |var i=>intro ρ h;exact .of
 |cst w=>intro ρ h;exact .ok
 |nil=>intro ρ h;exact .ok
 |cons a r i1 i2=>intro ρ h;simp only[ev];refine .bind (i1 _ _) λx h1=>.bind (i2 _ _) λy h2=>?_;split<;>first|exact .ok|exact .no
 |tup a i1=>intro ρ h;simp only[ev];refine .bind (i1 _ _) λx h1=>?_;split<;>first|(split<;>first|exact .ok|exact .no)|exact .no
 |lst a i1=>intro ρ h;simp only[ev];refine .bind (i1 _ _) λx h1=>?_;split<;>first|(split<;>first|exact .new|exact .no)|exact .no
 |dsp a i1=>
  intro ρ h;simp only[ev];refine .bind (i1 _ _) λx h1=>?_
  split
  .split
   .split
    .exact .new
    .exact .no
   .unfold dspD
    split
    .split
     .exact .new
     .exact .no
    .exact .no
  .exact .no
 |op o a b i1 i2=>intro ρ h;simp only[ev];exact .bind (i1 _ _) λx h1=>.bind (i2 _ _) λy h2=>gr_op
 |neg a i1=>intro ρ h;simp only[ev];refine .bind (i1 _ _) λx h1=>?_;split<;>first|exact .ok|exact .no
 |cmp c a b i1 i2=>intro ρ h;simp only[ev];exact .bind (i1 _ _) λx h1=>.bind (i2 _ _) λy h2=>.of
 |chn c d a b e i1 i2 i3=>
  intro ρ h;simp only[ev];refine .bind (i1 _ _) λx h1=>.bind (i2 _ _) λy h2=>?_
  split
  .exact .bind (i3 _ _) λz h3=>.of
  .exact .ok
  .exact .no
 |not a i1=>intro ρ h;simp only[ev];refine .bind (i1 _ _) λx h1=>?_;split<;>first|exact .ok|exact .no
 |and a b i1 i2=>intro ρ h;simp only[ev];refine .bind (i1 _ _) λx h1=>?_;split<;>first|exact i2 _ _|exact .ok|exact .no
 |or a b i1 i2=>intro ρ h;simp only[ev];refine .bind (i1 _ _) λx h1=>?_;split<;>first|exact i2 _ _|exact .ok|exact .no
 |tru a i1=>intro ρ h;simp only[ev];exact .bind (i1 _ _) λx h1=>.of
 |ite c a b i1 i2 i3=>
  intro ρ h;simp only[ev];refine .bind (i1 _ _) λx h1=>?_
  split
  .exact i2 _ _
  .exact i3 _ _
  .exact .no
 |idx a b i1 i2=>intro ρ h;simp only[ev];exact .bind (i1 _ _) λx h1=>.bind (i2 _ _) λy h2=>.of
 |slc a bl lo bh hi i1 i2 i3=>
  intro ρ h;simp only[ev];refine .bind (i1 _ _) λx h1=>.bind (i2 _ _) λy h2=>.bind (i3 _ _) λz h3=>?_
  split
  .exact zw3
  .exact .no
 |call f a i1=>intro ρ h;simp only[ev];refine .bind (i1 _ _) λx h1=>?_;split<;>first|exact hcl _ _ _|exact .no
 |bi b a i1=>intro ρ h;simp only[ev];refine .bind (i1 _ _) λx h1=>?_;split<;>first|exact gr_bi|exact .no
 |isi t a i1=>intro ρ h;simp only[ev];exact .bind (i1 _ _) λx h1=>.of
 |mt m o a i1 i2=>
  intro ρ h;simp only[ev];refine .bind (i1 _ _) λx h1=>?_
  split
  .refine .bind (i2 _ _) λy h2=>?_
   split<;>first|exact gr_mt|exact .no
  .exact .no
 |lc k a t ow ix c e i1 i2 i3=>
  intro ρ h;simp only[ev]
  refine .bind (i1 _ _) λx h1=>.bind (gr_lc i2 i3 _ _ _ _ _) λys h2=>?_
  split
  .exact .new
  .exact .no
 |mk C f a i1=>
  intro ρ h;simp only[ev];refine .bind (i1 _ _) λy h1=>?_
  split
  .intro b h' e
   refine Grow.new.trans (Gr.bind (hcl _ _ _) (λv h2=>?_) b h' e)
   split
   .exact .ok
   .exact .no
  .exact .no
 |mcall C mt f o a i1 i2=>
  intro ρ h;simp only[ev];refine .bind (i1 _ _) λx h1=>?_
  split
  .refine .bind (i2 _ _) λy h2=>?_
   split
   .exact hcl _ _ _
   .exact .no
  .exact .no
 |att C x a i1=>intro ρ h;simp only[ev];exact .bind (i1 _ _) λx h1=>.of
theorem zhz(hcl:∀f ws h,Gr (cl f ws h) h):∀(s:S) (ρ:En) (h:VH),Gr (exs cl s ρ h) h:=by
 have ge:=gr_ev hcl
 intro s
 induction s with
 |skip=>intro ρ h;exact .ok
 |seq a b i1 i2=>intro ρ h;simp only[exs];refine .bind (i1 _ _) λfl h1=>?_;split<;>first|exact i2 _ _|exact .ok
 |set i e=>intro ρ h;simp only[exs];exact .bind (ge _ _ _) λw h1=>.ok
 |unp is e=>intro ρ h;simp only[exs];exact .bind (ge _ _ _) λw h1=>.of
 |aug i o e=>
  intro ρ h;simp only[exs]
  split
  .exact .bind (ge _ _ _) λy h1=>.bind gr_ip λz h2=>.ok
  .exact .no
 |sat C x o v=>
  intro ρ h;simp only[exs]
  refine .bind (ge _ _ _) λw h1=>.bind (ge _ _ _) λo h2=>?_
  unfold satW
  split
  .split
   .split
    .rename_i g _;exact .set g
    .exact .no
   .exact .no
  .exact .no
 |put o i v=>
  intro ρ h;simp only[exs]
  refine .bind (ge _ _ _) λw h1=>.bind (ge _ _ _) λx h2=>.bind (ge _ _ _) λy h3=>?_
  split
  .split
   .split
    .rename_i g _ _ _;exact .set g
    .exact .no
   .exact .no
  .unfold putD
   split
   .split
    .rename_i g _ _;exact .set g
    .exact .no
   .exact .no
  .exact .no
 |ite c a b i1 i2=>
  intro ρ h;simp only[exs];refine .bind (ge _ _ _) λx h1=>?_
  split
  .exact i1 _ _
  .exact i2 _ _
  .exact .no
 |ret e=>intro ρ h;simp only[exs];exact .bind (ge _ _ _) λw h1=>.ok
 |expr e=>intro ρ h;simp only[exs];exact .bind (ge _ _ _) λw h1=>.ok
 |brk=>intro ρ h;exact .ok
 |cnt=>intro ρ h;exact .ok
 | «for» k a t b i1=>intro ρ h;simp only[exs];exact .bind (ge _ _ _) λx h1=>zm6 i1 _ _ _ _
 |whl c b i1=>intro ρ h;simp only[exs];exact zm7 (ge c) i1 _ _ _
 |no=>intro ρ h;exact .no
end
theorem zh0(F:Nat->Option Fn):∀(k f:Nat) (ws:List W) (h:VH),Gr (run F k f ws h) h
 |0,_,_,_=>.no
 |k+1,f,ws,h=>by
  intro a h' e
  simp only[run]at e
  split at e
  .rename_i fn hf
   split at e
   .rename_i hl
    generalize hr:exs (run F k) fn.body (ws.map some++vgc (fn.n-fn.ps) none) ⟨h.n,h.n,h.os⟩=r at e
    have g:=zhz (zh0 F k) fn.body (ws.map some++vgc (fn.n-fn.ps) none) ⟨h.n,h.n,h.os⟩
    rw[hr]at g
    have lv:∀w h1,Grow ⟨h.n,h.n,h.os⟩ h1->leave h w h1=.ok a h'->Grow h h':=by
     intro w h1 g1 e1
     unfold leave at e1
     split at e1
     .cases e1;exact .refl
     .cases e1
      refine⟨g1.1,?_,λi hi hlo=>?_⟩
      .show(if Nat.ble h.lo h1.lo then h.lo else h1.lo)<=h.lo
       split
       .exact vai _
       .rename_i q
        exact Nat.le_of_not_le λz=>q (vd8.mpr z)
      .have hlo:i< (if Nat.ble h.lo h1.lo then h.lo else h1.lo):=hlo
       have hh:i<h1.lo:=by
        split at hlo
        .rename_i q;exact vak hlo (va5 q)
        .exact hlo
       exact g1.2.2 i hi hh
    cases r with
    |no=>cases e
    |ex _ _=>cases e
    |ok fl h1=>
     have g1:=g fl h1 rfl
     simp only[Res.bind]at e
     split at e
     .exact lv _ _ g1 e
     .exact lv _ _ g1 e
     .cases e
   .cases e
  .cases e
noncomputable def FlOk(K:vga)(m:Nat->Addr)(n:Nat)(H:Hp)(D:Ends):Fl->Prop
 |.nx ρ=>∀σ,Fr K m n H σ ρ->D.nx σ H
 |.bk ρ=>∀σ,Fr K m n H σ ρ->D.bk σ H
 |.ct ρ=>∀σ,Fr K m n H σ ρ->D.ct σ H
 |.rt w=>∀v,VRep K m n H v w->D.rt v H
noncomputable def lftS(K:vga)(f:FS):TS:=λD σ H=>∃ρ h m fl h',Fr K m h.n H σ ρ/\Rel K m h H/\f ρ h=.ok fl h'/\∀H' m',Stp m h.n H m' h'.n H'->Rel K m' h' H'->FlOk K m' h'.n H' D fl
theorem lftS.el{K:vga}{D:Ends}{σ:L2.St}{H:Hp}{P:Prop}{fa:FS}(q:lftS K fa D σ H)(k:∀ρ h m fl h',Fr K m h.n H σ ρ->Rel K m h H->fa ρ h=.ok fl h'->(∀H' m',Stp m h.n H m' h'.n H'->Rel K m' h' H'->FlOk K m' h'.n H' D fl)->P):P:=by
 obtain⟨ρ,h,m,w,h',f,r,e,k'⟩:=q
 exact k ρ h m w h' f r e k'
theorem lftS.mk{K:vga}{D:Ends}{σ:L2.St}{H:Hp}{m:Nat->Addr}{ρ:En}{h h':VH}{fl:Fl}{fa:FS}(f:Fr K m h.n H σ ρ)(r:Rel K m h H)(e:fa ρ h=.ok fl h')(k:∀H' m',Stp m h.n H m' h'.n H'->Rel K m' h' H'->FlOk K m' h'.n H' D fl):lftS K fa D σ H:=⟨ρ,h,m,fl,h',f,r,e,k⟩
noncomputable abbrev SS(X:Cx)(st:Stmt)(f:FS):Prop:=PS X st (lftS X.K f)
noncomputable abbrev SSs(X:Cx)(st:List Stmt)(f:FS):Prop:=PSs X st (lftS X.K f)
section
variable{X:Cx}{a b c e o:Expr}{es:List Expr}{fa fb fc fo fr:FE}{pos p:Pos}{x:Str}{st:Stmt}{sts:List Stmt}{ga gb:FS}
noncomputable abbrev gSkip:FS:=λρ h=>.ok (.nx ρ) h
noncomputable abbrev gSeq(ga gb:FS):FS:=λρ h=>(ga ρ h).bind λfl h=>match fl with|.nx ρ=>gb ρ h|fl=>.ok fl h
theorem zs5:SSs X [] gSkip:=zrv.imp λD σ H z9=>z9.el λρ h m fl h' f r e k=>by cases e;exact k H m .refl r σ f
theorem zs6:SS X (.Pass pos) gSkip:=zrw.imp λD σ H z9=>z9.el λρ h m fl h' f r e k=>by cases e;exact k H m .refl r σ f
theorem zw4:SS X (.Break pos) (λρ h=>.ok (.bk ρ) h):=zov.imp λD σ H z9=>z9.el λρ h m fl h' f r e k=>by cases e;exact k H m .refl r σ f
theorem zw5:SS X (.Continue pos) (λρ h=>.ok (.ct ρ) h):=ziv.imp λD σ H z9=>z9.el λρ h m fl h' f r e k=>by cases e;exact k H m .refl r σ f
theorem zpy(h1:SS X st ga)(h2:SSs X sts gb):SSs X (st::sts) (gSeq ga gb):=(zou h1 h2).imp λD σ H z9=>z9.el λρ h m fl h' f r e k=>by
 refine zad e λfl1 h1 e1 e2=>?_
 refine(.mk f r e1 λH1 m1 s1 r1=>?_)
 cases fl1 with
 |nx ρ1=>exact λσ1 f1=>⟨ρ1,h1,m1,fl,h',f1,r1,e2,λH' m' s' r'=>k H' m' (s1.trans s') r'⟩
 |bk ρ1=>cases e2;exact k H1 m1 s1 r1
 |ct ρ1=>cases e2;exact k H1 m1 s1 r1
 |rt w=>cases e2;exact k H1 m1 s1 r1
theorem ss_no:SS X st (λ_ _=>.no):=zow.imp λD σ H z9=>z9.el λρ h m fl h' f r e k=>by cases e
noncomputable def zh6:Expr->Bool
 |.ListComp .. |.SetComp .. |.DictComp ..=>false
 |_=>true
theorem zgo{e:Expr}{t:Option Expr}{l:Nat}{env:Env}(h:zh6 e=true):swapsWith e t l env=pure false:=by
 cases e<;>first|rfl|cases h
theorem zs7(he:SE X e fa)(hs:zh6 e=true):SS X (.Expr e pos) (λρ h=>(fa ρ h).bind λ_ h=>.ok (.nx ρ) h):=(zrx he (zgo hs)).imp λD σ H z9=>z9.el λρ h m fl h' f r e k=>by
 refine zad e λw h1 e1 e2=>?_
 cases e2
 exact(.mk f r e1 λv H1 m1 s1 r1 q1=>k H1 m1 s1 r1 σ (f.stp s1))
theorem zw6(he:SE X e fa):SS X (.Return (some e) pos) (λρ h=>(fa ρ h).bind λw h=>.ok (.rt w) h):=(zut he).imp λD σ H z9=>z9.el λρ h m fl h' f r e k=>by
 refine zad e λw h1 e1 e2=>?_
 cases e2
 exact(.mk f r e1 λv H1 m1 s1 r1 q1=>k H1 m1 s1 r1 v q1)
theorem zs8:SS X (.Return none pos) (λρ h=>(Res.ok W.non h).bind λw h=>.ok (.rt w) h):=zry.imp λD σ H z9=>z9.el λρ h m fl h' f r e k=>by
 cases e
 exact k H m .refl r .non .non
noncomputable abbrev gSet(i:Nat)(fa:FE):FS:=λρ h=>(fa ρ h).bind λw h=>.ok (.nx (ρ.set i (some w))) h
theorem zra{K:vga}{i:Nat}{D:Ends}{σ:L2.St}{H:Hp}(q:lftS K (gSet i fa) D σ H):lft K fa σ H λv H1=>gName i v σ H1 D.nx:=by
 refine q.el λρ h m fl h' f r e k=>?_
 refine zad e λw h1 e1 e2=>?_
 cases e2
 exact(.mk f r e1 λv H1 m1 s1 r1 q1=>k H1 m1 s1 r1 _ ((f.stp s1).set q1 i))
theorem zrb{i:Nat}{pos':Pos}(hN:X.N.Nodup)(hi:X.N[i]?=some x)(hx:Loc X.env.scope x)(hf:X.fn x=true\/X.env.scope.names.lookup x=some .local)(he:SE X e fa)
 (hs:swapsWith e (some (.Name x pos')) pos.line X.env=pure false):SS X (.Assign [.Name x pos'] e pos) (gSet i fa):=(zux hN hi hx he hs hf).imp λD σ H q=>zra q
theorem zpz{i:Nat}{pos' lp:Pos}{ow fr:List Str}{ix:List Nat}{scope:Scope}{tg iter elt:Expr}{ifs:List Expr}{kd:Kd}{t:Tg}{fe:FE}(hN:X.N.Nodup)(hi:X.N[i]?=some x)(hx:Loc X.env.scope x)(hf:X.fn x=true\/X.env.scope.names.lookup x=some .local)
 (S:CompScope X ow fr ix scope) (hc:X.calm=true) (hI:PI X tg iter (lftI X.K kd fa)) (hg:∀C s₀ H₀ ex,PG (X.comp (ow++fr) scope C s₀ H₀ ex) tg (lftG X.K t)) (ht:∀C s₀ H₀ ex,PTs (X.comp (ow++fr) scope C s₀ H₀ ex) ifs (lftT X.K fc))
 (he:∀C s₀ H₀ ex,PE (X.comp (ow++fr) scope C s₀ H₀ ex) elt (lft X.K fe)) (hsw:swapsWith (.ListComp elt [⟨tg,iter,ifs,0⟩] scope lp) (some (.Name x pos')) pos.line X.env=pure true) (hs:∀x,foldedSetIterable iter X.env x=pure x) :
 SS X (.Assign [.Name x pos'] (.ListComp elt [⟨tg,iter,ifs,0⟩] scope lp) pos) (gSet i (gLc kd fa t ow.length ix fc fe)):=
 (zpe hN hi hx S hc hI hg ht he hsw hf hs).imp λD σ H q=>lc_ok (zra q)
theorem se_lc{lp:Pos}{ow fr:List Str}{ix:List Nat}{scope:Scope}{tg iter elt:Expr}{ifs:List Expr}{kd:Kd}{t:Tg}{fe:FE}
 (S:CompScope X ow fr ix scope) (hc:X.calm=true) (hI:PI X tg iter (lftI X.K kd fa)) (hg:∀C s₀ H₀ ex,PG (X.comp (ow++fr) scope C s₀ H₀ ex) tg (lftG X.K t)) (ht:∀C s₀ H₀ ex,PTs (X.comp (ow++fr) scope C s₀ H₀ ex) ifs (lftT X.K fc))
 (he:∀C s₀ H₀ ex,PE (X.comp (ow++fr) scope C s₀ H₀ ex) elt (lft X.K fe)) (hs:∀x,foldedSetIterable iter X.env x=pure x) :
 SE X (.ListComp elt [⟨tg,iter,ifs,0⟩] scope lp) (gLc kd fa t ow.length ix fc fe):=(pe_lc S hc hI hg ht he hs).imp λσ H Q q=>lc_ok q
noncomputable def noTup:Expr->Bool
 |.Tuple ..=>false
 |_=>true
theorem zm8{es:List Expr}{k:Nat}{e:Expr}{l:Nat}{p:Pos}{env:Env}:swapsWithSole [.Tuple es k p] e l env=pure false:=by
 cases e<;>rfl
theorem zlb{es:List Expr}{k:Nat}{p:Pos}{e:Expr}{env:Env}(h:noTup e=true):swappedStores [.Tuple es k p] e env=pure none:=by
 cases e<;>first|rfl|cases h
theorem zw7{is:List Nat}{k:Nat}(hc:X.calm=true)(hN:X.N.Nodup)(hs:Paired (NmOk X) es is)(he:SE X e fa)(ht:noTup e=true) :
 SS X (.Assign [.Tuple es k p] e pos) (λρ h=>(fa ρ h).bind λw h=>.of ((tgW (.many is) w h ρ).map .nx) h):=(zqu he (zm5 hc hN hs) zm8 (zlb ht) rfl).imp λD σ H z9=>z9.el λρ h m fl h' f r e k=>by
 refine zad e λw h1 e1 e2=>?_
 obtain⟨e2,e3⟩:=of_ok e2
 subst e3
 cases z:tgW (.many is) w h' ρ with
 |none=>rw[z]at e2;cases e2
 |some ρ'=>
  rw[z]at e2;cases e2
  exact(.mk f r e1 λv H1 m1 s1 r1 q1=>(.mk (f.stp s1) r1 q1 z λσ' f'=>k H1 m1 s1 r1 σ' f'))
noncomputable def zeu:Expr->Bool
 |.Slice ..=>false
 |_=>true
theorem zlc{o i:Expr}{p:Pos}{env:Env}(h:zeu i=true)(v:Value):assign (.Subscript o i p) env v=(do
 let ov <-holding [v] (eval o env)
 let iv <-holding [v,ov] (eval i env)
 standAt p
 holding [v,ov,iv] (setItem ov iv v)
 release [v,ov,iv] []):=by
 cases i<;>first|rfl|cases h
noncomputable abbrev gPut(fo fi fv:FE):FS:=λρ h=>(fv ρ h).bind λw h=>(fo ρ h).bind λx h=>(fi ρ h).bind λy h=>match x,y with
 |.ref a,.int j=>(match h.get a with
  |some (.lst ws)=>(match L2.ixN ws.length j with
   |some k=>.ok (.nx ρ) (h.set a (.lst (ws.set k w)))
   |none=>.no)
  |_=>.no)
 |.ref a,y=>putD ρ a y w h
 |_,_=>.no
theorem zm9{o i e:Expr}{l:Nat}{p:Pos}{env:Env}:swapsWithSole [.Subscript o i p] e l env=pure false:=by
 cases e<;>rfl
theorem zi5{o i e:Expr}{p:Pos}{env:Env}:swappedStores [.Subscript o i p] e env=pure none:=by
 cases e<;>rfl
theorem zjv{K:vga}{m:Nat->Addr}{n:Nat}{H:Hp}{x:Str}{w:W}:∀{vs:List (Str×V)} {ws:List W},VReps K m n H (vs.map (·.2)) ws->lookF x (vs.map (·.1)) ws=some w->∃v,vs.lookup x=some v/\VRep K m n H v w
 |[],_,_,e=>by unfold lookF at e;cases e
 |(y,v)::vs,ws,q,e=>by
  rw[vao]at q e
  obtain⟨w0,ws,rfl,q1,q2⟩:∃w' ws',ws=w'::ws'/\VRep K m n H v w'/\VReps K m n H (vs.map (·.2)) ws':=by cases q with|cons a b=>exact⟨_,_,rfl,a,b⟩
  unfold lookF at e
  by_cases z:y=x
  .rw[if_pos z]at e
   cases e
   exact⟨v,by rw[vav,z,beq_self_eq_true],q1⟩
  .rw[if_neg z]at e
   obtain⟨v',h1,h2⟩:=zjv q2 e
   exact⟨v',by rw[vav,vcf.mpr (vbw z)];exact h1,h2⟩
theorem zfp{x:Str}{v:V}:∀(vs:List (Str×V)),(putF x v vs).map (·.1)=putN x (vs.map (·.1))
 |[]=>rfl
 |(y,u)::vs=>by
  unfold putF
  rw[vao]
  unfold putN
  by_cases z:y=x
  .rw[if_pos z,if_pos z];rfl
  .rw[if_neg z,if_neg z,vao,zfp vs]
theorem zh7{K:vga}{m:Nat->Addr}{n:Nat}{H:Hp}{x:Str}{v:V}{w:W}(q:VRep K m n H v w):∀{vs:List (Str×V)} {ws:List W},VReps K m n H (vs.map (·.2)) ws->VReps K m n H ((putF x v vs).map (·.2)) (putV x w (vs.map (·.1)) ws)
 |[],_,r=>by cases r;exact .cons q .nil
 |(y,u)::vs,ws,r=>by
  rw[vao]at r
  obtain⟨w0,ws,rfl,q1,q2⟩:∃w' ws',ws=w'::ws'/\VRep K m n H u w'/\VReps K m n H (vs.map (·.2)) ws':=by cases r with|cons a b=>exact⟨_,_,rfl,a,b⟩
  unfold putF
  rw[vao]
  unfold putV
  by_cases z:y=x
  .rw[if_pos z,if_pos z];exact .cons q q2
  .rw[if_neg z,if_neg z];exact .cons q1 (zh7 q q2)
theorem zw8{C:Addr}{x:Str}(c:Cls X.K C)(na:zc4 X.K C x)(he:SE X e fa)(hb:attributeBase e x X.env (eval e X.env)=eval e X.env):SE X (.Attribute e x pos) (λρ h=>(fa ρ h).bind λo h=>.of (attW C x o h) h):=
 (zvb he hb).imp λσ H Q z9=>z9.el λρ h m w h' f r e k=>by
   refine zad e λo h1 e1 e2=>?_
   obtain⟨e2,e3⟩:=of_ok e2
   subst e3
   refine(.mk f r e1 λv H1 m1 s1 r1 q1=>?_)
   unfold attW at e2
   split at e2
   .rename_i i
    split at e2
    .rename_i D xs ws g
     split at e2
     .rename_i hD
      subst hD
      cases q1
      obtain⟨dx,vs,p1,p0,p2⟩:=r1.ins g
      rw[<-p0]at e2
      obtain⟨v',h2,h3⟩:=zjv p2 e2
      exact⟨_,_,dx,vs,v',rfl,p1,c,na,h2,k v' H1 m1 s1 r1 h3⟩
     .cases e2
    .cases e2
   .cases e2
theorem zw9{C:Addr}{x:Str}{pos':Pos}(c:Cls X.K C)(na:zc4 X.K C x)(ho:SE X o fo)(hv:SE X e fb)(hs:swapsWith e (some (.Attribute o x pos')) pos.line X.env=pure false):SS X (.Assign [.Attribute o x pos'] e pos) (λρ h=>(fb ρ h).bind λw h=>(fo ρ h).bind λo h=>satW ρ C x o w h):=
 (zvc ho hv hs).imp λD σ H z9=>z9.el λρ h m fl h' f r e k=>by
   refine zad e λw h1 e1 e2=>?_
   refine zad e2 λow h2 e3 e4=>?_
   refine(.mk f r e1 λv H1 m1 s1 r1 q1=>(.mk (f.stp s1) r1 e3 λvo H2 m2 s2 r2 q2=>?_))
   unfold satW at e4
   split at e4
   .rename_i i
    split at e4
    .rename_i D' xs ws g
     split at e4
     .rename_i hc
      cases e4
      rw[vac,vaj]at hc
      obtain⟨hD,hl⟩:=hc
      subst hD
      cases q2
      obtain⟨dx,vs,p1,p0,p2⟩:=r2.ins g
      have hl':vs.length<1000:=by
       have:=zan.mp hl
       rw[<-p0,vab]at this;exact this
      refine⟨m2 i,_,dx,vs,rfl,p1,c,na,hl',?_⟩
      have qv:=q1.stp s2
      obtain⟨st,r'⟩:=r2.write (i:=i) (o:=.ins D' (putN x xs) (putV x w xs ws)) (u:=.ins D' dx (putF x v vs)) (zao g) p1 (λ_ z=>nomatch z) (λ_ _ z=>nomatch z) λst=>⟨dx,putF x v vs,zaq,by rw[zfp,p0],by rw[<-p0];exact zh7 (qv.stp st) (p2.stp st)⟩
      exact k _ m2 ((s1.trans s2).trans st) r' σ (((f.stp s1).stp s2).stp st)
     .cases e4
    .cases e4
   .cases e4
theorem zh8{α β:Type}{f:α->Option β}:∀{as:List α} {bs:List β} {a:α} {b:β},mapO f as=some bs->f a=some b->mapO f (as++[a])=some (bs++[b])
 |[],_,_,_,e,h=>by cases e;simp[mapO,h]
 |x::as,bs,a,b,e,h=>by
  simp only[mapO]at e
  cases z:f x with
  |none=>rw[z]at e;cases e
  |some y=>
   rw[z]at e
   simp only at e
   cases z2:mapO f as with
   |none=>rw[z2]at e;cases e
   |some ys=>
    rw[z2]at e;cases e
    rw[vcn]
    simp only[mapO,z,zh8 z2 h,vcn]
theorem zxa(hu:X.A.units+2<cLine)(ho:SE X o fo)(hi:SE X a fa)(hv:SE X e fb)(hs:zeu a=true):SS X (.Assign [.Subscript o a p] e pos) (gPut fo fa fb):=
 (zqu hv (zuw ho hi (zpa.or (zvz hu)) (zlc hs)) zm9 zi5 rfl).imp λD σ H z9=>z9.el λρ h m fl h' f r e k=>by
   refine zad e λw h1 e1 e2=>?_
   refine zad e2 λx h2 e3 e4=>?_
   refine zad e4 λy h3 e5 e6=>?_
   refine(.mk f r e1 λv H1 m1 s1 r1 q1=>(.mk (f.stp s1) r1 e3 λvo H2 m2 s2 r2 q2=>(.mk ((f.stp s1).stp s2) r2 e5 λvi H3 m3 s3 r3 q3=>?_)))
   split at e6
   .rename_i l j
    split at e6
    .rename_i ws g
     split at e6
     .rename_i kk hk
      cases e6
      cases q3
      have q2':=q2.stp s3
      cases q2'
      obtain⟨vs,p1,p2⟩:=r3.lst g
      refine .inl ⟨m3 l,vs,j,kk,rfl,rfl,p1,by rw[p2.length];exact hk,?_⟩
      have qv:=((q1.stp s2).stp s3)
      obtain⟨st,r'⟩:=r3.write (i:=l) (o:=.lst (ws.set kk w)) (u:=.lst (vs.set kk v)) (zao g) p1 (λ_ z=>nomatch z) (λ_ _ z=>nomatch z) λst=>⟨_,zaq,VReps.set (qv.stp st) kk (p2.stp st)⟩
      exact k _ m3 (((s1.trans s2).trans s3).trans st) r' σ ((((f.stp s1).stp s2).stp s3).stp st)
     .cases e6
    .cases e6
   .rename_i l _
    unfold putD at e6
    split at e6
    .rename_i ks ws dk g hd
     split at e6
     .rename_i hc
      cases e6
      rw[vac]at hc
      have q2':=q2.stp s3
      cases q2'
      obtain⟨xs,p1,p2,p3,p4⟩:=r3.dt g
      obtain⟨b,rfl,kk⟩:=zgi q3 hd
      have hl:=p3.length
      rw[vab]at hl
      have hlt:xs.length<sizeLine:=by rw[hl,sizeLine_eq];exact zan.mp hc.2
      have qv:=((q1.stp s2).stp s3)
      have hf:findX xs dk=none:=by
       rcases zgj dk p2 p4 with⟨z,_⟩|⟨p,w',z,z2,_⟩
       .exact z
       .rw[z2]at hc;exact absurd hc.1 (by simp)
      have hp:putX xs dk b v=xs++[(dk,b,v)]:=by unfold putX;rw[hf];rfl
      obtain⟨u0,hu0,hn,hff,hmu⟩:∃u0:HO,H3 (m3 l)=some u0/\(∀t,u0≠HO.tup t)/\(∀o t,u0≠HO.frz o t)/\Mut (some u0):=by
       rcases p1 with p1|⟨_,p1⟩
       .exact⟨_,p1,(λ_ z=>nomatch z),(λ_ _ z=>nomatch z),True.intro⟩
       .exact⟨_,p1,(λ_ z=>nomatch z),(λ_ _ z=>nomatch z),True.intro⟩
      refine .inr ⟨m3 l,b,xs,dk,rfl,rfl,dt_DT p1 p2 p3,by rw[hu0];exact hmu,kk,hlt,?_⟩
      obtain⟨st,r'⟩:=r3.write (i:=l) (o:=.dt (ks++[y]) (ws++[w])) (u:=dtH (putX xs dk b v) (m3 l)) (zao g) hu0 hn hff λst=>by
       rw[hp]at st ⊢
       refine⟨xs++[(dk,b,v)],.inl zaq,?_,?_,?_⟩
       .rw[vbn,zh8 p2 hd];rfl
       .rw[vbn];exact(p3.stp st).append (.cons (q3.stp st) .nil)
       .rw[vbn];exact(p4.stp st).append (.cons (qv.stp st) .nil)
      exact k _ m3 (((s1.trans s2).trans s3).trans st) r' σ ((((f.stp s1).stp s2).stp s3).stp st)
     .cases e6
    .cases e6
   .cases e6
noncomputable def ipOf:Operator->Option Op
 |.Add=>some .add
 |_=>none
noncomputable def rIp:Op->R2
 |.add=>ipI λi j=>i+j
 |_=>λ_ _ _ _=>False
theorem ip_ok{O:Operator}{o:Op}(e:ipOf O=some o):PIp X O (rIp o):=by
 cases O<;>cases e
 exact zuz
theorem zxb{K:vga}{O:Operator}{o:Op}(e:ipOf O=some o):OpV K (rIp o) (ipW o):=by
 intro m h H v u x y w h' Q r qv qu e2 k
 unfold ipW at e2
 split at e2
 .rename_i i j
  cases qv;cases qu
  split at e2
  .cases e2;exact⟨i,j,rfl,rfl,Wants.here k r (.int _)⟩
  .cases e2
 .cases e2
noncomputable abbrev gAug(i:Nat)(o:Op)(fa:FE):FS:=λρ h=>match(ρ[i]?).join with
 |some x=>(fa ρ h).bind λy h=>(ipW o x y h).bind λz h=>.ok (.nx (ρ.set i (some z))) h
 |none=>.no
theorem zxc{i:Nat}{pos':Pos}{O:Operator}{o:Op}(eo:ipOf O=some o)(hN:X.N.Nodup)(hi:X.N[i]?=some x)(hx:Loc X.env.scope x)(hf:X.fn x=true\/X.env.scope.names.lookup x=some .local)(he:SE X e fa) :
 SS X (.AugAssign (.Name x pos') O e pos) (gAug i o fa):=(zuy hN hi hx he (ip_ok eo) hf).imp λD σ H z9=>z9.el λρ h m fl h' f r e k=>by
 have e:gAug i o fa ρ h=.ok fl h':=e
 simp only[gAug]at e
 cases z:(ρ[i]?).join with
 |none=>rw[z]at e;cases e
 |some x=>
  rw[z]at e
  simp only at e
  refine zad e λy h1 e1 e2=>?_
  refine zad e2 λw h2 e3 e4=>?_
  cases e4
  have e5:ρ[i]?=some (some x):=by
   cases q:ρ[i]? with
   |none=>rw[q]at z;cases z
   |some o=>rw[q]at z;rw[<-z];rfl
  obtain⟨v,p1,p2⟩:=f.val i x e5
  refine⟨v,p1,ρ,h,m,y,h1,f,r,e1,λu H1 m1 s1 r1 q1=>zxb eo m1 h1 H1 v u x y w h' _ r1 (p2.stp s1) q1 e3 λv' H' m' s' r' q'=>?_⟩
  exact k H' m' (s1.trans s') r' _ (((f.stp s1).stp s').set q' i)
noncomputable abbrev gIf(fc:FE)(ga gb:FS):FS:=λρ h=>(fc ρ h).bind λx h=>match x with|.bl true=>ga ρ h|.bl false=>gb ρ h|_=>.no
variable{sa sb:List Stmt}
theorem zxd(hc:ST X c fc)(ha:SSs X sa ga)(hb:SSs X sb gb):SS X (.If c sa sb pos) (gIf fc ga gb):=(ps_if hc ha hb).imp λD σ H z9=>z9.el λρ h m fl h' f r e k=>by
 refine zad e λx h1 e1 e2=>?_
 cases x<;>try cases e2
 rename_i c
 refine(.mk f r e1 λH1 m1 s1 r1=>?_)
 cases c with
 |true=>rw[if_pos rfl];exact(.mk (f.stp s1) r1 e2 λH' m' s' r'=>k H' m' (s1.trans s') r')
 |false=>simp only[vam,vbb];exact(.mk (f.stp s1) r1 e2 λH' m' s' r'=>k H' m' (s1.trans s') r')
theorem zs9{nx:Nat->VH->Option (Option W)}{tg:W->VH->En->Option En}{g:FS}{f i:Nat}{ρ:En}{h:VH}{fl:Fl}{h':VH}(q:forG nx tg g (f+1) i ρ h=.ok fl h'):∃o,nx i h=some o:=by
 simp only[forG]at q
 split at q
 .cases q
 .exact⟨_,by assumption⟩
 .exact⟨_,by assumption⟩
noncomputable abbrev gFor(kd:Kd)(fa:FE)(t:Tg)(g:FS):FS:=λρ h=>(fa ρ h).bind λx h=>forG (nxt kd x) (tgW t) g fuel 0 ρ h
theorem zxe{K:vga}{kd:Kd}{t:Tg}{D:Ends}{σ:L2.St}{H:Hp}(q:lftS K (gFor kd fa t ga) D σ H):tFor (lftI K kd fa) (lftG K t) (lftS K ga) D σ H:=by
 refine q.el λρ h m fl h' f r e k=>?_
 refine zad e λx h1 e1 e2=>?_
 refine(.mk f r e1 (zs9 (f:=999999) e2) λJ P H1 m1 s1 r1 J1 p1=>?_)
 refine⟨λi fu σ' H'=>∃ρ' h3 m3,forG (nxt kd x) (tgW t) ga fu i ρ' h3=.ok fl h'/\Fr K m3 h3.n H' σ' ρ'/\Rel K m3 h3 H'/\Stp m1 h1.n H1 m3 h3.n H'/\P m3 h3.n H',⟨fuel,ρ,h1,m1,e2,f.stp s1,r1,.refl,p1⟩,?_⟩
 rintro i fu σ' H' ⟨ρ',h3,m3,e3,f3,r3,s3,p3⟩
 cases fu with
 |zero=>cases e3
 |succ fu=>
  simp only[forG]at e3
  obtain⟨j1,j2⟩:=J1.2 m3 h3 H' r3 p3 i
  split at e3
  .cases e3
  .rename_i hn
   cases e3
   exact .inl ⟨j2 hn,k H' m3 (s1.trans s3) r3 σ' f3⟩
  .rename_i w hn
   obtain⟨j3,j4⟩:=j1 w hn
   split at e3
   .cases e3
   .rename_i ρ4 ht
    refine zad e3 λfl5 h5 e5 e6=>?_
    refine .inr ⟨j3,λσ6 H6=>∃ρ6 m6,forG (nxt kd x) (tgW t) ga fu (i+1) ρ6 h5=.ok fl h'/\Fr K m6 h5.n H6 σ6 ρ6/\Rel K m6 h5 H6/\Stp m1 h1.n H1 m6 h5.n H6/\P m6 h5.n H6,λσ6 H6 ⟨ρ6,m6,a1,a2,a3,a4,a5⟩=>⟨fu,vbo _,ρ6,h5,m6,a1,a2,a3,a4,a5⟩,λy H4 hy=>?_⟩
    obtain⟨s4,r4,q4⟩:=j4 y H4 hy
    refine⟨ρ',h3,m3,w,ρ4,f3.stp s4,r4,q4,ht,λσ5 f5=>⟨ρ4,h3,m3,fl5,h5,f5,r4,e5,λH6 m6 s6 r6=>?_⟩⟩
    have p4:=J1.1 m3 h3.n H' m3 h3.n H4 (vai _) (λ_ _=>rfl) (λb vs q=>s4.tup b vs q) (λb o u q=>s4.frz b o u q) p3
    have p6:=J1.1 m3 h3.n H4 m6 h5.n H6 s6.le s6.same (λb vs q=>s6.tup b vs q) (λb o u q=>s6.frz b o u q) p4
    have s16:=(s3.trans s4).trans s6
    cases fl5 with
    |nx ρ6=>exact λσ6 f6=>⟨ρ6,m6,e6,f6,r6,s16,p6⟩
    |ct ρ6=>exact λσ6 f6=>⟨ρ6,m6,e6,f6,r6,s16,p6⟩
    |bk ρ6=>cases e6;exact λσ6 f6=>k H6 m6 (s1.trans s16) r6 σ6 f6
    |rt w6=>cases e6;exact λv6 q6=>k H6 m6 (s1.trans s16) r6 v6 q6
theorem zxf{kd:Kd}{t:Tg}{tg iter:Expr}(hp:PassesOwn (model X.prog X.w) X.A X.env X.xe)(hc:X.calm=true)(hI:PI X tg iter (lftI X.K kd fa))(hg:PG X tg (lftG X.K t))(hb:SSs X sa ga)(hs:∀x,foldedSetIterable iter X.env x=pure x) :
 SS X (.For tg iter sa [] pos) (gFor kd fa t ga):=(zu2 hp hc hI hg hb hs).imp λD σ H q=>zxe q
theorem zxg(hp:PassesOwn (model X.prog X.w) X.A X.env X.xe)(hc:ST X c fc)(hb:SSs X sa ga):SS X (.While c sa [] pos) (λρ h=>whlG fc ga fuel ρ h):=(zoy hp hc hb).imp λD σ H z9=>z9.el λρ h m fl h' f r e k=>by
 refine⟨λfu σ' H'=>∃ρ' h3 m3,whlG fc ga fu ρ' h3=.ok fl h'/\Fr X.K m3 h3.n H' σ' ρ'/\Rel X.K m3 h3 H'/\Stp m h.n H m3 h3.n H',⟨fuel,ρ,h,m,e,f,r,.refl⟩,?_⟩
 rintro fu σ' H' ⟨ρ',h3,m3,e3,f3,r3,s3⟩
 cases fu with
 |zero=>cases e3
 |succ fu=>
  simp only[whlG]at e3
  refine zad e3 λx h4 e4 e5=>?_
  cases x<;>try cases e5
  rename_i b
  refine⟨ρ',h3,m3,b,h4,f3,r3,e4,λH4 m4 s4 r4=>?_⟩
  cases b with
  |false=>cases e5;simp only[vam,vbb];exact k H4 m4 (s3.trans s4) r4 σ' (f3.stp s4)
  |true=>
   simp only[va3]
   refine zad e5 λfl5 h5 e6 e7=>?_
   refine⟨λσ6 H6=>∃ρ6 m6,whlG fc ga fu ρ6 h5=.ok fl h'/\Fr X.K m6 h5.n H6 σ6 ρ6/\Rel X.K m6 h5 H6/\Stp m h.n H m6 h5.n H6,λσ6 H6 ⟨ρ6,m6,a1,a2,a3,a4⟩=>⟨fu,vbo _,ρ6,h5,m6,a1,a2,a3,a4⟩,?_⟩
   refine⟨ρ',h4,m4,fl5,h5,f3.stp s4,r4,e6,λH6 m6 s6 r6=>?_⟩
   have s16:=(s3.trans s4).trans s6
   cases fl5 with
   |nx ρ6=>exact λσ6 f6=>⟨ρ6,m6,e7,f6,r6,s16⟩
   |ct ρ6=>exact λσ6 f6=>⟨ρ6,m6,e7,f6,r6,s16⟩
   |bk ρ6=>cases e7;exact λσ6 f6=>k H6 m6 s16 r6 σ6 f6
   |rt w6=>cases e7;exact λv6 q6=>k H6 m6 s16 r6 v6 q6
end
theorem zc7{n:Str}:∀{ps:List Str} {us:List Value},us.length=ps.length->n∈ps->((ps.zip us).lookup n).isSome=true
 |[],_,_,h=>by cases h
 |p::ps,[],hl,_=>by cases hl
 |p::ps,u::us,hl,h=>by
  rw[vb1,vav]
  by_cases e:(n==p)=true
  .rw[e];rfl
  .have e':(n==p)=false:=by simpa using e
   rw[e']
   refine zc7 (by simpa using hl) ?_
   rcases vax.mp h with z|z
   .rw[z]at e';simp at e'
   .exact z
theorem zp0{n:Str}{u:Value}{p:Str}{ps:List Str}{us:List Value}(h:n≠p):((p,u)::ps.zip us).lookup n=(ps.zip us).lookup n:=by
 rw[vav]
 have e':(n==p)=false:=by simpa using h
 rw[e']
theorem zjw{α β:Type}{f g:α->Option β}:∀{l:List α},(∀a∈l,f a=g a)->l.filterMap f=l.filterMap g
 |[],_=>rfl
 |a::r,h=>by
  rw[vcg,vcg,h a vaf,zjw λb hb=>h b (vad _ hb)]
theorem zgp:∀{ps:List Str} {us:List Value},us.length=ps.length->ps.Nodup->ps.filterMap (λn=>((ps.zip us).lookup n).map (n,·))=ps.zip us
 |[],_,_,_=>rfl
 |p::ps,[],hl,_=>by cases hl
 |p::ps,u::us,hl,hn=>by
  obtain⟨h1,h2⟩:=vdj.mp hn
  rw[vb1,vcg]
  have e:((p,u)::ps.zip us).lookup p=some u:=by rw[vav];simp
  rw[e]
  simp only[va1]
  congr 1
  have ih:=zgp (ps:=ps) (us:=us) (by simpa using hl) h2
  refine Eq.trans ?_ ih
  exact zjw λn hn'=>by
   have hne:n≠p:=λz=>h1 (by rw[<-z];exact hn')
   rw[zp0 hne]
theorem zfq{x qual:Str}{args:List Arg}{body:List Stmt}{sc:Scope}{kV doc pm:Value}{an:Option Addr}{cdv ct:Value}{us:List Value}{df:List Expr}(hl:us.length=(args.map (·.arg)).length)(hn:(args.map (·.arg)).Nodup) :
 bindArgs (PySem.W.fnOf x qual ⟨[],args,none,[],[],none,df⟩ body sc .none kV doc pm an cdv ct) ⟨us,[]⟩=pure ((args.map (·.arg)).zip us):=by
 have hs:seqItems? Value.none=pure none:=rfl
 have hm:((args.map (·.arg)).filter λn=>(((args.map (·.arg)).zip us).lookup n).isNone)=[]:=by
  rw[List.filter_eq_nil_iff]
  intro n hn'
  have:=zc7 hl hn'
  cases q:((args.map (·.arg)).zip us).lookup n with
  |none=>rw[q]at this;cases this
  |some v=>simp
 unfold bindArgs
 simp only[PySem.W.fnOf,vdi,vcc,vb2,hs,vef]
 have hg:¬(us.length> (args.map (·.arg)).length):=by omega
 have h0:(#[]:Array Value).toList=[]:=rfl
 simp only[Option.getD_none,h0,vc1,vef,List.drop_nil,vd0,Nat.sub_zero,List.take_length,hm,List.isEmpty_nil,vcd,List.drop_length,List.zip_nil_right,List.zip_nil_left,vbe hg,vcp,vam,vbb,zgp hl hn]
theorem zh9{z:Str}:∀{qs:List Str} {us:List Value},us.length=qs.length->(qs++[z]).zip us=qs.zip us
 |[],[],_=>rfl
 |[],_::_,h=>by cases h
 |_::_,[],h=>by cases h
 |q::qs,u::us,h=>by
  rw[vcn,vb1,vb1,zh9 (by simpa using h)]
theorem zgq{z:Str}{v:Value}:∀{qs:List Str} {us:List Value},us.length=qs.length->(qs++[z]).zip (us++[v])=qs.zip us++[(z,v)]
 |[],[],_=>rfl
 |[],_::_,h=>by cases h
 |_::_,[],h=>by cases h
 |q::qs,u::us,h=>by
  rw[vcn,vcn,vb1,vb1,zgq (by simpa using h),vcn]
theorem zna{z:Str}:∀{qs:List Str} {us:List Value},z∉qs->(qs.zip us).lookup z=none
 |[],_,_=>rfl
 |_::_,[],_=>rfl
 |q::qs,u::us,h=>by
  rw[vb1,vav]
  have e':(z==q)=false:=by simpa using(λe=>h (by rw[e];exact vaf))
  rw[e']
  exact zna λe=>h (vad _ e)
section
variable{x qual:Str}{args:List Arg}{df:List Expr}{body:List Stmt}{sc:Scope}{kV doc pm:Value}{an:Option Addr}{cdv ct:Value}{t:Addr}{o:Obj}{n:Nat}{s:Shared}{us:List Value}{qs:List Str}{z:Str}
theorem zrc(qs:List Str)(z:Str):List.drop ([Value.none].length- (qs++[z]).length) [Value.none]=[Value.none]:=by
 rw[vag,vba,vba,show 1- (qs.length+1)=0 by omega];rfl
theorem len_d(qs:List Str)(z:Str):(qs++[z]).length - [Value.none].length=qs.length:=by simp
theorem zld(ha:args.map (·.arg)=qs++[z])(hn:(qs++[z]).Nodup)(ho:s.heap.get? t=some o)(hd:o.data=.seq #[.none] n)(hl:us.length=(qs++[z]).length) :
 BindsTo s (PySem.W.fnOf x qual ⟨[],args,none,[],[],none,df⟩ body sc (.ref t) kV doc pm an cdv ct) ⟨us,[]⟩ ((qs++[z]).zip us):=by
 apply BindsTo.of_defaults (items:=#[.none]) (n:=n) rfl ho hd
 .unfold bindArgs
  simp only[PySem.W.fnOf,vdi,vcc,vb2,vc1,vef,ha]
  rfl
 .have hm:(qs.filter λn=>(((qs++[z]).zip us).lookup n).isNone)=[]:=by
   rw[List.filter_eq_nil_iff]
   intro n hn'
   have:=zc7 (n:=n) hl (List.mem_append_left _ hn')
   cases q:((qs++[z]).zip us).lookup n with
   |none=>rw[q]at this;cases this
   |some v=>simp
  have hz:(((qs++[z]).zip us).lookup z).isNone=false:=by
   have:=zc7 (n:=z) hl (vbf _ (vdm.mpr rfl))
   cases q:((qs++[z]).zip us).lookup z with
   |none=>rw[q]at this;cases this
   |some v=>rfl
  have hg:¬(us.length> (qs++[z]).length):=by omega
  simp only[Option.getD_some,zrc,len_d,vd1,List.take_left,List.drop_left,vd2,hm,vbe hg,vcp,vam,vbb,List.isEmpty_nil,vcd,vb1,List.zip_nil_right,vdl,vc1,hz,vef,zgp hl hn]
theorem zle(ha:args.map (·.arg)=qs++[z])(hn:(qs++[z]).Nodup)(ho:s.heap.get? t=some o)(hd:o.data=.seq #[.none] n)(hl:us.length=qs.length) :
 BindsTo s (PySem.W.fnOf x qual ⟨[],args,none,[],[],none,df⟩ body sc (.ref t) kV doc pm an cdv ct) ⟨us,[]⟩ ((qs++[z]).zip (us++[.none])):=by
 apply BindsTo.of_defaults (items:=#[.none]) (n:=n) rfl ho hd
 .unfold bindArgs
  simp only[PySem.W.fnOf,vdi,vcc,vb2,vc1,vef,ha]
  rfl
 .have hm:(qs.filter λn=>((qs.zip us).lookup n).isNone)=[]:=by
   rw[List.filter_eq_nil_iff]
   intro n hn'
   have:=zc7 (n:=n) hl hn'
   cases q:(qs.zip us).lookup n with
   |none=>rw[q]at this;cases this
   |some v=>simp
  have hzq:z∉qs:=λh=>(List.nodup_append.mp hn).2.2 z h z (vdm.mpr rfl) rfl
  have hz:((qs.zip us).lookup z).isNone=true:=by rw[zna hzq];rfl
  have hg:¬(us.length> (qs++[z]).length):=by rw[vag];omega
  have hl2:(us++[Value.none]).length=(qs++[z]).length:=by rw[vag,vag,hl];rfl
  have ha2:=zgp hl2 hn
  rw[zgq hl]at ha2
  simp only[Option.getD_some,zrc,len_d,zh9 hl,zgq hl,vd1,List.take_left,List.drop_left,vd2,hm,vbe hg,vcp,vam,vbb,List.isEmpty_nil,vcd,vb1,List.zip_nil_right,vdl,vc1,hz,va3,vef,ha2]
end
structure FunD(K:vga)(x qual:Str)(st:Stmt)(f:Addr)(fd:FuncData):Prop where
 ex:∃(oc:Value) (od:Option Addr) (dV kV doc pm:Value) (an:Option Addr) (cdv ct:Value) (osl:Array (Option Value)),fd=PySem.W.fnOf x qual (zsi st) (zen st) (zar st) dV kV doc pm an cdv ct/\K.lookup f=some ⟨oc,od,.func fd,osl⟩/\PySem.W.codeIn K cdv qual=true
 kp:PySem.W.keepIn K (.ref f)=true
theorem FunD.ok{P:Program}{w:World}{K:vga}{mg:Str->Option Value}{base:Heap}{x qual:Str}{st:Stmt}{f:Addr}{fd:FuncData}{N ps:List Str}{k:Nat}{sp:Sp}(F:FunD K x qual st f fd)(S:FnScope N ps (zar st))(len:∀vs H Q E,sp vs H Q E->vs.length=ps.length)
 (hbody:∀(cdv:Value)(A:Around)(outer:List Env)(s:Shared)(H:Hp)(vs:List V)(Q:VK)(E:XK),Room k (A.deeper (envOfC qual (zar st) s.heap.objs.size f cdv))->sp vs H Q E->∃t,PSs (cxOf CX0 P w K mg base N qual (zar st) f cdv A outer s H E).nox (zen st) t/\t {nx:=λ_ H'=>Q .non H',rt:=Q} (start N vs) H):FnOk P w K mg base CX0 (k+1) f fd ps sp:=
 let⟨_,_,_,_,_,_,_,cdv,_,_,e,lk,hcd⟩:=F.ex
 by subst e;exact fn_of lk hcd S len λA outer s H vs Q E hr hsp=>let⟨t,h,q⟩:=hbody cdv A outer s H vs Q E hr hsp;⟨t,h.nox,q⟩
section
variable{K:vga}{m m':Nat->Addr}{n n':Nat}{h h':VH}{H H':Hp}
mutual
theorem VRep.refsLt:∀{v:V} {w:W},VRep K m n H v w->W.lt n w=true
 |_,_,.non=>rfl
 |_,_,.bl _=>rfl
 |_,_,.int _=>rfl
 |_,_,.str _=>rfl
 |_,_,.tup _ r=>VReps.refsLt r
 |_,_,.fz _ r=>VReps.refsLt r
 |_,_,.ref q=>zan.mpr q
theorem VReps.refsLt:∀{vs:List V} {ws:List W},VReps K m n H vs ws->W.lts n ws=true
 |_,_,.nil=>rfl
 |_,_,.cons q r=>by
  show(W.lt n _&&W.lts n _)=true
  rw[VRep.refsLt q,VReps.refsLt r];rfl
end
mutual
theorem VRep.cut:∀{v:V} {w:W},VRep K m n' H v w->W.lt n w=true->VRep K m n H v w
 |_,_,.non,_=>.non
 |_,_,.bl b,_=>.bl b
 |_,_,.int b,_=>.int b
 |_,_,.str b,_=>.str b
 |_,_,.tup q r,e=>.tup q (VReps.cut r e)
 |_,_,.fz q r,e=>.fz q (VReps.cut r e)
 |_,_,.ref q,e=>.ref (zan.mp e)
theorem VReps.cut:∀{vs:List V} {ws:List W},VReps K m n' H vs ws->W.lts n ws=true->VReps K m n H vs ws
 |_,_,.nil,_=>.nil
 |_,_,.cons q r,e=>by
  have e:(W.lt n _&&W.lts n _)=true:=e
  rw[vac]at e
  exact .cons (VRep.cut q e.1) (VReps.cut r e.2)
end
theorem KReps.cut{m':Nat->Addr}{n1:Nat}{H':Hp}:∀{vs us:List (Key×V)} {ws:List (Key×W)},KReps K m n' H vs ws->KReps K m' n H' us ws->KReps K m n H vs ws
 |_,_,_,.nil,_=>.nil
 |_,_,_,.cons q r,.cons q2 r2=>.cons (q.cut q2.refsLt) (KReps.cut (n1:=n1) r r2)
theorem zjx{lo:Nat}(r:Rel K m h H):Rel K m ⟨h.n,lo,h.os⟩ H:=⟨r.obj,r.inj,r.len⟩
theorem zjy{w w2:W}{h1 h2:VH}{v:V}{Q:VK}(r:Rel K m h H)(s:Stp m h.n H m' h1.n H')(r1:Rel K m' h1 H')(q:VRep K m' h1.n H' v w)(g:Grow ⟨h.n,h.n,h.os⟩ h1)(e:leave h w h1=.ok w2 h2)(k:Wants K m h.n H w2 h2 Q):Q v H':=by
 unfold leave at e
 split at e
 .rename_i hc
  cases e
  rw[vac]at hc
  have hlo:=va5 hc.1
  refine k v H' m' ⟨vai _,s.same,λi a b=>absurd b (vci.mpr a),λi j a b=>absurd b (vci.mpr a),s.tup,s.frz,s.keep⟩ ⟨λi hi=>?_,λi j hi hj=>r1.inj i j (vak hi s.le) (vak hj s.le),r.len⟩ (q.cut hc.2)
  have hg:h1.get i=h.get i:=g.2.2 i hi (vak hi hlo)
  obtain⟨o,p1,p2⟩:=r1.obj i (vak hi s.le)
  rw[hg]at p1
  refine⟨o,p1,?_⟩
  have p3:=r.at_ p1
  cases o with
  |lst ws=>
   obtain⟨vs,a1,a2⟩:=p2
   obtain⟨us,b1,b2⟩:=p3
   exact⟨vs,a1,a2.cut b2.refsLt⟩
  |dk ws=>
   obtain⟨vs,a1,a2⟩:=p2
   obtain⟨us,b1,b2⟩:=p3
   exact⟨vs,a1,KReps.cut (n1:=0) a2 b2⟩
  |dt ks ws=>
   obtain⟨xs,a1,a0,a2,a3⟩:=p2
   obtain⟨us,b1,b0,b2,b3⟩:=p3
   exact⟨xs,a1,a0,a2.cut b2.refsLt,a3.cut b3.refsLt⟩
  |ins C xs ws=>
   obtain⟨dx,vs,a1,a0,a2⟩:=p2
   obtain⟨dx',us,b1,b0,b2⟩:=p3
   exact⟨dx,vs,a1,a0,a2.cut b2.refsLt⟩
 .cases e
  exact k v H' m' s (zjx r1) q
theorem zp1{N:List Str}{vs:List V}{ws:List W}(q:VReps K m n H vs ws):Fr K m n H (L2.start N vs) (ws.map some++vgc (N.length-ws.length) none):=by
 unfold L2.start
 refine⟨by simp[q.length],λi w e=>?_⟩
 by_cases hi:i<ws.length
 .rw[vbg (by simpa using hi)]at e
  rw[vbg (by simpa[q.length]using hi)]
  rw[va2]at e ⊢
  cases z:ws[i]? with
  |none=>rw[z]at e;cases e
  |some w'=>
   rw[z]at e
   cases e
   obtain⟨v,h1,h2⟩:=q.get z
   exact⟨v,by rw[h1];rfl,h2⟩
 .rw[vau (by simpa using vci.mp hi)]at e
  rw[vco]at e
  split at e<;>cases e
end
theorem zdp{F:Nat->Option Fn}{k idx:Nat}{ws:List W}{h h':VH}{w:W}{fn:Fn}(hF:F idx=some fn)(e:run F k idx ws h=.ok w h'):ws.length=fn.ps:=by
 cases k with
 |zero=>cases e
 |succ k=>
  simp only[run,hF]at e
  split at e
  .rename_i hl;exact vc5 hl
  .cases e
theorem zrd{P:Program}{w:World}{K:vga}{mg:Str->Option Value}{base:Heap}{F:Nat->Option Fn}{k idx:Nat}{fn:Fn}{x qual:Str}{st:Stmt}{f:Addr}{fd:FuncData}{N ps:List Str}(hF:F idx=some fn)(Fu:FunD K x qual st f fd)(S:FnScope N ps (zar st))
 (hn:fn.n=N.length) (hp:fn.ps=ps.length)
 (hbody:∀(cdv:Value)(A:Around)(outer:List Env)(s:Shared)(H:Hp)(E:XK),Room k (A.deeper (envOfC qual (zar st) s.heap.objs.size f cdv))->SSs (cxOf CX0 P w K mg base N qual (zar st) f cdv A outer s H E).nox (zen st) (exs (run F k) fn.body)) :
 FnOk P w K mg base CX0 (k+1) f fd ps (spV K ps.length (run F (k+1) idx)):=by
 refine Fu.ok S (λvs H Q E h=>h.1) λcdv A outer s H vs Q E hr hsp=>?_
 refine⟨_,hbody cdv A outer s H E hr,?_⟩
 obtain⟨hl,h,m,ws,w2,h2,r,q,e,k2⟩:=hsp
 have hws:=zdp hF e
 simp only[run,hF]at e
 split at e
 .refine zad e λfl h1 e1 e2=>?_
  have g:=zhz (zh0 F k) _ _ _ _ _ e1
  have hN:fn.n-fn.ps=N.length-ws.length:=by rw[hn,hws]
  rw[hN]at e1
  refine⟨_,⟨h.n,h.n,h.os⟩,m,fl,h1,zp1 q,zjx r,e1,λH' m' s' r'=>?_⟩
  cases fl with
  |nx ρ=>exact λσ' f'=>zjy r s' r' .non g e2 k2
  |rt w3=>exact λv q3=>zjy r s' r' q3 g e2 k2
  |bk _=>cases e2
  |ct _=>cases e2
 .cases e
theorem znb{P:Program}{w:World}{K:vga}{mg:Str->Option Value}{base:Heap}{F:Nat->Option Fn}{idx:Nat}{f:Addr}{fd:FuncData}{ps:List Str}:FnOk P w K mg base CX0 0 f fd ps (spV K ps.length (run F 0 idx)):=
 ⟨λvs H Q E h=>h.1,λA outer s H args us vs Q E hr he hb hv hs=>by obtain⟨_,h,m,ws,w2,h2,r,q,e,k2⟩:=hs;cases e⟩
theorem zfr{x:Str}:∀{vs:List (Str×V)} {ws:List W},vs.length=ws.length->lookF x (vs.map (·.1)) ws=none->vs.lookup x=none
 |[],_,_,_=>rfl
 |(y,v)::vs,[],hl,_=>by cases hl
 |(y,v)::vs,w::ws,hl,e=>by
  rw[vao]at e
  unfold lookF at e
  by_cases z:y=x
  .rw[if_pos z]at e;cases e
  .rw[if_neg z]at e
   rw[vav,vcf.mpr (vbw z)]
   exact zfr (by simpa using hl) e
theorem zp2{K:vga}{m:Nat->Addr}{h:VH}{H:Hp}{C:Addr}{x:Str}{v:V}{o:W}(r:Rel K m h H)(q:VRep K m h.n H v o)(e:isIns C x h o=true):∃a dx fs,v=.ref a/\H a=some (.ins C dx fs)/\fs.lookup x=none:=by
 unfold isIns at e
 split at e
 .rename_i i
  split at e
  .rename_i D xs ws g
   rw[vac,vaj]at e
   obtain⟨rfl,e⟩:=e
   cases q
   obtain⟨dx,vs,p1,p0,p2⟩:=r.ins g
   have hl:=p2.length
   rw[vab]at hl
   refine⟨_,dx,vs,rfl,p1,zfr hl ?_⟩
   rw[p0]
   simpa using e
  .cases e
 .cases e
noncomputable abbrev gMc(C:Addr)(mt:Str)(fo fa:FE)(g:List W->VH->Res W):FE:=λρ h=>(fo ρ h).bind λx h=>if isIns C mt h x then(fa ρ h).bind λy h=>match y with|.tup ys=>g (x::ys) h|_=>.no else .no
section
variable{X:Cx}{a b c e o:Expr}{es:List Expr}{fa fb fc fo:FE}{pos p:Pos}{x:Str}
theorem zp3{k:Nat}{C f:Addr}{fd:FuncData}{ps:List Str}{mt:Str}{apos:Pos}{pl:Sem Bool}{g:List W->VH->Res W}(c:Cls X.K C)(hm:Meth X.K C mt f)(F:FnOk X.prog X.w X.K X.mg X.base CX0 k f fd ps (spV X.K ps.length g))(hr:Room k X.A)(hb:Binds X.K fd ps [])
 (ho:SE X o fo) (ha:SA X (e::es) fa) (hs:(e::es).all zay=true) (hn:∀ws h w h',g ws h=.ok w h'->ws.length=ps.length)
 (ht:eval (.Call (.Attribute o mt apos) (e::es) [] pos) X.env=(do
   let ov <-eval o X.env
   standAt apos.atName
   let (f,first) <-holding [ov] (getMethod ov mt pl)
   callWith pos f first (backTo pos (starEach (e::es) X.env)) (backToKw pos (keywordEach [] X.env)))) :
 SE X (.Call (.Attribute o mt apos) (e::es) [] pos) (gMc C mt fo fa g):=by
 rw[vb5,vac]at hs
 refine(zr8 (pl:=pl) ho c hm F hr hb .nil pass0 ha (zai hs.1) (zbn hs.2) ht).imp λσ H Q z9=>z9.el λρ h m w h' f r e k=>?_
 refine zad e λx h1 e1 e2=>?_
 refine(.mk f r e1 λv H1 m1 s1 r1 q1=>?_)
 split at e2
 .rename_i hi
  refine zad e2 λy h2 e3 e4=>?_
  cases y with
  |tup ys=>
   obtain⟨a,dx,fs,hv,ea,hl⟩:=zp2 r1 q1 hi
   refine⟨a,dx,fs,hv,ea,hl,ρ,h1,m1,ys,h2,f.stp s1,r1,e3,λvs H2 m2 s2 r2 q2=>?_⟩
   show spV X.K ps.length g (v:: (vs++[])) H2 Q E0
   rw[vb2]
   have q3:VReps X.K m2 h2.n H2 (v::vs) (x::ys):=.cons (q1.stp s2) q2
   exact⟨by rw[q3.length];exact hn _ _ _ _ e4,h2,m2,x::ys,w,h',r2,q3,e4,λv' H' m' s' r' q'=>k v' H' m' ((s1.trans s2).trans s') r' q'⟩
  |_=>cases e4
 .cases e2
theorem zta{K:vga}{np:Nat}{C:Addr}{g:List W->VH->Res W}{dw:List W}{dv:List V}(hd:∀m n H,VReps K m n H dv dw)(hn:∀ws h w h',g ws h=.ok w h'->ws.length=np){m:Nat->Addr}{h:VH}{H:Hp}{vs:List V}{xs:List W}{w:W}{h':VH}{Q:VK}
 (r:Rel K m h H) (q:VReps K m h.n H vs xs) (e:mkR C g (xs++dw) h=.ok w h') (k:Wants K m h.n H w h' Q) :
 ∀x dx,H x=none->H dx=none->dx≠x->spV K np g (.ref x:: (vs++dv)) (upd (upd H dx (.own x)) x (.ins C dx [])) (λv H2=>v=.non/\Q (.ref x) H2) E0:=by
 intro px dx hpx hdx hne
 refine zad e λv h2 e1 e2=>?_
 split at e2
 .rename_i hv
  cases e2
  have hv:v=.non:=by cases v<;>first|rfl|cases hv
  subst hv
  obtain⟨st0,r0⟩:=r.more (u:=.own px) hdx
  have hpx':upd H dx (.own px) px=none:=by rw[zag (vbw hne)];exact hpx
  obtain⟨st1,r1⟩:=r0.alloc (o:=.ins C [] []) (u:=.ins C dx []) hpx' (λ_ z=>nomatch z) (λst=>⟨dx,[],zaq,rfl,.nil⟩)
  have st:=st0.trans st1
  have q1:VReps K (λi=>if i=h.n then px else m i) (h.n+1) (upd (upd H dx (.own px)) px (.ins C dx [])) (.ref px:: (vs++dv)) (.ref h.n:: (xs++dw)):=by
   have:VRep K (λi=>if i=h.n then px else m i) (h.n+1) (upd (upd H dx (.own px)) px (.ins C dx [])) (.ref ((λi=>if i=h.n then px else m i) h.n)) (.ref h.n):=.ref (vbo _)
   simp only[va3]at this
   exact .cons this ((q.stp st).append (hd _ _ _))
  refine⟨by rw[q1.length];exact hn _ _ _ _ e1,h.new (.ins C [] []),_,_,.non,h',r1,q1,e1,λv' H' m' s' r' q'=>?_⟩
  cases q'
  refine⟨rfl,?_⟩
  have hm:m' h.n=px:=by
   have:=s'.same h.n (show h.n<h.n+1 by omega)
   simp only[va3]at this
   exact this
  have q2:VRep K m' h'.n H' (.ref (m' h.n)) (.ref h.n):=.ref (vak (show h.n<h.n+1 by omega) s'.le)
  rw[hm]at q2
  exact k _ H' m' (st.trans s') r' q2
 .cases e2
end
noncomputable def varsE(i:Nat):Nat->E
 |0=>.nil
 |n+1=>.cons (.var i) (varsE (i+1) n)
noncomputable def clsFn(C:Addr)(ii np:Nat):Fn:=⟨np,np,.seq (.ret (.mk C ii (varsE 0 np))) .skip⟩
theorem znc{cl:Call}{h:VH}:∀(ys zs:List W),ev cl (varsE zs.length ys.length) ((zs++ys).map some) h=.ok (.tup ys) h
 |[],_=>rfl
 |y::ys,zs=>by
  have ih:=znc (cl:=cl) (h:=h) ys (zs++[y])
  rw[vag,vba,vbr,vc6]at ih
  have hv:ev cl (.var zs.length) ((zs++y::ys).map some) h=.ok y h:=by
   rw[ev]
   have:((zs++y::ys).map some)[zs.length]?=some (some y):=by simp
   rw[this];rfl
  rw[vap,varsE,ev,hv]
  show(ev cl (varsE (zs.length+1) ys.length) ((zs++y::ys).map some) h).bind _=_
  rw[ih];rfl
theorem ztb{F:Nat->Option Fn}{C:Addr}{ci ii np k:Nat}{ys:List W}{h h':VH}{w:W}(hF:F ci=some (clsFn C ii np))(e:run F (k+1) ci ys h=.ok w h') :
 ∃h2 lo,mkR C (run F k ii) ys ⟨h.n,h.n,h.os⟩=.ok (.ref h.n) h2/\w=.ref h.n/\h'=⟨h2.n,lo,h2.os⟩:=by
 have hl:ys.length=np:=zdp hF e
 have hv:=znc (cl:=run F k) (h:=⟨h.n,h.n,h.os⟩) ys []
 rw[vcc,vd0,hl]at hv
 rw[run,hF]at e
 simp only at e
 rw[if_pos (by show Nat.beq ys.length np=true;rw[hl];exact Nat.beq_refl np)]at e
 have hz:(clsFn C ii np).n- (clsFn C ii np).ps=0:=Nat.sub_self np
 rw[hz,List.replicate_zero,vb2]at e
 refine zad e λfl h1 e1 e2=>?_
 have e1:exs (run F k) (.seq (.ret (.mk C ii (varsE 0 np))) .skip) (ys.map some) ⟨h.n,h.n,h.os⟩=.ok fl h1:=e1
 have hm:ev (run F k) (.mk C ii (varsE 0 np)) (ys.map some) ⟨h.n,h.n,h.os⟩=mkR C (run F k ii) ys ⟨h.n,h.n,h.os⟩:=by
  rw[ev,hv];rfl
 rw[exs,exs,hm]at e1
 refine zad e1 λf2 h3 e3 e4=>?_
 refine zad e3 λw2 h4 e5 e6=>?_
 cases e6
 cases e4
 have hw:w2=.ref h.n:=by
  refine zad e5 λv h5 _ e7=>?_
  split at e7
  .cases e7;rfl
  .cases e7
 subst hw
 have e2:leave h (.ref h.n) h1=.ok w h':=e2
 have hlt:W.lt h.n (.ref h.n)=false:=by
  show Nat.blt h.n h.n=false
  cases z:Nat.blt h.n h.n with
  |false=>rfl
  |true=>exact absurd (zan.mp z) (vca _)
 unfold leave at e2
 rw[hlt,Bool.and_false]at e2
 cases e2
 exact⟨h1,_,e5,rfl,rfl⟩
section
variable{X:Cx}{e:Expr}{es:List Expr}{fa:FE}{pos p:Pos}{x:Str}
theorem zre{K:vga}{F:Nat->Option Fn}{np k ci ii na:Nat}{C:Addr}{dw:List W}{dv:List V}(hF:F ci=some (clsFn C ii na))(hd:∀m n H,VReps K m n H dv dw)(hn:∀ws h w h',run F k ii ws h=.ok w h'->ws.length=np){m:Nat->Addr}{h:VH}{H:Hp}{vs:List V}{xs:List W}{w:W}{h':VH}{Q:VK}
 (r:Rel K m h H) (q:VReps K m h.n H vs xs) (e:run F (k+1) ci (xs++dw) h=.ok w h') (kk:Wants K m h.n H w h' Q) :
 ∀x dx,H x=none->H dx=none->dx≠x->spV K np (run F k ii) (.ref x:: (vs++dv)) (upd (upd H dx (.own x)) x (.ins C dx [])) (λv H2=>v=.non/\Q (.ref x) H2) E0:=by
 obtain⟨h2,lo,e1,rfl,rfl⟩:=ztb hF e
 exact zta (h:=⟨h.n,h.n,h.os⟩) hd hn (zjx r) q e1 λv H' m' s' r' q'=>kk v H' m' s' (zjx r') q'
theorem zxh{k ci ii na:Nat}{F:Nat->Option Fn}{C f:Addr}{fd:FuncData}{ps:List Str}(hF:F ci=some (clsFn C ii na))(M:Mk X.K C f)(FO:FnOk X.prog X.w X.K X.mg X.base CX0 k f fd ps (spV X.K ps.length (run F k ii)))(hr:Room (k+1) X.A)(hg:Gl X x)(hm:X.mg x=some (.ref C))(hb:Binds X.K fd ps [])
 (ha:SA X (e::es) fa) (hs:(e::es).all zay=true) (hdb:(x==("__debug__" : Str))=false) (hn:∀ws h w h',run F k ii ws h=.ok w h'->ws.length=ps.length):SE X (.Call (.Name x p) (e::es) [] pos) (gArg fa (run F (k+1) ci)):=by
 rw[vb5,vac]at hs
 refine(zmc M FO hr hg hm hb .nil pass0 ha hdb (zai hs.1) (zbn hs.2)).imp λσ H Q q=>zcf (G:=λvs H1 Q=>∀x dx,H1 x=none->H1 dx=none->dx≠x->spV X.K ps.length (run F k ii) (.ref x:: (vs++[])) (upd (upd H1 dx (.own x)) x (.ins C dx [])) (λv H2=>v=.non/\Q (.ref x) H2) E0) (λm h H vs xs w h' Q r q e kk=>?_) q
 exact zre (dw:=[]) (dv:=[]) hF (λ_ _ _=>.nil) hn r q (by rw[vb2];exact e) kk
theorem ztc{k ci ii na:Nat}{F:Nat->Option Fn}{C f:Addr}{fd:FuncData}{ps:List Str}(hF:F ci=some (clsFn C ii na))(M:Mk X.K C f)(FO:FnOk X.prog X.w X.K X.mg X.base CX0 k f fd ps (spV X.K ps.length (run F k ii)))(hr:Room (k+1) X.A)(hg:Gl X x)(hm:X.mg x=some (.ref C))(hb:Binds X.K fd ps [.none])
 (ha:SA X (e::es) fa) (hs:(e::es).all zay=true) (hdb:(x==("__debug__" : Str))=false) (hn:∀ws h w h',run F k ii ws h=.ok w h'->ws.length=ps.length):SE X (.Call (.Name x p) (e::es) [] pos) (gArg fa λws h=>run F (k+1) ci (ws++[.non]) h):=by
 rw[vb5,vac]at hs
 refine(zmc M FO hr hg hm hb (dvs:=[V.non]) (.cons rfl .nil) pass0 ha hdb (zai hs.1) (zbn hs.2)).imp λσ H Q q=>zcf (G:=λvs H1 Q=>∀x dx,H1 x=none->H1 dx=none->dx≠x->spV X.K ps.length (run F k ii) (.ref x:: (vs++[V.non])) (upd (upd H1 dx (.own x)) x (.ins C dx [])) (λv H2=>v=.non/\Q (.ref x) H2) E0) (λm h H vs xs w h' Q r q e kk=>?_) q
 exact zre (dw:=[.non]) (dv:=[V.non]) hF (λ_ _ _=>.cons .non .nil) hn r q e kk
end
noncomputable def clsB(K:vga)(C:Addr):Bool:=PySem.W.plainGet K C Str.empty&&PySem.W.hasDictIn K C&&PySem.W.plainOver K C&& (match PySem.W.findIn K (.ref C) "__setattr__"with
 |some (some (.builtin s))=>s == "object.__setattr__"
 |_=>false)
theorem ztd{K:vga}{C:Addr}(h:clsB K C=true):Cls K C:=by
 unfold clsB at h
 simp only[vac]at h
 obtain⟨⟨⟨h1,h2⟩,h3⟩,h4⟩:=h
 refine⟨h1,h2,h3,?_⟩
 split at h4
 .rename_i s e
  rw[e,show s = "object.__setattr__" by simpa using h4]
 .cases h4
noncomputable def zgr(K:vga)(C:Addr)(f:Str):Bool:=match PySem.W.findIn K (.ref C) f with
 |some none=>true
 |_=>false
theorem zfs{K:vga}{C:Addr}{f:Str}(h:zgr K C f=true):zc4 K C f:=by
 unfold zgr at h
 split at h
 .rename_i e;exact e
 .cases h
noncomputable def znd(K:vga)(C:Addr)(m:Str):Option Addr:=match PySem.W.findIn K (.ref C) m with
 |some (some (.ref f))=>if PySem.W.isFn K (.ref f)&&PySem.W.keepIn K (.ref f)then some f else none
 |_=>none
theorem zne{K:vga}{C f:Addr}{m:Str}(h:znd K C m=some f):Meth K C m f:=by
 unfold znd at h
 split at h
 .rename_i g e
  split at h
  .rename_i hc
   rw[vac]at hc
   cases h
   exact⟨e,hc.1,hc.2⟩
  .cases h
 .cases h
noncomputable def mkB(K:vga)(C f:Addr):Bool:=PySem.W.makesIn K C&&PySem.W.keepIn K (.ref C)&&PySem.W.isFn K (.ref f)&& (match PySem.W.findIn K (.ref C) "__init__"with
 |some (some (.ref g))=>Nat.beq g f
 |_=>false)
theorem zxi{K:vga}{C f:Addr}(h:mkB K C f=true):Mk K C f:=by
 unfold mkB at h
 simp only[vac]at h
 obtain⟨⟨⟨h1,h2⟩,h3⟩,h4⟩:=h
 split at h4
 .rename_i g e
  have:g=f:=vc5 h4
  subst this
  exact⟨h1,e,h3,h2⟩
 .cases h4
theorem zxj{es:List Expr}{env:Env}{pos:Pos}(hs:es.all zay=true)(hn:Nat.blt es.length 30=true):methodCallForm (es.length+ ([]:List Keyword).length) (backTo pos (starEach es env)) (backToKw pos (keywordEach [] env))=true:=by
 have h:=zbn (env:=env) (pos:=pos) hs
 unfold methodCallForm
 have h1:((backTo pos (starEach es env)).all (!·.1))=true:=by
  rw[vbi]
  intro x hx
  cases q:x.1 with
  |false=>rfl
  |true=>
   have:(backTo pos (starEach es env)).any (·.1)=true:=List.any_eq_true.mpr ⟨x,hx,q⟩
   rw[h]at this;cases this
 rw[h1]
 show(true&&true&&decide (es.length+0+0<30))=true
 rw[vbs (by have:=zan.mp hn;omega)]
 rfl
theorem zte{o e:Expr}{es:List Expr}{mt:Str}{apos pos:Pos}{env:Env}(hb:zdo o=true)(hl:(apos.endLine==pos.line)=true)(hs:(e::es).all zay=true)(hn:Nat.blt (e::es).length 30=true) :
 eval (.Call (.Attribute o mt apos) (e::es) [] pos) env=(do
  let ov <-eval o env
  standAt apos.atName
  let (f,first) <-holding [ov] (getMethod ov mt (do return (<-importBound o env).getD true))
  callWith pos f first (backTo pos (starEach (e::es) env)) (backToKw pos (keywordEach [] env))):=by
 rw[arm_eval_Call,zgm hb]
 unfold methodCall calleeOf methodCallPos
 rw[zxj hs hn]
 simp only[va3,vcd,vdb,hl]
 rfl
noncomputable def zbm(x:Str):Bool:=x==("Balls" : Str)
noncomputable def metOf(x:Str):Option Str:=if x==("Balls.fall" : Str)then some "fall"else if x==("Balls.__init__" : Str)then some "__init__"else none
noncomputable def metIx(m:Str):Option Str:=if m==("fall" : Str)then some "Balls.fall"else none
theorem zp4{m x:Str}(h:metIx m=some x):metOf x=some m/\x≠""/\zbm x=false:=by
 unfold metIx at h
 split at h
 .rename_i z
  cases h
  have z:m = "fall":=by simpa using z
  subst z
  exact⟨by decide +kernel,by decide +kernel,by decide +kernel⟩
 .cases h
noncomputable def clsAt(K:vga):Option Addr:=match PySem.W.nsIn K mainGlobals "Balls"with
 |some (some (.ref C))=>if clsB K C then some C else none
 |_=>none
theorem zea{K:vga}{C:Addr}(h:clsAt K=some C):PySem.W.nsIn K mainGlobals "Balls" = some (some (.ref C))/\Cls K C:=by
 unfold clsAt at h
 split at h
 .rename_i C' e
  split at h
  .rename_i hc
   cases h
   exact⟨e,ztd hc⟩
  .cases h
 .cases h
noncomputable def refAt(K:vga)(x:Str):Option Addr:=match metOf x with
 |some m=>(match clsAt K with
  |some C=>znd K C m
  |none=>none)
 |none=>(match PySem.W.nsIn K mainGlobals x with
  |some (some (.ref f))=>some f
  |_=>none)
theorem zjz{K:vga}{x:Str}{f:Addr}(h:refAt K x=some f)(hm:metOf x=none):PySem.W.nsIn K mainGlobals x=some (some (.ref f)):=by
 unfold refAt at h
 rw[hm]at h
 simp only at h
 split at h
 .rename_i g e;cases h;exact e
 .cases h
theorem zlf{K:vga}{x m:Str}{f C:Addr}(h:refAt K x=some f)(hm:metOf x=some m)(hc:clsAt K=some C):Meth K C m f:=by
 unfold refAt at h
 rw[hm]at h
 simp only[hc]at h
 exact zne h
end RF
namespace HT
open PySem PySem.Spec PyProof.Rows
section
variable{prog:Program}{w:World}{A:Around}{E:Value->Shared->Prop}{s:Shared}
theorem zlg(n:Nat):Builtin.Slice.slicePlaces ((n:Int)-1) (-1) (-1)=n:=by
 unfold Builtin.Slice.slicePlaces
 have h1:¬((-1:Int)>0):=by lia
 simp only[h1,vbb]
 show(if((n:Int)-1) > -1 then(((n:Int)-1) - -1-1)/ (- -1)+1 else 0).toNat=n
 rw[show(- (-1:Int))=1 from rfl,Int.ediv_one]
 split<;>lia
theorem zd4{sl:Addr}{vk:Value}{n:Nat}{Q:Int×Int×Nat->Shared->Prop}(hs:s.heap.IsSliceOf sl .none .none vk)(pk:IsPart vk (some (-1)))
 (h:Q ((n:Int)-1,-1,n) s):wpAny (model prog w) A (Builtin.Slice.sliceApplied (.ref sl) (pure (n:Int))) Q E s:=by
 obtain⟨os,hos,hcs,hds⟩:=id hs
 unfold Builtin.Slice.sliceApplied Builtin.Slice.sliceFields
 refine vaa (vaa (vbz hos hds (x:=.none) rfl (vaa (vbz hos hds (x:=.none) rfl (vaa (vbz hos hds (x:=vk) rfl (vah ?_)))))))
 refine vaa (zb1 pk ?_)
 show wpAny _ _ (if((-1:Int)==0)=true then _ else _) _ _ s
 rw[if_neg (by decide)]
 refine vaa (zb1 .none (vaa (zb1 .none (vaa (vah ?_)))))
 show wpAny _ _ (pure ((n:Int)-1,(-1:Int),Builtin.Slice.slicePlaces ((n:Int)-1) (-1) (-1))) _ _ s
 rw[zlg]
 exact vah h
theorem zp5(xs:Array Value):((List.range xs.size).filterMap λ(m:Nat)=>xs[(((xs.size:Int)-1)+ (m:Int)* (-1)).toNat]?).toArray=xs.toList.reverse.toArray:=by
 congr 1
 have e:∀(l:List Value),((List.range l.length).filterMap λ(m:Nat)=>l[(((l.length:Int)-1)+ (m:Int)* (-1)).toNat]?)=l.reverse:=by
  intro l
  refine List.ext_getElem? λi=>?_
  have hm:((List.range l.length).filterMap λ(m:Nat)=>l[(((l.length:Int)-1)+ (m:Int)* (-1)).toNat]?)=(List.range l.length).map λ(m:Nat)=>l.getD (l.length-1-m) .none:=by
   have key:∀ms:List Nat,(∀m∈ms,m<l.length)->(ms.filterMap λ(m:Nat)=>l[(((l.length:Int)-1)+ (m:Int)* (-1)).toNat]?)=ms.map λ(m:Nat)=>l.getD (l.length-1-m) .none:=by
    intro ms
    induction ms with
    |nil=>intro _;rfl
    |cons m r ih=>
     intro h
     have hm:=h m vaf
     have e1:l[(((l.length:Int)-1)+ (m:Int)* (-1)).toNat]?=some (l.getD (l.length-1-m) .none):=by
      rw[show(((l.length:Int)-1)+ (m:Int)* (-1)).toNat=l.length-1-m by lia,vbh,va0 (by lia)]
      rfl
     rw[vcg,e1,vao,ih λx hx=>h x (vad _ hx)]
   exact key _ λm hm=>List.mem_range.mp hm
  rw[hm,va2]
  by_cases hi:i<l.length
  .rw[List.getElem?_range hi,List.getElem?_reverse hi,va1,vbh,va0 (by lia)]
   rfl
  .rw[List.getElem?_eq_none (by rw[List.length_range];lia),List.getElem?_eq_none (by rw[vb6];lia)]
   rfl
 have:=e xs.toList
 simp only[vcq,Array.getElem?_toList]at this
 exact this
theorem getItem_tuple_rev{t sl:Addr}{items:Array Value}{vk:Value}{Q:Value->Shared->Prop}(ht:IsTup s.heap t items)(hs:s.heap.IsSliceOf sl .none .none vk)(pk:IsPart vk (some (-1)))
 (h:Q (.ref s.heap.objs.size) {s with heap:=s.heap.push {cls:=.type "tuple",data:=.seq items.toList.reverse.toArray}})
 (hsz:items.size<=sizeLine):wpAny (model prog w) A (getItem (.ref t) (.ref sl)) Q E s:=by
 have htake:sizeOk (.seq items.toList.reverse.toArray):=by
  show items.toList.reverse.toArray.size<=sizeLine
  rw[van,vb6,vcq]
  exact hsz
 obtain⟨os,hos,hcs,hds⟩:=id hs
 have hTs:s.TypeIs (.ref sl) "slice":=⟨os,hos,hcs⟩
 unfold getItem
 try with_reducible refine vcx ?_
 first|refine vaa (vah ?_)|skip
 refine vaa (wpAny_sequenceKey ht.typeIs (by decide) ?_)
 refine vaa (vb0 (name:=Str.ofString "__getitem__") ht.typeIs vaz
  (vb4 vaz ht.typeIs entry_tuple_getitem ?_ (args_tuple_getitem _ _)))
 show wpAny _ _ (Builtin.Tuple.tupleItemsOf (.ref t) >>= _) _ _ s
 refine vaa (tupleItemsOf_ ht ?_)
 refine vaa (vee hTs ?_)
 rw[if_pos (by decide)]
 refine vaa (zd4 hs pk ?_)
 have hno:¬((((items.size:Int)-1)==0&& (-1:Int)==1&&items.size==items.size)=true):=by
  intro q
  rw[vac,vac]at q
  exact absurd q.1.2 (by decide)
 show wpAny _ _ (if(((items.size:Int)-1)==0&& (-1:Int)==1&&items.size==items.size)=true then _ else _) _ _ s
 rw[if_neg hno,zp5]
 first
  |exact vaa (m:=Builtin.Tuple.tupleExact _) (vbq (vah ⟨_,rfl,vah h⟩) htake)
  |exact vaa (m:=Builtin.Tuple.tupleExact _) (vbq (vaa (vah (vah ⟨_,rfl,vah h⟩))) htake)
  |exact vaa (vaa (m:=Builtin.Tuple.tupleExact _) (vbq (vah (vah ⟨_,rfl,vah h⟩)) htake))
  |exact vaa (vaa (m:=Builtin.Tuple.tupleExact _) (vbq (vah ⟨_,rfl,vah h⟩) htake))
end
end HT
namespace L2
open PySem PySem.Spec PyProof.Rows
section
variable{X:Cx}{e k:Expr}{te:TE}{tk:TO}{pos p2:Pos}
theorem zxk(he:PE X e te)(hk:PO X (some k) tk):PE X (.Subscript e (.Slice none none (some k) p2) pos) (λσ H Q=>te σ H λx H1=>tk σ H1 λo H2=>∃a xs,x=.ref a/\o=some (-1)/\SqT X.K H2 a xs/\∀p,H2 p=none->Q (.ref p) (upd H2 p (.tup xs.reverse))):=by
 intro pins s σ H Q I h
 refine Subscript_ (thn (he pins s σ H _ I h) λv s1 z9=>z9.el λx H1 I1 r1 q1=>?_)
 refine wpAny_Slice ?_
 rw[evalPart_none]
 refine vah (vah ?_)
 refine thn (hk pins s1 σ H1 _ I1 q1) λvk s2 hq0=>?_
 obtain⟨o,H2,I2,pk,q2⟩:=hq0
 obtain⟨a,xs,rfl,rfl,hx,q⟩:=q2
 cases r1
 have I4:Inv X pins σ H2 {s2 with heap:=s2.heap.push {cls:=.type "slice",data:=.fields #[.none,.none,vk]}}:=I2.kept (t':=s2.toks) λb ob q=>vae _ q
 obtain⟨its,r,ht,hz⟩:=I4.tuple hx
 have hlen:its.toArray.size=xs.length:=by rw[van];exact r.length.symm
 show wpAny (model X.prog X.w) X.A (subscriptTail e (.Slice none none (some k) p2) (.ref a) (.ref s2.heap.objs.size)) (EP X pins σ Q) X.xe {s2 with heap:=s2.heap.push {cls:=.type "slice",data:=.fields #[.none,.none,vk]}}
 refine tail_any (ops:=[.ref a,.ref s2.heap.objs.size]) ht.typeIs vaz.lookup ?_ (by with_unfolding_all rfl)
 refine HT.getItem_tuple_rev ht (Heap.IsSliceOf.new ..) pk ?_ (by rw[hlen];exact hz)
 refine⟨.ref _,_,I4.laid (t':=s2.toks) (o:=.tup xs.reverse) (λb ob q=>vae _ q) (vai _) ?_,rfl,q _ (I4.hok.fresh (vai _))⟩
 exact⟨by rw[vb6];exact hz,_,r.reverse,zbp.new _ _⟩
end
section
variable{X:Cx}{e f:Expr}{apos cpos p:Pos}{ty tx:TE}{g:Str}{D:Addr}{kvs:List (Key×V)}{vs:List (Key×Value)}{o:Obj}{es:Array DictEntry}{ep:Nat}
theorem ztf(hg:Gl X g)(hdb:(g==("__debug__" : Str))=false)(hm:X.mg g=some (.ref D))(hD:(D==sysModules)=false)(hb:X.base.get? D=some o)(hx:o.ExactDict)(hd:o.data=.dict es ep)(hk:PySem.KeysOf (zax X.prog X.w) es)(hp:PySem.Pairs (zax X.prog X.w) es.toList vs)(hn:(vs.map (·.1)).Nodup)(rel:KV kvs vs)
 (he:PE X e ty) (hf:PE X f tx) (m:M2 X (.Name g p) "get" apos e f cpos) :
 PE X (.Call (.Attribute (.Name g p) "get" apos) [e,f] [] cpos) (λσ H Q=>ty σ H λy H1=>tx σ H1 λz H2=>∃k,y=kV k/\Q ((valV kvs k).getD z) H2):=by
 intro pins s σ H Q I h
 have dd:∀{s':Shared}{H':Hp},Inv X pins σ H' s'->s'.heap.DictOf (zax X.prog X.w) D vs:=λI'=>⟨o,es,ep,(I'.bs D o hb).1,hx,hd,hk,hp,hn⟩
 refine wpAny_Call_method m.base m.few m.line PySem.F.plainAttrs_dict PySem.F.slot_dict_get PySem.F.type_dict_get (thn (zlx hg hm (v:=.ref D) rfl hdb pins s σ H (λx H1=>x=.ref D/\ty σ H1 λy H1=>tx σ H1 λz H2=>∃k,y=kV k/\Q ((valV kvs k).getD z) H2) I ⟨rfl,h⟩) λu s1 z9=>z9.el λx H1 I1 rx hq0=>?_)
 obtain⟨ex,q1⟩:=hq0
 subst ex
 obtain rfl:u=Value.ref D:=rx
 refine⟨(dd I1).typeIs,λb q=>?_,?_⟩
 .cases q
  exact⟨o,(I1.bs D o hb).1,hx.2.1⟩
 rw[m.trees]
 refine Calls.callWith_builtin rfl (Calls.evalArgs_plain (Calls.spliced_cons (thn (he pins s1 σ H1 _ I1 q1) λiv s2 z9=>z9.el λy H2 I2 ry q2=>
  Calls.spliced_cons (thn (hf pins s2 σ H2 _ I2 q2) λfv s3 z9=>z9.el λz H3 I3 rz ⟨k,ey,q3⟩=>Calls.spliced_nil ?_))))
 subst ey
 exact call_meetsIn PySem.F.slot_dict_get (dd I3).typeIs PySem.F.entry_dict_get (PySem.F.args_dict_get_3 _ _ _) (meets_dict_get_default (zax X.prog X.w) D (kV_is ry) hD fv) ⟨_,(dd I3).mapOf,⟨_,H3,I3.tok _,(rel.val k).getD rz,q3⟩⟩
end
end L2
namespace RF
open PySem PySem.Spec PyProof.Rows L2
section
variable{X:Cx}{a k:Expr}{x y:E}{cl:Call}{pos p2:Pos}
theorem VReps.rev{K:vga}{m:Nat->Addr}{n:Nat}{H:Hp}:∀{vs:List V} {ws:List W},VReps K m n H vs ws->VReps K m n H vs.reverse ws.reverse
 |_,_,.nil=>.nil
 |_,_,.cons q r=>by
  rw[vda,vda]
  exact r.rev.append (.cons q .nil)
theorem zxl(ha:SE X a (ev cl x))(hk:SE X k (ev cl y)):SE X (.Subscript a (.Slice none none (some k) p2) pos) (ev cl (.bi .rev (.cons x (.cons y .nil)))):=
 (zxk ha (zm0 hk)).imp λσ H Q z9=>z9.el λρ h m w h' f r e k=>by
   refine zad e λz h1 e1 e2=>?_
   refine zad e1 λu h2 e3 e4=>?_
   refine zad e4 λu2 h3 e5 e6=>?_
   refine zad e5 λu3 h4 e7 e8=>?_
   refine zad e8 λu4 h5 e9 e10=>?_
   cases e9
   cases e10
   cases e6
   have e2:revW [u,u3] h1=.ok w h':=e2
   unfold revW at e2
   split at e2
   .rename_i ws hq
    cases hq
    cases e2
    refine(.mk f r e3 λv H1 m1 s1 r1 q1=>(.mk (f.stp s1) r1 e7 rfl λH2 m2 s2 r2=>?_))
    cases q1.stp s2 with
    | @tup a vs _ sq rs=>
     exact⟨_,_,rfl,rfl,sq,λp hp=>Wants.tuple (λv' H' m' s' r' q'=>k v' H' m' ((s1.trans s2).trans s') r' q') r2 rs.rev hp⟩
   .cases e2
theorem ztg{g:Str}{D:Addr}{ps:List W}{kvs:List (Key×V)}{kws:List (Key×W)}{vs:List (Key×Value)}{o:Obj}{es:Array DictEntry}{ep:Nat}{b:Expr}{z:E}{apos p:Pos}
 (hg:Gl X g) (hdb:(g==("__debug__" : Str))=false) (hm:X.mg g=some (.ref D)) (hD:(D==sysModules)=false) (hbs:X.base.get? D=some o) (hx:o.ExactDict) (hd:o.data=.dict es ep) (hk:PySem.KeysOf (zax X.prog X.w) es) (hp:PySem.Pairs (zax X.prog X.w) es.toList vs) (hn:(vs.map (·.1)).Nodup) (rel:KV kvs vs)
 (hdc:decK ps=some kws) (hr:∀m n H,KReps X.K m n H kvs kws) (ha:SE X a (ev cl y)) (hbb:SE X b (ev cl z)) (hb:zdo (.Name g p)=true) (hs:zay a=true) (hs2:zay b=true) (hl:(apos.endLine==pos.line)=true) :
 SE X (.Call (.Attribute (.Name g p) "get" apos) [a,b] [] pos) (ev cl (.bi .cget (.cons (.cst (.tup ps)) (.cons y (.cons z .nil))))):=by
 have tr:backTo pos (starEach [a,b] X.env)=[(false,eval a X.env),(false,eval b X.env)]:=by
  rw[zai hs,zai hs2];rfl
 refine(ztf hg hdb hm hD hbs hx hd hk hp hn rel ha hbb ⟨zgm hb,by rw[tr];rfl,hl,tr⟩).imp λσ H Q z9=>z9.el λρ h m w h' f r e k=>?_
 refine zad e λu h1 e1 e2=>?_
 refine zad e1 λu1 h2 e3 e4=>?_
 cases e3
 refine zad e4 λu2 h3 e5 e6=>?_
 refine zad e5 λu3 h4 e7 e8=>?_
 refine zad e8 λu4 h5 e9 e10=>?_
 refine zad e9 λu5 h6 e11 e12=>?_
 refine zad e12 λu6 h7 e13 e14=>?_
 cases e13
 cases e14
 cases e10
 cases e6
 have e2:cgetW [.tup ps,u3,u5] h1=.ok w h':=e2
 simp only[cgetW,hdc]at e2
 split at e2
 .rename_i kvs' kk hkv hkk
  cases hkv
  cases e2
  refine(.mk f r e7 λv H1 m1 s1 r1 q1=>(.mk (f.stp s1) r1 e11 λv2 H2 m2 s2 r2 q2=>?_))
  refine⟨kk,zsw q1 hkk,?_⟩
  rcases(hr m2 _ H2).look kk with⟨z1,z2⟩|⟨v',w',z1,z2,z3⟩
  .rw[z1];rw[z2]at k;exact k _ H2 m2 (s1.trans s2) r2 q2
  .rw[z1];rw[z2]at k;exact k _ H2 m2 (s1.trans s2) r2 z3
 .cases e2
end
end RF
namespace L2
open PySem PySem.Spec PyProof.Rows
theorem znf:∀{ls:List Int} {us:List Value},Vals (ls.map .int) us->IntsAre us ls
 |[],_,.nil=>.nil
 |x::r,_,.cons ⟨t,e⟩ h=>by subst e;exact .cons x t (znf h)
section
variable{X:Cx}
theorem zp6(hc:X.calm=true):CallR X (.builtin "sum") (λxs H Q=>∃(p:Addr) (ns:List Int),xs=[.ref p]/\SqL X.K H p (ns.map .int)/\Q (.int ns.sum) H):=by
 intro pins s σ H xs us Q I r h
 obtain⟨p,ns,rfl,hq,q⟩:=h
 obtain⟨u,rfl,ru⟩:=vals1 r
 cases ru
 obtain⟨its,rv,pl,hz⟩:=I.list hq
 have hL:s.heap.IsList p its.toArray:=pl.isList
 have hi:=znf rv
 obtain⟨ys,hx⟩:=hi.allInts.items
 have hl':s.heap.IsList p (intItems ys):=hx▸hL
 refine sum_intListG (I.ok.hd hc) hl' λh' tk t' hk=>?_
 have e1:ns=ys.toList.map (·.1):=by
  rw[<-nums_intItems,<-hx]
  exact(show numsOf its.toArray.toList=ns from hi.numsOf).symm
 have e2:preSum (numAt ys) ys.size=ns.sum:=by
  rw[preSum_eq,List.take_of_length_le (by simp),e1]
 rw[e2]
 exact⟨.int ns.sum,H,I.kept (t':=tk) hk,⟨_,rfl⟩,q⟩
end
end L2
namespace RF
open PySem PySem.Spec PyProof.Rows L2
section
variable{K:vga}{m:Nat->Addr}{n:Nat}{H:Hp}
theorem zrf:∀{vs:List V} {ws:List W} {is:List Int},VReps K m n H vs ws->mapO iZ ws=some is->vs=is.map .int
 |_,_,_,.nil,e=>by cases e;rfl
 |_,_,_,.cons (w:=w) (ws:=ws) q r,e=>by
  unfold mapO at e
  cases z:iZ w with
  |none=>rw[z]at e;cases e
  |some b=>
   rw[z]at e
   cases z2:mapO iZ ws with
   |none=>rw[z2]at e;cases e
   |some cs=>
    rw[z2]at e;cases e
    unfold iZ at z
    split at z<;>cases z
    cases q
    rw[zrf r z2];rfl
end
theorem zxm{K:vga}:CallV K (λxs H Q=>∃(p:Addr) (ns:List Int),xs=[.ref p]/\SqL K H p (ns.map .int)/\Q (.int ns.sum) H) sumW:=by
 intro m h H vs xs w h' Q r q e k
 unfold sumW at e
 split at e<;>try cases e
 rename_i i
 split at e<;>try cases e
 rename_i ws g
 obtain⟨v,rfl,q1⟩:=reps1 q
 obtain⟨e,rfl⟩:=of_ok e
 cases z:mapO iZ ws with
 |none=>rw[z]at e;cases e
 |some is=>
  rw[z]at e;cases e
  cases q1
  obtain⟨us,p1,p2⟩:=r.lst g
  refine⟨_,is,rfl,?_,Wants.here k r (.int _)⟩
  rw[<-zrf p2 z]
  exact .inl (.inl p1)
set_option genInjectivity false in
structure CC where
 N:List Str
 names:List (Str×NameKind)
 fnAll:Bool
noncomputable def zb9:List Str->Str->Nat->Option Nat
 |[],_,_=>none
 |y::r,x,i=>if y==x then some i else zb9 r x (i+1)
theorem zia:∀{N:List Str} {x:Str} {k i:Nat},zb9 N x k=some i->∃j,i=k+j/\N[j]?=some x
 |[],_,_,_,e=>by cases e
 |y::r,x,k,i,e=>by
  unfold zb9 at e
  split at e
  .rename_i h
   cases e
   exact⟨0,rfl,by simpa using h⟩
  .obtain⟨j,h1,h2⟩:=zia e
   exact⟨j+1,by omega,by simpa using h2⟩
theorem zft{N:List Str}{x:Str}{i:Nat}(e:zb9 N x 0=some i):N[i]?=some x:=by
 obtain⟨j,h1,h2⟩:=zia e
 rw[show i=j by omega];exact h2
noncomputable def visK:Option NameKind->Bool
 |some .local|some .cell|some .free=>true
 |_=>false
noncomputable def locK(all:Bool):Option NameKind->Bool
 |some .local=>true
 |some .cell=>all
 |_=>false
noncomputable def okN(x:Str):Bool:=!(x==("__debug__" : Str)) && !(x==("__classdict__" : Str)) && !(x==("__name__" : Str)) && !(x==("" : Str))
theorem zxn{x:Str}(h:okN x=true):x≠"":=by
 unfold okN at h
 simp only[vac,Bool.not_eq_true']at h
 exact λz=>by rw[z]at h;simp at h
theorem zd1{x:Str}(h:okN x=true):(x==("__debug__" : Str))=false/\(x==("__classdict__" : Str))=false/\x≠"__name__":=by
 unfold okN at h
 simp only[vac,Bool.not_eq_true']at h
 exact⟨h.1.1.1,h.1.1.2,λz=>by rw[z]at h;simp at h⟩
noncomputable def cstW(K:vga):Nat->Value->Option W
 |0,_=>none
 |n+1,v=>match v with
  |.none=>some .non
  |.bool b=>some (.bl b)
  |.int i _=>some (.int i)
  |.str x _=>some (.str x)
  |.ref a=>(match K.lookup a with
   |some o=>(match o.cls,o.dict,o.data with
    |.type t,none,.seq its _=>if t == "tuple" && Nat.ble its.size 1000 then(mapO (cstW K n) its.toList).map .tup else none
    |_,_,_=>none)
   |none=>none)
  |_=>none
theorem zng{K:vga}{f:Value->Option W}(ih:∀v w,f v=some w->∃x,RelV x v/\∀m n H,VRep K m n H x w):∀{us:List Value} {ws:List W},mapO f us=some ws->∃xs,Vals xs us/\∀m n H,VReps K m n H xs ws
 |[],_,e=>by cases e;exact⟨[],.nil,λ_ _ _=>.nil⟩
 |u::us,ws,e=>by
  unfold mapO at e
  split at e
  .rename_i b hb
   split at e
   .rename_i bs hbs
    cases e
    obtain⟨x,h1,h2⟩:=ih u b hb
    obtain⟨xs,h3,h4⟩:=zng ih hbs
    exact⟨x::xs,.cons h1 h3,λm n H=>.cons (h2 m n H) (h4 m n H)⟩
   .cases e
  .cases e
theorem znh{K:vga}:∀(n:Nat) (v:Value) (w:W),cstW K n v=some w->∃x,RelV x v/\∀m n H,VRep K m n H x w
 |0,_,_,e=>by cases e
 |n+1,v,w,e=>by
  unfold cstW at e
  split at e
  .cases e;exact⟨.non,rfl,λ_ _ _=>.non⟩
  .cases e;exact⟨.bl _,rfl,λ_ _ _=>.bl _⟩
  .cases e;exact⟨.int _,⟨_,rfl⟩,λ_ _ _=>.int _⟩
  .cases e;exact⟨.str _,⟨_,rfl⟩,λ_ _ _=>.str _⟩
  .rename_i a
   split at e
   .rename_i o ho
    split at e
    .rename_i t its nn hc hdd hd
     split at e
     .rename_i hz
      rw[vac]at hz
      have ht:t = "tuple":=by simpa using hz.1
      subst ht
      cases z:mapO (cstW K n) its.toList with
      |none=>rw[z]at e;cases e
      |some ws=>
       rw[z]at e
       cases e
       obtain⟨xs,h3,h4⟩:=zng (znh n) z
       exact⟨.ref a,rfl,λm n H=>.tup (.inr ⟨o,its,nn,ho,hc,hdd,hd,vdr (zhs (va5 hz.2)),h3⟩) (h4 m n H)⟩
     .cases e
    .cases e
   .cases e
  .cases e
noncomputable def dEnt(K:vga)(e:DictEntry):Option W:=match e.key with
 |.str x _=>(cstW K 8 e.val).map λw=>.tup [.str x,w]
 |_=>none
noncomputable def zgs(w:World):List DictEntry->Prop
 |[]=>True
 |e::r=>(match e.key with
  |.str x _=>e.hash=hashStr w x
  |_=>True)/\zgs w r
noncomputable def DctOk(w:World)(K:vga):Prop:=match PySem.W.nsIn K mainGlobals "MIRRORED_RAMPS"with
 |some (some (.ref a))=>(match K.lookup a with
  |some o=>(match o.data with
   |.dict es _=>zgs w es.toList
   |_=>True)
  |none=>True)
 |_=>True
noncomputable def zni(ps:List W):Bool:=match decK ps with
 |some kvs=>decide (kvs.map (·.1)).Nodup
 |none=>false
noncomputable def dctW(K:vga):Option (List W):=match PySem.W.nsIn K mainGlobals "MIRRORED_RAMPS"with
 |some (some (.ref a))=>(match K.lookup a with
  |some o=>(match o.cls,o.dict,o.slots,o.data with
   |.type t,none,⟨[]⟩,.dict es _=>if t == "dict" && !(a==sysModules)then(match mapO (dEnt K) es.toList with
    |some ps=>if zni ps then some ps else none
    |none=>none)else none
   |_,_,_,_=>none)
  |none=>none)
 |_=>none
theorem znj{P:Program}{w:World}{K:vga}:∀{es:List DictEntry} {ps:List W},zgs w es->mapO (dEnt K) es=some ps->
 ∃kws kvs vs,decK ps=some kws/\(∀m n H,KReps K m n H kvs kws)/\KV kvs vs/\(∀e∈es,∃k,(zax P w).is k e.key=true/\e.hash=(zax P w).hash k)/\PySem.Pairs (zax P w) es vs/\kws.map (·.1)=vs.map (·.1)
 |[],ps,_,e=>by cases e;exact⟨[],[],[],rfl,λ_ _ _=>.nil,.nil,(λ_ z=>nomatch z),.nil,rfl⟩
 |⟨hs,ky,vl⟩::es,ps,hh,e=>by
  unfold mapO at e
  split at e
  .rename_i b hb
   split at e
   .rename_i bs hbs
    cases e
    obtain⟨kws,kvs,vs,a1,a2,a3,a4,a5,a6⟩:=znj (P:=P) hh.2 hbs
    unfold dEnt at hb
    split at hb
    .rename_i x t hk
     obtain⟨w',h1,rfl⟩:=Option.map_eq_some_iff.mp hb
     obtain⟨v,r,q⟩:=znh 8 _ _ h1
     have hk:ky=.str x t:=hk
     subst hk
     refine⟨(.inr x,w')::kws,(.inr x,v)::kvs,(.inr x,vl)::vs,by simp only[decK,a1];rfl,λm n H=>.cons (q m n H) (a2 m n H),.cons ⟨rfl,r⟩ a3,?_,.cons (zcu P w x t) rfl a5,by rw[vao,vao,a6]⟩
     intro e he
     rcases vax.mp he with rfl|he
     .exact⟨.inr x,zcu P w x t,hh.1⟩
     .exact a4 e he
    .cases hb
   .cases e
  .cases e
theorem zxo{P:Program}{w:World}{K:vga}{ps:List W}(hK:DctOk w K)(h:dctW K=some ps) :
 ∃a o es ep kws kvs vs,PySem.W.nsIn K mainGlobals "MIRRORED_RAMPS" = some (some (.ref a))/\K.lookup a=some o/\(a==sysModules)=false/\o.ExactDict/\o.data=.dict es ep/\PySem.KeysOf (zax P w) es/\PySem.Pairs (zax P w) es.toList vs/\(vs.map (·.1)).Nodup/\KV kvs vs/\
  decK ps=some kws/\∀m n H,KReps K m n H kvs kws:=by
 unfold dctW at h
 split at h
 .rename_i a ha
  split at h
  .rename_i o ho
   split at h
   .rename_i t es ep h1 h2 h3 h4
    split at h
    .rename_i hc
     rw[vac]at hc
     have ht:t = "dict":=by simpa using hc.1
     subst ht
     split at h
     .rename_i ps' hps
      split at h
      .rename_i hnt
       cases h
       unfold DctOk at hK
       rw[ha]at hK
       simp only[ho,h4]at hK
       obtain⟨kws,kvs,vs,a1,a2,a3,a4,a5,a6⟩:=znj (P:=P) hK hps
       unfold zni at hnt
       rw[a1]at hnt
       simp only[vaj]at hnt
       rw[a6]at hnt
       exact⟨a,o,es,ep,kws,kvs,vs,ha,ho,by simpa using hc.2,⟨h1,h2,h3⟩,h4,λe he=>a4 e (Array.mem_toList_iff.mpr he),a5,hnt,a3,a1,a2⟩
      .cases h
     .cases h
    .cases h
   .cases h
  .cases h
 .cases h
noncomputable def isGD(C:CC):Expr->Bool
 |.Name g _=>g==("MIRRORED_RAMPS" : Str)&&C.names.lookup g==some .globalImplicit
 |_=>false
theorem zth{C:CC}{e:Expr}(h:isGD C e=true):∃p,e=.Name "MIRRORED_RAMPS" p/\C.names.lookup ("MIRRORED_RAMPS" : Str)=some .globalImplicit:=by
 unfold isGD at h
 split at h
 .rename_i g p
  rw[vac]at h
  have hg:g = "MIRRORED_RAMPS":=by simpa using h.1
  subst hg
  exact⟨p,rfl,by simpa using h.2⟩
 .cases h
noncomputable def cL(f:Expr->Option E):List Expr->Option E
 |[]=>some .nil
 |e::es=>match f e,cL f es with
  |some a,some r=>some (.cons a r)
  |_,_=>none
noncomputable def fnAt(K:vga)(x:Str):Option (Addr×Obj×FuncData):=match refAt K x with
 |some f=>(match K.lookup f with
  |some o=>(match o.data with
   |.func fd=>some (f,o,fd)
   |_=>none)
  |none=>none)
 |none=>none
noncomputable def zbq:Arguments->Option (List Arg)
 |⟨[],args,none,[],[],none,_⟩=>some args
 |_=>none
noncomputable def isNone:Value->Bool
 |.none=>true
 |_=>false
noncomputable def zgt:Data->Bool
 |.seq xs _=>(match xs.toList with
  |[v]=>isNone v
  |_=>false)
 |_=>false
noncomputable def noneD(K:vga):Value->Bool
 |.ref t=>(match K.lookup t with
  |some o=>zgt o.data
  |none=>false)
 |_=>false
noncomputable def zcg(K:vga)(x:Str)(n:Nat):Bool:=match fnAt K x with
 |some (_,_,fd)=>noneD K fd.defaults&&Nat.beq (n+1) fd.params.args.length
 |none=>false
noncomputable def hasD(K:vga)(x:Str):Bool:=match fnAt K x with
 |some (_,_,fd)=>noneD K fd.defaults
 |none=>false
theorem zfu{K:vga}{x:Str}{n:Nat}(h:zcg K x n=true):hasD K x=true:=by
 unfold zcg at h
 unfold hasD
 split at h
 .rw[vac]at h;exact h.1
 .cases h
noncomputable def padE:E->E
 |.nil=>.cons (.cst .non) .nil
 |.cons a r=>.cons a (padE r)
 |e=>e
noncomputable def argsE:E->Bool
 |.nil=>true
 |.cons _ r=>argsE r
 |_=>false
theorem zrg{cl:Call}:∀{a:E},argsE a=true->∀(ρ:En) (h:VH),ev cl (padE a) ρ h=(ev cl a ρ h).bind λy h=>match y with|.tup ys=>.ok (.tup (ys++[.non])) h|_=>.no:=by
 intro a
 induction a with
 |nil=>intro _ ρ h;rfl
 |cons x r _ ih=>
  intro ha ρ h
  have ih:=ih ha
  simp only[padE,ev]
  cases ev cl x ρ h with
  |no=>rfl
  |ex _ _=>rfl
  |ok w h1=>
   show Res.bind (ev cl (padE r) ρ h1) _=Res.bind (Res.bind (ev cl r ρ h1) _) _
   rw[ih]
   cases ev cl r ρ h1 with
   |no=>rfl
   |ex _ _=>rfl
   |ok y h2=>cases y<;>rfl
 |_=>intro ha;cases ha
theorem zi6{f:Expr->Option E}:∀{es:List Expr} {a:E},cL f es=some a->argsE a=true
 |[],_,h=>by cases h;rfl
 |e::es,a,h=>by
  unfold cL at h
  split at h
  .rename_i x r h1 h2
   cases h
   show argsE r=true
   exact zi6 h2
  .cases h
noncomputable def cPs(f:Expr->Option E):List (Option Expr)->List Expr->Option E
 |[],[]=>some .nil
 |some k::ks,v::vs=>match f k,f v,cPs f ks vs with
  |some a,some b,some r=>some (.cons a (.cons b r))
  |_,_,_=>none
 |_,_=>none
noncomputable def cB(and:Bool)(f:Expr->Option E):List Expr->Option E
 |[]=>none
 |[a]=>f a
 |a::b::r=>match f a,cB and f (b::r)with
  |some x,some y=>some (if and then .and x y else .or x y)
  |_,_=>none
noncomputable def cO(f:Expr->Option E):Option Expr->Option (Bool×E)
 |none=>some (false,.cst .non)
 |some e=>(f e).map λc=>(true,c)
noncomputable def zfv(K:vga)(C:CC)(x:Str):Bool:=C.names.lookup x==some .globalImplicit&& (match PySem.W.nsIn K mainGlobals x with|some none=>true|_=>false)
noncomputable def tyOf(x:Str):Option Ty:=
 if x==("int" : Str)then some .int else if x==("bool" : Str)then some .bool else if x==("tuple" : Str)then some .tuple else if x==("list" : Str)then some .list else if x==("str" : Str)then some .str else if x==("dict" : Str)then some .dict else none
noncomputable def biOf(x:Str):Option Bi:=
 if x==("len" : Str)then some .len else if x==("list" : Str)then some .list else if x==("tuple" : Str)then some .tuple else if x==("int" : Str)then some .int else if x==("abs" : Str)then some .abs else if x==("max" : Str)then some .max else if x==("min" : Str)then some .min else if x==("sum" : Str)then some .sum else none
noncomputable def zrh:Expr->Bool
 |.Tuple ..=>true
 |_=>false
noncomputable def okW:Kd->Expr->Bool
 |.enm,t=>zrh t
 |.zip,t=>zrh t
 |_,_=>true
noncomputable def nmIx(C:CC):Expr->Option Nat
 |.Name x _=>if okN x&&locK C.fnAll (C.names.lookup x)then zb9 C.N x 0 else none
 |_=>none
noncomputable def cTg(C:CC):Expr->Option Tg
 |.Name x p=>(nmIx C (.Name x p)).map .one
 |.Tuple es _ _=>(mapO (nmIx C) es).map .many
 |_=>none
noncomputable def ownOf(sc:Scope):List Str:=(sc.names.filter λy=>y.2 == .local && !(y.1==(".0" : Str))).map (·.1)
noncomputable def zbk(sc:Scope):List Str:=(sc.names.filter λy=>y.2 == .free).map (·.1)
noncomputable def zev(C:CC)(sc:Scope)(ix:List Nat):Bool:=
 decide (sc.kind=.function)&&sc.names.all (λy=>decide (y.2≠.cell))&&sc.names.all (λy=>decide (y.2=.local->sc.names.lookup y.1=some .local)) &&
 (ownOf sc).all (λx=>decide (sc.names.lookup x=some .local))&&sc.names.all (λy=>decide (y.2=.free->C.names.lookup y.1=some .cell\/C.names.lookup y.1=some .free))&&decide (ix.length=(zbk sc).length) &&
 ((List.range (zbk sc).length).all λk=>match(zbk sc)[k]?,ix[k]? with
   |some x,some j=>decide (C.N[j]?=some x)&&decide (sc.names.lookup x=some .free)
   |_,_=>false)&&decide (ownOf sc++zbk sc).Nodup
noncomputable def inC(sc:Scope):CC:=⟨ownOf sc++zbk sc,sc.names,false⟩
mutual
noncomputable def cE(K:vga)(T:List Str):Nat->CC->Expr->Option E
 |0,_,_=>none
 |n+1,C,e=>match e with
  |.Name x _=>if okN x then(if visK (C.names.lookup x)then(zb9 C.N x 0).map .var
   else if C.names.lookup x==some .globalImplicit then(match PySem.W.nsIn K mainGlobals x with
    |some (some v)=>(cstW K 8 v).map .cst
    |_=>none)else none)else none
  |.Constant c _ _=>(match c with
   |.int i=>some (.cst (.int i))
   |.bool b=>some (.cst (.bl b))
   |.none=>some (.cst .non)
   |.str x=>some (.cst (.str x))
   |_=>none)
  |.Tuple es _ _=>(cL (cE K T n C) es).map .tup
  |.List es _=>(cL (cE K T n C) es).map .lst
  |.Dict ks vs _=>(match ks,vs with
   |[],[]=>some (.dsp .nil)
   |_,_=>none)
  |.BinOp a O b _=>(match opOf O,cE K T n C a,cE K T n C b with
   |some o,some x,some y=>some (.op o x y)
   |_,_,_=>none)
  |.UnaryOp o a _=>(match o with
   |.Not=>(cE K T n C a).map .not
   |.USub=>(cE K T n C a).map .neg
   |_=>none)
  |.BoolOp o es _=>(match o with
   |.And=>cB true (cE K T n C) es
   |.Or=>cB false (cE K T n C) es)
  |.Compare a Os bs _=>(match Os,bs with
   |[O],[b]=>if zcr b then(match cpOf O,cE K T n C a,cE K T n C b with
   |some c,some x,some y=>some (.cmp c x y)
   |_,_,_=>none)else none
   |[O,O'],[b,c]=>if zcr c then(match cpOf O,cpOf O',cE K T n C a,cE K T n C b,cE K T n C c with
   |some o,some o',some x,some y,some z=>some (.chn o o' x y z)
   |_,_,_,_,_=>none)else none
   |_,_=>none)
  |.IfExp c a b _=>(match cT K T n C c,cE K T n C a,cE K T n C b with
   |some z,some x,some y=>some (.ite z x y)
   |_,_,_=>none)
  |.Subscript a b _=>(match b with
   |.Slice lo hi st _=>(match st with
    |none=>(match cE K T n C a,cO (cE K T n C) lo,cO (cE K T n C) hi with
   |some x,some (bl,l),some (bh,u)=>some (.slc x bl l bh u)
   |_,_,_=>none)
    |some s=>(match lo,hi with
     |none,none=>(match cE K T n C a,cE K T n C s with
      |some x,some y=>some (.bi .rev (.cons x (.cons y .nil)))
      |_,_=>none)
     |_,_=>none))
   |b=>if zeu b then(match cE K T n C a,cE K T n C b with
   |some x,some y=>some (.idx x y)
   |_,_=>none)else none)
  |.Call fn args kw pos=>(match kw with
   |[]=>(match fn with
    |.Name f _=>if okN f&&C.names.lookup f==some .globalImplicit then(match PySem.W.nsIn K mainGlobals f with
     |some none=>if f==("isinstance" : Str)then(match args with
      |[a,.Name t _]=>(match tyOf t,cE K T n C a with
       |some ty,some x=>if okN t&&zfv K C t then some (.isi ty x)else none
       |_,_=>none)
      |_=>none)
      else(match biOf f,args with
       |some b,_::_=>(cL (cE K T n C) args).map (.bi b)
       |_,_=>none)
     |some (some _)=>if zbm f then(match zb9 T f 0,args with
      |some i,_::_=>if zcg K "Balls.__init__" (args.length+1)then(cL (cE K T n C) args).map (λa=>.call i (padE a))else(cL (cE K T n C) args).map (.call i)
      |_,_=>none)else if(metOf f).isSome then none else(match zb9 T f 0 with
      |some i=>if zcg K f args.length && !args.isEmpty then(cL (cE K T n C) args).map (λa=>.call i (padE a))else(cL (cE K T n C) args).map (.call i)
      |none=>none)
     |none=>none)else none
    |.Attribute o mth ap=>if zdo o&& (ap.endLine==pos.line)then(match metIx mth with
   |some y=>(match clsAt K,zb9 T y 0,cE K T n C o,args with
    |some D,some i,some x,_::_=>if Nat.blt args.length 30 then(cL (cE K T n C) args).map (λz=>.mcall D mth i x z)else none
    |_,_,_,_=>none)
   |none=>match cE K T n C o,args with
    |some x,[a]=>if mth==("append" : Str)then(cE K T n C a).map λy=>.mt .append x (.cons y .nil)else none
    |none,[a,b]=>if mth==("get" : Str)&&isGD C o then(match dctW K,cE K T n C a,cE K T n C b with
     |some ps,some y,some z=>some (.bi .cget (.cons (.cst (.tup ps)) (.cons y (.cons z .nil))))
     |_,_,_=>none)else none
    |_,_=>none)else none
    |_=>none)
   |_=>none)
  |.Attribute o x _=>if zdo o then(match clsAt K,cE K T n C o with
   |some D,some a=>if zgr K D x then some (.att D x a)else none
   |_,_=>none)else none
  |.ListComp elt gs sc _=>(match gs with
   |[⟨tg,iter,ifs,0⟩]=>(match mapO (λx=>zb9 C.N x 0) (zbk sc)with
    |some ix=>if zev C sc ix then(match cW K T n C iter,cTg (inC sc) tg,(match ifs with|[]=>some (.cst (.bl true))|[c]=>cT K T n (inC sc) c|_=>none),cE K T n (inC sc) elt with
     |some (kd,a),some t,some c,some e=>if okW kd tg then some (.lc kd a t (ownOf sc).length ix c e)else none
     |_,_,_,_=>none)else none
    |none=>none)
   |_=>none)
  |_=>none
noncomputable def cT(K:vga)(T:List Str):Nat->CC->Expr->Option E
 |0,_,_=>none
 |n+1,C,e=>match e with
  |.Compare a Os bs _=>(match Os,bs with
   |[O],[b]=>if zcr b then(match cpOf O,cE K T n C a,cE K T n C b with
   |some c,some x,some y=>some (.cmp c x y)
   |_,_,_=>none)else none
   |[O,O'],[b,c]=>if zcr c then(match cpOf O,cpOf O',cE K T n C a,cE K T n C b,cE K T n C c with
   |some o,some o',some x,some y,some z=>some (.chn o o' x y z)
   |_,_,_,_,_=>none)else none
   |_,_=>none)
  |.UnaryOp o a _=>(match o with
   |.Not=>(cT K T n C a).map .not
   |_=>none)
  |.BoolOp o es _=>(match o with
   |.And=>cB true (cT K T n C) es
   |.Or=>cB false (cT K T n C) es)
  |.Name x p=>(cE K T n C (.Name x p)).map .tru
  |.Call f as ks p=>(cE K T n C (.Call f as ks p)).map .tru
  |.Subscript a b p=>(cE K T n C (.Subscript a b p)).map .tru
  |_=>none
noncomputable def cW(K:vga)(T:List Str):Nat->CC->Expr->Option (Kd×E)
 |0,_,_=>none
 |n+1,C,e=>match e with
  |.Call (.Name f p) args [] pos=>if f==("range" : Str)then(if zfv K C f then(match args with
   |[a]=>(cE K T n C a).map λx=>(.rng1,.cons x .nil)
   |_=>none)else none)
   else if f==("enumerate" : Str)then(if zfv K C f then(match args with
    |[a]=>(cE K T n C a).map λx=>(.enm,x)
    |_=>none)else none)
   else if f==("zip" : Str)then(if zfv K C f then(match args with
    |[a,b]=>(match cE K T n C a,cE K T n C b with
     |some x,some y=>some (.zip,.cons x (.cons y .nil))
     |_,_=>none)
    |_=>none)else none)
   else(cE K T n C (.Call (.Name f p) args [] pos)).map λx=>(.seq,x)
  |.Set ..=>none
  |e=>(cE K T n C e).map λx=>(.seq,x)
end
noncomputable def cSs(f:Stmt->Option S):List Stmt->Option S
 |[]=>some .skip
 |s::r=>match f s,cSs f r with
  |some a,some b=>some (.seq a b)
  |_,_=>none
noncomputable def cS(K:vga)(T:List Str)(d:Nat):Nat->CC->Stmt->Option S
 |0,_,_=>none
 |n+1,C,s=>match s with
  |.Pass _=>some .skip
  |.Break _=>some .brk
  |.Continue _=>some .cnt
  |.Raise ..=>some .no
  |.Return r _=>(match r with
   |none=>some (.ret (.cst .non))
   |some e=>(cE K T d C e).map .ret)
  |.Expr e _=>if zh6 e then(cE K T d C e).map .expr else none
  |.Assign l e _=>(match l with
   |[t]=>(match t with
    |.Name x p=>(match nmIx C (.Name x p),cE K T d C e with
    |some i,some c=>some (.set i c)
    |_,_=>none)
    |.Tuple ts _ _=>if noTup e then(match mapO (nmIx C) ts,cE K T d C e with
    |some is,some c=>some (.unp is c)
    |_,_=>none)else none
    |.Subscript o i _=>if zeu i then(match cE K T d C o,cE K T d C i,cE K T d C e with
    |some x,some y,some z=>some (.put x y z)
    |_,_,_=>none)else none
    |.Attribute o x _=>if zh6 e then(match clsAt K,cE K T d C o,cE K T d C e with
    |some D,some a,some b=>if zgr K D x then some (.sat D x a b)else none
    |_,_,_=>none)else none
    |_=>none)
   |_=>none)
  |.AugAssign t O e _=>(match t with
   |.Name x p=>(match nmIx C (.Name x p),ipOf O,cE K T d C e with
    |some i,some o,some c=>some (.aug i o c)
    |_,_,_=>none)
   |_=>none)
  |.If c a b _=>(match cT K T d C c,cSs (cS K T d n C) a,cSs (cS K T d n C) b with
   |some z,some x,some y=>some (.ite z x y)
   |_,_,_=>none)
  |.For tg it b el _=>(match el with
   |[]=>(match cW K T d C it,cTg C tg,cSs (cS K T d n C) b with
    |some (kd,a),some t,some x=>if okW kd tg then some (.for kd a t x)else none
    |_,_,_=>none)
   |_=>none)
  |.While c b el _=>(match el with
   |[]=>(match cT K T d C c,cSs (cS K T d n C) b with
    |some z,some x=>some (.whl z x)
    |_,_=>none)
   |_=>none)
  |_=>none
structure XOk(X:Cx)(C:CC)(T:List Str)(F:Nat->Option Fn)(k:Nat):Prop where
 hN:X.N=C.N
 nd:C.N.Nodup
 vis:∀x,visK (C.names.lookup x)=true->Vis X.env.scope x
 loc:∀x,locK C.fnAll (C.names.lookup x)=true->Loc X.env.scope x/\(X.fn x=true\/X.env.scope.names.lookup x=some .local)
 gl:∀x,C.names.lookup x=some .globalImplicit->Gl X x
 cf:∀x,(C.names.lookup x=some .cell\/C.names.lookup x=some .free)->X.env.kindOf x=some .cell\/X.env.kindOf x=some .free
 calm:X.calm=true
 room:Room k X.A
 xe:X.xe=λ_ _=>False
 kfn:X.env.scope.kind=.function
 mgs:∀x v,PySem.W.nsIn X.K mainGlobals x=some (some v)->X.mg x=some v
 mgn:∀x,PySem.W.nsIn X.K mainGlobals x=some none->X.mg x=none
 fns:∀(i:Nat)(x:Str),T[i]?=some x->x≠""->zbm x=false->∃f fd ps fn,refAt X.K x=some f/\FnOk X.prog X.w X.K X.mg X.base CX0 k f fd ps (spV X.K ps.length (run F k i))/\PySem.W.keepIn X.K (.ref f)=true/\Binds X.K fd ps []/\F i=some fn/\fn.ps=ps.length/\(hasD X.K x=true->Binds X.K fd ps [.none])
 cls:∀(ci:Nat)(x:Str),T[ci]?=some x->zbm x=true->∀k',k=k'+1->∃D f fd ps ii na,clsAt X.K=some D/\F ci=some (clsFn D ii na)/\Mk X.K D f/\FnOk X.prog X.w X.K X.mg X.base CX0 k' f fd ps (spV X.K ps.length (run F k' ii))/\Binds X.K fd ps []/\(hasD X.K "Balls.__init__" = true->Binds X.K fd ps [.none])/\∀ws h w h',run F k' ii ws h=.ok w h'->ws.length=ps.length
 dct:DctOk X.w X.K
 kin:X.K.In X.base
section
variable{X:Cx}{C:CC}{T:List Str}{F:Nat->Option Fn}{k:Nat}
theorem XOk.u65(O:XOk X C T F k):X.A.units+65<cLine:=by have:=O.room.un;omega
theorem XOk.u2(O:XOk X C T F k):X.A.units+2<cLine:=Nat.lt_of_le_of_lt (Nat.add_le_add_left (by decide:2<=64) _) O.room.units
theorem zc8(O:XOk X C T F k){x:Str}(h:zfv X.K C x=true):Gl X x/\X.mg x=none:=by
 unfold zfv at h
 rw[vac]at h
 refine⟨O.gl x (by simpa using h.1),O.mgn x ?_⟩
 have h2:=h.2
 split at h2
 .assumption
 .cases h2
theorem nm_ok(O:XOk X C T F k){e:Expr}{i:Nat}(h:nmIx C e=some i):NmOk X e i:=by
 unfold nmIx at h
 split at h
 .split at h
  .rename_i hc
   rw[vac]at hc
   obtain⟨h1,h2⟩:=O.loc _ hc.2
   exact⟨_,_,rfl,by rw[O.hN];exact zft h,h1,h2⟩
  .cases h
 .cases h
theorem znk(O:XOk X C T F k):∀{es:List Expr} {is:List Nat},mapO (nmIx C) es=some is->Paired (NmOk X) es is
 |[],_,h=>by cases h;exact .nil
 |e::es,is,h=>by
  unfold mapO at h
  split at h
  .rename_i b hb
   split at h
   .rename_i bs hbs
    cases h
    exact .cons (nm_ok O hb) (znk O hbs)
   .cases h
  .cases h
theorem tg_ok(O:XOk X C T F k){e:Expr}{t:Tg}(h:cTg C e=some t):PG X e (lftG X.K t):=by
 unfold cTg at h
 split at h
 .rename_i x p
  cases z:nmIx C (.Name x p)with
  |none=>rw[z]at h;cases h
  |some i=>
   rw[z]at h;cases h
   obtain⟨x',p',e,h1,h2,h3⟩:=nm_ok O z
   cases e
   exact zw0 (O.hN▸O.nd) h1 h2 h3
 .rename_i es kx p
  cases z:mapO (nmIx C) es with
  |none=>rw[z]at h;cases h
  |some is=>rw[z]at h;cases h;exact zm5 O.calm (O.hN▸O.nd) (znk O z)
 .cases h
theorem cL_ok{f:Expr->Option E}{cl:Call}(ih:∀e c,f e=some c->SE X e (ev cl c)/\zay e=true):∀{es:List Expr} {c:E},cL f es=some c->SA X es (ev cl c)/\es.all zay=true
 |[],_,h=>by cases h;exact⟨zmy,rfl⟩
 |e::es,c,h=>by
  unfold cL at h
  split at h
  .rename_i a r ha hr
   cases h
   obtain⟨h1,h2⟩:=ih e a ha
   obtain⟨h3,h4⟩:=cL_ok ih hr
   exact⟨zgh h1 h3 (zai h2),by rw[vb5,h2,h4];rfl⟩
  .cases h
theorem cB_ok{f:Expr->Option E}{cl:Call}{pos:Pos}(ih:∀e c,f e=some c->SE X e (ev cl c)/\zay e=true):∀{es:List Expr} {c:E},(cB true f es=some c->SE X (.BoolOp .And es pos) (ev cl c))/\(cB false f es=some c->SE X (.BoolOp .Or es pos) (ev cl c))
 |[],_=>⟨(λh=>nomatch h),(λh=>nomatch h)⟩
 |[a],c=>⟨λh=>zq5 (ih a c h).1,λh=>zq5 (ih a c h).1⟩
 |a::b::r,c=>by
  refine⟨λh=>?_,λh=>?_⟩
  .unfold cB at h
   split at h
   .rename_i x y hx hy
    cases h
    exact zwg (ih a x hx).1 ((cB_ok ih).1 hy)
   .cases h
  .unfold cB at h
   split at h
   .rename_i x y hx hy
    cases h
    exact se_or (ih a x hx).1 ((cB_ok ih).2 hy)
   .cases h
theorem zj0{f:Expr->Option E}{cl:Call}{pos:Pos}(ih:∀e c,f e=some c->ST X e (ev cl c)):∀{es:List Expr} {c:E},(cB true f es=some c->SW X (.BoolOp .And es pos) (ev cl c))/\(cB false f es=some c->SW X (.BoolOp .Or es pos) (ev cl c))
 |[],_=>⟨(λh=>nomatch h),(λh=>nomatch h)⟩
 |[a],c=>⟨λh=>zq4 (ih a c h),λh=>zq4 (ih a c h)⟩
 |a::b::r,c=>by
  refine⟨λh=>?_,λh=>?_⟩
  .unfold cB at h
   split at h
   .rename_i x y hx hy
    cases h
    exact zwf (ih a x hx) ((zj0 ih).1 hy)
   .cases h
  .unfold cB at h
   split at h
   .rename_i x y hx hy
    cases h
    exact sw_or (ih a x hx) ((zj0 ih).2 hy)
   .cases h
theorem cO_ok{f:Expr->Option E}{cl:Call}(ih:∀e c,f e=some c->SE X e (ev cl c)/\zay e=true){o:Option Expr}{b:Bool}{c:E}(h:cO f o=some (b,c)):PO X o (lftO X.K b (ev cl c)):=by
 unfold cO at h
 split at h
 .cases h;exact zsz
 .rename_i e
  cases z:f e with
  |none=>rw[z]at h;cases h
  |some c'=>rw[z]at h;cases h;exact zm0 (ih _ _ z).1
theorem zti{x:Str}{t:Ty}(h:tyOf x=some t):bootBuiltins x=some (.type (tyN t)):=by
 unfold tyOf at h
 split at h
 .rename_i e;cases h;rw[show x = "int" by simpa using e];exact PyProof.Rows.boot_int
 split at h
 .rename_i e;cases h;rw[show x = "bool" by simpa using e];decide +kernel
 split at h
 .rename_i e;cases h;rw[show x = "tuple" by simpa using e];exact PyProof.Rows.boot_tuple
 split at h
 .rename_i e;cases h;rw[show x = "list" by simpa using e];exact PyProof.Rows.boot_list
 split at h
 .rename_i e;cases h;rw[show x = "str" by simpa using e];decide +kernel
 split at h
 .rename_i e;cases h;rw[show x = "dict" by simpa using e];decide +kernel
 .cases h
theorem bi_ok{x:Str}{b:Bi}{e:Expr}{es:List Expr}{fa:FE}{p pos:Pos}(h:biOf x=some b)(hg:Gl X x)(hm:X.mg x=none)(hn:okN x=true)(hc:X.calm=true)(ha:SA X (e::es) fa)(hs:(e::es).all zay=true):SE X (.Call (.Name x p) (e::es) [] pos) (gArg fa (biW b)):=by
 obtain⟨n1,_,n2⟩:=zd1 hn
 unfold biOf at h
 split at h
 .rename_i z
  cases h
  have z:x = "len":=by simpa using z
  subst z
  exact zc6 zhn zwl hg hm PySem.boot_len ha hs n2 n1
 split at h
 .rename_i z
  cases h
  have z:x = "list":=by simpa using z
  subst z
  exact zet zho zs0 hg hm PyProof.Rows.boot_list ha hs n2 n1
 split at h
 .rename_i z
  cases h
  have z:x = "tuple":=by simpa using z
  subst z
  exact zet zgc zpr hg hm PyProof.Rows.boot_tuple ha hs n2 n1
 split at h
 .rename_i z
  cases h
  have z:x = "int":=by simpa using z
  subst z
  exact zet zl6 zwm hg hm PyProof.Rows.boot_int ha hs n2 n1
 split at h
 .rename_i z
  cases h
  have z:x = "abs":=by simpa using z
  subst z
  exact zc6 zo3 zwn hg hm (by decide +kernel) ha hs n2 n1
 split at h
 .rename_i z
  cases h
  have z:x = "max":=by simpa using z
  subst z
  exact zc6 (zl4 hc) zwo hg hm (by decide +kernel) ha hs n2 n1
 split at h
 .rename_i z
  cases h
  have z:x = "min":=by simpa using z
  subst z
  exact zc6 (zl5 hc) zwp hg hm (by decide +kernel) ha hs n2 n1
 split at h
 .rename_i z
  cases h
  have z:x = "sum":=by simpa using z
  subst z
  exact zc6 (zp6 hc) zxm hg hm (by decide +kernel) ha hs n2 n1
 cases h
theorem zlh{b:Expr}(h:zeu b=true):ziw b:=λo i=>by cases b<;>first|rfl|cases h
end
section
variable{X:Cx}{C:CC}{T:List Str}{F:Nat->Option Fn}{k:Nat}
theorem zbb{env:Env}{kd:NameKind}(hk:kd≠.free):∀{l:List (Str×NameKind)} {x:Str},l.lookup x=some kd->
 (l.map λ(n,k)=>if(k==NameKind.free&&env.scope.kind == .function&&env.kindOf n==some .cell)then(n,NameKind.cell)else(n,k)).lookup x=some kd
 |[],_,h=>by cases h
 |(n,j)::r,x,h=>by
  rw[vao]
  simp only[vav]at h
  by_cases hx:(x==n)=true
  .simp only[hx]at h
   cases h
   have:(kd==NameKind.free)=false:=by simpa using hk
   simp only[this,vcp,vam,vbb,vav,hx]
  .have hx':(x==n)=false:=by simpa using hx
   simp only[hx']at h
   have ih:=zbb (env:=env) hk (l:=r) (x:=x) h
   by_cases hc':(j==NameKind.free&&env.scope.kind == .function&&env.kindOf n==some .cell)=true
   .simp only[hc',va3,vav,hx'];exact ih
   .have hcf:(j==NameKind.free&&env.scope.kind == .function&&env.kindOf n==some .cell)=false:=by simpa using hc'
    simp only[hcf,vam,vbb,vav,hx'];exact ih
theorem zfw(O:XOk X C T F k){sc:Scope}{ix:List Nat}(h:zev C sc ix=true):CompScope X (ownOf sc) (zbk sc) ix sc/\(ownOf sc++zbk sc).Nodup:=by
 unfold zev at h
 simp only[vac,vaj,vbi]at h
 obtain⟨⟨⟨⟨⟨⟨⟨h1,h2⟩,h3⟩,h4⟩,h5⟩,h6⟩,h7⟩,h8⟩:=h
 refine⟨⟨h1,h2,h3,h4,λy hy e=>O.cf _ (h5 y hy e),λq x e=>?_,h6⟩,h8⟩
 have hk:q< (zbk sc).length:=(va8.mp e).1
 have:=h7 q (List.mem_range.mpr hk)
 rw[e]at this
 cases z:ix[q]? with
 |none=>rw[z]at this;cases this
 |some j=>
  rw[z]at this
  simp only[vac,vaj]at this
  exact⟨j,rfl,by rw[O.hN];exact this.1,this.2⟩
theorem zi7(O:XOk X C T F k){sc:Scope}{ix:List Nat}(h:zev C sc ix=true)(D:Addr)(s₀:Shared)(H₀:Hp)(ex:List Addr):XOk (X.comp (ownOf sc++zbk sc) sc D s₀ H₀ ex) (inC sc) T F k:=by
 obtain⟨S,nd⟩:=zfw O h
 refine⟨rfl,nd,λx hx=>?_,λx hx=>?_,λx hx=>?_,λx hx=>?_,O.calm,O.room,rfl,S.kind,O.mgs,O.mgn,O.fns,O.cls,O.dct,O.kin⟩
 .have hx:visK (sc.names.lookup x)=true:=hx
  cases z:sc.names.lookup x with
  |none=>rw[z]at hx;cases hx
  |some kd=>
   cases kd with
   | «local»=>exact .inl (zbb (by decide) z)
   |cell=>exact .inr (.inl (zbb (by decide) z))
   |free=>
    have:=zbw (env:=X.env) O.kfn z
    by_cases hc:X.env.kindOf x=some .cell
    .rw[if_pos hc]at this;exact .inr (.inl this)
    .rw[if_neg hc]at this;exact .inr (.inr this)
   |globalExplicit=>rw[z]at hx;cases hx
   |globalImplicit=>rw[z]at hx;cases hx
 .have hx:locK false (sc.names.lookup x)=true:=hx
  cases z:sc.names.lookup x with
  |none=>rw[z]at hx;cases hx
  |some kd=>
   cases kd with
   | «local»=>exact⟨.inl (zbb (by decide) z),.inr (zbb (by decide) z)⟩
   |cell=>rw[z]at hx;cases hx
   |free=>rw[z]at hx;cases hx
   |globalExplicit=>rw[z]at hx;cases hx
   |globalImplicit=>rw[z]at hx;cases hx
 .exact zbb (by decide) hx
 .have hx:sc.names.lookup x=some .cell\/sc.names.lookup x=some .free:=hx
  rcases hx with z|z
  .exact .inl (zbb (by decide) z)
  .have:=zbw (env:=X.env) O.kfn z
   by_cases hc:X.env.kindOf x=some .cell
   .rw[if_pos hc]at this;exact .inl this
   .rw[if_neg hc]at this;exact .inr this
end
theorem map_some{α β:Type}{o:Option α}{f:α->β}{b:β}(h:o.map f=some b):∃a,o=some a/\b=f a:=by
 cases o with
 |none=>cases h
 |some a=>cases h;exact⟨a,rfl,rfl⟩
structure Snd(X:Cx)(C:CC)(T:List Str)(F:Nat->Option Fn)(k n:Nat):Prop where
 e:∀e c,cE X.K T n C e=some c->SE X e (ev (run F k) c)/\zay e=true
 t:∀e c,cT X.K T n C e=some c->ST X e (ev (run F k) c)
 w:∀e kd c tg,cW X.K T n C e=some (kd,c)->okW kd tg=true->PI X tg e (lftI X.K kd (ev (run F k) c))/\∀x,foldedSetIterable e X.env x=pure x
section
variable{X:Cx}{C:CC}{T:List Str}{F:Nat->Option Fn}{k n:Nat}
theorem snd_t(O:XOk X C T F k)(ih:Snd X C T F k n)(e:Expr)(c:E)(h:cT X.K T (n+1) C e=some c):ST X e (ev (run F k) c):=by
 unfold cT at h
 split at h
 .split at h
  .split at h
   .rename_i hs
    split at h
    .rename_i h1 h2 h3
     cases h
     exact zwa O.u65 h1 hs (ih.e _ _ h2).1 (ih.e _ _ h3).1
    .cases h
   .cases h
  .split at h
   .rename_i hs
    split at h
    .rename_i h1 h2 h3 h4 h5
     cases h
     exact zwc O.u65 h1 h2 hs (ih.e _ _ h3).1 (ih.e _ _ h4).1 (ih.e _ _ h5).1
    .cases h
   .cases h
  .cases h
 .split at h
  .obtain⟨a,h1,rfl⟩:=map_some h
   exact zwd (ih.t _ _ h1)
  .cases h
 .split at h
  .exact((zj0 ih.t).1 h).pt
  .exact((zj0 ih.t).2 h).pt
 .obtain⟨a,h1,rfl⟩:=map_some h
  exact zmz (ih.e _ _ h1).1 λ_=>rfl
 .obtain⟨a,h1,rfl⟩:=map_some h
  exact zmz (ih.e _ _ h1).1 λ_=>rfl
 .obtain⟨a,h1,rfl⟩:=map_some h
  exact zmz (ih.e _ _ h1).1 λ_=>rfl
 .cases h
theorem noSet{e:Expr}(h:∀a b c,e≠.Set a b c){env:Env}:∀x,foldedSetIterable e env x=pure x:=by
 intro x
 cases e<;>first|rfl|exact absurd rfl (h _ _ _)
theorem snd_w(O:XOk X C T F k)(ih:Snd X C T F k n)(e:Expr)(kd:Kd)(c:E)(tg:Expr)(h:cW X.K T (n+1) C e=some (kd,c))(hw:okW kd tg=true):PI X tg e (lftI X.K kd (ev (run F k) c))/\∀x,foldedSetIterable e X.env x=pure x:=by
 unfold cW at h
 split at h
 .rename_i f p args pos
  refine⟨?_,λx=>rfl⟩
  split at h
  .rename_i hf
   have hf:f = "range":=by simpa using hf
   subst hf
   split at h
   .rename_i ha
    obtain⟨g1,g2⟩:=zc8 O ha
    split at h
    .rename_i a
     obtain⟨x,h1,h2⟩:=map_some h
     cases h2
     obtain⟨h3,h4⟩:=ih.e _ _ h1
     exact zs3 (zgh h3 zmy (zai h4)) h4 g1 g2
    .cases h
   .cases h
  .split at h
   .rename_i hf
    have hf:f = "enumerate":=by simpa using hf
    subst hf
    split at h
    .rename_i ha
     obtain⟨g1,g2⟩:=zc8 O ha
     split at h
     .rename_i a
      obtain⟨x,h1,h2⟩:=map_some h
      cases h2
      obtain⟨h3,h4⟩:=ih.e _ _ h1
      cases tg<;>first|exact zww h3 h4 g1 g2|cases hw
     .cases h
    .cases h
   .split at h
    .rename_i hf
     have hf:f = "zip":=by simpa using hf
     subst hf
     split at h
     .rename_i ha
      obtain⟨g1,g2⟩:=zc8 O ha
      split at h
      .rename_i a b
       split at h
       .rename_i x y h1 h2
        cases h
        obtain⟨h3,h4⟩:=ih.e _ _ h1
        obtain⟨h5,h6⟩:=ih.e _ _ h2
        cases tg<;>first|exact zwz (zgh h3 (zgh h5 zmy (zai h6)) (zai h4)) h4 h6 g1 g2|cases hw
       .cases h
      .cases h
     .cases h
    .obtain⟨x,h1,h2⟩:=map_some h
     cases h2
     exact zq6 (ih.e _ _ h1).1
 .cases h
 .rename_i hns
  obtain⟨x,h1,h2⟩:=map_some h
  cases h2
  exact⟨zq6 (ih.e _ _ h1).1,noSet (by first|exact hns|(intro a b c z;exact hns a b c z))⟩
end
section
variable{X:Cx}{C:CC}{T:List Str}{F:Nat->Option Fn}{k n:Nat}
theorem zp7(O:XOk X C T F k){x:Str}{p:Pos}{c:E}(h:cE X.K T (n+1) C (.Name x p)=some c):SE X (.Name x p) (ev (run F k) c):=by
 simp only[cE]at h
 split at h
 .rename_i hn
  obtain⟨n1,n2,n3⟩:=zd1 hn
  split at h
  .rename_i hv
   obtain⟨i,h1,rfl⟩:=map_some h
   exact zv1 (by rw[O.hN];exact zft h1) (O.vis x hv) n1 n2
  .split at h
   .rename_i hg
    split at h
    .rename_i v hv
     obtain⟨w,h1,rfl⟩:=map_some h
     obtain⟨y,h2,h3⟩:=znh 8 v w h1
     exact zhw (zlx (O.gl x (by simpa using hg)) (O.mgs x v hv) h2 n1) h3
    .cases h
   .cases h
 .cases h
theorem ztj{cl:Call}{i:Nat}{a:E}(h:argsE a=true):ev cl (.call i (padE a))=gArg (ev cl a) (λws h=>cl i (ws++[.non]) h):=by
 funext ρ h1
 simp only[ev,zrg h]
 show Res.bind (Res.bind (ev cl a ρ h1) _) _=Res.bind (ev cl a ρ h1) _
 cases ev cl a ρ h1 with
 |no=>rfl
 |ex _ _=>rfl
 |ok y h2=>cases y<;>rfl
theorem ztk(O:XOk X C T F k)(ih:Snd X C T F k n){f:Str}{p pos:Pos}{args:List Expr}{c:E}(hcl:zbm f=true)(hn:okN f=true)(hg:Gl X f)
 (h:(match zb9 T f 0,args with
      |some i,_::_=>if zcg X.K "Balls.__init__" (args.length+1)=true then(cL (cE X.K T n C) args).map (λa=>.call i (padE a))else(cL (cE X.K T n C) args).map (.call i)
      |_,_=>none)=some c):SE X (.Call (.Name f p) args [] pos) (ev (run F k) c):=by
 split at h
 .rename_i i e es hi
  have hx:f = "Balls":=by unfold zbm at hcl;simpa using hcl
  cases k with
  |zero=>
   have nev:∀(a:E)(ρ:En)(h1:VH)(w:W)(h':VH),ev (run F 0) (.call i a) ρ h1≠.ok w h':=λa ρ h1 w h' q=>by
    simp only[ev]at q
    refine zad q λy h2 _ e2=>?_
    cases y<;>cases e2
   intro pins s σ H Q I ⟨ρ,h1,m,w,h',_,_,q,_⟩
   split at h
   .obtain⟨a,_,rfl⟩:=map_some h
    exact absurd q (nev _ _ _ _ _)
   .obtain⟨a,_,rfl⟩:=map_some h
    exact absurd q (nev _ _ _ _ _)
  |succ k=>
   obtain⟨D,g,fd,ps,ii,na,a1,a2,a3,a4,a5,a6,a7⟩:=O.cls i f (zft hi) hcl k rfl
   have hm:X.mg f=some (.ref D):=by rw[hx];exact O.mgs _ _ (zea a1).1
   split at h
   .rename_i hlv
    obtain⟨a,h1,rfl⟩:=map_some h
    obtain⟨h2,h3⟩:=cL_ok ih.e h1
    rw[ztj (zi6 h1)]
    exact ztc a2 a3 a4 O.room hg hm (a6 (zfu hlv)) h2 h3 (zd1 hn).1 a7
   .obtain⟨a,h1,rfl⟩:=map_some h
    obtain⟨h2,h3⟩:=cL_ok ih.e h1
    exact zxh a2 a3 a4 O.room hg hm a5 h2 h3 (zd1 hn).1 a7
 .cases h
theorem zp8(O:XOk X C T F k)(ih:Snd X C T F k n){f:Str}{p pos:Pos}{args:List Expr}{c:E}(h:cE X.K T (n+1) C (.Call (.Name f p) args [] pos)=some c):SE X (.Call (.Name f p) args [] pos) (ev (run F k) c):=by
 simp only[cE]at h
 split at h
 .rename_i hn
  rw[vac]at hn
  have hg:=O.gl f (by simpa using hn.2)
  split at h
  .rename_i hm
   have hm:=O.mgn f hm
   split at h
   .rename_i hf
    have hf:f = "isinstance":=by simpa using hf
    subst hf
    split at h
    .rename_i a t pt
     split at h
     .rename_i ty x h1 h2
      split at h
      .rename_i hc
       cases h
       rw[vac]at hc
       obtain⟨g1,g2⟩:=zc8 O hc.2
       obtain⟨h3,h4⟩:=ih.e _ _ h2
       obtain⟨n1,n2,n3⟩:=zd1 hc.1
       exact zwr ty h3 h4 hg hm g1 g2 (zti h1) n3 n1
      .cases h
     .cases h
    .cases h
   .split at h
    .rename_i b e es hb
     obtain⟨a,h1,rfl⟩:=map_some h
     obtain⟨h2,h3⟩:=cL_ok ih.e h1
     exact bi_ok hb hg hm hn.1 O.calm h2 h3
    .cases h
  .rename_i v hv
   split at h
   .rename_i hcl
    exact ztk O ih (hcl:=hcl) hn.1 hg h
   rename_i hncl
   split at h
   .cases h
   rename_i hnm
   have hnm:metOf f=none:=by simpa using hnm
   split at h
   .rename_i i hi
    obtain⟨fa,fd,ps,fn,q1,q2,q3,q4,q5,q6,q7⟩:=O.fns i f (zft hi) (zxn hn.1) (by simpa using hncl)
    have q1:=zjz q1 hnm
    split at h
    .rename_i hlv
     rw[vac]at hlv
     obtain⟨a,h1,rfl⟩:=map_some h
     obtain⟨h2,h3⟩:=cL_ok ih.e h1
     have hl:∀ws h w h',run F k i ws h=.ok w h'->ws.length=ps.length:=λws h w h' e=>by rw[zdp q5 e,q6]
     have hev:ev (run F k) (.call i (padE a))=gArg (ev (run F k) a) (λws h=>run F k i (ws++[.non]) h):=by
      funext ρ h
      simp only[ev,zrg (zi6 h1)]
      show Res.bind (Res.bind (ev (run F k) a ρ h) _) _=Res.bind (ev (run F k) a ρ h) _
      cases ev (run F k) a ρ h with
      |no=>rfl
      |ex _ _=>rfl
      |ok y h2=>cases y<;>rfl
     rw[hev]
     cases args with
     |nil=>cases hlv.2
     |cons e es=>exact zpu q2 O.room hg (O.mgs f _ q1) q3 (q7 (zfu hlv.1)) h2 h3 (zd1 hn.1).1 hl
    obtain⟨a,h1,rfl⟩:=map_some h
    obtain⟨h2,h3⟩:=cL_ok ih.e h1
    have hl:∀ws h w h',run F k i ws h=.ok w h'->ws.length=ps.length:=λws h w h' e=>by rw[zdp q5 e,q6]
    cases args with
    |nil=>
     simp only[cL]at h1
     cases h1
     exact zpt q2 O.room hg (O.mgs f _ q1) q3 q4 (zd1 hn.1).1 hl
    |cons e es=>exact zs2 q2 O.room hg (O.mgs f _ q1) q3 q4 h2 h3 (zd1 hn.1).1 hl
   .cases h
  .cases h
 .cases h
theorem zp9(O:XOk X C T F k)(ih:Snd X C T F k n){o:Expr}{m:Str}{ap pos:Pos}{args:List Expr}{c:E}(h:cE X.K T (n+1) C (.Call (.Attribute o m ap) args [] pos)=some c):SE X (.Call (.Attribute o m ap) args [] pos) (ev (run F k) c):=by
 simp only[cE]at h
 split at h
 .rename_i hn
  rw[vac]at hn
  split at h
  .rename_i y hy
   obtain⟨y1,y2,y3⟩:=zp4 hy
   split at h
   .rename_i D i x e es hD hi hx
    split at h
    .rename_i hlt
     obtain⟨z,h1,rfl⟩:=map_some h
     obtain⟨h2,h3⟩:=cL_ok ih.e h1
     obtain⟨fa,fd,ps,fn,q1,q2,q3,q4,q5,q6,q7⟩:=O.fns i y (zft hi) y2 y3
     have hl:∀ws h w h',run F k i ws h=.ok w h'->ws.length=ps.length:=λws h w h' e=>by rw[zdp q5 e,q6]
     exact zp3 (zea hD).2 (zlf q1 y1 hD) q2 O.room q4 (ih.e _ _ hx).1 h2 h3 hl (zte hn.1 hn.2 h3 hlt)
    .cases h
   .cases h
  split at h
  .rename_i x a hx
   split at h
   .rename_i hm
    have hm:m = "append":=by simpa using hm
    subst hm
    obtain⟨y,h1,rfl⟩:=map_some h
    obtain⟨h2,h3⟩:=ih.e _ _ h1
    exact zm1 (ih.e _ _ hx).1 h2 hn.1 h3 hn.2
   .cases h
  .rename_i a b hx
   split at h
   .rename_i hm
    rw[vac]at hm
    have hg:m = "get":=by simpa using hm.1
    subst hg
    obtain⟨p,rfl,hgl⟩:=zth hm.2
    split at h
    .rename_i ps y z h1 h2 h3
     cases h
     obtain⟨a0,o,es,ep,kws,kvs,vs,b1,b2,b3,b4,b5,b6,b7,b8,b9,b10,b11⟩:=zxo (P:=X.prog) O.dct h1
     exact ztg (O.gl _ hgl) (by decide +kernel) (O.mgs _ _ b1) b3 (O.kin _ _ b2) b4 b5 b6 b7 b8 b9 b10 b11 (ih.e _ _ h2).1 (ih.e _ _ h3).1 hn.1 (ih.e _ _ h2).2 (ih.e _ _ h3).2 hn.2
    .cases h
   .cases h
  .cases h
 .cases h
theorem zxp{ow fr:List Str}{sc:Scope}{ifs:List Expr}{c:E}(O:∀D s₀ H₀ ex,Snd (X.comp (ow++fr) sc D s₀ H₀ ex) (inC sc) T F k n)
 (h:(match ifs with|[]=>some (E.cst (.bl true))|[c]=>cT X.K T n (inC sc) c|_=>none)=some c) (D:Addr) (s₀:Shared) (H₀:Hp) (ex:List Addr):PTs (X.comp (ow++fr) sc D s₀ H₀ ex) ifs (lftT X.K (ev (run F k) c)):=by
 split at h
 .cases h
  exact λpins s σ H Q I z9=>z9.el λρ h m b h' f r e q=>by
   cases e
   exact zsj pins s σ H Q I (q H m .refl r)
 .exact zsk ((O D s₀ H₀ ex).t _ _ h)
 .cases h
theorem zri(O:XOk X C T F k)(ih:Snd X C T F k n)(ihc:∀{sc:Scope} {ix:List Nat},zev C sc ix=true->∀D s₀ H₀ ex,Snd (X.comp (ownOf sc++zbk sc) sc D s₀ H₀ ex) (inC sc) T F k n)
 {elt tg iter:Expr} {ifs:List Expr} {sc:Scope} {pos:Pos} {c:E} (h:cE X.K T (n+1) C (.ListComp elt [⟨tg,iter,ifs,0⟩] sc pos)=some c) :
 ∃kd a t ix cc ce,c=.lc kd a t (ownOf sc).length ix cc ce/\CompScope X (ownOf sc) (zbk sc) ix sc/\PI X tg iter (lftI X.K kd (ev (run F k) a))/\(∀D s₀ H₀ ex,PG (X.comp (ownOf sc++zbk sc) sc D s₀ H₀ ex) tg (lftG X.K t))/\
  (∀D s₀ H₀ ex,PTs (X.comp (ownOf sc++zbk sc) sc D s₀ H₀ ex) ifs (lftT X.K (ev (run F k) cc)))/\(∀D s₀ H₀ ex,PE (X.comp (ownOf sc++zbk sc) sc D s₀ H₀ ex) elt (lft X.K (ev (run F k) ce)))/\∀x,foldedSetIterable iter X.env x=pure x:=by
 simp only[cE]at h
 split at h
 .rename_i ix hix
  split at h
  .rename_i hc
   split at h
   .rename_i kd a t cc ce h1 h2 h3 h4
    split at h
    case isFalse=>cases h
    rename_i hw
    cases h
    obtain⟨w1,w2⟩:=ih.w _ _ _ tg h1 hw
    exact⟨kd,a,t,ix,cc,ce,rfl,(zfw O hc).1,w1,λD s₀ H₀ ex=>tg_ok (zi7 O hc D s₀ H₀ ex) h2,zxp (ihc hc) h3,λD s₀ H₀ ex=>((ihc hc D s₀ H₀ ex).e _ _ h4).1,w2⟩
   .cases h
  .cases h
 .cases h
theorem snd_e(O:XOk X C T F k)(ih:Snd X C T F k n)(ihc:∀{sc:Scope} {ix:List Nat},zev C sc ix=true->∀D s₀ H₀ ex,Snd (X.comp (ownOf sc++zbk sc) sc D s₀ H₀ ex) (inC sc) T F k n)
 (e:Expr) (c:E) (h:cE X.K T (n+1) C e=some c):SE X e (ev (run F k) c)/\zay e=true:=by
 have h0:=h
 unfold cE at h
 split at h
 .exact⟨zp7 O h0,rfl⟩
 .refine⟨?_,rfl⟩
  split at h
  .cases h;exact zv2
  .cases h;exact se_bl
  .cases h;exact zv3
  .cases h;exact zv4
  .cases h
 .obtain⟨a,h1,rfl⟩:=map_some h
  exact⟨zv5 (cL_ok ih.e h1).1,rfl⟩
 .obtain⟨a,h1,rfl⟩:=map_some h
  exact⟨zv6 (cL_ok ih.e h1).1,rfl⟩
 .refine⟨?_,rfl⟩
  split at h
  .cases h;exact zs1
  .cases h
 .refine⟨?_,rfl⟩
  split at h
  .rename_i h1 h2 h3
   cases h
   exact se_op (op_ok h1) (zv8 _) (ih.e _ _ h2).1 (ih.e _ _ h3).1
  .cases h
 .split at h
  .obtain⟨a,h1,rfl⟩:=map_some h
   exact⟨zwe (ih.e _ _ h1).1,rfl⟩
  .obtain⟨a,h1,rfl⟩:=map_some h
   exact⟨zwi (ih.e _ _ h1).1,rfl⟩
  .cases h
 .split at h
  .exact⟨(cB_ok ih.e).1 h,rfl⟩
  .exact⟨(cB_ok ih.e).2 h,rfl⟩
 .split at h
  .refine⟨?_,rfl⟩
   split at h
   .rename_i hs
    split at h
    .rename_i h1 h2 h3
     cases h
     exact zv9 O.u65 h1 hs (ih.e _ _ h2).1 (ih.e _ _ h3).1
    .cases h
   .cases h
  .refine⟨?_,rfl⟩
   split at h
   .rename_i hs
    split at h
    .rename_i h1 h2 h3 h4 h5
     cases h
     exact zwb O.u65 h1 h2 hs (ih.e _ _ h3).1 (ih.e _ _ h4).1 (ih.e _ _ h5).1
    .cases h
   .cases h
  .cases h
 .refine⟨?_,rfl⟩
  split at h
  .rename_i h1 h2 h3
   cases h
   exact zwh (ih.t _ _ h1) (ih.e _ _ h2).1 (ih.e _ _ h3).1
  .cases h
 .split at h
  .split at h
   .refine⟨?_,rfl⟩
    split at h
    .rename_i h1 h2 h3
     cases h
     exact zwk (ih.e _ _ h1).1 (cO_ok ih.e h2) (cO_ok ih.e h3)
    .cases h
   .split at h
    .refine⟨?_,rfl⟩
     split at h
     .rename_i h1 h2
      cases h
      exact zxl (ih.e _ _ h1).1 (ih.e _ _ h2).1
     .cases h
    .cases h
  .refine⟨?_,rfl⟩
   split at h
   .rename_i hs
    split at h
    .rename_i h1 h2
     cases h
     exact zwj O.u2 (ih.e _ _ h1).1 (ih.e _ _ h2).1 (zlh hs)
    .cases h
   .cases h
 .split at h
  .split at h
   .exact⟨zp8 O ih h0,rfl⟩
   .exact⟨zp9 O ih h0,rfl⟩
   .cases h
  .cases h
 .refine⟨?_,rfl⟩
  split at h
  .rename_i hpl
   split at h
   .rename_i D a hD ha
    split at h
    .rename_i hna
     cases h
     exact zw8 (zea hD).2 (zfs hna) (ih.e _ _ ha).1 (zgm hpl)
    .cases h
   .cases h
  .cases h
 .split at h
  .refine⟨?_,rfl⟩
   obtain⟨kd,a,t,ix,cc,ce,rfl,S,w1,w2,w3,w4,w5⟩:=zri O ih ihc h0
   exact se_lc S O.calm w1 w2 w3 w4 w5
  .cases h
 .cases h
end
theorem zfx{T:List Str}{F:Nat->Option Fn}{k:Nat}:∀(n:Nat) {X:Cx} {C:CC},XOk X C T F k->Snd X C T F k n
 |0,_,_,_=>⟨(λe c h=>nomatch h),(λe c h=>nomatch h),(λe kd c tg h _=>nomatch h)⟩
 |n+1,X,C,O=>by
  have ih:=zfx n O
  have ihc:∀{sc:Scope}{ix:List Nat},zev C sc ix=true->∀D s₀ H₀ ex,Snd (X.comp (ownOf sc++zbk sc) sc D s₀ H₀ ex) (inC sc) T F k n:=λhc D s₀ H₀ ex=>zfx n (zi7 O hc D s₀ H₀ ex)
  exact⟨snd_e O ih ihc,snd_t O ih,snd_w O ih⟩
section
variable{X:Cx}{C:CC}{T:List Str}{F:Nat->Option Fn}{k d:Nat}
theorem zcv{f:Stmt->Option S}{cl:Call}(ih:∀st c,f st=some c->SS X st (exs cl c)):∀{sts:List Stmt} {c:S},cSs f sts=some c->SSs X sts (exs cl c)
 |[],_,h=>by cases h;exact zs5
 |s::r,c,h=>by
  unfold cSs at h
  split at h
  .rename_i a b ha hb
   cases h
   exact zpy (ih s a ha) (zcv ih hb)
  .cases h
theorem zxq{K:vga}{T:List Str}{n:Nat}{C:CC}{elt:Expr}{gs:List Comprehension}{sc:Scope}{lp:Pos}{c:E}(h:cE K T (n+1) C (.ListComp elt gs sc lp)=some c):∃tg iter ifs,gs=[⟨tg,iter,ifs,0⟩]:=by
 match gs,h with
 |[],h=>cases(show(none:Option E)=some c from h)
 |[⟨tg,iter,ifs,0⟩],_=>exact⟨tg,iter,ifs,rfl⟩
 |[⟨_,_,_,.ofNat (k+1)⟩],h=>cases(show(none:Option E)=some c from h)
 |[⟨_,_,_,.negSucc k⟩],h=>cases(show(none:Option E)=some c from h)
 |⟨_,_,_,0⟩::_::_,h=>cases(show(none:Option E)=some c from h)
 |⟨_,_,_,.ofNat (k+1)⟩::_::_,h=>cases(show(none:Option E)=some c from h)
 |⟨_,_,_,.negSucc k⟩::_::_,h=>cases(show(none:Option E)=some c from h)
theorem ztl(O:XOk X C T F k){x:Str}{p pos:Pos}{e:Expr}{i:Nat}{c:E}(hi:nmIx C (.Name x p)=some i)(h:cE X.K T d C e=some c):SS X (.Assign [.Name x p] e pos) (exs (run F k) (.set i c)):=by
 obtain⟨x',p',ex,h1,h2,h3⟩:=nm_ok O hi
 cases ex
 have nd:X.N.Nodup:=O.hN▸O.nd
 have Sd:=zfx (T:=T) (F:=F) (k:=k) d O
 by_cases hc:zh6 e=true
 .exact zrb nd h1 h2 h3 (Sd.e _ _ h).1 (zgo hc)
 .cases d with
  |zero=>cases h
  |succ n=>
   cases e with
   |ListComp elt gs sc lp=>
    have sw:∃b:Bool,swapsWith (.ListComp elt gs sc lp) (some (.Name x p)) pos.line X.env=pure b:=⟨_,rfl⟩
    obtain⟨b,hb⟩:=sw
    cases b with
    |false=>exact zrb nd h1 h2 h3 (Sd.e _ _ h).1 hb
    |true=>
     obtain⟨tg,iter,ifs,rfl⟩:=zxq h
     obtain⟨kd,a,t,ix,cc,ce,rfl,S,w1,w2,w3,w4,w5⟩:=zri O (zfx n O) (λhc D s₀ H₀ ex=>zfx n (zi7 O hc D s₀ H₀ ex)) h
     exact zpz nd h1 h2 h3 S O.calm w1 w2 w3 w4 hb w5
   |SetComp _ _ _ _=>unfold cE at h;cases h
   |DictComp _ _ _ _ _=>unfold cE at h;cases h
   |_=>exact absurd rfl hc
theorem snd_s(O:XOk X C T F k):∀(n:Nat) (st:Stmt) (c:S),cS X.K T d n C st=some c->SS X st (exs (run F k) c)
 |0,_,_,h=>by cases h
 |n+1,st,c,h=>by
  have nd:X.N.Nodup:=O.hN▸O.nd
  have Sd:=zfx (T:=T) (F:=F) (k:=k) d O
  have ih:=snd_s O n
  have hp:PassesOwn (model X.prog X.w) X.A X.env X.xe:=by rw[O.xe];exact PassesOwn.never
  unfold cS at h
  split at h
  .cases h;exact zs6
  .cases h;exact zw4
  .cases h;exact zw5
  .cases h;exact ss_no
  .split at h
   .cases h;exact zs8
   .obtain⟨a,h1,rfl⟩:=map_some h
    exact zw6 (Sd.e _ _ h1).1
  .split at h
   .rename_i hc
    obtain⟨a,h1,rfl⟩:=map_some h
    exact zs7 (Sd.e _ _ h1).1 hc
   .cases h
  .split at h
   .split at h
    .split at h
     .rename_i i a h1 h2
      cases h
      exact ztl O h1 h2
     .cases h
    .split at h
     .rename_i ht
      split at h
      .rename_i h1 h2
       cases h
       exact zw7 O.calm nd (znk O h1) (Sd.e _ _ h2).1 ht
      .cases h
     .cases h
    .split at h
     .rename_i hs
      split at h
      .rename_i h1 h2 h3
       cases h
       exact zxa O.u2 (Sd.e _ _ h1).1 (Sd.e _ _ h2).1 (Sd.e _ _ h3).1 hs
      .cases h
     .cases h
    .split at h
     .rename_i hs
      split at h
      .rename_i D a b hD ha hb
       split at h
       .rename_i hna
        cases h
        exact zw9 (zea hD).2 (zfs hna) (Sd.e _ _ ha).1 (Sd.e _ _ hb).1 (zgo hs)
       .cases h
      .cases h
     .cases h
    .cases h
   .cases h
  .split at h
   .split at h
    .rename_i h1 h2 h3
     cases h
     obtain⟨x',p',ex,a1,a2,a3⟩:=nm_ok O h1
     cases ex
     exact zxc h2 nd a1 a2 a3 (Sd.e _ _ h3).1
    .cases h
   .cases h
  .split at h
   .rename_i h1 h2 h3
    cases h
    exact zxd (Sd.t _ _ h1) (zcv ih h2) (zcv ih h3)
   .cases h
  .rename_i tg it b el pos
   split at h
   .split at h
    .rename_i h1 h2 h3
     split at h
     case isFalse=>cases h
     rename_i hw
     cases h
     obtain⟨w1,w2⟩:=Sd.w _ _ _ tg h1 hw
     exact zxf hp O.calm w1 (tg_ok O h2) (zcv ih h3) w2
    .cases h
   .cases h
  .split at h
   .split at h
    .rename_i h1 h2
     cases h
     exact zxg hp (Sd.t _ _ h1) (zcv ih h2)
    .cases h
   .cases h
  .cases h
end
noncomputable def zi8:FuncBody->Option (List Stmt)
 |.stmts b=>some b
 |_=>none
theorem zli{d:Data}(h:zgt d=true):∃n,d=.seq #[.none] n:=by
 cases d with
 |seq xs n=>
  obtain⟨l⟩:=xs
  unfold zgt at h
  simp only[]at h
  split at h
  .rename_i v
   cases v<;>first|exact⟨n,rfl⟩|cases h
  .cases h
 |_=>cases h
theorem zqa{K:vga}{v:Value}(h:noneD K v=true):∃t o n,v=.ref t/\K.lookup t=some o/\o.data=.seq #[.none] n:=by
 cases v with
 |ref t=>
  have h:(match K.lookup t with|some o=>zgt o.data|none=>false)=true:=h
  cases e:K.lookup t with
  |none=>rw[e]at h;cases h
  |some o=>
   rw[e]at h
   obtain⟨n,q⟩:=zli h
   exact⟨t,o,n,rfl,e,q⟩
 |_=>cases h
noncomputable def zcw(ps:List Str)(sc:Scope):List Str:=ps++(sc.names.filter λy=>(y.2 == .local||y.2 == .cell) && !(ps.contains y.1)).map (·.1)
noncomputable def zgu(N ps:List Str)(sc:Scope):Bool:=
 decide (sc.kind=.function) && !sc.isCoroutine && !sc.isGenerator&&decide N.Nodup&&decide (N.take ps.length=ps)&&ps.all (λx=>decide (sc.names.lookup x=some .local\/sc.names.lookup x=some .cell))&&sc.names.all (λy=>decide (y.2≠.free))&&decide ps.Nodup
theorem zlj{N ps:List Str}{sc:Scope}(h:zgu N ps sc=true):FnScope N ps sc/\ps.Nodup:=by
 unfold zgu at h
 simp only[vac,vaj,vbi,Bool.not_eq_true']at h
 obtain⟨⟨⟨⟨⟨⟨⟨h1,h2⟩,h3⟩,h4⟩,h5⟩,h6⟩,h7⟩,h8⟩:=h
 exact⟨⟨h1,h2,h3,h4,h5,h6,h7⟩,h8⟩
noncomputable def nmOf(x:Str):Str:=(metOf x).getD x
noncomputable def cF(K:vga)(T:List Str)(d n:Nat)(x:Str):Option Fn:=match fnAt K x with
 |some (f,o,fd)=>(match zbq fd.params,zi8 fd.body with
  |some args,some body=>if fd.name==nmOf x&&fd.qualname==x&&Nat.beq fd.globals mainGlobals&&fd.closure.isEmpty&& (isNone fd.defaults||noneD K fd.defaults && !args.isEmpty)&&Nat.beq fd.builtins builtinsNs&&PySem.W.codeIn K fd.code x&&PySem.W.keepIn K (.ref f) &&
   zgu (zcw (args.map (·.arg)) fd.scope) (args.map (·.arg)) fd.scope then
   (cSs (cS K T d n ⟨zcw (args.map (·.arg)) fd.scope,fd.scope.names,true⟩) body).map λb=>⟨(args.map (·.arg)).length,(zcw (args.map (·.arg)) fd.scope).length,b⟩
   else none
  |_,_=>none)
 |none=>none
theorem ztm{fd:FuncData}{x:Str}{args:List Arg}{body:List Stmt}(c1:(fd.name==nmOf x)=true)(c2:(fd.qualname==x)=true)(c3:Nat.beq fd.globals mainGlobals=true)(c4:fd.closure.isEmpty=true)(c6:Nat.beq fd.builtins builtinsNs=true)(ha:zbq fd.params=some args)(hb:zi8 fd.body=some body) :
 ∃dx,fd=PySem.W.fnOf (nmOf x) x ⟨[],args,none,[],[],none,dx⟩ body fd.scope fd.defaults fd.kwdefaults fd.doc fd.pyModule fd.annotations fd.code fd.closureTuple:=by
 obtain⟨nm,qn,pr,bd,sc,gl,cl,df,kd,dc,pm,an,cdv,ct,bu⟩:=fd
 have e1:nm=nmOf x:=by simpa using c1
 have e2:qn=x:=by simpa using c2
 have e3:gl=mainGlobals:=vc5 c3
 have e4:cl=[]:=by simpa using c4
 have e6:bu=builtinsNs:=vc5 c6
 have e7:bd=.stmts body:=by
  cases bd with
  |stmts b'=>cases hb;rfl
  |expr _=>cases hb
 obtain⟨dx,e8⟩:∃dx,pr=⟨[],args,none,[],[],none,dx⟩:=by
  unfold zbq at ha
  split at ha
  .cases ha;rename_i z;exact⟨_,z⟩
  .cases ha
 exact⟨dx,by rw[e1,e2,e3,e4,e6,e7,e8]⟩
theorem zqb{K:vga}{x:Str}{fd:FuncData}{args:List Arg}{body:List Stmt}{dx:List Expr}{sc:Scope}{df kd dc pm:Value}{an:Option Addr}{cdv ct:Value}{b:Bool}(e:fd=PySem.W.fnOf (nmOf x) x ⟨[],args,none,[],[],none,dx⟩ body sc df kd dc pm an cdv ct)(nd:(args.map (·.arg)).Nodup)
 (hb:b=noneD K df) (c5:(isNone df||noneD K df && !args.isEmpty)=true):Binds K fd (args.map (·.arg)) []/\(b=true->Binds K fd (args.map (·.arg)) [.none])/\(b=false->∀us:List Value,us.length=(args.map (·.arg)).length->bindArgs fd ⟨us,[]⟩=pure ((args.map (·.arg)).zip us)):=by
 subst e hb
 rw[vb3,vac]at c5
 rcases c5 with c5|⟨c5,c0⟩
 .have e5:df=.none:=by cases df<;>first|rfl|cases c5
  subst e5
  exact⟨.all λus hl=>zfq hl nd,(λz=>nomatch z),λ_ us hl=>zfq hl nd⟩
 .obtain⟨t,o,n,rfl,hk,hd⟩:=zqa c5
  rw[c5]
  obtain⟨qs,z,hqz⟩:∃qs z,args.map (·.arg)=qs++[z]:=by
   rcases List.eq_nil_or_concat (args.map (·.arg))with q|⟨l,b,q⟩
   .rw[List.map_eq_nil_iff.mp q]at c0;cases c0
   .exact⟨l,b,by rw[q,List.concat_eq_append]⟩
  have nd':=nd
  rw[hqz]at nd'
  refine⟨λs us hK hl=>?_,λ_ s us hK hl=>?_,λz=>nomatch z⟩
  .rw[vb2]at hl ⊢
   rw[hqz]at hl ⊢
   exact zld hqz nd' (hK _ _ hk) hd hl
  .rw[hqz]at hl ⊢
   exact zle hqz nd' (hK _ _ hk) hd (by rw[vag,vag]at hl;simpa using hl)
theorem znl{K:vga}{x:Str}{f:Addr}{o:Obj}{fd:FuncData}(h:fnAt K x=some (f,o,fd)):refAt K x=some f/\∃oc od sl,K.lookup f=some ⟨oc,od,.func fd,sl⟩:=by
 unfold fnAt at h
 split at h
 .rename_i f' hn
  split at h
  .rename_i o' ho
   split at h
   .rename_i fd' hd
    cases h
    refine⟨hn,o.cls,o.dict,o.slots,?_⟩
    rw[<-hd];exact ho
   .cases h
  .cases h
 .cases h
theorem zxr{K:vga}{T:List Str}{d n:Nat}{x:Str}{fn:Fn}:∀(f:Addr) (o:Obj) (fd:FuncData) (args:List Arg) (body:List Stmt) (b:S),fnAt K x=some (f,o,fd)->zbq fd.params=some args->zi8 fd.body=some body->(fd.name==nmOf x&&fd.qualname==x&&Nat.beq fd.globals mainGlobals&&fd.closure.isEmpty&& (isNone fd.defaults||noneD K fd.defaults && !args.isEmpty)&&Nat.beq fd.builtins builtinsNs&&PySem.W.codeIn K fd.code x&&PySem.W.keepIn K (.ref f) &&
 zgu (zcw (args.map (·.arg)) fd.scope) (args.map (·.arg)) fd.scope)=true->cSs (cS K T d n ⟨zcw (args.map (·.arg)) fd.scope,fd.scope.names,true⟩) body=some b->fn=⟨(args.map (·.arg)).length,(zcw (args.map (·.arg)) fd.scope).length,b⟩->∃f fd st ps N,refAt K x=some f/\FunD K (nmOf x) x st f fd/\FnScope N ps (zar st)/\fn.n=N.length/\fn.ps=ps.length/\(Binds K fd ps []/\(hasD K x=true->Binds K fd ps [.none])/\(hasD K x=false->∀us:List Value,us.length=ps.length->bindArgs fd ⟨us,[]⟩=pure (ps.zip us)))/\
 cSs (cS K T d n ⟨N,(zar st).names,true⟩) (zen st)=some fn.body/\∃o' fd' args,fnAt K x=some (f,o',fd')/\zbq fd'.params=some args/\ps=args.map (·.arg):=by
 intro f o fd args body b hf ha hb hc h1 e
 rw[vac,vac,vac,vac,vac,vac,vac,vac]at hc
 obtain⟨⟨⟨⟨⟨⟨⟨⟨c1,c2⟩,c3⟩,c4⟩,c5⟩,c6⟩,c7⟩,c8⟩,c9⟩:=hc
 obtain⟨S,nd⟩:=zlj c9
 obtain⟨hn,oc,od,sl,lk⟩:=znl hf
 obtain⟨dx,ef⟩:=ztm c1 c2 c3 c4 c6 ha hb
 have hh:hasD K x=noneD K fd.defaults:=by unfold hasD;rw[hf]
 exact⟨f,fd,.FunctionDef (nmOf x) ⟨[],args,none,[],[],none,dx⟩ body [] none [] fd.scope none (nmOf x) ⟨0,0,0,0⟩,args.map (·.arg),zcw (args.map (·.arg)) fd.scope,hn,⟨⟨oc,od,_,_,_,_,_,fd.code,_,sl,ef,lk,c7⟩,c8⟩,S,by rw[e],by rw[e],zqb ef nd hh c5,by rw[e];exact h1,o,fd,args,hf,ha,rfl⟩
theorem cF_ok{K:vga}{T:List Str}{d n:Nat}{x:Str}{fn:Fn}(h:cF K T d n x=some fn):∃f fd st ps N,refAt K x=some f/\FunD K (nmOf x) x st f fd/\FnScope N ps (zar st)/\fn.n=N.length/\fn.ps=ps.length/\(Binds K fd ps []/\(hasD K x=true->Binds K fd ps [.none])/\(hasD K x=false->∀us:List Value,us.length=ps.length->bindArgs fd ⟨us,[]⟩=pure (ps.zip us)))/\
 cSs (cS K T d n ⟨N,(zar st).names,true⟩) (zen st)=some fn.body/\∃o' fd' args,fnAt K x=some (f,o',fd')/\zbq fd'.params=some args/\ps=args.map (·.arg):=by
 unfold cF at h
 split at h
 .rename_i f o fd hf
  split at h
  .rename_i args body ha hb
   split at h
   .rename_i hc
    obtain⟨b,h1,e⟩:=map_some h
    exact zxr f o fd args body b hf ha hb hc h1 e
   .cases h
  .cases h
 .cases h
theorem zc9{α β:Type}{f:α->Option β}:∀{l:List α} {r:List β},mapO f l=some r->∀(i:Nat) (a:α),l[i]?=some a->∃b,r[i]?=some b/\f a=some b
 |[],_,_,i,a,e=>by simp at e
 |x::l,r,h,i,a,e=>by
  unfold mapO at h
  split at h
  .rename_i b hb
   split at h
   .rename_i bs hbs
    cases h
    cases i with
    |zero=>simp at e;subst e;exact⟨b,rfl,hb⟩
    |succ i=>
     obtain⟨c,h1,h2⟩:=zc9 hbs i a (by simpa using e)
     exact⟨c,by simpa using h1,h2⟩
   .cases h
  .cases h
noncomputable def cC(K:vga)(T:List Str):Option Fn:=match clsAt K,zb9 T "Balls.__init__" 0,fnAt K "Balls.__init__"with
 |some D,some ii,some (f,_,fd)=>if mkB K D f then some (clsFn D ii (fd.params.args.length-1))else none
 |_,_,_=>none
noncomputable def cF0(K:vga)(T:List Str)(d n:Nat)(x:Str):Option Fn:=if x==("" : Str)then some ⟨0,0,.no⟩else if zbm x then cC K T else cF K T d n x
theorem znm{K:vga}{T:List Str}{d n:Nat}{x:Str}{fn:Fn}(h:cF0 K T d n x=some fn)(hx:x≠"")(hc:zbm x=false):cF K T d n x=some fn:=by
 unfold cF0 at h
 rw[if_neg (by simpa using hx),hc]at h
 exact h
theorem cC_ok{K:vga}{T:List Str}{d n:Nat}{x:Str}{fn:Fn}(h:cF0 K T d n x=some fn)(hc:zbm x=true):∃D ii na f,clsAt K=some D/\fn=clsFn D ii na/\T[ii]?=some "Balls.__init__"/\Mk K D f/\refAt K "Balls.__init__" = some f:=by
 unfold cF0 at h
 have hx:x = "Balls":=by unfold zbm at hc;simpa using hc
 rw[if_neg (by rw[hx];decide +kernel),hc]at h
 simp only[va3]at h
 unfold cC at h
 split at h
 .rename_i D ii f o fd h1 h2 h3
  split at h
  .rename_i hm
   cases h
   refine⟨D,ii,_,f,h1,rfl,zft h2,zxi hm,?_⟩
   unfold fnAt at h3
   split at h3
   .rename_i g hg
    split at h3
    .split at h3
     .cases h3;exact hg
     .cases h3
    .cases h3
   .cases h3
  .cases h
 .cases h
noncomputable def cProg(K:vga)(T:List Str)(d n:Nat):Option (List Fn):=mapO (cF0 K T d n) T
theorem znn{P:Program}{w:World}{K:vga}{mg:Str->Option Value}{base:Heap}{T:List Str}{Fs:List Fn}{k:Nat}(hD:DctOk w K)(KX:K.In base)(G:base.Ns mainGlobals mg){x:Str}{st:Stmt}{f:Addr}{N ps:List Str}(S:FnScope N ps (zar st))
 (H0:∀(i:Nat)(x:Str),T[i]?=some x->x≠""->zbm x=false->∃f fd ps fn,refAt K x=some f/\FnOk P w K mg base CX0 k f fd ps (spV K ps.length (run (λi=>Fs[i]?) k i))/\PySem.W.keepIn K (.ref f)=true/\Binds K fd ps []/\Fs[i]?=some fn/\fn.ps=ps.length/\(hasD K x=true->Binds K fd ps [.none]))
 (HC:∀(ci:Nat)(x:Str),T[ci]?=some x->zbm x=true->∀k',k=k'+1->∃D f fd ps ii na,clsAt K=some D/\Fs[ci]?=some (clsFn D ii na)/\Mk K D f/\FnOk P w K mg base CX0 k' f fd ps (spV K ps.length (run (λi=>Fs[i]?) k' ii))/\Binds K fd ps []/\(hasD K "Balls.__init__" = true->Binds K fd ps [.none])/\∀ws h w h',run (λi=>Fs[i]?) k' ii ws h=.ok w h'->ws.length=ps.length)
 (cdv:Value) (A:Around) (outer:List Env) (s:Shared) (H:Hp) (E:XK) (hr:Room k (A.deeper (envOfC x (zar st) s.heap.objs.size f cdv))):XOk (cxOf CX0 P w K mg base N x (zar st) f cdv A outer s H E).nox ⟨N,(zar st).names,true⟩ T (λi=>Fs[i]?) k:=by
 refine⟨rfl,S.nd,λy hy=>?_,λy hy=>?_,λy hy=>hy,λy hy=>hy,rfl,hr,rfl,S.kind,λy v hv=>PySem.W.mg_of KX G hv,λy hv=>PySem.W.mg_none_of KX G hv,H0,HC,hD,KX⟩
 .have hy:visK ((zar st).names.lookup y)=true:=hy
  cases z:(zar st).names.lookup y with
  |none=>rw[z]at hy;cases hy
  |some kd=>cases kd<;>first|exact .inl z|exact .inr (.inl z)|exact .inr (.inr z)|(rw[z]at hy;cases hy)
 .have hy:locK true ((zar st).names.lookup y)=true:=hy
  cases z:(zar st).names.lookup y with
  |none=>rw[z]at hy;cases hy
  |some kd=>cases kd<;>first|exact⟨.inl z,.inl rfl⟩|exact⟨.inr z,.inl rfl⟩|(rw[z]at hy;cases hy)
theorem zno{P:Program}{w:World}{K:vga}{mg:Str->Option Value}{base:Heap}{T:List Str}{d n k:Nat}{Fs:List Fn}(hP:cProg K T d n=some Fs)(ih:∀(j:Nat),j<=k->∀(i:Nat) (x:Str),T[i]?=some x->x≠""->zbm x=false->
 ∃f fd ps fn,refAt K x=some f/\FnOk P w K mg base CX0 j f fd ps (spV K ps.length (run (λi=>Fs[i]?) j i))/\PySem.W.keepIn K (.ref f)=true/\Binds K fd ps []/\Fs[i]?=some fn/\fn.ps=ps.length/\(hasD K x=true->Binds K fd ps [.none]))
 (ci:Nat) (x:Str) (e:T[ci]?=some x) (hc:zbm x=true) (k':Nat) (hk:k=k'+1):∃D f fd ps ii na,clsAt K=some D/\Fs[ci]?=some (clsFn D ii na)/\Mk K D f/\FnOk P w K mg base CX0 k' f fd ps (spV K ps.length (run (λi=>Fs[i]?) k' ii))/\Binds K fd ps []/\(hasD K "Balls.__init__" = true->Binds K fd ps [.none])/\∀ws h w h',run (λi=>Fs[i]?) k' ii ws h=.ok w h'->ws.length=ps.length:=by
 obtain⟨fn,h1,h2⟩:=zc9 hP ci x e
 obtain⟨D,ii,na,f,c1,rfl,c3,c4,c5⟩:=cC_ok h2 hc
 obtain⟨f',fd,ps,fn',q1,q2,q3,q4,q5,q6,q7⟩:=ih k' (by omega) ii "Balls.__init__" c3 (by decide +kernel) (by decide +kernel)
 rw[c5]at q1
 cases q1
 exact⟨D,f,fd,ps,ii,na,c1,h1,c4,q2,q4,q7,λws h w h' e=>by rw[zdp (F:=λi=>Fs[i]?) q5 e,q6]⟩
theorem znp{P:Program}{w:World}{K:vga}{mg:Str->Option Value}{base:Heap}{T:List Str}{d n:Nat}{Fs:List Fn}(hP:cProg K T d n=some Fs)(hD:DctOk w K)(KX:K.In base)(G:base.Ns mainGlobals mg)(k:Nat):∀(j:Nat),j<=k->∀(i:Nat) (x:Str),T[i]?=some x->x≠""->zbm x=false->
 ∃f fd ps fn,refAt K x=some f/\FnOk P w K mg base CX0 j f fd ps (spV K ps.length (run (λi=>Fs[i]?) j i))/\PySem.W.keepIn K (.ref f)=true/\Binds K fd ps []/\Fs[i]?=some fn/\fn.ps=ps.length/\(hasD K x=true->Binds K fd ps [.none]):=by
 induction k with
 |zero=>
  intro j hj i x e hx hc
  have:j=0:=Nat.le_zero.mp hj
  subst this
  obtain⟨fn,h1,h2⟩:=zc9 hP i x e
  obtain⟨f,fd,st,ps,N,a1,a2,a3,a4,a5,a6,a7,_⟩:=cF_ok (znm h2 hx hc)
  exact⟨f,fd,ps,fn,a1,znb,a2.kp,a6.1,h1,a5,a6.2.1⟩
 |succ k ih=>
  intro j hj i x e hx hc
  by_cases hjk:j<=k
  .exact ih j hjk i x e hx hc
  .have:j=k+1:=by omega
   subst this
   obtain⟨fn,h1,h2⟩:=zc9 hP i x e
   obtain⟨f,fd,st,ps,N,a1,a2,a3,a4,a5,a6,a7,_⟩:=cF_ok (znm h2 hx hc)
   exact⟨f,fd,ps,fn,a1,zrd (F:=λi=>Fs[i]?) h1 a2 a3 a4 a5 λcdv A outer s H E hr=>zcv (snd_s (znn hD KX G a3 (λj y hj hy hz=>ih k (vai _) j y hj hy hz) (zno hP ih) cdv A outer s H E hr) n) a7,a2.kp,a6.1,h1,a5,a6.2.1⟩
noncomputable def zcm:Res W->Bool
 |.ok (.bl true) _=>true
 |_=>false
noncomputable def says(K:vga)(T:List Str)(d n k i:Nat)(ns:List Int):Bool:=match cProg K T d n with
 |some Fs=>zcm (run (λi=>Fs[i]?) k i [.fz (ns.map .int)] ⟨0,0,[]⟩)
 |none=>false
theorem zi9{r:Res W}(h:zcm r=true):∃h',r=.ok (.bl true) h':=by
 cases r with
 |no=>cases h
 |ex _ _=>cases h
 |ok w h'=>cases w<;>first|(rename_i b;cases b<;>first|exact⟨h',rfl⟩|cases h)|cases h
theorem zfy{K:vga}{m:Nat->Addr}{n:Nat}{H:Hp}:∀(ns:List Int),VReps K m n H (ns.map V.int) (ns.map W.int)
 |[]=>.nil
 |i::r=>.cons (.int i) (zfy r)
theorem znq{K:vga}{T:List Str}{d n k i:Nat}{ns:List Int}(h:says K T d n k i ns=true):∃Fs h',cProg K T d n=some Fs/\run (λi=>Fs[i]?) k i [.fz (ns.map .int)] ⟨0,0,[]⟩=.ok (.bl true) h':=by
 unfold says at h
 split at h
 .rename_i Fs hF
  obtain⟨h',e⟩:=zi9 h
  exact⟨Fs,h',hF,e⟩
 .cases h
theorem ztn{K:vga}{T:List Str}{d n k i:Nat}{ns:List Int}{Fs:List Fn}(hP:cProg K T d n=some Fs)(h:zcm (run (λi=>Fs[i]?) k i [.fz (ns.map .int)] ⟨0,0,[]⟩)=true):says K T d n k i ns=true:=by
 unfold says
 rw[hP]
 exact h
noncomputable def lawOk(K:vga)(x:Str):Bool:=match fnAt K x with
 |some (_,_,fd)=>(match zbq fd.params with
  |some [a]=>a.arg==("_law_script" : Str) && !(noneD K fd.defaults)
  |_=>false)
 |none=>false
theorem zqc{l:PySem.W.OpenLaw}{q:Program}{loose:List Str}{XP:(Str->Option Value)->Heap->Prop}{YP:World->Heap->Prop}{dr:DefRec}{K:Params->vga}(T:List Str)(d n k i:Nat)(hn:l.most=some 63)(hdf:dr.params.defaults=[])(hr:Room k callerA)
 (hD:∀w:World,DctOk w (K w.params)) (hY:∀(w:World)(h:Heap),YP w h->(K w.params).In h) (hT:T[i]?=some dr.name) (hne:dr.name≠""/\zbm dr.name=false/\metOf dr.name=none) (hS:∀(w:World)(ns:List Int),ns.length<=63->says (K w.params) T d n k i ns=true) (hL:∀w:World,lawOk (K w.params) dr.name=true) :
 PySem.W.WalkO q loose XP YP l.row.toRowW dr [] (λf vs=>PySem.call f vs):=by
 have any:∀w:World,∃Fs,cProg (K w.params) T d n=some Fs:=λw=>let⟨Fs,_,h,_⟩:=znq (hS w [] (vbu _));⟨Fs,h⟩
 refine L2.zsh (n:=63) (k:=k) (x:="_law_script") (CX:=λ_=>CX0) (sp:=λw=>spV (K w.params) 1 (run (λj=>(Classical.choose (any w))[j]?) k i)) hn (by decide) hdf hr hY ?_ ?_ λ_ _ _ _ _ z=>z
 .intro w mg fa h KX G hmg
  have hP:=Classical.choose_spec (any w)
  obtain⟨fn',h1,h2⟩:=zc9 hP i _ hT
  obtain⟨f',fd',st,ps',N,a1,a2,a3,a4,a5,a6,a7,o',fd'',args,a8,a9,a10⟩:=cF_ok (znm h2 hne.1 hne.2.1)
  have hps:ps'=[("_law_script" : Str)]:=by
   have hl:=hL w
   unfold lawOk at hl
   rw[a8]at hl
   simp only[a9]at hl
   cases args with
   |nil=>cases hl
   |cons z zs=>
    cases zs with
    |nil=>
     rw[vac]at hl
     have hl:z.arg = "_law_script":=by simpa using hl.1
     rw[a10,vao,hl];rfl
    |cons _ _=>cases hl
  have hnd:hasD (K w.params) dr.name=false:=by
   have hl:=hL w
   unfold lawOk at hl
   rw[a8]at hl
   unfold hasD
   rw[a8]
   simp only[a9]at hl
   split at hl
   .rw[vac]at hl
    simpa using hl.2
   .cases hl
  have e:=PySem.W.mg_of KX G (zjz a1 hne.2.2)
  rw[hmg]at e
  cases e
  subst hps
  refine⟨fd',λs u=>.of_eq (a6.2.2 hnd [u] rfl),λbase KB GB=>?_⟩
  cases k with
  |zero=>exact znb
  |succ k=>exact zrd (F:=λj=>(Classical.choose (any w))[j]?) h1 a2 a3 a4 a5 λcdv A outer s H E hr=>zcv (snd_s (znn (hD w) KB GB a3 (λj y hj hy hz=>znp hP (hD w) KB GB k k (vai _) j y hj hy hz) (zno hP (znp hP (hD w) KB GB k)) cdv A outer s H E hr) n) a7
 .intro w H a ns hl hO hQ
  obtain⟨Fs,h',e1,e2⟩:=znq (hS w ns hl)
  have hP:=Classical.choose_spec (any w)
  rw[hP]at e1
  cases e1
  refine⟨rfl,⟨0,0,[]⟩,λ_=>0,_,_,h',⟨λi hi=>absurd hi (Nat.not_lt_zero _),λi j hi=>absurd hi (Nat.not_lt_zero _),rfl⟩,.cons (.fz ?_ (zfy ns)) .nil,e2,λv H' m' _ _ q=>by cases q;rfl⟩
  rcases hQ with(q|⟨o,q⟩)|q
  .rcases hO a with z|⟨o,xs,z⟩
   .rw[z]at q;cases q
   .rw[z]at q;cases q
  .exact .inl ⟨o,q⟩
  .exact .inr q
noncomputable def fn0:Fn:=⟨1,1,(.seq (.ret (.and (.isi .int (.var 0)) (.not (.isi .bool (.var 0))))) .skip)⟩
noncomputable def fn1:Fn:=⟨3,3,(.seq (.ret (.and (.call 0 (.cons (.var 0) .nil)) (.chn .le .le (.var 1) (.var 0) (.var 2)))) .skip)⟩
noncomputable def fn2:Fn:=⟨2,2,(.seq (.ite (.cmp .eq (.bi .len (.cons (.var 0) .nil)) (.cst (.int (0)))) (.seq (.ret (.op .add (.op .mul (.cst (.int (7))) (.var 1)) (.cst (.int (3))))) .skip) .skip) (.seq (.ret (.bi .abs (.cons (.idx (.var 0) (.op .mod (.var 1) (.bi .len (.cons (.var 0) .nil)))) .nil))) .skip))⟩
noncomputable def zd2:E:=(.cmp .ge (.bi .abs (.cons (.var 0) .nil)) (.op .pow (.cst (.int (10))) (.cst (.int (18)))))
noncomputable def zd3:E:=(.bi .abs (.cons (.var 0) .nil))
noncomputable def fn3:Fn:=⟨1,1,(.seq (.ret (.lst (.cons (.var 0) (.cons (.lc .seq (.var 0) (.one 0) 1 [] zd2 zd3) (.cons (.cst (.int (0))) (.cons (.cst (.int (0))) .nil)))))) .skip)⟩
noncomputable def fn4:Fn:=⟨3,4,(.seq (.set 3 (.op .mod (.op .pow (.op .add (.op .mul (.op .add (.op .mod (.call 2 (.cons (.var 0) (.cons (.var 1) .nil))) (.cst (.int (1000003)))) (.cst (.int (5)))) (.op .add (.var 1) (.cst (.int (2))))) (.op .mul (.cst (.int (7919))) (.var 1))) (.cst (.int (5)))) (.cst (.int (2147483647))))) (.seq (.ret (.op .mod (.op .fdiv (.var 3) (.cst (.int (13)))) (.var 2))) .skip))⟩
noncomputable def zib:E:=(.cmp .lt (.idx (.var 0) (.cst (.int (2)))) (.bi .len (.cons (.idx (.var 0) (.cst (.int (1)))) .nil)))
noncomputable def zew:S:=(.seq (.set 2 (.idx (.idx (.var 0) (.cst (.int (1)))) (.idx (.var 0) (.cst (.int (2)))))) (.seq (.ite (.cmp .gt (.var 2) (.cst (.int (0)))) (.seq (.put (.idx (.var 0) (.cst (.int (1)))) (.idx (.var 0) (.cst (.int (2)))) (.op .fdiv (.var 2) (.var 1))) (.seq (.ret (.op .mod (.var 2) (.var 1))) .skip)) .skip) (.seq (.put (.var 0) (.cst (.int (2))) (.op .add (.idx (.var 0) (.cst (.int (2)))) (.cst (.int (1))))) .skip)))
noncomputable def fn5:Fn:=⟨2,3,(.seq (.whl zib zew) (.seq (.put (.var 0) (.cst (.int (3))) (.op .add (.idx (.var 0) (.cst (.int (3)))) (.cst (.int (1))))) (.seq (.ret (.call 4 (.cons (.idx (.var 0) (.cst (.int (0)))) (.cons (.idx (.var 0) (.cst (.int (3)))) (.cons (.var 1) .nil))))) .skip)))⟩
noncomputable def fn6:Fn:=⟨3,3,(.seq (.ret (.and (.isi .tuple (.var 0)) (.chn .le .le (.var 1) (.bi .len (.cons (.var 0) .nil)) (.var 2)))) .skip)⟩
noncomputable def zj1:S:=(.seq (.ite (.not (.tru (.call 1 (.cons (.var 5) (.cons (.var 3) (.cons (.var 4) .nil)))))) (.seq (.ret (.cst (.bl false))) .skip) .skip) .skip)
noncomputable def fn7:Fn:=⟨5,6,(.seq (.ite (.not (.tru (.call 6 (.cons (.var 0) (.cons (.var 1) (.cons (.var 2) .nil)))))) (.seq (.ret (.cst (.bl false))) .skip) .skip) (.seq (.«for» .seq (.var 0) (.one 5) zj1) (.seq (.ret (.cst (.bl true))) .skip)))⟩
noncomputable def zj2:S:=(.seq (.ite (.not (.tru (.call 11 (.cons (.var 3) (.cons (.var 2) .nil))))) (.seq (.ret (.cst (.bl false))) .skip) .skip) .skip)
noncomputable def fn8:Fn:=⟨3,4,(.seq (.ite (.not (.tru (.call 6 (.cons (.var 0) (.cons (.var 1) (.cons (.var 1) .nil)))))) (.seq (.ret (.cst (.bl false))) .skip) .skip) (.seq (.«for» .seq (.var 0) (.one 3) zj2) (.seq (.ret (.cst (.bl true))) .skip)))⟩
noncomputable def zj3:S:=(.seq (.ite (.not (.tru (.call 6 (.cons (.var 2) (.cons (.var 1) (.cons (.var 1) .nil)))))) (.seq (.ret (.cst (.bl false))) .skip) .skip) .skip)
noncomputable def fn9:Fn:=⟨2,3,(.seq (.ite (.not (.tru (.call 6 (.cons (.var 0) (.cons (.cst (.int (0))) (.cons (.cst (.int (60))) .nil)))))) (.seq (.ret (.cst (.bl false))) .skip) .skip) (.seq (.«for» .seq (.var 0) (.one 2) zj3) (.seq (.ret (.cst (.bl true))) .skip)))⟩
noncomputable def fn10:Fn:=⟨1,6,(.seq (.ite (.not (.tru (.call 6 (.cons (.var 0) (.cons (.cst (.int (5))) (.cons (.cst (.int (5))) .nil)))))) (.seq (.ret (.cst (.bl false))) .skip) .skip) (.seq (.unp [1,2,3,4,5] (.var 0)) (.seq (.ite (.or (.not (.tru (.call 1 (.cons (.var 1) (.cons (.cst (.int (1))) (.cons (.cst (.int (40))) .nil)))))) (.not (.tru (.call 1 (.cons (.var 2) (.cons (.cst (.int (0))) (.cons (.cst (.int (8))) .nil))))))) (.seq (.ret (.cst (.bl false))) .skip) .skip) (.seq (.ite (.not (.tru (.call 7 (.cons (.var 4) (.cons (.cst (.int (1))) (.cons (.cst (.int (4))) (.cons (.cst (.int (0))) (.cons (.op .sub (.var 1) (.cst (.int (1)))) .nil)))))))) (.seq (.ret (.cst (.bl false))) .skip) .skip) (.seq (.ret (.and (.call 9 (.cons (.var 3) (.cons (.var 1) .nil))) (.call 8 (.cons (.var 5) (.cons (.var 1) (.cons (.bi .len (.cons (.var 4) .nil)) .nil)))))) .skip)))))⟩
noncomputable def fn11:Fn:=⟨2,4,(.seq (.ite (.not (.tru (.call 6 (.cons (.var 0) (.cons (.cst (.int (2))) (.cons (.cst (.int (2))) .nil)))))) (.seq (.ret (.cst (.bl false))) .skip) .skip) (.seq (.unp [2,3] (.var 0)) (.seq (.ret (.and (.call 1 (.cons (.var 2) (.cons (.cst (.int (0))) (.cons (.cst (.int (99))) .nil)))) (.call 12 (.cons (.var 3) (.cons (.var 1) .nil))))) .skip)))⟩
noncomputable def fn12:Fn:=⟨2,2,(.seq (.ret (.or (.cmp .isn (.var 0) (.cst .non)) (.call 1 (.cons (.var 0) (.cons (.cst (.int (0))) (.cons (.op .sub (.var 1) (.cst (.int (1)))) .nil)))))) .skip)⟩
noncomputable def fn13:Fn:=⟨2,4,(.seq (.ite (.not (.tru (.call 6 (.cons (.var 0) (.cons (.cst (.int (2))) (.cons (.cst (.int (2))) .nil)))))) (.seq (.ret (.cst (.bl false))) .skip) .skip) (.seq (.unp [2,3] (.var 0)) (.seq (.ret (.and (.call 1 (.cons (.var 2) (.cons (.cst (.int (0))) (.cons (.op .sub (.var 1) (.cst (.int (1)))) .nil)))) (.call 1 (.cons (.var 3) (.cons (.cst (.int (0))) (.cons (.cst (.int (1))) .nil)))))) .skip)))⟩
noncomputable def zgv:S:=(.seq (.ite (.not (.tru (.call 15 (.cons (.var 7) (.cons (.var 6) (.cons (.var 1) (.cons (.var 2) .nil))))))) (.seq .no .skip) .skip) .skip)
noncomputable def zgw:S:=(.seq (.«for» .enm (.var 5) (.many [6,7]) zgv) .skip)
noncomputable def fn14:Fn:=⟨1,8,(.seq (.ite (.not (.tru (.call 10 (.cons (.var 0) .nil)))) (.seq .no .skip) .skip) (.seq (.unp [1,2,3] (.slc (.var 0) false (.cst .non) true (.cst (.int (3))))) (.seq (.«for» .enm (.var 3) (.many [4,5]) zgw) .skip)))⟩
noncomputable def fn15:Fn:=⟨4,4,(.seq (.ite (.or (.cmp .eq (.var 0) (.cst (.str (vgb "x")))) (.tru (.call 13 (.cons (.var 0) (.cons (.var 3) .nil))))) (.seq (.ret (.chn .lt .lt (.cst (.int (0))) (.var 1) (.op .sub (.var 2) (.cst (.int (1)))))) .skip) .skip) (.seq (.ite (.cmp .eq (.var 0) (.cst (.str (vgb "<")))) (.seq (.ret (.cmp .gt (.var 1) (.cst (.int (0))))) .skip) .skip) (.seq (.ite (.cmp .eq (.var 0) (.cst (.str (vgb ">")))) (.seq (.ret (.cmp .lt (.var 1) (.op .sub (.var 2) (.cst (.int (1)))))) .skip) .skip) (.seq (.ret (.or (.cmp .eq (.var 0) (.cst (.str (vgb ".")))) (.cmp .eq (.var 0) (.cst (.str (vgb "s")))))) .skip))))⟩
noncomputable def fn21:Fn:=⟨4,6,(.seq (.set 4 (.call 5 (.cons (.var 0) (.cons (.cst (.int (10))) .nil)))) (.seq (.set 5 (.idx (.lst (.cons (.cst (.str (vgb "."))) (.cons (.cst (.str (vgb "<"))) (.cons (.cst (.str (vgb ">"))) (.cons (.cst (.str (vgb "x"))) (.cons (.cst (.str (vgb "."))) (.cons (.cst (.str (vgb "."))) .nil))))))) (.bi .min (.cons (.var 4) (.cons (.cst (.int (5))) .nil))))) (.seq (.ite (.and (.cmp .gt (.var 4) (.cst (.int (4)))) (.cmp .gt (.var 3) (.cst (.int (0))))) (.seq (.set 5 (.tup (.cons (.call 5 (.cons (.var 0) (.cons (.var 3) .nil))) (.cons (.call 5 (.cons (.var 0) (.cons (.cst (.int (2))) .nil))) .nil)))) .skip) .skip) (.seq (.ite (.and (.cmp .eq (.var 4) (.cst (.int (4)))) (.cmp .eq (.call 5 (.cons (.var 0) (.cons (.cst (.int (4))) .nil))) (.cst (.int (0))))) (.seq (.ret (.cst (.str (vgb "s")))) .skip) .skip) (.seq (.ite (.or (.and (.cmp .eq (.var 1) (.cst (.int (0)))) (.cmp .nin (.var 5) (.tup (.cons (.cst (.str (vgb "."))) (.cons (.cst (.str (vgb ">"))) .nil))))) (.and (.cmp .eq (.var 1) (.op .sub (.var 2) (.cst (.int (1))))) (.cmp .nin (.var 5) (.tup (.cons (.cst (.str (vgb "."))) (.cons (.cst (.str (vgb "<"))) .nil)))))) (.seq (.ret (.idx (.lst (.cons (.cst (.str (vgb ">"))) (.cons (.cst (.str (vgb "<"))) (.cons (.cst (.str (vgb "."))) .nil)))) (.bi .min (.cons (.op .add (.bi .int (.cons (.cmp .gt (.var 1) (.cst (.int (0)))) .nil)) (.op .mul (.cst (.int (2))) (.bi .int (.cons (.cmp .eq (.var 2) (.cst (.int (1)))) .nil)))) (.cons (.cst (.int (2))) .nil))))) .skip) .skip) (.seq (.ret (.var 5)) .skip))))))⟩
noncomputable def fn23:Fn:=⟨2,4,(.seq (.set 2 (.idx (.lst (.cons (.call 5 (.cons (.var 0) (.cons (.cst (.int (3))) .nil))) (.cons (.call 5 (.cons (.var 0) (.cons (.cst (.int (100))) .nil))) .nil))) (.bi .int (.cons (.cmp .eq (.call 5 (.cons (.var 0) (.cons (.cst (.int (4))) .nil))) (.cst (.int (0)))) .nil)))) (.seq (.set 3 (.call 5 (.cons (.var 0) (.cons (.var 1) .nil)))) (.seq (.ite (.cmp .eq (.call 5 (.cons (.var 0) (.cons (.cst (.int (8))) .nil))) (.cst (.int (0)))) (.seq (.ret (.tup (.cons (.var 2) (.cons (.cst .non) .nil)))) .skip) .skip) (.seq (.ret (.tup (.cons (.var 2) (.cons (.var 3) .nil)))) .skip))))⟩
noncomputable def zgx:E:=(.call 21 (.cons (.var 1) (.cons (.var 0) (.cons (.var 3) (.cons (.var 2) .nil)))))
noncomputable def fn25:Fn:=⟨3,3,(.seq (.ret (.bi .tuple (.cons (.lc .rng1 (.cons (.var 1) .nil) (.one 0) 1 [0,2,1] (.cst (.bl true)) zgx) .nil))) .skip)⟩
noncomputable def fn75:Fn:=⟨2,4,(.seq (.ite (.not (.tru (.isi .tuple (.var 0)))) (.seq (.ret (.var 0)) .skip) .skip) (.seq (.unp [2,3] (.var 0)) (.seq (.ret (.tup (.cons (.op .add (.var 2) (.var 1)) (.cons (.var 3) .nil)))) .skip)))⟩
noncomputable def zcx:E:=(.call 75 (.cons (.var 0) (.cons (.var 1) .nil)))
noncomputable def zex:E:=(.bi .tuple (.cons (.lc .seq (.var 0) (.one 0) 1 [1] (.cst (.bl true)) zcx) .nil))
noncomputable def fn76:Fn:=⟨2,2,(.seq (.ret (.bi .tuple (.cons (.lc .seq (.var 0) (.one 0) 1 [1] (.cst (.bl true)) zex) .nil))) .skip)⟩
noncomputable def fn96:Fn:=⟨2,13,(.seq (.expr (.call 14 (.cons (.var 0) .nil))) (.seq (.expr (.call 14 (.cons (.var 1) .nil))) (.seq (.unp [2,3,4,5] (.slc (.var 0) false (.cst .non) true (.cst (.int (4))))) (.seq (.unp [6,7,8,9,10] (.var 1)) (.seq (.ite (.cmp .ne (.var 2) (.var 6)) (.seq .no .skip) .skip) (.seq (.set 11 (.op .add (.op .add (.var 4) (.tup (.cons (.op .mul (.tup (.cons (.cst (.str (vgb "."))) .nil)) (.var 2)) .nil))) (.call 76 (.cons (.var 8) (.cons (.var 3) .nil))))) (.seq (.set 12 (.op .add (.var 3) (.var 7))) (.seq (.ite (.or (.cmp .gt (.var 12) (.cst (.int (8)))) (.cmp .gt (.bi .len (.cons (.var 11) .nil)) (.cst (.int (60))))) (.seq .no .skip) .skip) (.seq (.ret (.tup (.cons (.var 2) (.cons (.var 12) (.cons (.var 11) (.cons (.var 5) (.cons (.call 98 (.cons (.var 10) (.cons (.bi .len (.cons (.var 5) .nil)) .nil))) .nil))))))) .skip)))))))))⟩
noncomputable def fn97:Fn:=⟨2,2,(.seq (.ret (.ite (.and (.cmp .notn (.var 0) (.cst .non)) (.cmp .lt (.var 0) (.var 1))) (.var 0) (.cst .non))) .skip)⟩
noncomputable def zgy:E:=(.tup (.cons (.var 0) (.cons (.call 97 (.cons (.var 1) (.cons (.var 2) .nil))) .nil)))
noncomputable def fn98:Fn:=⟨2,2,(.seq (.ret (.bi .tuple (.cons (.lc .seq (.var 0) (.many [0,1]) 2 [1] (.cst (.bl true)) zgy) .nil))) .skip)⟩
noncomputable def fin(h:VH)(r:Res Fl):Res W:=r.bind λfl h'=>match fl with
 |.nx _=>leave h .non h'
 |.rt w=>leave h w h'
 |_=>.no
theorem zaj{F:Nat->Option Fn}{k f:Nat}{fn:Fn}{ws:List W}{h:VH}(hF:F f=some fn)(hl:ws.length=fn.ps) :
 run F (k+1) f ws h=fin h (exs (run F k) fn.body (ws.map some++vgc (fn.n-fn.ps) none) ⟨h.n,h.n,h.os⟩):=by
 simp only[run,hF]
 rw[if_pos (by rw[hl];exact Nat.beq_refl _)]
 rfl
theorem zfz{h:VH}{w:W}{h':VH}(h1:h.n<=h'.lo)(h2:W.lt h.n w=true):leave h w h'=.ok w h:=by
 unfold leave
 rw[if_pos (by rw[vac];exact⟨vd8.mpr h1,h2⟩)]
theorem zam{h h':VH}{w:W}(h1:h.n<=h'.lo)(h2:W.lt h.n w=true):fin h (.ok (.rt w) h')=.ok w h:=zfz h1 h2
theorem znr{h h':VH}{ρ:En}(h1:h.n<=h'.lo):fin h (.ok (.nx ρ) h')=.ok .non h:=zfz h1 (by simp only[W.lt])
@[simp] theorem bindok {α β:Type} {a:α} {h:VH} {f:α->VH->Res β}:(Res.ok a h).bind f=f a h:=rfl
@[simp] theorem bindno {α β:Type} {f:α->VH->Res β}:(Res.no:Res α).bind f=.no:=rfl
@[simp] theorem ofsome {α:Type} {a:α} {h:VH}:Res.of (some a) h=.ok a h:=rfl
@[simp] theorem ofnone {α:Type} {h:VH}:Res.of (none:Option α) h=.no:=rfl
@[simp] theorem lt_non {n:Nat}:W.lt n .non=true:=by simp only[W.lt]
@[simp] theorem lt_bl {n:Nat} {b:Bool}:W.lt n (.bl b)=true:=by simp only[W.lt]
@[simp] theorem lt_int {n:Nat} {b:Int}:W.lt n (.int b)=true:=by simp only[W.lt]
@[simp] theorem lt_str {n:Nat} {b:Str}:W.lt n (.str b)=true:=by simp only[W.lt]
@[simp] theorem lt_tup {n:Nat} {b:List W}:W.lt n (.tup b)=W.lts n b:=by simp only[W.lt]
@[simp] theorem lts_nil {n:Nat}:W.lts n []=true:=by simp only[W.lts]
@[simp] theorem lts_cons {n:Nat} {b:W} {r:List W}:W.lts n (b::r)=(W.lt n b&&W.lts n r):=by simp only[W.lts]
@[simp] theorem ty_int_int:((Ty.int==Ty.int):Bool)=true:=rfl
@[simp] theorem ty_int_bool:((Ty.int==Ty.bool):Bool)=false:=rfl
@[simp] theorem ty_int_tuple:((Ty.int==Ty.tuple):Bool)=false:=rfl
@[simp] theorem ty_int_list:((Ty.int==Ty.list):Bool)=false:=rfl
@[simp] theorem ty_int_str:((Ty.int==Ty.str):Bool)=false:=rfl
@[simp] theorem ty_int_dict:((Ty.int==Ty.dict):Bool)=false:=rfl
@[simp] theorem ty_bool_int:((Ty.bool==Ty.int):Bool)=false:=rfl
@[simp] theorem ty_bool_bool:((Ty.bool==Ty.bool):Bool)=true:=rfl
@[simp] theorem ty_bool_tuple:((Ty.bool==Ty.tuple):Bool)=false:=rfl
@[simp] theorem ty_bool_list:((Ty.bool==Ty.list):Bool)=false:=rfl
@[simp] theorem ty_bool_str:((Ty.bool==Ty.str):Bool)=false:=rfl
@[simp] theorem ty_bool_dict:((Ty.bool==Ty.dict):Bool)=false:=rfl
@[simp] theorem ty_tuple_int:((Ty.tuple==Ty.int):Bool)=false:=rfl
@[simp] theorem ty_tuple_bool:((Ty.tuple==Ty.bool):Bool)=false:=rfl
@[simp] theorem ty_tuple_tuple:((Ty.tuple==Ty.tuple):Bool)=true:=rfl
@[simp] theorem ty_tuple_list:((Ty.tuple==Ty.list):Bool)=false:=rfl
@[simp] theorem ty_tuple_str:((Ty.tuple==Ty.str):Bool)=false:=rfl
@[simp] theorem ty_tuple_dict:((Ty.tuple==Ty.dict):Bool)=false:=rfl
@[simp] theorem ty_list_int:((Ty.list==Ty.int):Bool)=false:=rfl
@[simp] theorem ty_list_bool:((Ty.list==Ty.bool):Bool)=false:=rfl
@[simp] theorem ty_list_tuple:((Ty.list==Ty.tuple):Bool)=false:=rfl
@[simp] theorem ty_list_list:((Ty.list==Ty.list):Bool)=true:=rfl
@[simp] theorem ty_list_str:((Ty.list==Ty.str):Bool)=false:=rfl
@[simp] theorem ty_list_dict:((Ty.list==Ty.dict):Bool)=false:=rfl
@[simp] theorem ty_str_int:((Ty.str==Ty.int):Bool)=false:=rfl
@[simp] theorem ty_str_bool:((Ty.str==Ty.bool):Bool)=false:=rfl
@[simp] theorem ty_str_tuple:((Ty.str==Ty.tuple):Bool)=false:=rfl
@[simp] theorem ty_str_list:((Ty.str==Ty.list):Bool)=false:=rfl
@[simp] theorem ty_str_str:((Ty.str==Ty.str):Bool)=true:=rfl
@[simp] theorem ty_str_dict:((Ty.str==Ty.dict):Bool)=false:=rfl
@[simp] theorem ty_dict_int:((Ty.dict==Ty.int):Bool)=false:=rfl
@[simp] theorem ty_dict_bool:((Ty.dict==Ty.bool):Bool)=false:=rfl
@[simp] theorem ty_dict_tuple:((Ty.dict==Ty.tuple):Bool)=false:=rfl
@[simp] theorem ty_dict_list:((Ty.dict==Ty.list):Bool)=false:=rfl
@[simp] theorem ty_dict_str:((Ty.dict==Ty.str):Bool)=false:=rfl
@[simp] theorem ty_dict_dict:((Ty.dict==Ty.dict):Bool)=true:=rfl
@[simp] theorem isi_non {t:Ty} {h:VH}:tyIs t h .non=some false:=rfl
@[simp] theorem isi_bl {t:Ty} {h:VH} {b:Bool}:tyIs t h (.bl b)=some (t == .int||t == .bool):=rfl
@[simp] theorem isi_int {t:Ty} {h:VH} {i:Int}:tyIs t h (.int i)=some (t == .int):=rfl
@[simp] theorem isi_str {t:Ty} {h:VH} {x:Str}:tyIs t h (.str x)=some (t == .str):=rfl
@[simp] theorem isi_tup {t:Ty} {h:VH} {x:List W}:tyIs t h (.tup x)=some (t == .tuple):=rfl
@[simp] theorem get_lo {h:VH} {l i:Nat}:VH.get ⟨h.n,l,h.os⟩ i=h.get i:=by unfold VH.get;rfl
@[simp] theorem tru_bl {h:VH} {b:Bool}:truW h (.bl b)=some b:=rfl
noncomputable def forL(tg:W->VH->En->Option En)(b:FS):List W->En->VH->Res Fl
 |[],ρ,h=>.ok (.nx ρ) h
 |w::r,ρ,h=>match tg w h ρ with
  |none=>.no
  |some ρ=>(b ρ h).bind λfl h=>match fl with
   |.nx ρ=>forL tg b r ρ h
   |.ct ρ=>forL tg b r ρ h
   |.bk ρ=>.ok (.nx ρ) h
   |.rt w=>.ok (.rt w) h
noncomputable def lcL(tg:W->VH->En->Option En)(c e:FE):List W->En->VH->Res (List W)
 |[],_,h=>.ok [] h
 |w::r,ρ,h=>match tg w h ρ with
  |none=>.no
  |some ρ=>(c ρ h).bind λb h=>match b with
   |.bl true=>(e ρ h).bind λy h=>(lcL tg c e r ρ h).bind λys h=>.ok (y::ys) h
   |.bl false=>lcL tg c e r ρ h
   |_=>.no
theorem zf0{α β γ:Type}{r:Res α}{f:α->VH->Res β}{g:β->VH->Res γ}:(r.bind f).bind g=r.bind λa h=>(f a h).bind g:=by cases r<;>rfl
theorem zda{nx:Nat->VH->Option (Option W)}{tg:W->VH->En->Option En}{b:FS}{ws:List W}(hx:∀i h,nx i h=some ws[i]?):∀(fu i:Nat) (ρ:En) (h:VH),i<=ws.length->ws.length<fu+i->forG nx tg b fu i ρ h=forL tg b (ws.drop i) ρ h
 |0,i,ρ,h,hi,hl=>by lia
 |fu+1,i,ρ,h,hi,hl=>by
  simp only[forG,hx]
  cases q:ws[i]? with
  |none=>
   rw[List.drop_eq_nil_of_le (vbm.mp q)]
   rfl
  |some w=>
   obtain⟨hi,e⟩:=va8.mp q
   rw[List.drop_eq_getElem_cons hi,e]
   simp only[forL]
   cases tg w h ρ with
   |none=>rfl
   |some ρ'=>
    simp only
    congr 1
    funext fl h1
    cases fl<;>simp only[zda hx fu (i+1) _ _ hi (by lia)]
theorem zcn{nx:Nat->VH->Option (Option W)}{tg:W->VH->En->Option En}{c e:FE}{ws:List W}(hx:∀i h,nx i h=some ws[i]?):∀(fu i:Nat) (ρ:En) (h:VH) (acc:List W),i<=ws.length->ws.length<fu+i->
 lcG nx tg c e fu i ρ h acc=(lcL tg c e (ws.drop i) ρ h).bind λys h=>.ok (acc.reverse++ys) h
 |0,i,ρ,h,acc,hi,hl=>by lia
 |fu+1,i,ρ,h,acc,hi,hl=>by
  simp only[lcG,hx]
  cases q:ws[i]? with
  |none=>
   rw[List.drop_eq_nil_of_le (vbm.mp q)]
   simp[lcL]
  |some w=>
   obtain⟨hi,ee⟩:=va8.mp q
   rw[List.drop_eq_getElem_cons hi,ee]
   simp only[lcL]
   cases tg w h ρ with
   |none=>rfl
   |some ρ'=>
    simp only[zf0]
    congr 1
    funext bv h1
    cases bv<;>try rfl
    rename_i bb
    cases bb with
    |true=>
     simp only[zf0]
     congr 1
     funext y h2
     rw[zcn hx fu (i+1) _ _ _ hi (by lia)]
     congr 1
     funext ys h3
     simp
    |false=>simp only[zcn hx fu (i+1) _ _ _ hi (by lia)]
theorem zdq{ws:List W}{tg:W->VH->En->Option En}{b:FS}{ρ:En}{h:VH}(hl:ws.length<1000000):forG (nxt .seq (.tup ws)) tg b fuel 0 ρ h=forL tg b ws ρ h:=by
 have:=zda (nx:=nxt .seq (.tup ws)) (tg:=tg) (b:=b) (ws:=ws) (λi h=>rfl) fuel 0 ρ h (vbu _) (by simpa[fuel]using hl)
 simpa using this
theorem zxs{ws:List W}{tg:W->VH->En->Option En}{c e:FE}{ρ:En}{h:VH}(hl:ws.length<1000000):lcG (nxt .seq (.tup ws)) tg c e fuel 0 ρ h []=lcL tg c e ws ρ h:=by
 have:=zcn (nx:=nxt .seq (.tup ws)) (tg:=tg) (c:=c) (e:=e) (ws:=ws) (λi h=>rfl) fuel 0 ρ h [] (vbu _) (by simpa[fuel]using hl)
 rw[this]
 simp only[vdq,List.reverse_nil,vcc]
 cases lcL tg c e ws ρ h<;>rfl
noncomputable def enumW:Nat->List W->List W
 |_,[]=>[]
 |i,w::r=>.tup [.int i,w]::enumW (i+1) r
theorem zic:∀(ws:List W) (i j:Nat),(enumW j ws)[i]?=(ws[i]?).map λw=>.tup [.int ((j+i:Nat):Int),w]
 |[],i,j=>by simp[enumW]
 |w::r,0,j=>by simp[enumW]
 |w::r,i+1,j=>by
  simp only[enumW,vay]
  rw[zic r i (j+1)]
  congr 1
  funext w
  rw[show j+1+i=j+ (i+1) by lia]
theorem zid:∀(ws:List W) (j:Nat),(enumW j ws).length=ws.length
 |[],_=>rfl
 |_::r,j=>by simp[enumW,zid r]
theorem zj4{ws:List W}{tg:W->VH->En->Option En}{b:FS}{ρ:En}{h:VH}(hl:ws.length<1000000):forG (nxt .enm (.tup ws)) tg b fuel 0 ρ h=forL tg b (enumW 0 ws) ρ h:=by
 have:=zda (nx:=nxt .enm (.tup ws)) (tg:=tg) (b:=b) (ws:=enumW 0 ws) (λi h=>by rw[zic];simp[nxt,seqW]) fuel 0 ρ h (vbu _) (by simpa[fuel,zid]using hl)
 simpa using this
noncomputable def zbd(a:Int):Nat->List W
 |0=>[]
 |n+1=>.int a::zbd (a+1) n
theorem zdr:∀(n i:Nat) (a:Int),(zbd a n)[i]?=if i<n then some (.int (a+i))else none
 |0,i,a=>by simp[zbd]
 |n+1,0,a=>by simp[zbd]
 |n+1,i+1,a=>by
  simp only[zbd,vay]
  rw[zdr n i (a+1)]
  by_cases q:i<n
  .rw[if_pos q,if_pos (by lia)]
   congr 2
   push_cast
   lia
  .rw[if_neg q,if_neg (by lia)]
theorem zds:∀(n:Nat) (a:Int),(zbd a n).length=n
 |0,_=>rfl
 |n+1,a=>by simp[zbd,zds n]
theorem zto{n:Nat}{tg:W->VH->En->Option En}{b:FS}{ρ:En}{h:VH}(hl:n<1000000):forG (nxt .rng1 (.tup [.int n])) tg b fuel 0 ρ h=forL tg b (zbd 0 n) ρ h:=by
 have hf:fits (n:Int)=true:=by simp[fits];lia
 have:=zda (nx:=nxt .rng1 (.tup [.int n])) (tg:=tg) (b:=b) (ws:=zbd 0 n) (λi h=>by rw[zdr];simp[nxt,hf]) fuel 0 ρ h (vbu _) (by simpa[fuel,zds]using hl)
 simpa using this
theorem zxt{n:Nat}{tg:W->VH->En->Option En}{c e:FE}{ρ:En}{h:VH}(hl:n<1000000):lcG (nxt .rng1 (.tup [.int n])) tg c e fuel 0 ρ h []=lcL tg c e (zbd 0 n) ρ h:=by
 have hf:fits (n:Int)=true:=by simp[fits];lia
 have:=zcn (nx:=nxt .rng1 (.tup [.int n])) (tg:=tg) (c:=c) (e:=e) (ws:=zbd 0 n) (λi h=>by rw[zdr];simp[nxt,hf]) fuel 0 ρ h [] (vbu _) (by simpa[fuel,zds]using hl)
 rw[this]
 simp only[vdq,List.reverse_nil,vcc]
 cases lcL tg c e (zbd 0 n) ρ h<;>rfl
noncomputable def isInt:W->Bool
 |.int _=>true
 |_=>false
noncomputable def Kn(h:VH)(w:W):Prop:=tyIs .int h w≠none
theorem kn_lo{h:VH}{l:Nat}{w:W}:Kn ⟨h.n,l,h.os⟩ w↔Kn h w:=by
 unfold Kn
 cases w<;>simp[tyIs]
structure CoreA(F:Nat->Option Fn):Prop where
 f0:F 0=some fn0
 f1:F 1=some fn1
 f6:F 6=some fn6
 f7:F 7=some fn7
section
variable{F:Nat->Option Fn}(C:CoreA F)
include C
theorem zqd{k:Nat}{h:VH}{w:W}(hw:Kn h w):run F (k+1) 0 [w] h=.ok (.bl (isInt w)) h:=by
 rw[zaj C.f0 rfl]
 cases w<;>try(simp[fn0,exs,ev,isInt,zam];done)
 .exact absurd rfl hw
 .rename_i i
  unfold Kn at hw
  simp only[tyIs]at hw
  cases g:h.get i with
  |none=>rw[g]at hw;exact absurd rfl hw
  |some o=>cases o<;>first|(simp[fn0,exs,ev,isInt,zam,tyIs,g];done)|(simp[g]at hw)
noncomputable def within(w:W)(lo hi:Int):Bool:=match w with
 |.int i=>decide (lo<=i)&&decide (i<=hi)
 |_=>false
theorem zau{k:Nat}{h:VH}{w:W}{lo hi:Int}(hw:Kn h w):run F (k+2) 1 [w,.int lo,.int hi] h=.ok (.bl (within w lo hi)) h:=by
 rw[zaj C.f1 rfl]
 have e:=zqd C (k:=k) (h:=⟨h.n,h.n,h.os⟩) (w:=w) (kn_lo.mpr hw)
 cases w<;>simp[fn1,exs,ev,e,isInt,within,zam,cmpW,cmpI]
 rename_i i
 by_cases h1:lo<=i<;>simp[h1,zam]
noncomputable def zaz(w:W)(lo hi:Int):Bool:=match w with
 |.tup ws=>decide (lo<=ws.length)&&decide ((ws.length:Int)<=hi)
 |_=>false
theorem zav{k:Nat}{h:VH}{w:W}{lo hi:Int}(hw:Kn h w):run F (k+1) 6 [w,.int lo,.int hi] h=.ok (.bl (zaz w lo hi)) h:=by
 rw[zaj C.f6 rfl]
 cases w<;>try(simp[fn6,exs,ev,zaz,zam];done)
 .rename_i ws
  simp[fn6,exs,ev,zaz,zam,cmpW,cmpI,biW,lenW,seqW]
  by_cases h1:lo<=ws.length<;>simp[h1,zam]
 .exact absurd rfl hw
 .rename_i i
  unfold Kn at hw
  simp only[tyIs]at hw
  cases g:h.get i with
  |none=>rw[g]at hw;exact absurd rfl hw
  |some o=>cases o<;>first|(simp[fn6,exs,ev,zaz,zam,tyIs,g];done)|(simp[g]at hw)
theorem loop7{k:Nat}{h:VH}{t a b:W}{lo hi:Int}:∀(ws:List W) (x:Option W),(∀w∈ws,Kn h w)->∃y,forL (tgW (.one 5)) (exs (run F (k+2)) zj1) ws [some t,some a,some b,some (.int lo),some (.int hi),x] h =
 if ws.all (within · lo hi)then .ok (.nx [some t,some a,some b,some (.int lo),some (.int hi),y]) h else .ok (.rt (.bl false)) h
 |[],x,_=>⟨x,by simp[forL]⟩
 |w::r,x,hk=>by
  obtain⟨y,e⟩:=loop7 (t:=t) (a:=a) (b:=b) (k:=k) (lo:=lo) (hi:=hi) r (some w) λz hz=>hk z (vad _ hz)
  refine⟨y,?_⟩
  have e1:=zau C (k:=k) (lo:=lo) (hi:=hi) (hk w vaf)
  have eb:exs (run F (k+2)) zj1 [some t,some a,some b,some (.int lo),some (.int hi),some w] h=if within w lo hi then .ok (.nx [some t,some a,some b,some (.int lo),some (.int hi),some w]) h else .ok (.rt (.bl false)) h:=by
   cases q:within w lo hi<;>simp[zj1,exs,ev,e1,q]
  simp only[forL,tgW,List.set,eb]
  cases q:within w lo hi<;>simp[q,e]
noncomputable def zch(w:W)(a b lo hi:Int):Bool:=match w with
 |.tup ws=>zaz w a b&&ws.all (within · lo hi)
 |_=>false
theorem zbj{k:Nat}{h:VH}{w:W}{a b lo hi:Int}(hw:Kn h w)(hp:∀ws,w=.tup ws->ws.length<1000000/\∀x∈ws,Kn h x):run F (k+3) 7 [w,.int a,.int b,.int lo,.int hi] h=.ok (.bl (zch w a b lo hi)) h:=by
 rw[zaj C.f7 rfl]
 have e1:=zav C (k:=k+1) (h:=⟨h.n,h.n,h.os⟩) (w:=w) (lo:=a) (hi:=b) (kn_lo.mpr hw)
 cases q:zaz w a b with
 |false=>
  have:zch w a b lo hi=false:=by cases w<;>simp[zch,q]
  simp[fn7,exs,ev,e1,q,this,zam]
 |true=>
  cases w<;>try(simp[zaz]at q;done)
  rename_i ws
  obtain⟨hl,hk⟩:=hp ws rfl
  obtain⟨y,e2⟩:=loop7 C (k:=k) (h:=⟨h.n,h.n,h.os⟩) (t:=.tup ws) (a:=.int a) (b:=.int b) (lo:=lo) (hi:=hi) ws none λx hx=>kn_lo.mpr (hk x hx)
  have e3:zch (.tup ws) a b lo hi=ws.all (within · lo hi):=by simp[zch,q]
  rw[e3]
  cases q2:ws.all (within · lo hi)with
  |true=>simp[fn7,exs,ev,e1,q,zdq hl,e2,q2,zam]
  |false=>simp[fn7,exs,ev,e1,q,zdq hl,e2,q2,zam]
end
noncomputable def zaw:Nat->W->Bool
 |0,_=>false
 |n+1,w=>match w with
  |.non=>true
  |.bl _=>true
  |.int _=>true
  |.str x=>PyData.strOk x
  |.tup ws=>ws.all (zaw n)
  |_=>false
theorem zj5{f:W->Option PyData}{p:W->Bool}{n:Nat}(h:∀w,p w=true->∃d,f w=some d/\d.canLay0=true/\d.depth<=n):∀ws:List W,ws.all p=true->∃ds,mapO f ws=some ds/\PyData.canLayAll0 ds=true/\PyData.depthAll ds<=n
 |[],_=>⟨[],rfl,rfl,vbu _⟩
 |w::r,e=>by
  rw[vb5,vac]at e
  obtain⟨d,h1,h2,h3⟩:=h w e.1
  obtain⟨ds,h4,h5,h6⟩:=zj5 h r e.2
  refine⟨d::ds,by simp[mapO,h1,h4],?_,?_⟩
  .show(d.canLay0&&PyData.canLayAll0 ds)=true
   rw[h2,h5];rfl
  .show max d.depth (PyData.depthAll ds)<=n
   lia
theorem zey(h:VH):∀(n:Nat) (w:W),zaw n w=true->∃d,toD h n w=some d/\d.canLay0=true/\d.depth<=n
 |0,_,e=>by cases e
 |n+1,w,e=>by
  cases w<;>simp only[zaw]at e<;>try(cases e;done)
  .exact⟨.none,rfl,rfl,vbu _⟩
  .exact⟨.bool _,rfl,rfl,vbu _⟩
  .exact⟨.int _,rfl,rfl,vbu _⟩
  .exact⟨.str _,rfl,e,vbu _⟩
  .obtain⟨ds,h1,h2,h3⟩:=zj5 (zey h n) _ e
   exact⟨.tuple ds,by simp[toD,h1],h2,by show PyData.depthAll ds+1<=n+1;lia⟩
mutual
theorem zj6:∀d:PyData,d.canLay0=true->PyData.eqv d d=true
 |.none,_=>rfl
 |.bool b,_=>by simp[PyData.eqv]
 |.int i,_=>by simp[PyData.eqv]
 |.str x,_=>by simp[PyData.eqv]
 |.list xs,h=>by
  simp only[PyData.eqv]
  exact zcy xs h
 |.tuple xs,h=>by
  simp only[PyData.eqv]
  exact zcy xs h
 |.dict _,h=>by cases h
theorem zcy:∀ds:List PyData,PyData.canLayAll0 ds=true->PyData.eqvAll ds ds=true
 |[],_=>rfl
 |d::ds,h=>by
  have h:(d.canLay0&&PyData.canLayAll0 ds)=true:=h
  rw[vac]at h
  simp only[PyData.eqvAll,zj6 d h.1,zcy ds h.2,Bool.and_self]
end
theorem zqe{h:VH}{w:W}(p:zaw 24 w=true):eqW h w w=some true:=by
 obtain⟨d,h1,h2,h3⟩:=zey h 24 w p
 have hs:SeqAt.shaped d=true:=by
  unfold SeqAt.shaped
  rw[h2,vdw,vaj];lia
 unfold eqW
 rw[h1]
 simp[hs,zj6 d h2]
noncomputable def isS(w:W)(x:Str):Bool:=match w with
 |.str y=>y==x
 |_=>false
theorem zdt{h:VH}{w:W}{x:Str}(p:zaw 24 w=true)(hx:PyData.strOk x=true):eqW h w (.str x)=some (isS w x):=by
 obtain⟨d,h1,h2,h3⟩:=zey h 24 w p
 have hs:SeqAt.shaped d=true:=by
  unfold SeqAt.shaped
  rw[h2,vdw,vaj];lia
 have hs2:SeqAt.shaped (.str x)=true:=by
  unfold SeqAt.shaped
  show(PyData.strOk x&&_)=true
  rw[hx];rfl
 unfold eqW
 rw[h1]
 have h4:toD h 24 (.str x)=some (.str x):=rfl
 rw[h4]
 simp only[hs,hs2,Bool.and_self,va3]
 cases w<;>simp only[toD]at h1<;>try(cases h1;done)
 .cases h1;simp[isS,PyData.eqv]
 .cases h1;simp[isS,PyData.eqv]
 .cases h1;simp[isS,PyData.eqv]
 .cases h1;simp[isS,PyData.eqv]
 .obtain⟨ds,h5,h6⟩:=Option.map_eq_some_iff.mp h1
  subst h6
  simp[isS,PyData.eqv]
 .simp[zaw]at p
 .simp[zaw]at p
theorem zb2{n:Nat}{ws:List W}:zaw (n+1) (.tup ws)=ws.all (zaw n):=rfl
theorem zgz{h:VH}{n:Nat}{w:W}(p:zaw n w=true):Kn h w:=by
 unfold Kn
 cases n with
 |zero=>cases p
 |succ n=>cases w<;>simp[zaw,tyIs]at p ⊢
structure CoreB(F:Nat->Option Fn):Prop extends CoreA F where
 f8:F 8=some fn8
 f9:F 9=some fn9
 f10:F 10=some fn10
 f11:F 11=some fn11
 f12:F 12=some fn12
 f13:F 13=some fn13
 f14:F 14=some fn14
 f15:F 15=some fn15
theorem zns:isNon .non=true:=rfl
noncomputable def fon(w:W)(n:Int):Bool:=isNon w||within w 0 (n-1)
noncomputable def door(w:W)(n:Int):Bool:=match w with
 |.tup [a,b]=>within a 0 99&&fon b n
 |_=>false
noncomputable def zbr(w:W)(g:Int):Bool:=match w with
 |.tup [a,b]=>within a 0 (g-1)&&within b 0 1
 |_=>false
noncomputable def zac(w:W)(c wd g:Int):Bool:=
 if isS w "x" || zbr w g then decide (0<c)&&decide (c<wd-1)else if isS w "<"then decide (0<c)else if isS w ">"then decide (c<wd-1)else isS w "." || isS w "s"
section
variable{F:Nat->Option Fn}(C:CoreB F)
include C
theorem zdu{k:Nat}{h:VH}{w:W}{n:Int}(hw:Kn h w):run F (k+3) 12 [w,.int n] h=.ok (.bl (fon w n)) h:=by
 rw[zaj C.f12 rfl]
 have e:=zau C.toCoreA (k:=k) (h:=⟨h.n,h.n,h.os⟩) (w:=w) (lo:=0) (hi:=n-1) (kn_lo.mpr hw)
 cases q:isNon w<;>simp[fn12,exs,ev,e,cmpW,zns,q,fon,zam,opW,opI]
theorem ztp{k:Nat}{h:VH}{w:W}{n:Int}(hw:Kn h w)(hp:∀a b,w=.tup [a,b]->Kn h a/\Kn h b):run F (k+4) 11 [w,.int n] h=.ok (.bl (door w n)) h:=by
 rw[zaj C.f11 rfl]
 have e1:=zav C.toCoreA (k:=k+2) (h:=⟨h.n,h.n,h.os⟩) (w:=w) (lo:=2) (hi:=2) (kn_lo.mpr hw)
 cases q:zaz w 2 2 with
 |false=>
  have:door w n=false:=by
   cases w<;>simp[door]
   rename_i ws
   rcases ws with _|⟨a,_|⟨b,_|_⟩⟩<;>simp[zaz]at q ⊢
  simp[fn11,exs,ev,e1,q,this,zam]
 |true=>
  cases w<;>try(simp[zaz]at q;done)
  rename_i ws
  have hl:ws.length=2:=by simp[zaz]at q;lia
  rcases ws with _|⟨a,_|⟨b,_|_⟩⟩<;>simp at hl
  obtain⟨ka,kb⟩:=hp a b rfl
  have e2:=zau C.toCoreA (k:=k+1) (h:=⟨h.n,h.n,h.os⟩) (w:=a) (lo:=0) (hi:=99) (kn_lo.mpr ka)
  have e3:=zdu C (k:=k) (h:=⟨h.n,h.n,h.os⟩) (w:=b) (n:=n) (kn_lo.mpr kb)
  cases q2:within a 0 99<;>simp[fn11,exs,ev,e1,q,e2,e3,q2,door,zam,tgW,seqW,za1]
theorem znt{k:Nat}{h:VH}{w:W}{n:Int}(hw:Kn h w)(hp:∀a b,w=.tup [a,b]->Kn h a/\Kn h b):run F (k+3) 13 [w,.int n] h=.ok (.bl (zbr w n)) h:=by
 rw[zaj C.f13 rfl]
 have e1:=zav C.toCoreA (k:=k+1) (h:=⟨h.n,h.n,h.os⟩) (w:=w) (lo:=2) (hi:=2) (kn_lo.mpr hw)
 cases q:zaz w 2 2 with
 |false=>
  have:zbr w n=false:=by
   cases w<;>simp[zbr]
   rename_i ws
   rcases ws with _|⟨a,_|⟨b,_|_⟩⟩<;>simp[zaz]at q ⊢
  simp[fn13,exs,ev,e1,q,this,zam]
 |true=>
  cases w<;>try(simp[zaz]at q;done)
  rename_i ws
  have hl:ws.length=2:=by simp[zaz]at q;lia
  rcases ws with _|⟨a,_|⟨b,_|_⟩⟩<;>simp at hl
  obtain⟨ka,kb⟩:=hp a b rfl
  have e2:=zau C.toCoreA (k:=k) (h:=⟨h.n,h.n,h.os⟩) (w:=a) (lo:=0) (hi:=n-1) (kn_lo.mpr ka)
  have e3:=zau C.toCoreA (k:=k) (h:=⟨h.n,h.n,h.os⟩) (w:=b) (lo:=0) (hi:=1) (kn_lo.mpr kb)
  cases q2:within a 0 (n-1)<;>simp[fn13,exs,ev,e1,q,e2,e3,q2,zbr,zam,tgW,seqW,za1,opW,opI]
theorem znu{k:Nat}{h:VH}{w:W}{c wd g:Int}(p:zaw 24 w=true):run F (k+4) 15 [w,.int c,.int wd,.int g] h=.ok (.bl (zac w c wd g)) h:=by
 rw[zaj C.f15 rfl]
 have hp:∀a b,w=.tup [a,b]->Kn ⟨h.n,h.n,h.os⟩ a/\Kn ⟨h.n,h.n,h.os⟩ b:=λa b e=>by
  subst e
  have p:zaw (23+1) (.tup [a,b])=true:=p
  rw[zb2,vb5,vb5,vac,vac]at p
  exact⟨zgz p.1,zgz p.2.1⟩
 have e1:=znt C (k:=k) (h:=⟨h.n,h.n,h.os⟩) (w:=w) (n:=g) (zgz p) hp
 have sx:=zdt (h:=⟨h.n,h.n,h.os⟩) (x:=Str.ofString "x") p (by decide +kernel)
 have sl:=zdt (h:=⟨h.n,h.n,h.os⟩) (x:=Str.ofString "<") p (by decide +kernel)
 have sg:=zdt (h:=⟨h.n,h.n,h.os⟩) (x:=Str.ofString ">") p (by decide +kernel)
 have sd:=zdt (h:=⟨h.n,h.n,h.os⟩) (x:=Str.ofString ".") p (by decide +kernel)
 have ss:=zdt (h:=⟨h.n,h.n,h.os⟩) (x:=Str.ofString "s") p (by decide +kernel)
 unfold zac
 cases q1:isS w (Str.ofString "x")<;>cases q2:zbr w g<;>cases q3:isS w (Str.ofString "<")<;>cases q4:isS w (Str.ofString ">")<;>cases q5:isS w (Str.ofString ".")<;>by_cases h1:0<c<;>
  simp[fn15,exs,ev,cmpW,cmpI,sx,sl,sg,sd,ss,e1,opW,opI,q1,q2,q3,q4,q5,h1,zam]
theorem zcs{k:Nat}{h:VH}{t a:W}{n:Int}:∀(ws:List W) (x:Option W),(∀w∈ws,Kn h w/\∀a b,w=.tup [a,b]->Kn h a/\Kn h b)->∃y,forL (tgW (.one 3)) (exs (run F (k+4)) zj2) ws [some t,some a,some (.int n),x] h =
 if ws.all (door · n)then .ok (.nx [some t,some a,some (.int n),y]) h else .ok (.rt (.bl false)) h
 |[],x,_=>⟨x,by simp[forL]⟩
 |w::r,x,hk=>by
  obtain⟨y,e⟩:=zcs (t:=t) (a:=a) (k:=k) (n:=n) r (some w) λz hz=>hk z (vad _ hz)
  refine⟨y,?_⟩
  obtain⟨k1,k2⟩:=hk w vaf
  have e1:=ztp C (k:=k) (n:=n) k1 k2
  have eb:exs (run F (k+4)) zj2 [some t,some a,some (.int n),some w] h=if door w n then .ok (.nx [some t,some a,some (.int n),some w]) h else .ok (.rt (.bl false)) h:=by
   cases q:door w n<;>simp[zj2,exs,ev,e1,q]
  simp only[forL,tgW,List.set,eb]
  cases q:door w n<;>simp[q,e]
theorem znv{k:Nat}{h:VH}{ws:List W}{wd n:Int}(hl:ws.length=wd)(hz:ws.length<1000000)(hd:∀w∈ws,door w n=true):run F (k+5) 8 [.tup ws,.int wd,.int n] h=.ok (.bl true) h:=by
 rw[zaj C.f8 rfl]
 have e1:=zav C.toCoreA (k:=k+3) (h:=⟨h.n,h.n,h.os⟩) (w:=.tup ws) (lo:=wd) (hi:=wd) (by unfold Kn;simp)
 have q:zaz (.tup ws) wd wd=true:=by simp[zaz,hl]
 have kn:∀w∈ws,Kn ⟨h.n,h.n,h.os⟩ w/\∀a b,w=.tup [a,b]->Kn ⟨h.n,h.n,h.os⟩ a/\Kn ⟨h.n,h.n,h.os⟩ b:=λw hw=>by
  have:=hd w hw
  cases w<;>simp only[door]at this<;>try(cases this;done)
  rename_i us
  refine⟨by unfold Kn;simp,λa b e=>?_⟩
  cases e
  simp only[vac]at this
  obtain⟨h1,h2⟩:=this
  refine⟨?_,?_⟩
  .cases a<;>simp[within]at h1
   unfold Kn;simp
  .unfold fon at h2
   cases b<;>simp[within,isNon]at h2
   .unfold Kn;simp
   .unfold Kn;simp
 obtain⟨y,e2⟩:=zcs C (k:=k) (h:=⟨h.n,h.n,h.os⟩) (t:=.tup ws) (a:=.int wd) (n:=n) ws none kn
 have ha:ws.all (door · n)=true:=vbi.mpr hd
 simp[fn8,exs,ev,e1,q,zdq hz,e2,ha,zam]
theorem zdb{k:Nat}{h:VH}{t:W}{wd:Int}:∀(ws:List W) (x:Option W),(∀w∈ws,∃us,w=.tup us/\us.length=wd)->∃y,forL (tgW (.one 2)) (exs (run F (k+1)) zj3) ws [some t,some (.int wd),x] h=.ok (.nx [some t,some (.int wd),y]) h
 |[],x,_=>⟨x,by simp[forL]⟩
 |w::r,x,hk=>by
  obtain⟨y,e⟩:=zdb (h:=h) (t:=t) (k:=k) (wd:=wd) r (some w) λz hz=>hk z (vad _ hz)
  refine⟨y,?_⟩
  obtain⟨us,rfl,hl⟩:=hk w vaf
  have e1:=zav C.toCoreA (k:=k) (h:=h) (w:=.tup us) (lo:=wd) (hi:=wd) (by unfold Kn;simp)
  have q:zaz (.tup us) wd wd=true:=by simp[zaz,hl]
  have eb:exs (run F (k+1)) zj3 [some t,some (.int wd),some (.tup us)] h=.ok (.nx [some t,some (.int wd),some (.tup us)]) h:=by
   simp[zj3,exs,ev,e1,q]
  simp only[forL,tgW,List.set,eb,bindok,e]
theorem zqf{k:Nat}{h:VH}{ws:List W}{wd:Int}(hl:ws.length<=60)(hd:∀w∈ws,∃us,w=.tup us/\us.length=wd):run F (k+2) 9 [.tup ws,.int wd] h=.ok (.bl true) h:=by
 rw[zaj C.f9 rfl]
 have e1:=zav C.toCoreA (k:=k) (h:=⟨h.n,h.n,h.os⟩) (w:=.tup ws) (lo:=0) (hi:=60) (by unfold Kn;simp)
 have q:zaz (.tup ws) 0 60=true:=by simp[zaz];lia
 obtain⟨y,e2⟩:=zdb C (k:=k) (h:=⟨h.n,h.n,h.os⟩) (t:=.tup ws) (wd:=wd) ws none hd
 simp[fn9,exs,ev,e1,q,zdq (show ws.length<1000000 by lia),e2,zam]
end
structure Bd where
 wd:Int
 gr:Int
 rows:List (List W)
 fd:List W
 dr:List W
noncomputable def Bd.w(B:Bd):W:=.tup [.int B.wd,.int B.gr,.tup (B.rows.map .tup),.tup B.fd,.tup B.dr]
noncomputable def rowOk(wd g:Int):Int->List W->Prop
 |_,[]=>True
 |c,w::r=>zac w c wd g=true/\rowOk wd g (c+1) r
structure Bd.Ok(B:Bd):Prop where
 w1:1<=B.wd
 w2:B.wd<=40
 g1:0<=B.gr
 g2:B.gr<=8
 r1:B.rows.length<=60
 r2:∀r∈B.rows,(r.length:Int)=B.wd/\rowOk B.wd B.gr 0 r
 f1:1<=B.fd.length
 f2:B.fd.length<=4
 f3:∀f∈B.fd,within f 0 (B.wd-1)=true
 d1:(B.dr.length:Int)=B.wd
 d2:∀d∈B.dr,door d B.fd.length=true
structure Bd.Ok0(B:Bd):Prop where
 w1:1<=B.wd
 w2:B.wd<=40
 g1:0<=B.gr
 g2:B.gr<=8
 r1:B.rows.length<=60
 r2:∀r∈B.rows,(r.length:Int)=B.wd
 f1:1<=B.fd.length
 f2:B.fd.length<=4
 f3:∀f∈B.fd,within f 0 (B.wd-1)=true
 d1:(B.dr.length:Int)=B.wd
 d2:∀d∈B.dr,door d B.fd.length=true
theorem Bd.Ok.ok0{B:Bd}(b:B.Ok):B.Ok0:=⟨b.w1,b.w2,b.g1,b.g2,b.r1,λr hr=>(b.r2 r hr).1,b.f1,b.f2,b.f3,b.d1,b.d2⟩
theorem zie{w:W}{g:Int}(h:zbr w g=true)(n:Nat):zaw (n+2) w=true:=by
 cases w<;>simp only[zbr]at h<;>try(cases h;done)
 rename_i us
 rcases us with _|⟨a,_|⟨b,_|_⟩⟩<;>simp at h
 obtain⟨h1,h2⟩:=h
 cases a<;>simp[within]at h1
 cases b<;>simp[within]at h2
 rfl
theorem zci{w:W}{x:Str}(h:isS w x=true):w=.str x:=by
 cases w<;>simp[isS]at h
 rw[h]
theorem zbz{w:W}{c wd g:Int}(h:zac w c wd g=true)(n:Nat):zaw (n+2) w=true:=by
 have st:∀x:Str,PyData.strOk x=true->isS w x=true->zaw (n+2) w=true:=λx hx e=>by rw[zci e];exact hx
 unfold zac at h
 split at h
 .rename_i q
  rw[vb3]at q
  rcases q with q|q
  .exact st _ (by decide +kernel) q
  .exact zie q n
 .split at h
  .rename_i q;exact st _ (by decide +kernel) q
  .split at h
   .rename_i q;exact st _ (by decide +kernel) q
   .rw[vb3]at h
    rcases h with q|q
    .exact st _ (by decide +kernel) q
    .exact st _ (by decide +kernel) q
section
variable{F:Nat->Option Fn}(C:CoreB F)
include C
theorem znw{k:Nat}{h:VH}{B:Bd}(b:B.Ok0):run F (k+6) 10 [B.w] h=.ok (.bl true) h:=by
 rw[zaj C.f10 rfl]
 have e1:=zav C.toCoreA (k:=k+4) (h:=⟨h.n,h.n,h.os⟩) (w:=B.w) (lo:=5) (hi:=5) (by unfold Kn Bd.w;simp)
 have q1:zaz B.w 5 5=true:=by simp[zaz,Bd.w]
 have e2:=zau C.toCoreA (k:=k+3) (h:=⟨h.n,h.n,h.os⟩) (w:=.int B.wd) (lo:=1) (hi:=40) (by unfold Kn;simp)
 have q2:within (.int B.wd) 1 40=true:=by simp[within,b.w1,b.w2]
 have e3:=zau C.toCoreA (k:=k+3) (h:=⟨h.n,h.n,h.os⟩) (w:=.int B.gr) (lo:=0) (hi:=8) (by unfold Kn;simp)
 have q3:within (.int B.gr) 0 8=true:=by simp[within,b.g1,b.g2]
 have kf:∀x∈B.fd,Kn ⟨h.n,h.n,h.os⟩ x:=λx hx=>by
  have:=b.f3 x hx
  cases x<;>simp[within]at this
  unfold Kn;simp
 have hf:=b.f2
 have e4:=zbj C.toCoreA (k:=k+2) (h:=⟨h.n,h.n,h.os⟩) (w:=.tup B.fd) (a:=1) (b:=4) (lo:=0) (hi:=B.wd-1) (by unfold Kn;simp) (λws e=>by cases e;exact⟨by lia,kf⟩)
 have q4:zch (.tup B.fd) 1 4 0 (B.wd-1)=true:=by
  have h1:=b.f1
  simp only[zch,zaz,vac,vaj]
  exact⟨⟨by lia,by lia⟩,vbi.mpr b.f3⟩
 have e5:=zqf C (k:=k+3) (h:=⟨h.n,h.n,h.os⟩) (ws:=B.rows.map .tup) (wd:=B.wd) (by rw[vab];exact b.r1) (λw hw=>by
  obtain⟨r,hr,e⟩:=vaw.mp hw
  exact⟨r,e.symm,b.r2 r hr⟩)
 have hd:=b.d1
 have h40:=b.w2
 have e6:=znv C (k:=k) (h:=⟨h.n,h.n,h.os⟩) (ws:=B.dr) (wd:=B.wd) (n:=B.fd.length) hd (by lia) b.d2
 unfold Bd.w at e1 q1 ⊢
 simp[fn10,exs,ev,e1,q1,e2,q2,e3,q3,e4,q4,e5,e6,zam,tgW,seqW,za1,opW,opI,biW,lenW]
theorem zqg{k:Nat}{h:VH}{B:Bd}(b:B.Ok):run F (k+6) 10 [B.w] h=.ok (.bl true) h:=znw C b.ok0
theorem znx{k:Nat}{h:VH}{t rs pl:W}{wd g r0:Int}:∀(ws:List W) (c:Int) (j:Nat) (x y:Option W),c=j->rowOk wd g c ws->∃x' y',forL (tgW (.many [6,7])) (exs (run F (k+4)) zgv) (enumW j ws) [some t,some (.int wd),some (.int g),some rs,some (.int r0),some pl,x,y] h =
 .ok (.nx [some t,some (.int wd),some (.int g),some rs,some (.int r0),some pl,x',y']) h
 |[],c,j,x,y,_,_=>⟨x,y,by simp[forL,enumW]⟩
 |w::r,c,j,x,y,hc,ho=>by
  obtain⟨h1,h2⟩:=ho
  obtain⟨x',y',e⟩:=znx (h:=h) (t:=t) (rs:=rs) (pl:=pl) (k:=k) (wd:=wd) (g:=g) (r0:=r0) r (c+1) (j+1) (some (.int j)) (some w) (by rw[hc];push_cast;rfl) h2
  refine⟨x',y',?_⟩
  have e1:=znu C (k:=k) (h:=h) (c:=j) (wd:=wd) (g:=g) (zbz h1 22)
  rw[<-hc,h1]at e1
  have eb:exs (run F (k+4)) zgv [some t,some (.int wd),some (.int g),some rs,some (.int r0),some pl,some (.int j),some w] h=.ok (.nx [some t,some (.int wd),some (.int g),some rs,some (.int r0),some pl,some (.int j),some w]) h:=by
   rw[hc]at e1
   simp[zgv,exs,ev,e1]
  simp only[forL,enumW,tgW,seqW,za1,List.set,eb,bindok,e]
theorem zj7{k:Nat}{h:VH}{t rs:W}{wd g:Int}:∀(ws:List (List W)) (j:Nat) (x y z u:Option W),(∀r∈ws,(r.length:Int)<1000000/\rowOk wd g 0 r)->∃x' y' z' u',forL (tgW (.many [4,5])) (exs (run F (k+4)) zgw) (enumW j (ws.map .tup)) [some t,some (.int wd),some (.int g),some rs,x,y,z,u] h =
 .ok (.nx [some t,some (.int wd),some (.int g),some rs,x',y',z',u']) h
 |[],j,x,y,z,u,_=>⟨x,y,z,u,by simp[forL,enumW]⟩
 |w::r,j,x,y,z,u,ho=>by
  obtain⟨h1,h2⟩:=ho w vaf
  obtain⟨z1,u1,e1⟩:=znx C (k:=k) (h:=h) (t:=t) (rs:=rs) (pl:=.tup w) (wd:=wd) (g:=g) (r0:=j) w 0 0 z u rfl h2
  obtain⟨x',y',z',u',e⟩:=zj7 (h:=h) (t:=t) (rs:=rs) (k:=k) (wd:=wd) (g:=g) r (j+1) (some (.int j)) (some (.tup w)) z1 u1 λq hq=>ho q (vad _ hq)
  refine⟨x',y',z',u',?_⟩
  have eb:exs (run F (k+4)) zgw [some t,some (.int wd),some (.int g),some rs,some (.int j),some (.tup w),z,u] h=.ok (.nx [some t,some (.int wd),some (.int g),some rs,some (.int j),some (.tup w),z1,u1]) h:=by
   simp[zgw,exs,ev,zj4 (show w.length<1000000 by lia),e1]
  simp only[forL,vao,enumW,tgW,seqW,za1,List.set,eb,bindok,e]
theorem za8{k:Nat}{h:VH}{B:Bd}(b:B.Ok):run F (k+7) 14 [B.w] h=.ok .non h:=by
 rw[zaj C.f14 rfl]
 have e1:=zqg C (k:=k) (h:=⟨h.n,h.n,h.os⟩) b
 have h40:=b.w2
 have h60:=b.r1
 obtain⟨x',y',z',u',e2⟩:=zj7 C (k:=k+2) (h:=⟨h.n,h.n,h.os⟩) (t:=B.w) (rs:=.tup (B.rows.map .tup)) (wd:=B.wd) (g:=B.gr) B.rows 0 none none none none λr hr=>⟨by have:=(b.r2 r hr).1;lia,(b.r2 r hr).2⟩
 unfold Bd.w at e1 e2 ⊢
 simp[fn14,exs,ev,e1,znr,tgW,seqW,za1,partW,cutW,HT.sIx,zj4 (show(B.rows.map W.tup).length<1000000 by rw[vab];lia),e2]
end
structure CoreD(F:Nat->Option Fn):Prop where
 f2:F 2=some fn2
 f3:F 3=some fn3
 f4:F 4=some fn4
 f5:F 5=some fn5
theorem za5{h:VH}{i j:Int}:eqW h (.int i) (.int j)=some (decide (i=j)):=by
 unfold eqW
 simp only[toD]
 show some (i==j)=_
 by_cases q:i=j<;>simp[q]
theorem zeb{i:Int}(h1:-(2 ^ 63)<=i)(h2:i<2 ^ 63):zb4 i=true:=by
 unfold zb4
 simp only[vac,vaj]
 lia
theorem za6{h:VH}{i:Nat}{o o0:VO}(g:h.get i=some o0):(h.set i o).get i=some o:=by
 have hi:=zao g
 unfold VH.get at g
 rw[if_pos (zan.mpr hi)]at g
 have hl:=(va8.mp g).1
 unfold VH.get VH.set
 simp only[if_pos (zan.mpr hi)]
 rw[vce hl]
theorem zal{h:VH}{i j:Nat}{o o0:VO}(g:h.get i=some o0)(hj:j≠i):(h.set i o).get j=h.get j:=zdl (zao g) hj
structure Dk(h:VH)(d c:Nat)(b:Nat):Prop where
 ne:d≠c
 st:∃(ns cells:List Int) (p q:Int),h.get d=some (.lst [.fz (ns.map .int),.ref c,.int p,.int q])/\h.get c=some (.lst (cells.map .int))/\(∀x∈cells,(0:Int)<=x)/\0<=p/\0<=q/\q<=b/\cells.length<=63
theorem Dk.mono{h:VH}{d c b b':Nat}(D:Dk h d c b)(hb:b<=b'):Dk h d c b':=by
 obtain⟨ne,ns,cells,p,q,a1,a2,a3,a4,a5,a6,a7⟩:=D
 exact⟨ne,ns,cells,p,q,a1,a2,a3,a4,a5,by lia,a7⟩
structure Keep(h h':VH)(d c:Nat):Prop where
 le:h.n<=h'.n
 get:∀i o,i≠d->i≠c->h.get i=some o->h'.get i=some o
theorem Keep.refl{h:VH}{d c:Nat}:Keep h h d c:=⟨vai _,λ_ _ _ _ e=>e⟩
theorem Keep.trans{h h1 h2:VH}{d c:Nat}(a:Keep h h1 d c)(b:Keep h1 h2 d c):Keep h h2 d c:=⟨vbx a.le b.le,λi o h1 h2 e=>b.get i o h1 h2 (a.get i o h1 h2 e)⟩
theorem zdv(i:Int):(if i<0 then -i else i)=(i.natAbs:Int):=by
 split<;>lia
section
variable{F:Nat->Option Fn}(C:CoreD F)
include C
theorem cell{k:Nat}{h:VH}{ns:List Int}{j:Int}(hj:0<=j):∃r,run F (k+1) 2 [.fz (ns.map .int),.int j] h=.ok (.int r) h/\0<=r:=by
 rw[zaj C.f2 rfl]
 cases ns with
 |nil=>
  refine⟨7*j+3,?_,by lia⟩
  simp[fn2,exs,ev,biW,lenW,seqW,cmpW,za5,opW,opI,zeb,zam]
 |cons n0 ns0=>
  have hl:(0:Int)< ((n0::ns0).length:Int):=by simp only[vap];lia
  have hm1:=vd3 j (show((n0::ns0).length:Int)≠0 by lia)
  have hm2:=vdn j hl
  obtain⟨m,hm⟩:=vat hm1
  have hml:m< (n0::ns0).length:=by lia
  have ha:atI (List.map W.int (n0::ns0)) (j % ((n0::ns0).length:Int))=some (.int ((n0::ns0)[m])):=by
   rw[hm]
   exact zby (by rw[va2,va0 hml];rfl)
  have hb:¬(((ns0.length:Int)+1)=0):=by lia
  have hp:(0:Int)< (ns0.length:Int)+1:=by lia
  refine⟨(((n0::ns0)[m]).natAbs:Int),?_,by lia⟩
  simp only[vap,Int.natCast_add,Int.cast_ofNat_Int,vao]at ha
  simp[fn2,exs,ev,biW,lenW,seqW,cmpW,za5,opW,opI,zam,idxW,absW,hb,hp,ha,zdv]
theorem mixed{k:Nat}{h:VH}{ns:List Int}{j m:Int}(hj:0<=j)(hj2:j<=1000000000)(hm:0<m):∃r,run F (k+2) 4 [.fz (ns.map .int),.int j,.int m] h=.ok (.int r) h/\0<=r/\r<m:=by
 rw[zaj C.f4 rfl]
 obtain⟨c,e1,hc⟩:=cell C (k:=k) (h:=⟨h.n,h.n,h.os⟩) (ns:=ns) hj
 have h1:=vd3 c (show(1000003:Int)≠0 by decide)
 have h2:=vdn c (show(0:Int)<1000003 by decide)
 generalize hx:c % 1000003=x at h1 h2
 have s1:zb4 (x+5)=true:=zeb (by lia) (by lia)
 have s2:zb4 7919=true:=zeb (by decide) (by decide)
 have hb:(x+5)* (j+2)<=1000008*1000000002:=Int.mul_le_mul (by lia) (by lia) (by lia) (by lia)
 have hb0:0<=(x+5)* (j+2):=Int.mul_nonneg (by lia) (by lia)
 generalize hy:(x+5)* (j+2)=y at hb hb0
 have hn:(y+7919*j).natAbs<2 ^ 64:=by lia
 refine⟨(y+7919*j) ^ 5 % 2147483647/13 % m,?_,vd3 _ (by lia),vdn _ hm⟩
 have hn':(y+7919*j).natAbs<18446744073709551616:=by lia
 simp[fn4,exs,ev,e1,opW,opI,hx,s1,s2,hy,hn',hm,zam]
theorem zif{k:Nat}{d c:Nat}{m q:Int}{ns:List Int}(hdc:d≠c)(hm:0<m)(hm2:m<1073741824):∀(n f:Nat) (g:VH) (x:Option W) (cells:List Int) (p:Int),n<f->(cells.length:Int)-p<=n->0<=p->(∀y∈cells,(0:Int)<=y)->
 g.get d=some (.lst [.fz (ns.map .int),.ref c,.int p,.int q])->g.get c=some (.lst (cells.map .int))->
 ∃(g':VH) (cells':List Int) (p':Int),0<=p'/\(∀y∈cells',(0:Int)<=y)/\cells'.length=cells.length/\g'.get d=some (.lst [.fz (ns.map .int),.ref c,.int p',.int q])/\g'.get c=some (.lst (cells'.map .int))/\g'.n=g.n/\(∀i,i≠d->i≠c->g'.get i=g.get i)/\
  ((∃r,whlG (ev (run F (k+2)) zib) (exs (run F (k+2)) zew) f [some (.ref d),some (.int m),x] g=.ok (.rt (.int r)) g'/\0<=r/\r<m)\/∃y,whlG (ev (run F (k+2)) zib) (exs (run F (k+2)) zew) f [some (.ref d),some (.int m),x] g=.ok (.nx [some (.ref d),some (.int m),y]) g')
 |n,0,g,x,cells,p,hf,_,_,_,_,_=>by lia
 |n,f+1,g,x,cells,p,hf,hn,hp,hnn,gd,gc=>by
  have ec:ev (run F (k+2)) zib [some (.ref d),some (.int m),x] g=.ok (.bl (decide (p<cells.length))) g:=by
   simp[zib,ev,idxW,gd,atI,ixN,biW,lenW,seqW,gc,cmpW,cmpI]
  by_cases hlt:p<cells.length
  .obtain⟨pn,rfl⟩:=vat hp
   have hpl:pn<cells.length:=by lia
   have hat:atI (cells.map W.int) (pn:Int)=some (.int cells[pn]):=zby (by rw[va2,va0 hpl];rfl)
   by_cases hpos:0<cells[pn]
   .refine⟨g.set c (.lst ((cells.set pn (cells[pn]/m)).map .int)),cells.set pn (cells[pn]/m),pn,hp,?_,by simp,?_,za6 gc,rfl,λi _ hi=>zal gc hi,.inl ⟨cells[pn] % m,?_,vd3 _ (by lia),vdn _ hm⟩⟩
    .intro y hy
     rcases List.mem_or_eq_of_mem_set hy with hy|rfl
     .exact hnn y hy
     .exact Int.ediv_nonneg (by lia) (by lia)
    .rw[zal gc hdc];exact gd
    .have hix:ixN (cells.map W.int).length (pn:Int)=some pn:=by
      unfold ixN
      rw[if_pos (by lia),if_pos (by rw[vab];lia)];simp
     have eb:exs (run F (k+2)) zew [some (.ref d),some (.int m),x] g=.ok (.rt (.int (cells[pn] % m))) (g.set c (.lst ((cells.set pn (cells[pn]/m)).map .int))):=by
      have h2:atI [W.fz (ns.map .int),.ref c,.int pn,.int q] 2=some (.int pn):=rfl
      have h1:atI [W.fz (ns.map .int),.ref c,.int pn,.int q] 1=some (.ref c):=rfl
      simp[zew,exs,ev,idxW,gd,h1,h2,gc,hat,cmpW,cmpI,hpos,opW,opI,hm,hm2]at hix ⊢
      simp[hix,hm,List.map_set]
     simp[whlG,ec,hlt,eb]
   .have gs:(g.set d (.lst [.fz (ns.map .int),.ref c,.int ((pn:Int)+1),.int q])).get c=some (.lst (cells.map .int)):=by rw[zal gd (vbw hdc)];exact gc
    cases n with
    |zero=>lia
    |succ n=>
     obtain⟨g',cells',p',a1,a2,a3,a4,a5,a6,a7,a8⟩:=zif (k:=k) hdc hm hm2 n f (g.set d (.lst [.fz (ns.map .int),.ref c,.int ((pn:Int)+1),.int q])) (some (.int cells[pn])) cells (pn+1) (by lia) (by lia) (by lia) hnn (za6 gd) gs
     have eb:exs (run F (k+2)) zew [some (.ref d),some (.int m),x] g=.ok (.nx [some (.ref d),some (.int m),some (.int cells[pn])]) (g.set d (.lst [.fz (ns.map .int),.ref c,.int ((pn:Int)+1),.int q])):=by
      have h2:atI [W.fz (ns.map .int),.ref c,.int pn,.int q] 2=some (.int pn):=rfl
      have h1:atI [W.fz (ns.map .int),.ref c,.int pn,.int q] 1=some (.ref c):=rfl
      have h3:ixN 4 2=some 2:=rfl
      simp[zew,exs,ev,idxW,gd,h1,h2,h3,gc,hat,cmpW,cmpI,hpos,opW,opI]
     refine⟨g',cells',p',a1,a2,a3,a4,a5,a6,λi h1 h2=>by rw[a7 i h1 h2,zal gd h1],?_⟩
     rcases a8 with⟨r,e,h3⟩|⟨y,e⟩
     .exact .inl ⟨r,by simp[whlG,ec,hlt,eb,e],h3⟩
     .exact .inr ⟨y,by simp[whlG,ec,hlt,eb,e]⟩
  .exact⟨g,cells,p,hp,hnn,rfl,gd,gc,rfl,λ_ _ _=>rfl,.inr ⟨x,by simp[whlG,ec,hlt]⟩⟩
omit C in
theorem zez{h h':VH}{w:W}(g:Grow ⟨h.n,h.n,h.os⟩ h'):∃h2,leave h w h'=.ok w h2/\h.n<=h2.n/\∀i,i<h.n->h2.get i=h'.get i:=by
 unfold leave
 split
 .rename_i q
  rw[vac]at q
  have hlo:=va5 q.1
  exact⟨h,rfl,vai _,λi hi=>by
   rw[g.2.2 i hi (vak hi hlo)]
   exact get_lo.symm⟩
 .exact⟨_,rfl,g.1,λi hi=>get_lo⟩
theorem take{k:Nat}{h:VH}{d c b:Nat}{m:Int}(D:Dk h d c b)(hb:b<1000000000)(hm:0<m)(hm2:m<1073741824):∃r h',run F (k+3) 5 [.ref d,.int m] h=.ok (.int r) h'/\0<=r/\r<m/\Dk h' d c (b+1)/\Keep h h' d c:=by
 rw[zaj C.f5 rfl]
 obtain⟨hne,ns,cells,p,q,gd,gc,hnn,hp,hq,hqb,hl⟩:=D
 have gd0:VH.get ⟨h.n,h.n,h.os⟩ d=some (.lst [.fz (ns.map .int),.ref c,.int p,.int q]):=by rw[get_lo];exact gd
 have gc0:VH.get ⟨h.n,h.n,h.os⟩ c=some (.lst (cells.map .int)):=by rw[get_lo];exact gc
 obtain⟨g',cells',p',a1,a2,a3,a4,a5,a6,a7,a8⟩:=zif C (k:=k) hne hm hm2 63 fuel ⟨h.n,h.n,h.os⟩ none cells p (by decide) (by lia) hp hnn gd0 gc0
 have key:∀(g2:VH)(r:Int)(cells2:List Int)(p2 q2:Int),exs (run F (k+2)) fn5.body [some (.ref d),some (.int m),none] ⟨h.n,h.n,h.os⟩=.ok (.rt (.int r)) g2->0<=r->r<m->0<=p2->0<=q2->q2<=b+1->cells2.length<=63->(∀y∈cells2,(0:Int)<=y)->
  g2.get d=some (.lst [.fz (ns.map .int),.ref c,.int p2,.int q2])->g2.get c=some (.lst (cells2.map .int))->(∀i,i<h.n->i≠d->i≠c->g2.get i=h.get i)->
  ∃r h',fin h (exs (run F (k+2)) fn5.body ([W.ref d,W.int m].map some++vgc (fn5.n-fn5.ps) none) ⟨h.n,h.n,h.os⟩)=.ok (.int r) h'/\0<=r/\r<m/\Dk h' d c (b+1)/\Keep h h' d c:=by
  intro g2 r cells2 p2 q2 e r1 r2 b1 b2 b3 b4 b5 b6 b7 b8
  obtain⟨h2,e2,hn2,hg2⟩:=zez (w:=.int r) (zhz (zh0 F (k+2)) _ _ _ _ _ e)
  refine⟨r,h2,?_,r1,r2,⟨hne,ns,cells2,p2,q2,?_,?_,b5,b1,b2,by lia,b4⟩,⟨hn2,λi o h1 h3 e3=>?_⟩⟩
  .show fin h (exs (run F (k+2)) fn5.body [some (.ref d),some (.int m),none] ⟨h.n,h.n,h.os⟩)=_
   rw[e]
   exact e2
  .rw[hg2 d (zao gd)];exact b6
  .rw[hg2 c (zao gc)];exact b7
  .rw[hg2 i (zao e3),b8 i (zao e3) h1 h3];exact e3
 rcases a8 with⟨r,e,r1,r2⟩|⟨y,e⟩
 .refine key g' r cells' p' q ?_ r1 r2 a1 hq (by lia) (by lia) a2 a4 a5 λi hi h1 h2=>by rw[a7 i h1 h2,get_lo]
  simp[fn5,exs,e]
 .obtain⟨r,e2,r1,r2⟩:=mixed C (k:=k) (h:=g'.set d (.lst [.fz (ns.map .int),.ref c,.int p',.int (q+1)])) (ns:=ns) (j:=q+1) (m:=m) (by lia) (by lia) hm
  refine key (g'.set d (.lst [.fz (ns.map .int),.ref c,.int p',.int (q+1)])) r cells' p' (q+1) ?_ r1 r2 a1 (by lia) (by lia) (by lia) a2 (za6 a4) (by rw[zal a4 (vbw hne)];exact a5) λi hi h1 h2=>by rw[zal a4 h1,a7 i h1 h2,get_lo]
  have h3:atI [W.fz (ns.map .int),.ref c,.int p',.int q] 3=some (.int q):=rfl
  have h30:atI [W.fz (ns.map .int),.ref c,.int p',.int (q+1)] 3=some (.int (q+1)):=rfl
  have h00:atI [W.fz (ns.map .int),.ref c,.int p',.int (q+1)] 0=some (.fz (ns.map .int)):=rfl
  have h33:ixN 4 3=some 3:=rfl
  have hs:=za6 (o:=.lst [.fz (ns.map .int),.ref c,.int p',.int (q+1)]) a4
  simp[fn5,exs,e,ev,idxW,a4,h3,opW,opI,h33,hs,h30,h00,e2]
end
theorem zab{cl:Call}{a b:S}{ρ ρ':En}{h h':VH}(e:exs cl a ρ h=.ok (.nx ρ') h'):exs cl (.seq a b) ρ h=exs cl b ρ' h':=by
 simp only[exs,e,bindok]
theorem zas{cl:Call}{a b:S}{ρ:En}{w:W}{h h':VH}(e:exs cl a ρ h=.ok (.rt w) h'):exs cl (.seq a b) ρ h=.ok (.rt w) h':=by
 simp only[exs,e,bindok]
@[simp] theorem exs_skip {cl:Call} {ρ:En} {h:VH}:exs cl .skip ρ h=.ok (.nx ρ) h:=rfl
theorem Dk.new{h:VH}{d c b:Nat}{o:VO}(D:Dk h d c b):Dk (h.new o) d c b:=by
 obtain⟨ne,ns,cells,p,q,a1,a2,a3⟩:=D
 exact⟨ne,ns,cells,p,q,by rw[zak (zao a1)];exact a1,by rw[zak (zao a2)];exact a2,a3⟩
theorem Keep.new{h h':VH}{d c:Nat}{o:VO}(K:Keep h h' d c):Keep h (h'.new o) d c:=⟨Nat.le_succ_of_le K.le,λi o' h1 h2 e=>by
 have:=K.get i o' h1 h2 e
 rw[zak (zao this)];exact this⟩
theorem Dk.lo{h:VH}{d c b l:Nat}(D:Dk h d c b):Dk ⟨h.n,l,h.os⟩ d c b:=by
 obtain⟨ne,ns,cells,p,q,a1,a2,a3⟩:=D
 exact⟨ne,ns,cells,p,q,by rw[get_lo];exact a1,by rw[get_lo];exact a2,a3⟩
theorem zbx{cl:Call}{h h':VH}{d c b:Nat}{w:W}{fl:Fl}{body:S}{ρ:En}{F:Nat->Option Fn}{k:Nat}(e:exs (run F k) body ρ ⟨h.n,h.n,h.os⟩=.ok (.rt w) h')(D0:Dk h d c 0\/∃b,Dk h d c b)(D:Dk h' d c b)(K:Keep ⟨h.n,h.n,h.os⟩ h' d c) :
 ∃h2,fin h (exs (run F k) body ρ ⟨h.n,h.n,h.os⟩)=.ok w h2/\Dk h2 d c b/\Keep h h2 d c:=by
 obtain⟨h2,e2,hn2,hg2⟩:=zez (w:=w) (zhz (zh0 F k) _ _ _ _ _ e)
 have hd:d<h.n/\c<h.n:=by
  rcases D0 with⟨_,ns,cells,p,q,a1,a2,_⟩|⟨b,_,ns,cells,p,q,a1,a2,_⟩<;>exact⟨zao a1,zao a2⟩
 refine⟨h2,by rw[e];exact e2,?_,⟨hn2,λi o h1 h3 e3=>?_⟩⟩
 .obtain⟨ne,ns,cells,p,q,a1,a2,a3⟩:=D
  exact⟨ne,ns,cells,p,q,by rw[hg2 d hd.1];exact a1,by rw[hg2 c hd.2];exact a2,a3⟩
 .rw[hg2 i (zao e3)]
  exact K.get i o h1 h3 (by rw[get_lo];exact e3)
theorem andB{cl:Call}{a b:E}{ρ:En}{h:VH}{x y:Bool}(ea:ev cl a ρ h=.ok (.bl x) h)(eb:ev cl b ρ h=.ok (.bl y) h):ev cl (.and a b) ρ h=.ok (.bl (x&&y)) h:=by
 rw[ev,ea,bindok]
 cases x
 .rfl
 .exact eb
theorem orB{cl:Call}{a b:E}{ρ:En}{h:VH}{x y:Bool}(ea:ev cl a ρ h=.ok (.bl x) h)(eb:ev cl b ρ h=.ok (.bl y) h):ev cl (.or a b) ρ h=.ok (.bl (x||y)) h:=by
 rw[ev,ea,bindok]
 cases x
 .exact eb
 .rfl
structure CoreP(F:Nat->Option Fn):Prop extends CoreD F where
 f21:F 21=some fn21
 f23:F 23=some fn23
 f25:F 25=some fn25
noncomputable abbrev sDot:Str:=Str.ofString "."
noncomputable abbrev sLt:Str:=Str.ofString "<"
noncomputable abbrev sGt:Str:=Str.ofString ">"
noncomputable abbrev sX:Str:=Str.ofString "x"
noncomputable abbrev sS:Str:=Str.ofString "s"
theorem zja{c wd g:Int}:zac (.str sDot) c wd g=true:=rfl
theorem may_s{c wd g:Int}:zac (.str sS) c wd g=true:=rfl
theorem zrj{c wd g:Int}(h:0<c):zac (.str sLt) c wd g=true:=by
 have:zac (.str sLt) c wd g=decide (0<c):=rfl
 rw[this];simpa using h
theorem zrk{c wd g:Int}(h:c<wd-1):zac (.str sGt) c wd g=true:=by
 have:zac (.str sGt) c wd g=decide (c<wd-1):=rfl
 rw[this];simpa using h
theorem may_x{c wd g:Int}(h:0<c)(h2:c<wd-1):zac (.str sX) c wd g=true:=by
 have:zac (.str sX) c wd g=(decide (0<c)&&decide (c<wd-1)):=rfl
 rw[this];simp[h,h2]
theorem zj8{c wd g a b:Int}(a0:0<=a)(a1:a<g)(b0:0<=b)(b1:b<2)(h:0<c)(h2:c<wd-1):zac (.tup [.int a,.int b]) c wd g=true:=by
 have h3:zbr (.tup [.int a,.int b]) g=true:=by
  simp only[zbr,within,vac,vaj]
  lia
 unfold zac
 rw[h3,Bool.or_true,if_pos rfl]
 simp[h,h2]
inductive Raw(g:Int):W->Prop
 |dot:Raw g (.str sDot)
 |lt:Raw g (.str sLt)
 |gt:Raw g (.str sGt)
 |x:Raw g (.str sX)
 |rk {a b:Int}:0<=a->a<g->0<=b->b<2->Raw g (.tup [.int a,.int b])
theorem zbf{h:VH}{x y z:Str}(hx:PyData.strOk x=true)(hy:PyData.strOk y=true)(hz:PyData.strOk z=true):inW h (.str x) (.tup [.str y,.str z])=some (y==x||z==x):=by
 have sx:SeqAt.shaped (.str x)=true:=by unfold SeqAt.shaped;show(PyData.strOk x&&_)=true;rw[hx];rfl
 have sy:SeqAt.shaped (.str y)=true:=by unfold SeqAt.shaped;show(PyData.strOk y&&_)=true;rw[hy];rfl
 have sz:SeqAt.shaped (.str z)=true:=by unfold SeqAt.shaped;show(PyData.strOk z&&_)=true;rw[hz];rfl
 simp[inW,seqW,toD,mapO,sx,sy,sz,anyEq,PyData.eqv]
theorem zg0{h:VH}{a b:Int}{y z:Str}(hy:PyData.strOk y=true)(hz:PyData.strOk z=true):inW h (.tup [.int a,.int b]) (.tup [.str y,.str z])=some false:=by
 have sy:SeqAt.shaped (.str y)=true:=by unfold SeqAt.shaped;show(PyData.strOk y&&_)=true;rw[hy];rfl
 have sz:SeqAt.shaped (.str z)=true:=by unfold SeqAt.shaped;show(PyData.strOk z&&_)=true;rw[hz];rfl
 have st:SeqAt.shaped (.tuple [.int a,.int b])=true:=rfl
 simp[inW,seqW,toD,mapO,sy,sz,st,anyEq,PyData.eqv]
noncomputable def pCond:E:=(.or (.and (.cmp .eq (.var 1) (.cst (.int (0)))) (.cmp .nin (.var 5) (.tup (.cons (.cst (.str sDot)) (.cons (.cst (.str sGt)) .nil))))) (.and (.cmp .eq (.var 1) (.op .sub (.var 2) (.cst (.int (1))))) (.cmp .nin (.var 5) (.tup (.cons (.cst (.str sDot)) (.cons (.cst (.str sLt)) .nil))))))
noncomputable def pIdx:E:=(.idx (.lst (.cons (.cst (.str sGt)) (.cons (.cst (.str sLt)) (.cons (.cst (.str sDot)) .nil)))) (.bi .min (.cons (.op .add (.bi .int (.cons (.cmp .gt (.var 1) (.cst (.int (0)))) .nil)) (.op .mul (.cst (.int (2))) (.bi .int (.cons (.cmp .eq (.var 2) (.cst (.int (1)))) .nil)))) (.cons (.cst (.int (2))) .nil))))
noncomputable def pTail:S:=(.seq (.ite pCond (.seq (.ret pIdx) .skip) .skip) (.seq (.ret (.var 5)) .skip))
section
variable{F:Nat->Option Fn}(C:CoreP F)
include C
theorem piece{k:Nat}{h:VH}{d c b:Nat}{co wd g:Int}(D:Dk h d c b)(hb:b+5<1000000000)(h0:0<=co)(h1:co<wd)(g0:0<=g)(g1:g<=8) :
 ∃w h',run F (k+4) 21 [.ref d,.int co,.int wd,.int g] h=.ok w h'/\zac w co wd g=true/\Dk h' d c (b+5)/\Keep h h' d c:=by
 rw[zaj C.f21 rfl]
 have D0:Dk ⟨h.n,h.n,h.os⟩ d c b:=D.lo
 have tail:∀(w5:W)(lot:Int)(h3:VH),Raw g w5->∃w h4,exs (run F (k+3)) pTail
  [some (.ref d),some (.int co),some (.int wd),some (.int g),some (.int lot),some w5] h3=.ok (.rt w) h4/\zac w co wd g=true/\(h4=h3\/∃o,h4=h3.new o):=by
  intro w5 lot h3 R
  have two:zb4 2=true:=zeb (by decide) (by decide)
  have i0:atI [W.str sGt,.str sLt,.str sDot] 0=some (.str sGt):=rfl
  have i1:atI [W.str sGt,.str sLt,.str sDot] 1=some (.str sLt):=rfl
  have i2:atI [W.str sGt,.str sLt,.str sDot] 2=some (.str sDot):=rfl
  have eC:∀(b1 b2:Bool),inW h3 w5 (.tup [.str sDot,.str sGt])=some b1->inW h3 w5 (.tup [.str sDot,.str sLt])=some b2->ev (run F (k+3)) pCond [some (.ref d),some (.int co),some (.int wd),some (.int g),some (.int lot),some w5] h3=.ok (.bl ((decide (co=0) && !b1)|| (decide (co=wd-1) && !b2))) h3:=by
   intro b1 b2 n1 n2
   refine orB (andB ?_ ?_) (andB ?_ ?_)
   .simp only[ev,va6,vay,va9,ofsome,bindok,cmpW,za5,va1]
   .simp[ev,cmpW,n1]
   .simp only[ev,va6,vay,va9,ofsome,bindok,cmpW,za5,va1,opW,opI]
   .simp[ev,cmpW,n2]
  have fin1:∀(b1 b2:Bool),inW h3 w5 (.tup [.str sDot,.str sGt])=some b1->inW h3 w5 (.tup [.str sDot,.str sLt])=some b2->(co≠0\/b1=true)->(co≠wd-1\/b2=true)->zac w5 co wd g=true->∃w h4,exs (run F (k+3)) pTail
   [some (.ref d),some (.int co),some (.int wd),some (.int g),some (.int lot),some w5] h3=.ok (.rt w) h4/\zac w co wd g=true/\(h4=h3\/∃o,h4=h3.new o):=by
   intro b1 b2 n1 n2 o1 o2 hm
   refine⟨w5,h3,?_,hm,.inl rfl⟩
   have cond:=eC b1 b2 n1 n2
   rw[show((decide (co=0) && !b1)|| (decide (co=wd-1) && !b2))=false by rcases o1 with z|z<;>rcases o2 with z'|z'<;>simp[z,z']]at cond
   unfold pTail
   rw[exs,exs,cond,bindok]
   simp[exs,ev]
  have fin2:∀(b1 b2:Bool),inW h3 w5 (.tup [.str sDot,.str sGt])=some b1->inW h3 w5 (.tup [.str sDot,.str sLt])=some b2->((co=0/\b1=false)\/(co=wd-1/\b2=false))->∃w h4,exs (run F (k+3)) pTail
   [some (.ref d),some (.int co),some (.int wd),some (.int g),some (.int lot),some w5] h3=.ok (.rt w) h4/\zac w co wd g=true/\(h4=h3\/∃o,h4=h3.new o):=by
   intro b1 b2 n1 n2 o
   have cond:ev (run F (k+3)) pCond [some (.ref d),some (.int co),some (.int wd),some (.int g),some (.int lot),some w5] h3=.ok (.bl true) h3:=by
    rw[eC b1 b2 n1 n2,show((decide (co=0) && !b1)|| (decide (co=wd-1) && !b2))=true by rcases o with⟨z,z'⟩|⟨z,z'⟩<;>simp[z,z']]
   have r1:∀(x:Str)(j:Int),(if(2:Int)< (if 0<co then 1 else 0)+2* (if wd=1 then 1 else 0)then 2 else(if 0<co then 1 else 0)+2* (if wd=1 then 1 else 0))=j->atI [W.str sGt,.str sLt,.str sDot] j=some (.str x)->ev (run F (k+3)) pIdx [some (.ref d),some (.int co),some (.int wd),some (.int g),some (.int lot),some w5] h3=.ok (.str x) (h3.new (.lst [W.str sGt,.str sLt,.str sDot])):=by
    intro x j hj ha
    have hg:=zat (h:=h3) (o:=.lst [W.str sGt,.str sLt,.str sDot])
    by_cases c0:0<co<;>by_cases c1:wd=1<;>simp[c0,c1]at hj<;>subst hj<;>simp[pIdx,ev,cmpW,cmpI,za5,opW,opI,two,biW,intW,minW,idxW,hg,ha,c0,c1]
   have fin:∀x:Str,ev (run F (k+3)) pIdx [some (.ref d),some (.int co),some (.int wd),some (.int g),some (.int lot),some w5] h3=.ok (.str x) (h3.new (.lst [W.str sGt,.str sLt,.str sDot]))->zac (.str x) co wd g=true->
    ∃w h4,exs (run F (k+3)) pTail [some (.ref d),some (.int co),some (.int wd),some (.int g),some (.int lot),some w5] h3=.ok (.rt w) h4/\zac w co wd g=true/\(h4=h3\/∃o,h4=h3.new o):=
    λx e hm=>⟨.str x,h3.new (.lst [W.str sGt,.str sLt,.str sDot]),by simp only[pTail,exs,cond,bindok,e],hm,.inr ⟨_,rfl⟩⟩
   by_cases w1:wd=1
   .exact fin sDot (r1 sDot 2 (by rw[if_neg (by lia:¬0<co)];simp[w1]) i2) zja
   .by_cases c0:co=0
    .exact fin sGt (r1 sGt 0 (by rw[if_neg (by lia:¬0<co)];simp[w1]) i0) (zrk (by lia))
    .exact fin sLt (r1 sLt 1 (by rw[if_pos (by lia:0<co)];simp[w1]) i1) (zrj (by lia))
  have d1:(sDot==sLt)=false:=by decide +kernel
  have d2:(sGt==sLt)=false:=by decide +kernel
  have d3:(sDot==sGt)=false:=by decide +kernel
  have d4:(sLt==sGt)=false:=by decide +kernel
  have d5:(sDot==sX)=false:=by decide +kernel
  have d6:(sGt==sX)=false:=by decide +kernel
  have d7:(sLt==sX)=false:=by decide +kernel
  have k1:PyData.strOk sDot=true:=by decide +kernel
  have k2:PyData.strOk sLt=true:=by decide +kernel
  have k3:PyData.strOk sGt=true:=by decide +kernel
  have k4:PyData.strOk sX=true:=by decide +kernel
  cases R with
  |dot=>exact fin1 true true (by rw[zbf k1 k1 k3];simp) (by rw[zbf k1 k1 k2];simp) (.inr rfl) (.inr rfl) zja
  |lt=>
   by_cases c0:co=0
   .exact fin2 false true (by rw[zbf k2 k1 k3,d1,d2];rfl) (by rw[zbf k2 k1 k2];simp) (.inl ⟨c0,rfl⟩)
   .exact fin1 false true (by rw[zbf k2 k1 k3,d1,d2];rfl) (by rw[zbf k2 k1 k2];simp) (.inl c0) (.inr rfl) (zrj (by lia))
  |gt=>
   by_cases c0:co=wd-1
   .exact fin2 true false (by rw[zbf k3 k1 k3];simp) (by rw[zbf k3 k1 k2,d3,d4];rfl) (.inr ⟨c0,rfl⟩)
   .exact fin1 true false (by rw[zbf k3 k1 k3];simp) (by rw[zbf k3 k1 k2,d3,d4];rfl) (.inr rfl) (.inl c0) (zrk (by lia))
  |x=>
   by_cases c0:co=0\/co=wd-1
   .exact fin2 false false (by rw[zbf k4 k1 k3,d5,d6];rfl) (by rw[zbf k4 k1 k2,d5,d7];rfl) (c0.elim (λz=>.inl ⟨z,rfl⟩) λz=>.inr ⟨z,rfl⟩)
   .exact fin1 false false (by rw[zbf k4 k1 k3,d5,d6];rfl) (by rw[zbf k4 k1 k2,d5,d7];rfl) (.inl (by lia)) (.inl (by lia)) (may_x (by lia) (by lia))
  |rk a0 a1 b0 b1=>
   by_cases c0:co=0\/co=wd-1
   .exact fin2 false false (zg0 k1 k3) (zg0 k1 k2) (c0.elim (λz=>.inl ⟨z,rfl⟩) λz=>.inr ⟨z,rfl⟩)
   .exact fin1 false false (zg0 k1 k3) (zg0 k1 k2) (.inl (by lia)) (.inl (by lia)) (zj8 a0 a1 b0 b1 (by lia) (by lia))
 obtain⟨lot,h1',e1,l0,l1,D1,K1⟩:=take C.toCoreD (k:=k) (m:=10) D0 (by lia) (by decide) (by decide)
 have done:∀(w5:W)(h3:VH),Raw g w5->Dk h3 d c (b+5)->Keep ⟨h.n,h.n,h.os⟩ h3 d c->exs (run F (k+3)) fn21.body [some (.ref d),some (.int co),some (.int wd),some (.int g),none,none] ⟨h.n,h.n,h.os⟩=exs (run F (k+3)) pTail [some (.ref d),some (.int co),some (.int wd),some (.int g),some (.int lot),some w5] h3->
  ∃w h',fin h (exs (run F (k+3)) fn21.body [some (.ref d),some (.int co),some (.int wd),some (.int g),none,none] ⟨h.n,h.n,h.os⟩)=.ok w h'/\zac w co wd g=true/\Dk h' d c (b+5)/\Keep h h' d c:=by
  intro w5 h3 R D3 K3 e
  obtain⟨w,h4,e4,hm,hh⟩:=tail w5 lot h3 R
  have D4:Dk h4 d c (b+5)/\Keep ⟨h.n,h.n,h.os⟩ h4 d c:=by
   rcases hh with rfl|⟨o,rfl⟩
   .exact⟨D3,K3⟩
   .exact⟨D3.new,K3.new⟩
  obtain⟨h5,e5,D5,K5⟩:=zbx (cl:=run F (k+3)) (fl:=.nx []) (e.trans e4) (.inr ⟨b,D⟩) D4.1 D4.2
  exact⟨w,h5,e5,hm,D5,K5⟩
 have hg1:=zat (h:=h1') (o:=.lst [W.str sDot,.str sLt,.str sGt,.str sX,.str sDot,.str sDot])
 have two:∀(x:Str)(j:Int),(if(5:Int)<lot then 5 else lot)=j->atI [W.str sDot,.str sLt,.str sGt,.str sX,.str sDot,.str sDot] j=some (.str x)->∀rest:S,exs (run F (k+3)) (.seq (.set 4 (.call 5 (.cons (.var 0) (.cons (.cst (.int (10))) .nil)))) (.seq (.set 5 (.idx (.lst (.cons (.cst (.str sDot)) (.cons (.cst (.str sLt)) (.cons (.cst (.str sGt)) (.cons (.cst (.str sX)) (.cons (.cst (.str sDot)) (.cons (.cst (.str sDot)) .nil))))))) (.bi .min (.cons (.var 4) (.cons (.cst (.int (5))) .nil))))) rest)) [some (.ref d),some (.int co),some (.int wd),some (.int g),none,none] ⟨h.n,h.n,h.os⟩ =
  exs (run F (k+3)) rest [some (.ref d),some (.int co),some (.int wd),some (.int g),some (.int lot),some (.str x)] (h1'.new (.lst [W.str sDot,.str sLt,.str sGt,.str sX,.str sDot,.str sDot])):=by
  intro x j hj ha rest
  refine(zab (ρ':=[some (.ref d),some (.int co),some (.int wd),some (.int g),some (.int lot),none]) (h':=h1') (by simp[exs,ev,e1])).trans ?_
  refine zab ?_
  by_cases q:(5:Int)<lot
  .rw[if_pos q]at hj
   subst hj
   simp[exs,ev,biW,minW,q,idxW,hg1,ha]
  .rw[if_neg q]at hj
   subst hj
   simp[exs,ev,biW,minW,q,idxW,hg1,ha]
 have low:∀(x:Str),lot<=3->atI [W.str sDot,.str sLt,.str sGt,.str sX,.str sDot,.str sDot] lot=some (.str x)->Raw g (.str x)->_:=λx hl ha R=>done (.str x) (h1'.new (.lst [W.str sDot,.str sLt,.str sGt,.str sX,.str sDot,.str sDot])) R (D1.new.mono (by lia)) K1.new (by
  refine(two x lot (if_neg (by lia)) ha _).trans ?_
  have n1:¬(4<lot):=by lia
  have n2:¬(lot=4):=by lia
  refine(zab (ρ':=[some (.ref d),some (.int co),some (.int wd),some (.int g),some (.int lot),some (.str x)]) (h':=h1'.new (.lst [W.str sDot,.str sLt,.str sGt,.str sX,.str sDot,.str sDot])) (by simp[exs,ev,cmpW,cmpI,n1])).trans ?_
  refine(zab (ρ':=[some (.ref d),some (.int co),some (.int wd),some (.int g),some (.int lot),some (.str x)]) (h':=h1'.new (.lst [W.str sDot,.str sLt,.str sGt,.str sX,.str sDot,.str sDot])) (by simp[exs,ev,cmpW,za5,n2])).trans ?_
  rfl)
 by_cases l4:lot<=3
 .have:lot=0\/lot=1\/lot=2\/lot=3:=by lia
  rcases this with z|z|z|z
  .exact low sDot l4 (by rw[z];rfl) .dot
  .exact low sLt l4 (by rw[z];rfl) .lt
  .exact low sGt l4 (by rw[z];rfl) .gt
  .exact low sX l4 (by rw[z];rfl) .x
 .by_cases l5:lot=4
  ·-- a blind place,or nothing
   obtain⟨r4,h4,e4,_,_,D4,K4⟩:=take C.toCoreD (k:=k) (m:=4) (D1.new (o:=.lst [W.str sDot,.str sLt,.str sGt,.str sX,.str sDot,.str sDot])) (by lia) (by decide) (by decide)
   have n1:¬(4<lot):=by lia
   have s3:∀rest:S,exs (run F (k+3)) (.seq (.ite (.and (.cmp .gt (.var 4) (.cst (.int (4)))) (.cmp .gt (.var 3) (.cst (.int (0))))) (.seq (.set 5 (.tup (.cons (.call 5 (.cons (.var 0) (.cons (.var 3) .nil))) (.cons (.call 5 (.cons (.var 0) (.cons (.cst (.int (2))) .nil))) .nil)))) .skip) .skip) rest) [some (.ref d),some (.int co),some (.int wd),some (.int g),some (.int lot),some (.str sDot)] (h1'.new (.lst [W.str sDot,.str sLt,.str sGt,.str sX,.str sDot,.str sDot]))=exs (run F (k+3)) rest [some (.ref d),some (.int co),some (.int wd),some (.int g),some (.int lot),some (.str sDot)] (h1'.new (.lst [W.str sDot,.str sLt,.str sGt,.str sX,.str sDot,.str sDot])):=λrest=>zab (by simp[exs,ev,cmpW,cmpI,n1])
   by_cases r0:r4=0
   .obtain⟨h5,e5,D5,K5⟩:=zbx (cl:=run F (k+3)) (fl:=.nx []) (w:=.str sS) (body:=fn21.body) (ρ:=[some (.ref d),some (.int co),some (.int wd),some (.int g),none,none]) (F:=F) (k:=k+3) (h:=h) (h':=h4) (b:=b+5) ((two sDot 4 (by rw[l5];rfl) rfl _).trans ((s3 _).trans (zas (by simp[exs,ev,cmpW,za5,l5,e4,r0])))) (.inr ⟨b,D⟩) (D4.mono (by lia)) (K1.new.trans K4)
    exact⟨_,h5,e5,may_s,D5,K5⟩
   .exact done (.str sDot) h4 .dot (D4.mono (by lia)) (K1.new.trans K4) ((two sDot 4 (by rw[l5];rfl) rfl _).trans ((s3 _).trans (zab (by simp[exs,ev,cmpW,za5,l5,e4,r0]))))
  ·-- a zbr,if there are groups
   have n1:4<lot:=by lia
   have n2:¬(lot=4):=by lia
   have ha:∃j:Int,(if(5:Int)<lot then 5 else lot)=j/\atI [W.str sDot,.str sLt,.str sGt,.str sX,.str sDot,.str sDot] j=some (.str sDot):=⟨5,by split<;>lia,rfl⟩
   obtain⟨j,hj,ha⟩:=ha
   by_cases hg:0<g
   .obtain⟨ra,h4,e4,a0,a1,D4,K4⟩:=take C.toCoreD (k:=k) (m:=g) (D1.new (o:=.lst [W.str sDot,.str sLt,.str sGt,.str sX,.str sDot,.str sDot])) (by lia) hg (by lia)
    obtain⟨rb,h5,e5,b0,b1,D5,K5⟩:=take C.toCoreD (k:=k) (m:=2) D4 (by lia) (by decide) (by decide)
    exact done (.tup [.int ra,.int rb]) h5 (.rk a0 a1 b0 b1) (D5.mono (by lia)) ((K1.new.trans K4).trans K5) ((two sDot j hj ha _).trans ((zab (ρ':=[some (.ref d),some (.int co),some (.int wd),some (.int g),some (.int lot),some (.tup [.int ra,.int rb])]) (h':=h5) (by simp[exs,ev,cmpW,cmpI,n1,hg,e4,e5])).trans (zab (by simp[exs,ev,cmpW,za5,n2]))))
   .exact done (.str sDot) (h1'.new (.lst [W.str sDot,.str sLt,.str sGt,.str sX,.str sDot,.str sDot])) .dot (D1.new.mono (by lia)) K1.new ((two sDot j hj ha _).trans ((zab (ρ':=[some (.ref d),some (.int co),some (.int wd),some (.int g),some (.int lot),some (.str sDot)]) (h':=h1'.new (.lst [W.str sDot,.str sLt,.str sGt,.str sX,.str sDot,.str sDot])) (by simp[exs,ev,cmpW,cmpI,n1,hg])).trans (zab (by simp[exs,ev,cmpW,za5,n2]))))
end
noncomputable def allF(P:Int->W->Prop):Int->List W->Prop
 |_,[]=>True
 |a,w::r=>P a w/\allF P (a+1) r
theorem zco{P:W->Prop}:∀{ws:List W} {a:Int},allF (λ_ w=>P w) a ws->∀w∈ws,P w
 |[],_,_,w,h=>by cases h
 |x::r,a,⟨h1,h2⟩,w,h=>by
  rcases vax.mp h with rfl|h
  .exact h1
  .exact zco h2 w h
theorem zcz{cl:Call}{P:Int->W->Prop}{e:E}{tl:En}{d c m lim:Nat}(hs:∀(i:Int) (h:VH) (b:Nat),0<=i->i<lim->Dk h d c b->b+m<1000000000->∃w h',ev cl e (some (.int i)::tl) h=.ok w h'/\P i w/\Dk h' d c (b+m)/\Keep h h' d c) :
 ∀(n:Nat)(a:Int)(x:Option W)(h:VH)(b:Nat),0<=a->a+n<=lim->Dk h d c b->b+m*n<1000000000->
  ∃ws h',lcL (tgW (.one 0)) (λ_ h=>.ok (.bl true) h) (ev cl e) (zbd a n) (x::tl) h=.ok ws h'/\allF P a ws/\ws.length=n/\Dk h' d c (b+m*n)/\Keep h h' d c
 |0,a,x,h,b,_,_,D,_=>⟨[],h,rfl,trivial,rfl,by simpa using D,.refl⟩
 |n+1,a,x,h,b,ha,hl,D,hb=>by
  have e1:m* (n+1)=m*n+m:=Nat.mul_succ m n
  obtain⟨w,h1,e2,p1,D1,K1⟩:=hs a h b ha (by lia) D (by lia)
  obtain⟨ws,h2,e3,p2,l2,D2,K2⟩:=zcz hs n (a+1) (some (.int a)) h1 (b+m) (by lia) (by lia) D1 (by lia)
  refine⟨w::ws,h2,?_,⟨p1,p2⟩,by rw[vap,l2],D2.mono (by lia),K1.trans K2⟩
  simp only[zbd,lcL,tgW,List.set,ev,bindok,e2,e3]
theorem zdw{n:Nat}(h:n<=1000000):Nat.ble n big=true:=vd8.mpr (vbx h (by decide))
theorem zrl{cl:Call}{a:E}{ρ:En}{h h1 h2:VH}{n ow:Nat}{ix:List Nat}{e:E}{ys:List W}(ea:ev cl a ρ h=.ok (.tup [.int n]) h1)(hn:n<1000000)(el:lcL (tgW (.one 0)) (λ_ h=>.ok (.bl true) h) (ev cl e) (zbd 0 n) (inner ow ix ρ) h1=.ok ys h2)(hy:ys.length<=1000000) :
 ev cl (.lc .rng1 a (.one 0) ow ix (.cst (.bl true)) e) ρ h=.ok (.ref h2.n) (h2.new (.lst ys)):=by
 have l:=zxt (n:=n) (tg:=tgW (.one 0)) (c:=λ_ h=>.ok (.bl true) h) (e:=ev cl e) (ρ:=inner ow ix ρ) (h:=h1) hn
 rw[el]at l
 have q:ev cl (.lc .rng1 a (.one 0) ow ix (.cst (.bl true)) e) ρ h=(ev cl a ρ h).bind λx h=>(lcG (nxt .rng1 x) (tgW (.one 0)) (ev cl (.cst (.bl true))) (ev cl e) fuel 0 (inner ow ix ρ) h []).bind λys h=>if Nat.ble ys.length big then .ok (.ref h.n) (h.new (.lst ys))else .no:=by rw[ev]
 rw[q,ea,bindok]
 show(lcG (nxt .rng1 (.tup [.int n])) (tgW (.one 0)) (λ_ h=>.ok (.bl true) h) (ev cl e) fuel 0 (inner ow ix ρ) h1 []).bind _=_
 rw[l,bindok,if_pos (zdw hy)]
theorem zny{cl:Call}{x:E}{ρ:En}{h h1:VH}{i:Nat}{ys:List W}(e:ev cl x ρ h=.ok (.ref i) h1)(g:h1.get i=some (.lst ys)):ev cl (.bi .tuple (.cons x .nil)) ρ h=.ok (.tup ys) h1:=by
 simp only[ev,e,bindok,biW,zer,seqW,g,va1,ofsome]
theorem zig{cl:Call}{a:E}{ρ:En}{h h1 h2:VH}{n ow:Nat}{ix:List Nat}{e:E}{ys:List W}(ea:ev cl a ρ h=.ok (.tup [.int n]) h1)(hn:n<1000000)(el:lcL (tgW (.one 0)) (λ_ h=>.ok (.bl true) h) (ev cl e) (zbd 0 n) (inner ow ix ρ) h1=.ok ys h2)(hy:ys.length<=1000000) :
 ev cl (.bi .tuple (.cons (.lc .rng1 a (.one 0) ow ix (.cst (.bl true)) e) .nil)) ρ h=.ok (.tup ys) (h2.new (.lst ys)):=zny (zrl ea hn el hy) zat
theorem zf1{wd g:Int}:∀{ws:List W} {c:Int},allF (λi w=>zac w i wd g=true) c ws->rowOk wd g c ws
 |[],_,_=>trivial
 |_::_,_,⟨h1,h2⟩=>⟨h1,zf1 h2⟩
section
variable{F:Nat->Option Fn}(C:CoreP F)
include C
theorem row{k:Nat}{h:VH}{d c b:Nat}{wd:Nat}{g:Int}(D:Dk h d c b)(hb:b+200<1000000000)(h1:wd<=40)(g0:0<=g)(g1:g<=8) :
 ∃ws h',run F (k+5) 25 [.ref d,.int wd,.int g] h=.ok (.tup ws) h'/\ws.length=wd/\rowOk wd g 0 ws/\Dk h' d c (b+200)/\Keep h h' d c:=by
 rw[zaj C.f25 rfl]
 have D0:Dk ⟨h.n,h.n,h.os⟩ d c b:=D.lo
 obtain⟨ws,h2,e2,p2,l2,D2,K2⟩:=zcz (cl:=run F (k+4)) (P:=λi w=>zac w i wd g=true) (e:=zgx) (tl:=[some (.ref d),some (.int g),some (.int wd)]) (m:=5) (lim:=wd) (λi h b h0 hl D hb=>by
  obtain⟨w,h',e,a1,a2,a3⟩:=piece C (k:=k) (co:=i) (wd:=wd) (g:=g) D hb h0 hl g0 g1
  exact⟨w,h',by simp[zgx,ev,e],a1,a2,a3⟩) wd 0 none ⟨h.n,h.n,h.os⟩ b (by lia) (by lia) D0 (by lia)
 have e3:=zig (cl:=run F (k+4)) (a:=.cons (.var 1) .nil) (ρ:=[some (.ref d),some (.int wd),some (.int g)]) (h:=⟨h.n,h.n,h.os⟩) (ow:=1) (ix:=[0,2,1]) (e:=zgx) (by simp[ev]) (by lia) e2 (by lia)
 obtain⟨h5,e5,D5,K5⟩:=zbx (cl:=run F (k+4)) (fl:=.nx []) (w:=.tup ws) (body:=fn25.body) (ρ:=[some (.ref d),some (.int wd),some (.int g)]) (F:=F) (k:=k+4) (h:=h) (h':=h2.new (.lst ws)) (by simp only[fn25,exs,e3,bindok]) (.inr ⟨b,D⟩) (D2.new.mono (show _<=b+200 by lia)) K2.new
 exact⟨ws,h5,e5,l2,zf1 p2,D5,K5⟩
theorem zlk{k:Nat}{h:VH}{d c b:Nat}{nf:Int}(D:Dk h d c b)(hb:b+5<1000000000)(n0:1<=nf)(n1:nf<=4) :
 ∃w h',run F (k+4) 23 [.ref d,.int nf] h=.ok w h'/\door w nf=true/\Dk h' d c (b+5)/\Keep h h' d c:=by
 rw[zaj C.f23 rfl]
 have D0:Dk ⟨h.n,h.n,h.os⟩ d c b:=D.lo
 obtain⟨r1,h1,e1,a1,b1,D1,K1⟩:=take C.toCoreD (k:=k) (m:=3) D0 (by lia) (by decide) (by decide)
 obtain⟨r2,h2,e2,a2,b2,D2,K2⟩:=take C.toCoreD (k:=k) (m:=100) D1 (by lia) (by decide) (by decide)
 have hg:=zat (h:=h2) (o:=.lst [.int r1,.int r2])
 obtain⟨r3,h3,e3,a3,b3,D3,K3⟩:=take C.toCoreD (k:=k) (m:=4) (D2.new (o:=.lst [.int r1,.int r2])) (by lia) (by decide) (by decide)
 obtain⟨r4,h4,e4,a4,b4,D4,K4⟩:=take C.toCoreD (k:=k) (m:=nf) D3 (by lia) (by lia) (by lia)
 obtain⟨r5,h5,e5,a5,b5,D5,K5⟩:=take C.toCoreD (k:=k) (m:=8) D4 (by lia) (by decide) (by decide)
 obtain⟨_,ns,cells,p,q,gd,gc,_⟩:=D2
 have hg3:h3.get h2.n=some (.lst [.int r1,.int r2]):=K3.get _ _ (vck (zao gd)) (vck (zao gc)) hg
 have KK:Keep ⟨h.n,h.n,h.os⟩ h5 d c:=((((K1.trans K2).new (o:=.lst [.int r1,.int r2])).trans K3).trans K4).trans K5
 have nm:∃x:Int,0<=x/\x<=99/\exs (run F (k+3)) (.set 2 (.idx (.lst (.cons (.call 5 (.cons (.var 0) (.cons (.cst (.int (3))) .nil))) (.cons (.call 5 (.cons (.var 0) (.cons (.cst (.int (100))) .nil))) .nil))) (.bi .int (.cons (.cmp .eq (.call 5 (.cons (.var 0) (.cons (.cst (.int (4))) .nil))) (.cst (.int (0)))) .nil)))) [some (.ref d),some (.int nf),none,none] ⟨h.n,h.n,h.os⟩=.ok (.nx [some (.ref d),some (.int nf),some (.int x),none]) h3:=by
  have i0:atI [W.int r1,.int r2] 0=some (.int r1):=rfl
  have i1:atI [W.int r1,.int r2] 1=some (.int r2):=rfl
  by_cases z:r3=0
  .exact⟨r2,a2,by lia,by simp[exs,ev,e1,e2,e3,cmpW,za5,z,biW,intW,idxW,hg3,i1]⟩
  .exact⟨r1,a1,by lia,by simp[exs,ev,e1,e2,e3,cmpW,za5,z,biW,intW,idxW,hg3,i0]⟩
 obtain⟨x,x0,x1,ex⟩:=nm
 have e6:exs (run F (k+3)) (.set 3 (.call 5 (.cons (.var 0) (.cons (.var 1) .nil)))) [some (.ref d),some (.int nf),some (.int x),none] h3=.ok (.nx [some (.ref d),some (.int nf),some (.int x),some (.int r4)]) h4:=by simp[exs,ev,e4]
 have hd:∀w:W,w=.tup [.int x,.non]\/w=.tup [.int x,.int r4]->door w nf=true:=by
  intro w hw
  rcases hw with rfl|rfl
  .simp[door,within,fon,isNon,x0,x1]
  .simp only[door,within,fon,isNon,vac,vaj,vdb]
   lia
 have body:∃w,exs (run F (k+3)) fn23.body [some (.ref d),some (.int nf),none,none] ⟨h.n,h.n,h.os⟩=.ok (.rt w) h5/\door w nf=true:=by
  by_cases z:r5=0
  .exact⟨.tup [.int x,.non],(zab ex).trans ((zab e6).trans (by simp[exs,ev,e5,cmpW,za5,z])),hd _ (.inl rfl)⟩
  .exact⟨.tup [.int x,.int r4],(zab ex).trans ((zab e6).trans (by simp[exs,ev,e5,cmpW,za5,z])),hd _ (.inr rfl)⟩
 obtain⟨w,eb,hw⟩:=body
 obtain⟨h6,e7,D6,K6⟩:=zbx (cl:=run F (k+3)) (fl:=.nx []) eb (.inr ⟨b,D⟩) (D5.mono (show _<=b+5 by lia)) KK
 exact⟨w,h6,e7,hw,D6,K6⟩
theorem ztq{k:Nat}{d c wd n b:Nat}{g:Int}{h:VH}{x:Option W}(D:Dk h d c b)(hb:b+200*n<1000000000)(h1:wd<=40)(g0:0<=g)(g1:g<=8) :
 ∃(rs:List (List W)) (h':VH),lcL (tgW (.one 0)) (λ_ h=>.ok (.bl true) h) (ev (run F (k+5)) (.call 25 (.cons (.var 1) (.cons (.var 3) (.cons (.var 2) .nil))))) (zbd 0 n) [x,some (.ref d),some (.int g),some (.int wd)] h=.ok (rs.map .tup) h'/\rs.length=n/\(∀r∈rs,(r.length:Int)=wd/\rowOk wd g 0 r)/\Dk h' d c (b+200*n)/\Keep h h' d c:=by
 obtain⟨ws,h',e,p,l,D',K'⟩:=zcz (cl:=run F (k+5)) (P:=λ_ w=>∃r,w=.tup r/\(r.length:Int)=wd/\rowOk wd g 0 r) (e:=.call 25 (.cons (.var 1) (.cons (.var 3) (.cons (.var 2) .nil)))) (tl:=[some (.ref d),some (.int g),some (.int wd)]) (m:=200) (lim:=n) (λi h b _ _ D hb=>by
  obtain⟨ws,h',e,a1,a2,a3,a4⟩:=row C (k:=k) (wd:=wd) (g:=g) D hb h1 g0 g1
  exact⟨.tup ws,h',by simp[ev,e],⟨ws,rfl,by lia,a2⟩,a3,a4⟩) n 0 x h b (by lia) (by lia) D hb
 replace p:=zco p
 have hr:∃rs:List (List W),ws=rs.map .tup/\∀r∈rs,(r.length:Int)=wd/\rowOk wd g 0 r:=by
  clear e l
  induction ws with
  |nil=>exact⟨[],rfl,λr hr=>by cases hr⟩
  |cons w ws ih=>
   obtain⟨rs,e1,e2⟩:=ih λw hw=>p w (vad _ hw)
   obtain⟨r,e3,e4⟩:=p w vaf
   refine⟨r::rs,by rw[e3,e1];rfl,λq hq=>?_⟩
   rcases vax.mp hq with rfl|hq
   .exact e4
   .exact e2 q hq
 obtain⟨rs,rfl,hrs⟩:=hr
 exact⟨rs,h',e,by rw[<-l,vab],hrs,D',K'⟩
theorem zll{k:Nat}{d c wd n b:Nat}{h:VH}{x:Option W}(D:Dk h d c b)(hb:b+1*n<1000000000)(h0:1<=wd)(h1:wd<=40) :
 ∃(fs:List W) (h':VH),lcL (tgW (.one 0)) (λ_ h=>.ok (.bl true) h) (ev (run F (k+3)) (.call 5 (.cons (.var 1) (.cons (.var 2) .nil)))) (zbd 0 n) [x,some (.ref d),some (.int wd)] h=.ok fs h'/\fs.length=n/\(∀f∈fs,within f 0 ((wd:Int)-1)=true)/\Dk h' d c (b+1*n)/\Keep h h' d c:=by
 obtain⟨ws,h',e,p,l,D',K'⟩:=zcz (cl:=run F (k+3)) (P:=λ_ w=>within w 0 ((wd:Int)-1)=true) (e:=.call 5 (.cons (.var 1) (.cons (.var 2) .nil))) (tl:=[some (.ref d),some (.int wd)]) (m:=1) (lim:=n) (λi h b _ _ D hb=>by
  obtain⟨r,h',e,a1,a2,a3,a4⟩:=take C.toCoreD (k:=k) (m:=wd) D (by lia) (by lia) (by lia)
  exact⟨.int r,h',by simp[ev,e],by simp only[within,vac,vaj];lia,a3,a4⟩) n 0 x h b (by lia) (by lia) D hb
 exact⟨ws,h',e,l,zco p,D',K'⟩
end
structure Gw(h h':VH):Prop where
 le:h.n<=h'.n
 lo:h'.lo=h.lo
 get:∀i o,h.get i=some o->h'.get i=some o
theorem Gw.refl{h:VH}:Gw h h:=⟨vai _,rfl,λ_ _ e=>e⟩
theorem Gw.trans{h h1 h2:VH}(a:Gw h h1)(b:Gw h1 h2):Gw h h2:=⟨vbx a.le b.le,b.lo.trans a.lo,λi o e=>b.get i o (a.get i o e)⟩
theorem Gw.new{h h':VH}{o:VO}(a:Gw h h'):Gw h (h'.new o):=⟨Nat.le_succ_of_le a.le,a.lo,λi o' e=>by
 have:=a.get i o' e
 rw[zak (zao this)];exact this⟩
theorem zbo{h h':VH}{w:W}{n:Nat}(g:Gw ⟨h.n,h.n,h.os⟩ h')(hw:∀m,W.lt m w=true):fin h (.ok (.rt w) h')=.ok w h:=zam (by rw[g.lo];exact vai _) (hw _)
theorem znz{n:Nat}(h:n<=1000000):Nat.blt n big=true:=zan.mpr (Nat.lt_of_le_of_lt h (by decide))
theorem ze0{h:VH}{xs ys:List W}(hl:xs.length+ys.length<=1000000):opW .add (.tup xs) (.tup ys) h=.ok (.tup (xs++ys)) h:=by
 have:opT .add xs ys=some (xs++ys):=if_pos (zdw hl)
 simp only[opW,this,va1,ofsome]
theorem rep1{w:W}:∀n:Nat,(vgc n [w]).flatten=vgc n w
 |0=>rfl
 |n+1=>by rw[vbd,vch,rep1 n,vbd];rfl
theorem zjb{h:VH}{w:W}{n:Nat}(hn:n<=1000000):opW .mul (.tup [w]) (.int n) h=.ok (.tup (vgc n w)) h:=by
 have hf:fits (n:Int)=true:=by unfold fits;rw[vac,vaj,vaj];lia
 have:repW .mul [w] n=some (vgc n w):=by
  unfold repW
  rw[if_pos (by
   rw[vac]
   exact⟨hf,zdw (by rw[vba,Nat.one_mul,vbt];exact hn)⟩)]
  rw[vbt,rep1]
 simp only[opW,this,va1,ofsome]
theorem zb0{cl:Call}{e:E}{tl:En}{f:W->W}:∀(ws:List W) (x:Option W) (h:VH),(∀w∈ws,∀h,∃h',ev cl e (some w::tl) h=.ok (f w) h'/\Gw h h')->∃h',lcL (tgW (.one 0)) (λ_ h=>.ok (.bl true) h) (ev cl e) ws (x::tl) h=.ok (ws.map f) h'/\Gw h h'
 |[],x,h,_=>⟨h,rfl,.refl⟩
 |w::r,x,h,hs=>by
  obtain⟨h1,e1,g1⟩:=hs w vaf h
  obtain⟨h2,e2,g2⟩:=zb0 r (some w) h1 λw hw=>hs w (vad _ hw)
  refine⟨h2,?_,g1.trans g2⟩
  simp only[lcL,tgW,List.set,bindok,e1,e2,vao]
theorem zjc{cl:Call}{e:E}{tl:En}{f:W->W}:∀(ws:List W) (x y:Option W) (h:VH),(∀w∈ws,∃a b,w=.tup [a,b]/\∀h,∃h',ev cl e (some a::some b::tl) h=.ok (f w) h'/\Gw h h')->∃h',lcL (tgW (.many [0,1])) (λ_ h=>.ok (.bl true) h) (ev cl e) ws (x::y::tl) h=.ok (ws.map f) h'/\Gw h h'
 |[],x,y,h,_=>⟨h,rfl,.refl⟩
 |w::r,x,y,h,hs=>by
  obtain⟨a,b,rfl,hw⟩:=hs w vaf
  obtain⟨h1,e1,g1⟩:=hw h
  obtain⟨h2,e2,g2⟩:=zjc r (some a) (some b) h1 λw hw=>hs w (vad _ hw)
  refine⟨h2,?_,g1.trans g2⟩
  simp only[lcL,tgW,seqW,za1,List.set,bindok,e1,e2,vao]
theorem ztr{cl:Call}{a:E}{ρ:En}{h h1 h2:VH}{ow:Nat}{ix:List Nat}{e:E}{t:Tg}{ws ys:List W}(ea:ev cl a ρ h=.ok (.tup ws) h1)(hn:ws.length<1000000)(el:lcL (tgW t) (λ_ h=>.ok (.bl true) h) (ev cl e) ws (inner ow ix ρ) h1=.ok ys h2)(hy:ys.length<=1000000) :
 ev cl (.lc .seq a t ow ix (.cst (.bl true)) e) ρ h=.ok (.ref h2.n) (h2.new (.lst ys)):=by
 have l:=zxs (ws:=ws) (tg:=tgW t) (c:=λ_ h=>.ok (.bl true) h) (e:=ev cl e) (ρ:=inner ow ix ρ) (h:=h1) hn
 rw[el]at l
 have q:ev cl (.lc .seq a t ow ix (.cst (.bl true)) e) ρ h=(ev cl a ρ h).bind λx h=>(lcG (nxt .seq x) (tgW t) (ev cl (.cst (.bl true))) (ev cl e) fuel 0 (inner ow ix ρ) h []).bind λys h=>if Nat.ble ys.length big then .ok (.ref h.n) (h.new (.lst ys))else .no:=by rw[ev]
 rw[q,ea,bindok]
 show(lcG (nxt .seq (.tup ws)) (tgW t) (λ_ h=>.ok (.bl true) h) (ev cl e) fuel 0 (inner ow ix ρ) h1 []).bind _=_
 rw[l,bindok,if_pos (zdw hy)]
theorem zbs{cl:Call}{a:E}{ρ:En}{h h1 h2:VH}{ow:Nat}{ix:List Nat}{e:E}{t:Tg}{ws ys:List W}(ea:ev cl a ρ h=.ok (.tup ws) h1)(hn:ws.length<1000000)(el:lcL (tgW t) (λ_ h=>.ok (.bl true) h) (ev cl e) ws (inner ow ix ρ) h1=.ok ys h2)(hy:ys.length<=1000000) :
 ev cl (.bi .tuple (.cons (.lc .seq a t ow ix (.cst (.bl true)) e) .nil)) ρ h=.ok (.tup ys) (h2.new (.lst ys)):=zny (ztr ea hn el hy) zat
theorem zdc{cl:Call}{i l:Nat}{x:E}{ρ:En}{h h1:VH}{w:W}{acc acc0:List W}(hρ:ρ[i]?=some (some (.ref l)))(g0:h.get l=some (.lst acc0))(e:ev cl x ρ h=.ok w h1)(g:h1.get l=some (.lst acc))(hl:acc.length<=1000000) :
 ev cl (.mt .append (.var i) (.cons x .nil)) ρ h=.ok .non (h1.set l (.lst (acc++[w]))):=by
 have hk:zhu .append h (.ref l)=true:=by simp only[zhu,g0]
 have hm:mtW .append (.ref l) [w] h1=.ok .non (h1.set l (.lst (acc++[w]))):=by
  simp only[mtW,g]
  rw[if_pos (znz hl)]
 simp only[ev,hρ,va6,ofsome,bindok,hk,va3,e,hm]
noncomputable def zae(by_:Int)(w:W):W:=match w with
 |.tup [.int a,b]=>.tup [.int (a+by_),b]
 |w=>w
noncomputable def keptC(n:Int)(w:W):W:=match w with
 |.int i=>if i<n then .int i else .non
 |_=>.non
noncomputable def keptD(n:Int)(w:W):W:=match w with
 |.tup [a,b]=>.tup [a,keptC n b]
 |w=>w
noncomputable def zah(A B:Bd):Bd:=⟨A.wd,A.gr+B.gr,A.rows++[vgc A.wd.toNat (.str sDot)]++B.rows.map λr=>r.map (zae A.gr),A.fd,B.dr.map (keptD A.fd.length)⟩
theorem ze1{w:W}{g:Int}(h:zbr w g=true):∃a b:Int,w=.tup [.int a,.int b]/\0<=a/\a<g/\0<=b/\b<2:=by
 cases w<;>simp only[zbr]at h<;>try(cases h;done)
 rename_i us
 rcases us with _|⟨a,_|⟨b,_|_⟩⟩<;>simp at h
 obtain⟨h1,h2⟩:=h
 cases a<;>simp[within]at h1
 cases b<;>simp[within]at h2
 exact⟨_,_,rfl,by lia,by lia,by lia,by lia⟩
theorem zcp{w:W}{c wd g:Int}(h:zac w c wd g=true):(∃x:Str,PyData.strOk x=true/\w=.str x)\/∃a b:Int,w=.tup [.int a,.int b]/\0<=a/\a<g/\0<=b/\b<2/\0<c/\c<wd-1:=by
 unfold zac at h
 split at h
 .rename_i q
  rw[vb3]at q
  rcases q with q|q
  .exact .inl ⟨_,by decide +kernel,zci q⟩
  .obtain⟨a,b,e,h1⟩:=ze1 q
   rw[vac,vaj,vaj]at h
   exact .inr ⟨a,b,e,h1.1,h1.2.1,h1.2.2.1,h1.2.2.2,h.1,h.2⟩
 .split at h
  .rename_i q;exact .inl ⟨_,by decide +kernel,zci q⟩
  .split at h
   .rename_i q;exact .inl ⟨_,by decide +kernel,zci q⟩
   .rw[vb3]at h
    rcases h with q|q
    .exact .inl ⟨_,by decide +kernel,zci q⟩
    .exact .inl ⟨_,by decide +kernel,zci q⟩
theorem zn0{x:Str}{c wd g g':Int}:zac (.str x) c wd g=zac (.str x) c wd g':=rfl
theorem zih{w:W}{c wd g a:Int}(ha:0<=a)(h:zac w c wd g=true):zac (zae a w) c wd (a+g)=true:=by
 rcases zcp h with⟨x,_,rfl⟩|⟨p,q,rfl,h1,h2,h3,h4,h5,h6⟩
 .exact(zn0 (g':=g)).trans h
 .exact zj8 (by lia) (by lia) h3 h4 h5 h6
theorem zj9{w:W}{c wd g b:Int}(hb:0<=b)(h:zac w c wd g=true):zac w c wd (g+b)=true:=by
 rcases zcp h with⟨x,_,rfl⟩|⟨p,q,rfl,h1,h2,h3,h4,h5,h6⟩
 .exact(zn0 (g':=g)).trans h
 .exact zj8 h1 (by lia) h3 h4 h5 h6
theorem ze2{wd g g':Int}{f:W->W}(hf:∀w c,zac w c wd g=true->zac (f w) c wd g'=true):∀{ws:List W} {c:Int},rowOk wd g c ws->rowOk wd g' c (ws.map f)
 |[],_,_=>trivial
 |_::_,_,⟨h1,h2⟩=>⟨hf _ _ h1,ze2 hf h2⟩
theorem zf2{wd g g':Int}(hf:∀w c,zac w c wd g=true->zac w c wd g'=true):∀{ws:List W} {c:Int},rowOk wd g c ws->rowOk wd g' c ws
 |[],_,_=>trivial
 |_::_,_,⟨h1,h2⟩=>⟨hf _ _ h1,zf2 hf h2⟩
theorem zdx{wd g:Int}:∀(n:Nat) (c:Int),rowOk wd g c (vgc n (.str sDot))
 |0,_=>trivial
 |n+1,c=>⟨zja,zdx n (c+1)⟩
theorem za9{w:W}{n:Int}(h:door w n=true):∃(a:Int) (b:W),w=.tup [.int a,b]/\0<=a/\a<=99/\(b=.non\/∃i:Int,b=.int i/\0<=i/\i<n):=by
 cases w<;>simp only[door]at h<;>try(cases h;done)
 rename_i us
 rcases us with _|⟨a,_|⟨b,_|_⟩⟩<;>simp at h
 obtain⟨h1,h2⟩:=h
 cases a<;>simp[within]at h1
 unfold fon at h2
 cases b<;>simp[within,isNon]at h2
 .exact⟨_,_,rfl,h1.1,h1.2,.inl rfl⟩
 .exact⟨_,_,rfl,h1.1,h1.2,.inr ⟨_,rfl,by lia,by lia⟩⟩
theorem zii{w:W}{n m:Int}(h:door w n=true):door (keptD m w) m=true:=by
 obtain⟨a,b,rfl,h1,h2,h3⟩:=za9 h
 rcases h3 with rfl|⟨i,rfl,h4,h5⟩
 .simp[keptD,keptC,door,within,fon,isNon,h1,h2]
 .by_cases q:i<m
  .simp only[keptD,keptC,if_pos q,door,within,fon,isNon,vdb,vac,vaj]
   lia
  .simp[keptD,keptC,if_neg q,door,within,fon,isNon,h1,h2]
theorem zec{A B:Bd}(a:A.Ok)(b:B.Ok)(hw:A.wd=B.wd)(hg:A.gr+B.gr<=8)(hr:A.rows.length+1+B.rows.length<=60):(zah A B).Ok:=by
 have hwn:((A.wd.toNat:Nat):Int)=A.wd:=vdg (by have:=a.w1;lia)
 refine⟨a.w1,a.w2,by have:=a.g1;have:=b.g1;show 0<=A.gr+B.gr;lia,hg,?_,?_,a.f1,a.f2,a.f3,?_,?_⟩
 .show(A.rows++[_]++B.rows.map _).length<=60
  simp only[vag,vba,vab]
  lia
 .intro r hr
  have hr:r∈A.rows++[vgc A.wd.toNat (.str sDot)]++B.rows.map λr=>r.map (zae A.gr):=hr
  show(r.length:Int)=A.wd/\rowOk A.wd (A.gr+B.gr) 0 r
  rcases vby.mp hr with hr|hr
  .rcases vby.mp hr with hr|hr
   .exact⟨(a.r2 r hr).1,zf2 (λw c h=>zj9 b.g1 h) (a.r2 r hr).2⟩
   .rw[vdm.mp hr]
    exact⟨by rw[vcl];exact hwn,zdx _ _⟩
  .obtain⟨q,hq,rfl⟩:=vaw.mp hr
   refine⟨by rw[vab,hw];exact(b.r2 q hq).1,?_⟩
   rw[hw]
   exact ze2 (λw c h=>zih a.g1 h) (b.r2 q hq).2
 .show((B.dr.map _).length:Int)=A.wd
  rw[vab,hw];exact b.d1
 .intro w hw
  obtain⟨q,hq,rfl⟩:=vaw.mp hw
  exact zii (b.d2 q hq)
theorem zij{wd g:Int}{n:Nat}:∀{ws:List W} {c:Int},rowOk wd g c ws->ws.all (zaw (n+2))=true
 |[],_,_=>rfl
 |_::_,_,⟨h1,h2⟩=>by rw[vb5,zbz h1,zij h2];rfl
theorem zg1{B:Bd}(b:B.Ok):zaw 24 B.w=true:=by
 have h1:(B.rows.map W.tup).all (zaw 22)=true:=by
  rw[vbi]
  intro w hw
  obtain⟨r,hr,rfl⟩:=vaw.mp hw
  exact zij (n:=19) (b.r2 r hr).2
 have h2:B.fd.all (zaw 22)=true:=by
  rw[vbi]
  intro w hw
  have:=b.f3 w hw
  cases w<;>simp[within]at this
  rfl
 have h3:B.dr.all (zaw 22)=true:=by
  rw[vbi]
  intro w hw
  obtain⟨a,c,rfl,_,_,h⟩:=za9 (b.d2 w hw)
  rcases h with rfl|⟨i,rfl,_⟩<;>rfl
 show(zaw 23 (.int B.wd)&& (zaw 23 (.int B.gr)&& (zaw 23 (.tup (B.rows.map .tup))&& (zaw 23 (.tup B.fd)&& (zaw 23 (.tup B.dr)&&true)))))=true
 rw[zb2,zb2,zb2,h1,h2,h3]
 rfl
noncomputable def stepP(w:W)(hd:Int)(ls:List Int):Option (Int×List Int×List Int):=match w with
 |.tup [.int g,.int s]=>some (if ls.getD g.toNat 0=s then -1 else 1,[g],ls.set g.toNat (1-ls.getD g.toNat 0))
 |.str x=>if x==sS then none else if x==sX then some (hd,[],ls)else if x==sDot then some (0,[],ls)else some (if x==sLt then -1 else 1,[],ls)
 |_=>none
noncomputable def colAt(r:List W)(c:Int):W:=(r[c.toNat]?).getD .non
structure Fa where
 cs:List Int
 ts:List Int
 ls:List Int
 st:Bool
noncomputable def fallP:List (List W)->Int->Int->List Int->Fa
 |[],_,_,ls=>⟨[],[],ls,false⟩
 |r::rs,c,hd,ls=>match stepP (colAt r c) hd ls with
  |none=>⟨[],[],ls,true⟩
  |some (d,t,l)=>⟨(c+d):: (fallP rs (c+d) d l).cs,t++(fallP rs (c+d) d l).ts,(fallP rs (c+d) d l).ls,(fallP rs (c+d) d l).st⟩
noncomputable def lastC:Int->List Int->Int
 |c,[]=>c
 |_,x::r=>lastC x r
noncomputable def Bits(ls:List Int):Prop:=∀x∈ls,x=0\/x=1
theorem zbg{w:W}{c wd g:Int}(h:zac w c wd g=true):(w=.str sX/\0<c/\c<wd-1)\/(w=.str sLt/\0<c)\/(w=.str sGt/\c<wd-1)\/w=.str sDot\/w=.str sS\/∃a b:Nat,w=.tup [.int a,.int b]/\(a:Int)<g/\b<2/\0<c/\c<wd-1:=by
 unfold zac at h
 split at h
 .rename_i q
  rw[vac,vaj,vaj]at h
  rw[vb3]at q
  rcases q with q|q
  .exact .inl ⟨zci q,h⟩
  .obtain⟨a,b,rfl,h1,h2,h3,h4⟩:=ze1 q
   obtain⟨a,rfl⟩:=vat h1
   obtain⟨b,rfl⟩:=vat h3
   exact .inr (.inr (.inr (.inr (.inr ⟨a,b,rfl,h2,by lia,h⟩))))
 .split at h
  .rename_i q;exact .inr (.inl ⟨zci q,by simpa using h⟩)
  .split at h
   .rename_i q;exact .inr (.inr (.inl ⟨zci q,by simpa using h⟩))
   .rw[vb3]at h
    rcases h with q|q
    .exact .inr (.inr (.inr (.inl (zci q))))
    .exact .inr (.inr (.inr (.inr (.inl (zci q)))))
theorem zn1{hd:Int}{ls:List Int}:stepP (.str sX) hd ls=some (hd,[],ls):=rfl
theorem zjd{hd:Int}{ls:List Int}:stepP (.str sLt) hd ls=some (-1,[],ls):=rfl
theorem zje{hd:Int}{ls:List Int}:stepP (.str sGt) hd ls=some (1,[],ls):=rfl
theorem zdd{hd:Int}{ls:List Int}:stepP (.str sDot) hd ls=some (0,[],ls):=rfl
theorem zn2{hd:Int}{ls:List Int}:stepP (.str sS) hd ls=none:=rfl
theorem zb5{hd:Int}{ls:List Int}{a b:Nat}:stepP (.tup [.int a,.int b]) hd ls=some (if ls.getD a 0=b then -1 else 1,[(a:Int)],ls.set a (1-ls.getD a 0)):=rfl
theorem zka{ls:List Int}(h:Bits ls)(a:Nat):ls.getD a 0=0\/ls.getD a 0=1:=by
 rw[vbh]
 cases q:ls[a]? with
 |none=>exact .inl rfl
 |some x=>exact h x (vdc q)
theorem zb6{w:W}{c wd g hd:Int}{ls:List Int}(h:zac w c wd g=true)(c0:0<=c)(c1:c<wd)(h1:-1<=hd)(h2:hd<=1)(b:Bits ls){d:Int}{t l:List Int}(e:stepP w hd ls=some (d,t,l)):-1<=d/\d<=1/\0<=c+d/\c+d<wd/\l.length=ls.length/\Bits l/\t.length<=1:=by
 rcases zbg h with⟨rfl,h3,h4⟩|⟨rfl,h3⟩|⟨rfl,h3⟩|rfl|rfl|⟨p,q,rfl,h3,h4,h5,h6⟩
 .rw[zn1]at e;cases e;exact⟨h1,h2,by lia,by lia,rfl,b,by simp⟩
 .rw[zjd]at e;cases e;exact⟨by lia,by lia,by lia,by lia,rfl,b,by simp⟩
 .rw[zje]at e;cases e;exact⟨by lia,by lia,by lia,by lia,rfl,b,by simp⟩
 .rw[zdd]at e;cases e;exact⟨by lia,by lia,by lia,by lia,rfl,b,by simp⟩
 .rw[zn2]at e;cases e
 .rw[zb5]at e;cases e
  refine⟨by split<;>lia,by split<;>lia,by split<;>lia,by split<;>lia,by simp,λx hx=>?_,by simp⟩
  rcases List.mem_or_eq_of_mem_set hx with hx|rfl
  .exact b x hx
  .rcases zka b p with q|q<;>rw[q]<;>lia
theorem zqh{w:W}{c wd hd:Int}{ls ms:List Int}(h:zac w c wd (ls.length:Int)=true):stepP w hd (ls++ms)=(stepP w hd ls).map λq=>(q.1,q.2.1,q.2.2++ms):=by
 rcases zbg h with⟨rfl,h3,h4⟩|⟨rfl,h3⟩|⟨rfl,h3⟩|rfl|rfl|⟨p,q,rfl,h3,h4,h5,h6⟩
 .rfl
 .rfl
 .rfl
 .rfl
 .rfl
 .rw[zb5,zb5]
  have hp:p<ls.length:=by lia
  have:(ls++ms).getD p 0=ls.getD p 0:=by
   rw[vbh,vbh,vbg hp]
  rw[this,List.set_append_left _ _ hp]
  rfl
theorem zlm{w:W}{c wd hd:Int}{ls ms:List Int}(h:zac w c wd (ms.length:Int)=true):stepP (zae (ls.length:Int) w) hd (ls++ms)=(stepP w hd ms).map λq=>(q.1,q.2.1.map (· + (ls.length:Int)),ls++q.2.2):=by
 rcases zbg h with⟨rfl,h3,h4⟩|⟨rfl,h3⟩|⟨rfl,h3⟩|rfl|rfl|⟨p,q,rfl,h3,h4,h5,h6⟩
 .rfl
 .rfl
 .rfl
 .rfl
 .rfl
 .have e:zae (ls.length:Int) (.tup [.int p,.int q])=.tup [.int ((p+ls.length:Nat):Int),.int q]:=by
   simp[zae]
  rw[e,zb5,zb5]
  have:(ls++ms).getD (p+ls.length) 0=ms.getD p 0:=by
   rw[vbh,vbh,vau (by lia),show p+ls.length-ls.length=p by lia]
  rw[this,vc7 _ _ (by lia),show p+ls.length-ls.length=p by lia]
  simp
noncomputable def zbi(wd g:Int)(rs:List (List W)):Prop:=∀r∈rs,(r.length:Int)=wd/\rowOk wd g 0 r
theorem zg2{wd g:Int}:∀{ws:List W} {c:Int} (i:Nat) {w:W},rowOk wd g c ws->ws[i]?=some w->zac w (c+i) wd g=true
 |[],_,_,_,_,e=>by simp at e
 |x::r,c,0,w,⟨h1,h2⟩,e=>by
  simp at e;subst e;simpa using h1
 |x::r,c,i+1,w,⟨h1,h2⟩,e=>by
  have:=zg2 i h2 (by simpa using e)
  rw[show c+ ((i+1:Nat):Int)=c+1+i by push_cast;lia]
  exact this
theorem zcj{wd g c:Int}{r:List W}(h:(r.length:Int)=wd/\rowOk wd g 0 r)(c0:0<=c)(c1:c<wd):r[c.toNat]?=some (colAt r c)/\zac (colAt r c) c wd g=true:=by
 obtain⟨n,rfl⟩:=vat c0
 have hn:n<r.length:=by lia
 have e:r[n]?=some r[n]:=va0 hn
 have e2:colAt r n=r[n]:=by
  unfold colAt
  rw[vbt,e];rfl
 rw[e2,vbt]
 refine⟨e,?_⟩
 have:=zg2 n h.2 e
 simpa using this
structure Fa.Ok(q:Fa)(wd:Int)(c:Int)(m n:Nat):Prop where
 l1:q.ls.length=n
 l2:Bits q.ls
 c1:∀x∈q.cs,0<=x/\x<wd
 c2:q.cs.length<=m
 c3:q.st=false->q.cs.length=m
 c5:q.st=true->q.cs.length<m
 c4:0<=lastC c q.cs/\lastC c q.cs<wd
 t1:q.ts.length<=m
theorem zjf{wd g:Int}:∀(rs:List (List W)) (c hd:Int) (ls:List Int),zbi wd g rs->0<=c->c<wd->-1<=hd->hd<=1->Bits ls->(fallP rs c hd ls).Ok wd c rs.length ls.length
 |[],c,hd,ls,_,c0,c1,_,_,b=>⟨rfl,b,by simp[fallP],by simp[fallP],by simp[fallP],by simp[fallP],⟨c0,c1⟩,by simp[fallP]⟩
 |r::rs,c,hd,ls,ok,c0,c1,h1,h2,b=>by
  obtain⟨_,hm⟩:=zcj (ok r vaf) c0 c1
  unfold fallP
  cases e:stepP (colAt r c) hd ls with
  |none=>exact⟨rfl,b,by simp,by simp,by simp,by simp,⟨c0,c1⟩,by simp⟩
  |some q=>
   obtain⟨d,t,l⟩:=q
   obtain⟨a1,a2,a3,a4,a5,a6,a7⟩:=zb6 hm c0 c1 h1 h2 b e
   have ih:=zjf rs (c+d) d l (λr hr=>ok r (vad _ hr)) a3 a4 a1 a2 a6
   refine⟨ih.l1.trans a5,ih.l2,λx hx=>?_,?_,λh=>?_,λh=>?_,ih.c4,?_⟩
   .rcases vax.mp hx with rfl|hx
    .exact⟨a3,a4⟩
    .exact ih.c1 x hx
   .simp only[vap];have:=ih.c2;lia
   .simp only[vap];have:=ih.c3 h;lia
   .simp only[vap];have:=ih.c5 h;lia
   .simp only[vap,vag];have:=ih.t1;lia
theorem zg3{wd:Int}:∀(rs:List (List W)) (c hd:Int) (ls ms:List Int),zbi wd (ls.length:Int) rs->0<=c->c<wd->-1<=hd->hd<=1->Bits ls->fallP rs c hd (ls++ms)=⟨(fallP rs c hd ls).cs,(fallP rs c hd ls).ts,(fallP rs c hd ls).ls++ms,(fallP rs c hd ls).st⟩
 |[],c,hd,ls,ms,_,c0,c1,_,_,b=>rfl
 |r::rs,c,hd,ls,ms,ok,c0,c1,h1,h2,b=>by
  obtain⟨_,hm⟩:=zcj (ok r vaf) c0 c1
  unfold fallP
  rw[zqh hm]
  cases e:stepP (colAt r c) hd ls with
  |none=>rfl
  |some q=>
   obtain⟨d,t,l⟩:=q
   obtain⟨a1,a2,a3,a4,a5,a6,a7⟩:=zb6 hm c0 c1 h1 h2 b e
   have ih:=zg3 rs (c+d) d l ms (λr hr=>by rw[a5];exact ok r (vad _ hr)) a3 a4 a1 a2 a6
   simp only[va1,ih]
theorem zdy{wd:Int}:∀(rs:List (List W)) (c hd:Int) (ls ms:List Int),zbi wd (ms.length:Int) rs->0<=c->c<wd->-1<=hd->hd<=1->Bits ms->fallP (rs.map λr=>r.map (zae (ls.length:Int))) c hd (ls++ms)=⟨(fallP rs c hd ms).cs,(fallP rs c hd ms).ts.map (· + (ls.length:Int)),ls++(fallP rs c hd ms).ls,(fallP rs c hd ms).st⟩
 |[],c,hd,ls,ms,_,c0,c1,_,_,b=>rfl
 |r::rs,c,hd,ls,ms,ok,c0,c1,h1,h2,b=>by
  obtain⟨hc,hm⟩:=zcj (ok r vaf) c0 c1
  have hc2:colAt (r.map (zae (ls.length:Int))) c=zae (ls.length:Int) (colAt r c):=by
   have:(r.map (zae (ls.length:Int)))[c.toNat]?=some (zae (ls.length:Int) (colAt r c)):=by
    rw[va2,hc];rfl
   show((r.map (zae (ls.length:Int)))[c.toNat]?).getD .non=_
   rw[this];rfl
  rw[vao]
  unfold fallP
  rw[hc2,zlm hm]
  cases e:stepP (colAt r c) hd ms with
  |none=>rfl
  |some q=>
   obtain⟨d,t,l⟩:=q
   obtain⟨a1,a2,a3,a4,a5,a6,a7⟩:=zb6 hm c0 c1 h1 h2 b e
   have ih:=zdy rs (c+d) d ls l (λr hr=>by rw[a5];exact ok r (vad _ hr)) a3 a4 a1 a2 a6
   simp only[va1,ih,vbn]
theorem za7{r:List W}{rs:List (List W)}{c hd:Int}{ls:List Int}(e:stepP (colAt r c) hd ls=none):fallP (r::rs) c hd ls=⟨[],[],ls,true⟩:=by
 unfold fallP
 rw[e]
theorem za2{r:List W}{rs:List (List W)}{c hd d:Int}{ls t l:List Int}(e:stepP (colAt r c) hd ls=some (d,t,l)):fallP (r::rs) c hd ls=⟨(c+d):: (fallP rs (c+d) d l).cs,t++(fallP rs (c+d) d l).ts,(fallP rs (c+d) d l).ls,(fallP rs (c+d) d l).st⟩:=by
 rw[fallP,e]
theorem zik{wd g:Int}{D:List W}{R:List (List W)}(hD:∀c:Int,0<=c->c<wd->colAt D c=.str sDot):∀(rs:List (List W)) (c hd:Int) (ls:List Int),zbi wd g rs->0<=c->c<wd->-1<=hd->hd<=1->Bits ls->
 fallP (rs++D::R) c hd ls=if(fallP rs c hd ls).st then fallP rs c hd ls else
  ⟨(fallP rs c hd ls).cs++lastC c (fallP rs c hd ls).cs:: (fallP R (lastC c (fallP rs c hd ls).cs) 0 (fallP rs c hd ls).ls).cs,(fallP rs c hd ls).ts++(fallP R (lastC c (fallP rs c hd ls).cs) 0 (fallP rs c hd ls).ls).ts,(fallP R (lastC c (fallP rs c hd ls).cs) 0 (fallP rs c hd ls).ls).ls,(fallP R (lastC c (fallP rs c hd ls).cs) 0 (fallP rs c hd ls).ls).st⟩
 |[],c,hd,ls,_,c0,c1,_,_,b=>by
  simp only[vcc,fallP,hD c c0 c1,zdd,lastC,Int.add_zero]
  rfl
 |r::rs,c,hd,ls,ok,c0,c1,h1,h2,b=>by
  obtain⟨hc,hm⟩:=zcj (ok r vaf) c0 c1
  rw[vcn]
  cases e:stepP (colAt r c) hd ls with
  |none=>rw[za7 e,za7 e];rfl
  |some q=>
   obtain⟨d,t,l⟩:=q
   obtain⟨a1,a2,a3,a4,a5,a6,a7⟩:=zb6 hm c0 c1 h1 h2 b e
   have ih:=zik (R:=R) hD rs (c+d) d l (λr hr=>ok r (vad _ hr)) a3 a4 a1 a2 a6
   rw[za2 e,za2 e,ih]
   by_cases hst:(fallP rs (c+d) d l).st=true
   .simp only[lastC,hst,va3]
   .simp[lastC,hst]
noncomputable def st3(h:VH)(gs:List VO)(c t l:List W):VH:=⟨h.n+3+gs.length,h.n,gs++(.lst l :: .lst t :: .lst c::h.os)⟩
theorem st_c{h:VH}{gs:List VO}{c t l:List W}:(st3 h gs c t l).get h.n=some (.lst c):=by
 unfold st3 VH.get
 rw[if_pos (zan.mpr (by show h.n<h.n+3+gs.length;lia))]
 show(gs++(.lst l :: .lst t :: .lst c::h.os))[h.n+3+gs.length-1-h.n]?=_
 rw[vau (by lia),show h.n+3+gs.length-1-h.n-gs.length=2 by lia]
 rfl
theorem st_t{h:VH}{gs:List VO}{c t l:List W}:(st3 h gs c t l).get (h.n+1)=some (.lst t):=by
 unfold st3 VH.get
 rw[if_pos (zan.mpr (by show h.n+1<h.n+3+gs.length;lia))]
 show(gs++(.lst l :: .lst t :: .lst c::h.os))[h.n+3+gs.length-1- (h.n+1)]?=_
 rw[vau (by lia),show h.n+3+gs.length-1- (h.n+1)-gs.length=1 by lia]
 rfl
theorem st_l{h:VH}{gs:List VO}{c t l:List W}:(st3 h gs c t l).get (h.n+2)=some (.lst l):=by
 unfold st3 VH.get
 rw[if_pos (zan.mpr (by show h.n+2<h.n+3+gs.length;lia))]
 show(gs++(.lst l :: .lst t :: .lst c::h.os))[h.n+3+gs.length-1- (h.n+2)]?=_
 rw[vau (by lia),show h.n+3+gs.length-1- (h.n+2)-gs.length=0 by lia]
 rfl
theorem zrm{a b:Nat}(h:b<=a):Nat.blt a b=false:=by
 cases q:Nat.blt a b with
 |false=>rfl
 |true=>have:=zan.mp q;lia
theorem zts{h:VH}{gs:List VO}{c t l c':List W}:(st3 h gs c t l).set h.n (.lst c')=st3 h gs c' t l:=by
 unfold st3 VH.set
 simp only[zrm (vai h.n)]
 rw[vc7 _ _ (by lia),show h.n+3+gs.length-1-h.n-gs.length=2 by lia]
 rfl
theorem ztt{h:VH}{gs:List VO}{c t l t':List W}:(st3 h gs c t l).set (h.n+1) (.lst t')=st3 h gs c t' l:=by
 unfold st3 VH.set
 simp only[zrm (vdf h.n)]
 rw[vc7 _ _ (by lia),show h.n+3+gs.length-1- (h.n+1)-gs.length=1 by lia]
 rfl
noncomputable def fn17:Fn:=⟨2,2,(.seq (.ret (.call 7 (.cons (.var 0) (.cons (.var 1) (.cons (.var 1) (.cons (.cst (.int (0))) (.cons (.cst (.int (1))) .nil))))))) .skip)⟩
noncomputable def zg4:E:=(.call 5 (.cons (.var 1) (.cons (.cst (.int (2))) .nil)))
noncomputable def fn20:Fn:=⟨2,2,(.seq (.ret (.bi .tuple (.cons (.lc .rng1 (.cons (.var 1) .nil) (.one 0) 1 [0] (.cst (.bl true)) zg4) .nil))) .skip)⟩
noncomputable def fn22:Fn:=⟨2,2,(.seq (.expr (.call 14 (.cons (.var 0) .nil))) (.seq (.ret (.call 17 (.cons (.var 1) (.cons (.idx (.var 0) (.cst (.int (1)))) .nil)))) .skip))⟩
noncomputable def fn24:Fn:=⟨2,2,(.seq (.ite (.not (.tru (.call 22 (.cons (.var 0) (.cons (.var 1) .nil))))) (.seq .no .skip) .skip) .skip)⟩
noncomputable def fn28:Fn:=⟨3,3,(.seq (.ret (.call 7 (.cons (.var 0) (.cons (.cst (.int (0))) (.cons (.var 2) (.cons (.cst (.int (0))) (.cons (.op .sub (.var 1) (.cst (.int (1)))) .nil))))))) .skip)⟩
noncomputable def zg5:E:=(.op .add (.var 0) (.var 1))
noncomputable def zkb:E:=(.op .add (.var 0) (.var 1))
noncomputable def fn120:Fn:=⟨2,19,(.seq (.expr (.call 14 (.cons (.var 0) .nil))) (.seq (.expr (.call 14 (.cons (.var 1) .nil))) (.seq (.unp [2,3,4,5,6] (.var 0)) (.seq (.unp [7,8,9,10,11] (.var 1)) (.seq (.set 12 (.op .add (.var 2) (.var 7))) (.seq (.set 13 (.op .add (.var 3) (.var 8))) (.seq (.set 14 (.op .add (.var 5) (.bi .tuple (.cons (.lc .seq (.var 10) (.one 0) 1 [2] (.cst (.bl true)) zg5) .nil)))) (.seq (.ite (.or (.cmp .gt (.var 12) (.cst (.int (40)))) (.or (.cmp .gt (.var 13) (.cst (.int (8)))) (.cmp .gt (.bi .len (.cons (.var 14) .nil)) (.cst (.int (4)))))) (.seq .no .skip) .skip) (.seq (.set 15 (.bi .max (.cons (.bi .len (.cons (.var 4) .nil)) (.cons (.bi .len (.cons (.var 9) .nil)) .nil)))) (.seq (.set 16 (.call 122 (.cons (.var 4) (.cons (.var 2) (.cons (.var 15) .nil))))) (.seq (.set 17 (.call 122 (.cons (.call 76 (.cons (.var 9) (.cons (.var 3) .nil))) (.cons (.var 7) (.cons (.var 15) .nil))))) (.seq (.set 18 (.bi .tuple (.cons (.lc .zip (.cons (.var 16) (.cons (.var 17) .nil)) (.many [0,1]) 2 [] (.cst (.bl true)) zkb) .nil))) (.seq (.ret (.tup (.cons (.var 12) (.cons (.var 13) (.cons (.var 18) (.cons (.var 14) (.cons (.op .add (.var 6) (.call 125 (.cons (.var 11) (.cons (.bi .len (.cons (.var 5) .nil)) .nil)))) .nil))))))) .skip)))))))))))))⟩
noncomputable def fn122:Fn:=⟨3,3,(.seq (.ret (.op .add (.var 0) (.op .mul (.tup (.cons (.op .mul (.tup (.cons (.cst (.str (vgb "."))) .nil)) (.var 1)) .nil)) (.op .sub (.var 2) (.bi .len (.cons (.var 0) .nil)))))) .skip)⟩
noncomputable def zde:E:=(.tup (.cons (.var 0) (.cons (.ite (.cmp .isn (.var 1) (.cst .non)) (.cst .non) (.op .add (.var 1) (.var 2))) .nil)))
noncomputable def fn125:Fn:=⟨2,2,(.seq (.ret (.bi .tuple (.cons (.lc .seq (.var 0) (.many [0,1]) 2 [1] (.cst (.bl true)) zde) .nil))) .skip)⟩
noncomputable def zkc:E:=(.call 25 (.cons (.var 1) (.cons (.var 3) (.cons (.var 2) .nil))))
noncomputable def zkd:E:=(.call 5 (.cons (.var 1) (.cons (.var 2) .nil)))
noncomputable def zke:E:=(.call 23 (.cons (.var 1) (.cons (.var 2) .nil)))
noncomputable def fn135:Fn:=⟨4,7,(.seq (.set 4 (.lc .rng1 (.cons (.call 5 (.cons (.var 0) (.cons (.cst (.int (7))) .nil))) .nil) (.one 0) 1 [0,3,1] (.cst (.bl true)) zkc)) (.seq (.set 5 (.bi .tuple (.cons (.lc .rng1 (.cons (.var 2) .nil) (.one 0) 1 [0,1] (.cst (.bl true)) zkd) .nil))) (.seq (.set 6 (.bi .tuple (.cons (.lc .rng1 (.cons (.var 1) .nil) (.one 0) 1 [0,2] (.cst (.bl true)) zke) .nil))) (.seq (.ret (.tup (.cons (.var 1) (.cons (.var 3) (.cons (.bi .tuple (.cons (.var 4) .nil)) (.cons (.var 5) (.cons (.var 6) .nil))))))) .skip))))⟩
noncomputable def fn173:Fn:=⟨4,7,(.seq (.ite (.tru (.isi .tuple (.var 0))) (.seq (.unp [4,5] (.var 0)) (.seq (.set 6 (.idx (.var 2) (.var 4))) (.seq (.ite (.cmp .ne (.var 4) (.var 3)) (.seq (.put (.var 2) (.var 4) (.op .sub (.cst (.int (1))) (.var 6))) .skip) .skip) (.seq (.ret (.ite (.cmp .eq (.var 6) (.var 5)) (.cst (.int (-1))) (.cst (.int (1))))) .skip)))) .skip) (.seq (.ite (.cmp .eq (.var 0) (.cst (.str (vgb "s")))) (.seq (.ret (.cst .non)) .skip) .skip) (.seq (.ite (.cmp .eq (.var 0) (.cst (.str (vgb "x")))) (.seq (.ret (.var 1)) .skip) .skip) (.seq (.ite (.cmp .eq (.var 0) (.cst (.str (vgb ".")))) (.seq (.ret (.cst (.int (0)))) .skip) .skip) (.seq (.ret (.ite (.cmp .eq (.var 0) (.cst (.str (vgb "<")))) (.cst (.int (-1))) (.cst (.int (1))))) .skip)))))⟩
noncomputable def zdf:S:=(.seq (.set 10 (.idx (.var 9) (.var 4))) (.seq (.set 8 (.call 173 (.cons (.var 10) (.cons (.var 8) (.cons (.var 7) (.cons (.var 3) .nil)))))) (.seq (.ite (.cmp .isn (.var 8) (.cst .non)) (.seq .brk .skip) .skip) (.seq (.ite (.and (.tru (.isi .tuple (.var 10))) (.cmp .ne (.idx (.var 10) (.cst (.int (0)))) (.var 3))) (.seq (.expr (.mt .append (.var 6) (.cons (.idx (.var 10) (.cst (.int (0)))) .nil))) .skip) .skip) (.seq (.aug 4 .add (.var 8)) (.seq (.expr (.mt .append (.var 5) (.cons (.var 4) .nil))) .skip))))))
noncomputable def fn174:Fn:=⟨4,11,(.seq (.set 4 (.idx (.idx (.var 0) (.cst (.int (3)))) (.var 2))) (.seq (.set 5 (.lst (.cons (.var 4) .nil))) (.seq (.set 6 (.lst .nil)) (.seq (.set 7 (.bi .list (.cons (.var 1) .nil))) (.seq (.set 8 (.cst (.int (0)))) (.seq (.«for» .seq (.idx (.var 0) (.cst (.int (2)))) (.one 9) zdf) (.seq (.ret (.tup (.cons (.bi .tuple (.cons (.var 5) .nil)) (.cons (.bi .tuple (.cons (.var 6) .nil)) (.cons (.bi .tuple (.cons (.var 7) .nil)) .nil))))) .skip)))))))⟩
noncomputable def fn175:Fn:=⟨4,8,(.seq (.unp [4,5,6] (.call 174 (.cons (.var 0) (.cons (.var 1) (.cons (.var 2) (.cons (.var 3) .nil)))))) (.seq (.set 7 (.ite (.cmp .gt (.bi .len (.cons (.var 4) .nil)) (.bi .len (.cons (.idx (.var 0) (.cst (.int (2)))) .nil))) (.idx (.var 4) (.neg (.cst (.int (1))))) (.cst .non))) (.seq (.ret (.tup (.cons (.var 7) (.cons (.var 6) .nil)))) .skip)))⟩
noncomputable def fn176:Fn:=⟨4,7,(.seq (.unp [4,5] (.call 175 (.cons (.var 0) (.cons (.var 1) (.cons (.var 2) (.cons (.var 3) .nil)))))) (.seq (.set 6 (.ite (.cmp .isn (.var 4) (.cst .non)) (.cst (.tup [.non,.non])) (.idx (.idx (.var 0) (.cst (.int (4)))) (.var 4)))) (.seq (.ret (.tup (.cons (.var 6) (.cons (.var 5) .nil)))) .skip)))⟩
theorem eqS{h:VH}{x y:Str}(hx:PyData.strOk x=true)(hy:PyData.strOk y=true):eqW h (.str x) (.str y)=some (x==y):=by
 rw[zdt (x:=y) (by exact hx) hy];rfl
@[simp] theorem eq_X_X {h:VH}:eqW h (.str sX) (.str (vgb "x"))=some true:=(eqS (by decide +kernel) (by decide +kernel)).trans (by decide +kernel)
@[simp] theorem eq_X_Lt {h:VH}:eqW h (.str sX) (.str (vgb "<"))=some false:=(eqS (by decide +kernel) (by decide +kernel)).trans (by decide +kernel)
@[simp] theorem eq_X_Gt {h:VH}:eqW h (.str sX) (.str (vgb ">"))=some false:=(eqS (by decide +kernel) (by decide +kernel)).trans (by decide +kernel)
@[simp] theorem eq_X_Dot {h:VH}:eqW h (.str sX) (.str (vgb "."))=some false:=(eqS (by decide +kernel) (by decide +kernel)).trans (by decide +kernel)
@[simp] theorem eq_X_S {h:VH}:eqW h (.str sX) (.str (vgb "s"))=some false:=(eqS (by decide +kernel) (by decide +kernel)).trans (by decide +kernel)
@[simp] theorem eq_Lt_X {h:VH}:eqW h (.str sLt) (.str (vgb "x"))=some false:=(eqS (by decide +kernel) (by decide +kernel)).trans (by decide +kernel)
@[simp] theorem eq_Lt_Lt {h:VH}:eqW h (.str sLt) (.str (vgb "<"))=some true:=(eqS (by decide +kernel) (by decide +kernel)).trans (by decide +kernel)
@[simp] theorem eq_Lt_Gt {h:VH}:eqW h (.str sLt) (.str (vgb ">"))=some false:=(eqS (by decide +kernel) (by decide +kernel)).trans (by decide +kernel)
@[simp] theorem eq_Lt_Dot {h:VH}:eqW h (.str sLt) (.str (vgb "."))=some false:=(eqS (by decide +kernel) (by decide +kernel)).trans (by decide +kernel)
@[simp] theorem eq_Lt_S {h:VH}:eqW h (.str sLt) (.str (vgb "s"))=some false:=(eqS (by decide +kernel) (by decide +kernel)).trans (by decide +kernel)
@[simp] theorem eq_Gt_X {h:VH}:eqW h (.str sGt) (.str (vgb "x"))=some false:=(eqS (by decide +kernel) (by decide +kernel)).trans (by decide +kernel)
@[simp] theorem eq_Gt_Lt {h:VH}:eqW h (.str sGt) (.str (vgb "<"))=some false:=(eqS (by decide +kernel) (by decide +kernel)).trans (by decide +kernel)
@[simp] theorem eq_Gt_Gt {h:VH}:eqW h (.str sGt) (.str (vgb ">"))=some true:=(eqS (by decide +kernel) (by decide +kernel)).trans (by decide +kernel)
@[simp] theorem eq_Gt_Dot {h:VH}:eqW h (.str sGt) (.str (vgb "."))=some false:=(eqS (by decide +kernel) (by decide +kernel)).trans (by decide +kernel)
@[simp] theorem eq_Gt_S {h:VH}:eqW h (.str sGt) (.str (vgb "s"))=some false:=(eqS (by decide +kernel) (by decide +kernel)).trans (by decide +kernel)
@[simp] theorem eq_Dot_X {h:VH}:eqW h (.str sDot) (.str (vgb "x"))=some false:=(eqS (by decide +kernel) (by decide +kernel)).trans (by decide +kernel)
@[simp] theorem eq_Dot_Lt {h:VH}:eqW h (.str sDot) (.str (vgb "<"))=some false:=(eqS (by decide +kernel) (by decide +kernel)).trans (by decide +kernel)
@[simp] theorem eq_Dot_Gt {h:VH}:eqW h (.str sDot) (.str (vgb ">"))=some false:=(eqS (by decide +kernel) (by decide +kernel)).trans (by decide +kernel)
@[simp] theorem eq_Dot_Dot {h:VH}:eqW h (.str sDot) (.str (vgb "."))=some true:=(eqS (by decide +kernel) (by decide +kernel)).trans (by decide +kernel)
@[simp] theorem eq_Dot_S {h:VH}:eqW h (.str sDot) (.str (vgb "s"))=some false:=(eqS (by decide +kernel) (by decide +kernel)).trans (by decide +kernel)
@[simp] theorem eq_S_X {h:VH}:eqW h (.str sS) (.str (vgb "x"))=some false:=(eqS (by decide +kernel) (by decide +kernel)).trans (by decide +kernel)
@[simp] theorem eq_S_Lt {h:VH}:eqW h (.str sS) (.str (vgb "<"))=some false:=(eqS (by decide +kernel) (by decide +kernel)).trans (by decide +kernel)
@[simp] theorem eq_S_Gt {h:VH}:eqW h (.str sS) (.str (vgb ">"))=some false:=(eqS (by decide +kernel) (by decide +kernel)).trans (by decide +kernel)
@[simp] theorem eq_S_Dot {h:VH}:eqW h (.str sS) (.str (vgb "."))=some false:=(eqS (by decide +kernel) (by decide +kernel)).trans (by decide +kernel)
@[simp] theorem eq_S_S {h:VH}:eqW h (.str sS) (.str (vgb "s"))=some true:=(eqS (by decide +kernel) (by decide +kernel)).trans (by decide +kernel)
theorem zqi{h0:VH}{gs:List VO}{c t l l':List W}{w:W}:leave (st3 h0 gs c t l) w (VH.set ⟨(st3 h0 gs c t l).n,(st3 h0 gs c t l).n,(st3 h0 gs c t l).os⟩ (h0.n+2) (.lst l'))=.ok w (st3 h0 gs c t l'):=by
 have hb:Nat.blt (h0.n+2) (h0.n+3+gs.length)=true:=zan.mpr (by lia)
 have hn:Nat.ble (h0.n+3+gs.length) (h0.n+2)=false:=by
  cases q:Nat.ble (h0.n+3+gs.length) (h0.n+2)with
  |false=>rfl
  |true=>have:=va5 q;lia
 have hl:Nat.ble h0.n (h0.n+2)=true:=vd8.mpr (by lia)
 unfold leave VH.set st3
 simp only[hb,va3,hn,vcp,hl]
 rw[if_neg (by simp),vc7 _ _ (by lia),show h0.n+3+gs.length-1- (h0.n+2)-gs.length=0 by lia]
 rfl
theorem zxu{ls:List Int}{a:Nat}(h:a<ls.length):atI (ls.map W.int) (a:Int)=some (.int (ls.getD a 0)):=
 zby (by rw[va2,va0 h,vbh,va0 h];rfl)
theorem ztu{n a:Nat}(h:a<n):ixN n (a:Int)=some a:=by
 unfold ixN
 rw[if_pos (by lia),if_pos (by lia)];simp
theorem zln{cl:Call}{a b:S}{ρ ρ':En}{h h':VH}(e:exs cl a ρ h=.ok (.bk ρ') h'):exs cl (.seq a b) ρ h=.ok (.bk ρ') h':=by
 simp only[exs,e,bindok]
theorem zxv{wd g c:Int}{r:List W}(ok:(r.length:Int)=wd/\rowOk wd g 0 r)(c0:0<=c)(c1:c<wd):atI r c=some (colAt r c):=by
 have:=(zcj ok c0 c1).1
 obtain⟨n,rfl⟩:=vat c0
 rw[vbt]at this
 exact zby this
noncomputable def iW(ls:List Int):W:=.tup (ls.map .int)
theorem iW_lt{n:Nat}{ls:List Int}:W.lt n (iW ls)=true:=by
 unfold iW
 rw[lt_tup]
 induction ls with
 |nil=>simp
 |cons x r ih=>rw[vao,lts_cons,ih,lt_int];rfl
theorem Bd.Ok.feeder{B:Bd}(b:B.Ok){f:Nat}(hf:f<B.fd.length):∃c:Int,B.fd[f]?=some (.int c)/\0<=c/\c<B.wd:=by
 have h:=b.f3 _ (List.getElem_mem hf)
 have e:B.fd[f]?=some B.fd[f]:=va0 hf
 generalize B.fd[f]=w at h e
 cases w<;>simp only[within]at h<;>try(cases h;done)
 rename_i c
 rw[vac,vaj,vaj]at h
 exact⟨c,e,h.1,by omega⟩
noncomputable def Bd.col(B:Bd)(f:Nat):Int:=match B.fd[f]? with
 |some (.int c)=>c
 |_=>0
theorem Bd.Ok.col{B:Bd}(b:B.Ok){f:Nat}(hf:f<B.fd.length):B.fd[f]?=some (.int (B.col f))/\0<=B.col f/\B.col f<B.wd:=by
 obtain⟨c,e,h⟩:=b.feeder hf
 have:B.col f=c:=by unfold Bd.col;rw[e]
 rw[this];exact⟨e,h⟩
noncomputable def Bd.fall(B:Bd)(ls:List Int)(f:Nat):Fa:=fallP B.rows (B.col f) 0 ls
theorem Bd.Ok.rows{B:Bd}(b:B.Ok){ls:List Int}(hl:(ls.length:Int)=B.gr):zbi B.wd (ls.length:Int) B.rows:=by
 rw[hl];exact b.r2
theorem Bd.Ok.fall{B:Bd}(b:B.Ok){ls:List Int}{f:Nat}(hf:f<B.fd.length)(hl:(ls.length:Int)=B.gr)(bi:Bits ls):(B.fall ls f).Ok B.wd (B.col f) B.rows.length ls.length:=
 zjf _ _ _ _ (b.rows hl) (b.col hf).2.1 (b.col hf).2.2 (by decide) (by decide) bi
noncomputable def wayW(B:Bd)(ls:List Int)(f:Nat):W:=.tup [iW (B.col f:: (B.fall ls f).cs),iW (B.fall ls f).ts,iW (B.fall ls f).ls]
theorem ztv{B:Bd}{ls:List Int}{f n:Nat}:W.lt n (wayW B ls f)=true:=by
 unfold wayW
 simp[iW_lt]
theorem zg6{cl:Call}{i l:Nat}{ρ:En}{h:VH}{ws:List W}(hρ:ρ[i]?=some (some (.ref l)))(g:h.get l=some (.lst ws)):ev cl (.bi .tuple (.cons (.var i) .nil)) ρ h=.ok (.tup ws) h:=by
 simp only[ev,hρ,va6,ofsome,bindok,biW,zer,seqW,g,va1]
theorem tup3{cl:Call}{a b c:E}{ρ:En}{h:VH}{x y z:W}(ea:ev cl a ρ h=.ok x h)(eb:ev cl b ρ h=.ok y h)(ec:ev cl c ρ h=.ok z h):ev cl (.tup (.cons a (.cons b (.cons c .nil)))) ρ h=.ok (.tup [x,y,z]) h:=by
 rw[ev,ev,ea,bindok,ev,eb,bindok,ev,ec,bindok,ev]
 rfl
theorem zkf:∀(cs:List Int) (c:Int),(c::cs)[cs.length]?=some (lastC c cs)
 |[],c=>rfl
 |x::r,c=>by
  rw[vap,vay]
  exact zkf r x
theorem ztw{cs:List Int}{c:Int}:atI ((c::cs).map W.int) (-1)=some (.int (lastC c cs)):=by
 have e:ixN ((c::cs).map W.int).length (-1)=some cs.length:=by
  unfold ixN
  rw[if_neg (by decide),vab,vap,if_pos (by lia)]
  congr 1
  lia
 unfold atI
 rw[e,Option.bind_some,va2,zkf]
 rfl
noncomputable def Bd.door(B:Bd)(c:Int):W:=(B.dr[c.toNat]?).getD .non
theorem Bd.Ok.door{B:Bd}(b:B.Ok){c:Int}(c0:0<=c)(c1:c<B.wd):atI B.dr c=some (B.door c)/\RF.door (B.door c) B.fd.length=true:=by
 obtain⟨n,rfl⟩:=vat c0
 have hd:=b.d1
 have hn:n<B.dr.length:=by lia
 have e:B.dr[n]?=some B.dr[n]:=va0 hn
 have e2:B.door n=B.dr[n]:=by
  unfold Bd.door
  rw[vbt,e];rfl
 rw[e2]
 exact⟨zby e,b.d2 _ (List.getElem_mem hn)⟩
noncomputable def outD(B:Bd)(ls:List Int)(f:Nat):W:=if(B.fall ls f).st then .tup [.non,.non]else B.door (lastC (B.col f) (B.fall ls f).cs)
theorem tup2{cl:Call}{a b:E}{ρ:En}{h:VH}{x y:W}(ea:ev cl a ρ h=.ok x h)(eb:ev cl b ρ h=.ok y h):ev cl (.tup (.cons a (.cons b .nil))) ρ h=.ok (.tup [x,y]) h:=by
 rw[ev,ev,ea,bindok,ev,eb,bindok,ev]
 rfl
theorem zn3{ls:List Int}{g:Int}(hl:(ls.length:Int)=g)(b:Bits ls):zch (iW ls) g g 0 1=true:=by
 unfold iW zch zaz
 simp only[vab,vac,vaj,vbi]
 refine⟨⟨by lia,by lia⟩,λw hw=>?_⟩
 obtain⟨x,hx,rfl⟩:=vaw.mp hw
 rcases b x hx with rfl|rfl<;>rfl
noncomputable def rowW(r:List Nat):List W:=r.map λ(f:Nat)=>W.int (f:Int)
noncomputable def zct(w:W):W:=match w with
 |.tup [n,_]=>n
 |_=>.non
noncomputable def nameP(B:Bd)(ls:List Int)(f:Nat):W:=zct (outD B ls f)
noncomputable def toldP(B:Bd):List Nat->List Int->List W×List Int
 |[],ls=>([],ls)
 |f::r,ls=>(nameP B ls f:: (toldP B r (B.fall ls f).ls).1,(toldP B r (B.fall ls f).ls).2)
theorem ze3{B:Bd}{ls:List Int}{f:Nat}(b:B.Ok)(hf:f<B.fd.length)(hl:(ls.length:Int)=B.gr)(bi:Bits ls):∃y,outD B ls f=.tup [nameP B ls f,y]/\(nameP B ls f=.non\/∃i:Int,nameP B ls f=.int i):=by
 unfold nameP outD
 cases z:(B.fall ls f).st with
 |true=>exact⟨.non,rfl,.inl rfl⟩
 |false=>
  have q:=b.fall hf hl bi
  obtain⟨a1,a2⟩:=b.door q.c4.1 q.c4.2
  obtain⟨a,y,e,_,_,_⟩:=za9 a2
  refine⟨y,?_,.inr ⟨a,?_⟩⟩
  .rw[if_neg (by simp),e];rfl
  .rw[if_neg (by simp),e];rfl
theorem zn4{B:Bd}{ls:List Int}{f:Nat}(b:B.Ok)(hf:f<B.fd.length)(hl:(ls.length:Int)=B.gr)(bi:Bits ls)(n:Nat):W.lt n (nameP B ls f)=true:=by
 obtain⟨_,_,e|⟨i,e⟩⟩:=ze3 b hf hl bi<;>rw[e]<;>simp
theorem ze4{B:Bd}(b:B.Ok):∀(r:List Nat) (ls:List Int),(∀f∈r,f<B.fd.length)->(ls.length:Int)=B.gr->Bits ls->(((toldP B r ls).2.length:Int)=B.gr/\Bits (toldP B r ls).2)/\(toldP B r ls).1.length=r.length/\∀w∈(toldP B r ls).1,w=.non\/∃i:Int,w=.int i
 |[],ls,_,hl,bi=>⟨⟨hl,bi⟩,rfl,by simp[toldP]⟩
 |f::r,ls,hr,hl,bi=>by
  have hf:=hr f vaf
  have q:=b.fall hf hl bi
  obtain⟨h1,h2,h3⟩:=ze4 b r (B.fall ls f).ls (λg hg=>hr g (vad _ hg)) (by rw[q.l1];exact hl) q.l2
  refine⟨h1,by simp only[toldP,vap,h2],λw hw=>?_⟩
  rcases vax.mp hw with rfl|hw
  .obtain⟨_,_,e⟩:=ze3 b hf hl bi;exact e
  .exact h3 w hw
structure CoreJ(F:Nat->Option Fn):Prop where
 b:CoreB F
 f75:F 75=some fn75
 f76:F 76=some fn76
 f96:F 96=some fn96
 f97:F 97=some fn97
 f98:F 98=some fn98
theorem zca{n:Nat}:∀{ws:List W},(∀w∈ws,W.lt n w=true)->W.lts n ws=true
 |[],_=>by simp
 |w::r,h=>by rw[lts_cons,h w vaf,zca λw hw=>h w (vad _ hw)];rfl
section
variable{F:Nat->Option Fn}(C:CoreJ F)
include C
theorem zjg{k:Nat}{h:VH}{w:W}{a c wd g:Int}(hm:zac w c wd g=true):run F (k+1) 75 [w,.int a] h=.ok (zae a w) h:=by
 rw[zaj C.f75 rfl]
 rcases zcp hm with⟨x,_,rfl⟩|⟨p,q,rfl,_⟩
 .simp[fn75,exs,ev,zae,zam]
 .simp[fn75,exs,ev,zae,zam,tgW,seqW,za1,opW,opI]
omit C in
theorem zbt{wd g:Int}:∀{ws:List W} {c:Int},rowOk wd g c ws->∀w∈ws,∃c,zac w c wd g=true
 |[],_,_,w,h=>by cases h
 |x::r,c,⟨h1,h2⟩,w,h=>by
  rcases vax.mp h with rfl|h
  .exact⟨c,h1⟩
  .exact zbt h2 w h
omit C in
theorem zdg{m:Nat}:∀(n:Nat) (w:W),zaw n w=true->W.lt m w=true
 |0,_,e=>by cases e
 |n+1,w,e=>by
  cases w<;>simp only[zaw]at e<;>try(cases e;done)
  .simp
  .simp
  .simp
  .simp
  .rw[lt_tup]
   exact zca λw hw=>zdg n w (vbi.mp e w hw)
theorem zlo{k:Nat}{h:VH}{rs:List (List W)}{a wd g:Int}(hl:rs.length<=60)(hr:∀r∈rs,(r.length:Int)<=40/\rowOk wd g 0 r):run F (k+2) 76 [.tup (rs.map .tup),.int a] h=.ok (.tup ((rs.map λr=>r.map (zae a)).map .tup)) h:=by
 rw[zaj C.f76 rfl]
 obtain⟨h2,e2,g2⟩:=zb0 (cl:=run F (k+1)) (e:=zex) (tl:=[some (.int a)]) (f:=λw=>match w with|.tup r=>.tup (r.map (zae a))|w=>w) (rs.map .tup) none ⟨h.n,h.n,h.os⟩ (λw hw h=>by
  obtain⟨r,hr',rfl⟩:=vaw.mp hw
  obtain⟨h40,ho⟩:=hr r hr'
  obtain⟨h3,e3,g3⟩:=zb0 (cl:=run F (k+1)) (e:=zcx) (tl:=[some (.int a)]) (f:=zae a) r none h (λw hw h=>by
   obtain⟨c,hm⟩:=zbt ho w hw
   exact⟨h,by simp[zcx,ev,zjg C hm],.refl⟩)
  exact⟨_,zbs (cl:=run F (k+1)) (a:=.var 0) (ρ:=[some (.tup r),some (.int a)]) (h:=h) (h1:=h) (ow:=1) (ix:=[1]) (e:=zcx) (by simp[ev]) (by lia) e3 (by rw[vab];lia),g3.new⟩)
 have e3:=zbs (cl:=run F (k+1)) (a:=.var 0) (ρ:=[some (.tup (rs.map .tup)),some (.int a)]) (h:=⟨h.n,h.n,h.os⟩) (h1:=⟨h.n,h.n,h.os⟩) (ow:=1) (ix:=[1]) (e:=zex) (by simp[ev]) (by rw[vab];lia) e2 (by rw[vab,vab];lia)
 have e4:(List.map (λw:W=>match w with|.tup r=>W.tup (r.map (zae a))|w=>w) (rs.map W.tup))=(rs.map λr=>r.map (zae a)).map W.tup:=by simp
 rw[e4]at e3
 have eb:exs (run F (k+1)) fn76.body [some (.tup (rs.map .tup)),some (.int a)] ⟨h.n,h.n,h.os⟩=.ok (.rt (.tup ((rs.map λr=>r.map (zae a)).map .tup))) (h2.new (.lst ((rs.map λr=>r.map (zae a)).map .tup))):=by
  simp only[fn76,exs,e3,bindok]
 show fin h (exs (run F (k+1)) fn76.body [some (.tup (rs.map .tup)),some (.int a)] ⟨h.n,h.n,h.os⟩)=_
 rw[eb]
 refine zbo (n:=0) g2.new λm=>?_
 rw[lt_tup]
 refine zca λw hw=>?_
 obtain⟨r,hr1,rfl⟩:=vaw.mp hw
 obtain⟨r0,hr2,rfl⟩:=vaw.mp hr1
 rw[lt_tup]
 refine zca λw hw=>?_
 obtain⟨w0,hw0,rfl⟩:=vaw.mp hw
 obtain⟨c,hm⟩:=zbt (hr r0 hr2).2 w0 hw0
 rcases zcp hm with⟨x,_,rfl⟩|⟨p,q,rfl,_⟩
 .simp[zae]
 .simp[zae]
theorem zn5{k:Nat}{h:VH}{w:W}{n:Int}(hw:w=.non\/∃i:Int,w=.int i):run F (k+1) 97 [w,.int n] h=.ok (keptC n w) h:=by
 rw[zaj C.f97 rfl]
 rcases hw with rfl|⟨i,rfl⟩
 .simp[fn97,exs,ev,cmpW,isNon,keptC,zam]
 .by_cases q:i<n<;>simp[fn97,exs,ev,cmpW,cmpI,isNon,keptC,q,zam]
theorem zlp{k:Nat}{h:VH}{ds:List W}{n m:Int}(hl:ds.length<=40)(hd:∀w∈ds,door w m=true):run F (k+2) 98 [.tup ds,.int n] h=.ok (.tup (ds.map (keptD n))) h:=by
 rw[zaj C.f98 rfl]
 obtain⟨h2,e2,g2⟩:=zjc (cl:=run F (k+1)) (e:=zgy) (tl:=[some (.int n)]) (f:=keptD n) ds none none ⟨h.n,h.n,h.os⟩ (λw hw=>by
  obtain⟨a,b,rfl,_,_,hb⟩:=za9 (hd w hw)
  refine⟨.int a,b,rfl,λh=>⟨h,?_,.refl⟩⟩
  have e:=zn5 C (k:=k) (h:=h) (w:=b) (n:=n) (hb.elim .inl λ⟨i,e,_⟩=>.inr ⟨i,e⟩)
  simp[zgy,ev,e,keptD])
 have e3:=zbs (cl:=run F (k+1)) (a:=.var 0) (ρ:=[some (.tup ds),some (.int n)]) (h:=⟨h.n,h.n,h.os⟩) (h1:=⟨h.n,h.n,h.os⟩) (ow:=2) (ix:=[1]) (e:=zgy) (by simp[ev]) (by lia) e2 (by rw[vab];lia)
 have eb:exs (run F (k+1)) fn98.body [some (.tup ds),some (.int n)] ⟨h.n,h.n,h.os⟩=.ok (.rt (.tup (ds.map (keptD n)))) (h2.new (.lst (ds.map (keptD n)))):=by simp only[fn98,exs,e3,bindok]
 show fin h (exs (run F (k+1)) fn98.body [some (.tup ds),some (.int n)] ⟨h.n,h.n,h.os⟩)=_
 rw[eb]
 refine zbo (n:=0) g2.new λj=>?_
 rw[lt_tup]
 refine zca λw hw=>?_
 obtain⟨w0,hw0,rfl⟩:=vaw.mp hw
 obtain⟨a,b,rfl,_,_,hb⟩:=za9 (hd w0 hw0)
 rcases hb with rfl|⟨i,rfl,_⟩
 .simp[keptD,keptC]
 .by_cases q:i<n<;>simp[keptD,keptC,q]
omit C in
theorem zqj{cl:Call}{ρ:En}{h:VH}{w r2:W}{R D M:List W}{g:W}(v2:ρ[2]?=some (some w))(v4:ρ[4]?=some (some (.tup R)))(v8:ρ[8]?=some (some r2))(v3:ρ[3]?=some (some g))(e1:opW .mul (.tup [.str sDot]) w h=.ok (.tup D) h)(e2:opW .add (.tup R) (.tup [.tup D]) h=.ok (.tup (R++[.tup D])) h)(e3:cl 76 [r2,g] h=.ok (.tup M) h)(e4:opW .add (.tup (R++[.tup D])) (.tup M) h=.ok (.tup (R++[.tup D]++M)) h) :
 exs cl (.set 11 (.op .add (.op .add (.var 4) (.tup (.cons (.op .mul (.tup (.cons (.cst (.str (vgb "."))) .nil)) (.var 2)) .nil))) (.call 76 (.cons (.var 8) (.cons (.var 3) .nil))))) ρ h=.ok (.nx (ρ.set 11 (some (.tup (R++[.tup D]++M))))) h:=by
 have a1:ev cl (.tup (.cons (.cst (.str (vgb "."))) .nil)) ρ h=.ok (.tup [.str sDot]) h:=rfl
 have a2:ev cl (.var 2) ρ h=.ok w h:=by simp only[ev,v2,va6,ofsome]
 have a4:ev cl (.var 4) ρ h=.ok (.tup R) h:=by simp only[ev,v4,va6,ofsome]
 have a8:ev cl (.var 8) ρ h=.ok r2 h:=by simp only[ev,v8,va6,ofsome]
 have a3:ev cl (.var 3) ρ h=.ok g h:=by simp only[ev,v3,va6,ofsome]
 have b1:ev cl (.op .mul (.tup (.cons (.cst (.str (vgb "."))) .nil)) (.var 2)) ρ h=.ok (.tup D) h:=by
  rw[ev,a1,bindok,a2,bindok,e1]
 have b2:ev cl (.tup (.cons (.op .mul (.tup (.cons (.cst (.str (vgb "."))) .nil)) (.var 2)) .nil)) ρ h=.ok (.tup [.tup D]) h:=by
  rw[ev,ev,b1,bindok]
  rfl
 have b3:ev cl (.call 76 (.cons (.var 8) (.cons (.var 3) .nil))) ρ h=.ok (.tup M) h:=by
  simp only[ev,v8,v3,va6,ofsome,bindok,e3]
 rw[exs,ev,ev,a4,bindok,b2,bindok,e2,bindok,b3,bindok,e4,bindok]
theorem below{k:Nat}{h:VH}{A B:Bd}(a:A.Ok)(b:B.Ok)(hw:A.wd=B.wd)(hg:A.gr+B.gr<=8)(hr:A.rows.length+1+B.rows.length<=60):run F (k+8) 96 [A.w,B.w] h=.ok (zah A B).w h:=by
 rw[zaj C.f96 rfl]
 obtain⟨wn,hwn⟩:=vat (show 0<=A.wd by have:=a.w1;lia)
 have h40:=a.w2
 have e1:=za8 C.b (k:=k) (h:=⟨h.n,h.n,h.os⟩) a
 have e2:=za8 C.b (k:=k) (h:=⟨h.n,h.n,h.os⟩) b
 have e3:=zlo C (k:=k+5) (h:=⟨h.n,h.n,h.os⟩) (a:=A.gr) (rs:=B.rows) (wd:=B.wd) (g:=B.gr) b.r1 (λr hr=>⟨by have:=(b.r2 r hr).1;have:=b.w2;lia,(b.r2 r hr).2⟩)
 have hd:=b.d1
 have hb40:=b.w2
 have e4:=zlp C (k:=k+5) (h:=⟨h.n,h.n,h.os⟩) (n:=A.fd.length) (m:=B.fd.length) (by lia) b.d2
 have t1:=zjb (h:=⟨h.n,h.n,h.os⟩) (w:=.str sDot) (n:=wn) (by lia)
 have t2:=ze0 (h:=⟨h.n,h.n,h.os⟩) (xs:=A.rows.map .tup) (ys:=[.tup (vgc wn (.str sDot))]) (by simp only[vab,vba];lia)
 have t3:=ze0 (h:=⟨h.n,h.n,h.os⟩) (xs:=A.rows.map .tup++[.tup (vgc wn (.str sDot))]) (ys:=(B.rows.map λr=>r.map (zae A.gr)).map .tup) (by simp only[vag,vab,vba];lia)
 have ne:eqW ⟨h.n,h.n,h.os⟩ (.int A.wd) (.int B.wd)=some true:=by rw[za5,hw];simp
 have c1:¬(8<A.gr+B.gr):=by lia
 have hpl:=zg1 (zec a b hw hg hr)
 have hlt:∀m,W.lt m (zah A B).w=true:=λm=>zdg 24 _ hpl
 have ew:(zah A B).w=.tup [.int A.wd,.int (A.gr+B.gr),.tup (A.rows.map .tup++[.tup (vgc wn (.str sDot))]++(B.rows.map λr=>r.map (zae A.gr)).map .tup),.tup A.fd,.tup (B.dr.map (keptD A.fd.length))]:=by
  have:A.wd.toNat=wn:=by rw[hwn];rfl
  simp only[zah,Bd.w,vbn,vao,vdi,this]
 rw[ew]at hlt ⊢
 have e0:opW .mul (.tup [.str sDot]) (.int A.wd) ⟨h.n,h.n,h.os⟩=.ok (.tup (vgc wn (.str sDot))) ⟨h.n,h.n,h.os⟩:=by rw[hwn];exact t1
 have s6:=zqj (cl:=run F (k+7)) (ρ:=[some A.w,some B.w,some (.int A.wd),some (.int A.gr),some (.tup (A.rows.map .tup)),some (.tup A.fd),some (.int B.wd),some (.int B.gr),some (.tup (B.rows.map .tup)),some (.tup B.fd),some (.tup B.dr),none,none]) (h:=⟨h.n,h.n,h.os⟩) rfl rfl rfl rfl e0 t2 e3 t3
 have eb:exs (run F (k+7)) fn96.body [some A.w,some B.w,none,none,none,none,none,none,none,none,none,none,none] ⟨h.n,h.n,h.os⟩=.ok (.rt (.tup [.int A.wd,.int (A.gr+B.gr),.tup (A.rows.map .tup++[.tup (vgc wn (.str sDot))]++(B.rows.map λr=>r.map (zae A.gr)).map .tup),.tup A.fd,.tup (B.dr.map (keptD A.fd.length))])) ⟨h.n,h.n,h.os⟩:=by
  refine(zab (ρ':=[some A.w,some B.w,none,none,none,none,none,none,none,none,none,none,none]) (h':=⟨h.n,h.n,h.os⟩) (by simp[exs,ev,e1])).trans ?_
  refine(zab (ρ':=[some A.w,some B.w,none,none,none,none,none,none,none,none,none,none,none]) (h':=⟨h.n,h.n,h.os⟩) (by simp[exs,ev,e2])).trans ?_
  refine(zab (ρ':=[some A.w,some B.w,some (.int A.wd),some (.int A.gr),some (.tup (A.rows.map .tup)),some (.tup A.fd),none,none,none,none,none,none,none]) (h':=⟨h.n,h.n,h.os⟩) (by unfold Bd.w;simp[exs,ev,partW,cutW,HT.sIx,tgW,seqW,za1])).trans ?_
  refine(zab (ρ':=[some A.w,some B.w,some (.int A.wd),some (.int A.gr),some (.tup (A.rows.map .tup)),some (.tup A.fd),some (.int B.wd),some (.int B.gr),some (.tup (B.rows.map .tup)),some (.tup B.fd),some (.tup B.dr),none,none]) (h':=⟨h.n,h.n,h.os⟩) (by unfold Bd.w;simp[exs,ev,tgW,seqW,za1])).trans ?_
  refine(zab (ρ':=[some A.w,some B.w,some (.int A.wd),some (.int A.gr),some (.tup (A.rows.map .tup)),some (.tup A.fd),some (.int B.wd),some (.int B.gr),some (.tup (B.rows.map .tup)),some (.tup B.fd),some (.tup B.dr),none,none]) (h':=⟨h.n,h.n,h.os⟩) (by simp[exs,ev,cmpW,ne])).trans ?_
  refine(zab (ρ':=[some A.w,some B.w,some (.int A.wd),some (.int A.gr),some (.tup (A.rows.map .tup)),some (.tup A.fd),some (.int B.wd),some (.int B.gr),some (.tup (B.rows.map .tup)),some (.tup B.fd),some (.tup B.dr),some (.tup (A.rows.map .tup++[.tup (vgc wn (.str sDot))]++(B.rows.map λr=>r.map (zae A.gr)).map .tup)),none]) (h':=⟨h.n,h.n,h.os⟩) s6).trans ?_
  refine(zab (ρ':=[some A.w,some B.w,some (.int A.wd),some (.int A.gr),some (.tup (A.rows.map .tup)),some (.tup A.fd),some (.int B.wd),some (.int B.gr),some (.tup (B.rows.map .tup)),some (.tup B.fd),some (.tup B.dr),some (.tup (A.rows.map .tup++[.tup (vgc wn (.str sDot))]++(B.rows.map λr=>r.map (zae A.gr)).map .tup)),some (.int (A.gr+B.gr))]) (h':=⟨h.n,h.n,h.os⟩) (by simp[exs,ev,opW,opI])).trans ?_
  have hlen:(A.rows.map W.tup++[W.tup (vgc wn (W.str sDot))]++List.map W.tup (List.map (λr:List W=>List.map (zae A.gr) r) B.rows)).length<=60:=by
   simp only[vag,vab,vba]
   lia
  generalize (A.rows.map W.tup++[W.tup (vgc wn (W.str sDot))]++List.map W.tup (List.map (λr:List W=>List.map (zae A.gr) r) B.rows))=R at hlen ⊢
  have hlen:¬((60:Int)< (R.length:Int)):=by lia
  simp[exs,ev,cmpW,cmpI,biW,lenW,seqW,c1,hlen,e4]
 show fin h (exs (run F (k+7)) fn96.body [some A.w,some B.w,none,none,none,none,none,none,none,none,none,none,none] ⟨h.n,h.n,h.os⟩)=_
 rw[eb]
 exact zbo (n:=0) .refl hlt
end
section
variable{F:Nat->Option Fn}(C:CoreD F)
include C
theorem zf3{k:Nat}:∀(ns:List Int) (x:Option W) (h:VH),∃cells:List Int,lcL (tgW (.one 0)) (ev (run F k) zd2) (ev (run F k) zd3) (ns.map .int) [x] h=.ok (cells.map .int) h/\(∀y∈cells,(0:Int)<=y)/\cells.length<=ns.length
 |[],x,h=>⟨[],rfl,(λy hy=>by cases hy),vai _⟩
 |n::ns,x,h=>by
  obtain⟨cells,e,h1,h2⟩:=zf3 (k:=k) ns (some (.int n)) h
  have s10:((10:Int).natAbs<2 ^ 64):=by decide
  have ec:ev (run F k) zd2 [some (.int n)] h=.ok (.bl (decide (1000000000000000000<=(n.natAbs:Int)))) h:=by
   simp[zd2,ev,biW,absW,opW,opI,cmpW,cmpI,zdv]
  have ee:ev (run F k) zd3 [some (.int n)] h=.ok (.int (n.natAbs:Int)) h:=by
   simp[zd3,ev,biW,absW,zdv]
  by_cases q:1000000000000000000<=(n.natAbs:Int)
  .refine⟨(n.natAbs:Int)::cells,?_,λy hy=>?_,by rw[vap,vap];lia⟩
   .simp only[lcL,vao,tgW,List.set,ec,bindok,q,vd4,ee,e]
   .rcases vax.mp hy with rfl|hy
    .lia
    .exact h1 y hy
  .refine⟨cells,?_,h1,by rw[vap];lia⟩
   simp only[lcL,vao,tgW,List.set,ec,bindok,q,decide_false,e]
theorem deck{k:Nat}{h:VH}{ns:List Int}(hl:ns.length<=63):∃h',run F (k+1) 3 [.fz (ns.map .int)] h=.ok (.ref (h.n+1)) h'/\Dk h' (h.n+1) h.n 0:=by
 rw[zaj C.f3 rfl]
 obtain⟨cells,e,h1,h2⟩:=zf3 C (k:=k) ns none ⟨h.n,h.n,h.os⟩
 have l:=zcn (nx:=nxt .seq (.fz (ns.map .int))) (tg:=tgW (.one 0)) (c:=ev (run F k) zd2) (e:=ev (run F k) zd3) (ws:=ns.map .int) (λi h=>rfl) fuel 0 [none] ⟨h.n,h.n,h.os⟩ [] (vbu _) (by rw[vab];unfold fuel;lia)
 rw[vdq,e]at l
 have l:lcG (nxt .seq (.fz (ns.map .int))) (tgW (.one 0)) (ev (run F k) zd2) (ev (run F k) zd3) fuel 0 [none] ⟨h.n,h.n,h.os⟩ []=.ok (cells.map .int) ⟨h.n,h.n,h.os⟩:=l
 have q:ev (run F k) (.lc .seq (.var 0) (.one 0) 1 [] zd2 zd3) [some (.fz (ns.map .int))] ⟨h.n,h.n,h.os⟩=.ok (.ref h.n) (VH.new ⟨h.n,h.n,h.os⟩ (.lst (cells.map .int))):=by
  rw[ev]
  have:ev (run F k) (.var 0) [some (.fz (ns.map .int))] ⟨h.n,h.n,h.os⟩=.ok (.fz (ns.map .int)) ⟨h.n,h.n,h.os⟩:=rfl
  rw[this,bindok]
  show(lcG (nxt .seq (.fz (ns.map .int))) (tgW (.one 0)) (ev (run F k) zd2) (ev (run F k) zd3) fuel 0 [none] ⟨h.n,h.n,h.os⟩ []).bind _=_
  rw[l,bindok,if_pos (zdw (by rw[vab];lia))]
 let h1':VH:=VH.new ⟨h.n,h.n,h.os⟩ (.lst (cells.map .int))
 let o:VO:=.lst [.fz (ns.map .int),.ref h.n,.int 0,.int 0]
 have eb:exs (run F k) fn3.body [some (.fz (ns.map .int))] ⟨h.n,h.n,h.os⟩=.ok (.rt (.ref (h.n+1))) (h1'.new o):=by
  simp only[fn3,exs,ev,bindok,ofsome,va9,va6]at q ⊢
  rw[q]
  rfl
 refine⟨⟨h.n+2,if Nat.ble h.lo h.n then h.lo else h.n,(h1'.new o).os⟩,?_,?_⟩
 .show fin h (exs (run F k) fn3.body [some (.fz (ns.map .int))] ⟨h.n,h.n,h.os⟩)=_
  rw[eb]
  show leave h (.ref (h.n+1)) (h1'.new o)=_
  unfold leave
  rw[if_neg (by
   rw[vac]
   intro z
   have:=z.2
   simp only[W.lt]at this
   have:=zan.mp this
   lia)]
  rfl
 .refine⟨by lia,ns,cells,0,0,?_,?_,h1,by lia,by lia,by lia,by lia⟩
  .show VH.get ⟨(h1'.new o).n,_,(h1'.new o).os⟩ (h.n+1)=_
   rw[get_lo]
   exact zat (h:=h1')
  .show VH.get ⟨(h1'.new o).n,_,(h1'.new o).os⟩ h.n=_
   rw[get_lo,zak (h:=h1') (by show h.n<h.n+1;lia)]
   exact zat (h:=⟨h.n,h.n,h.os⟩)
end
noncomputable def dots(wd:Int):List W:=vgc wd.toNat (.str sDot)
noncomputable def zap(wd:Int)(m:Nat)(rs:List (List W)):List (List W):=rs++vgc (m-rs.length) (dots wd)
noncomputable def plusW(n:Int)(w:W):W:=match w with
 |.int i=>.int (i+n)
 |w=>w
noncomputable def zbh(n:Int)(w:W):W:=match w with
 |.tup [a,b]=>.tup [a,plusW n b]
 |w=>w
noncomputable def hiR(A B:Bd):Nat:=max A.rows.length B.rows.length
noncomputable def zaa(A B:Bd):Bd:=
 ⟨A.wd+B.wd,A.gr+B.gr,List.zipWith (· ++ ·) (zap A.wd (hiR A B) A.rows) (zap B.wd (hiR A B) (B.rows.map λr=>r.map (zae A.gr))),A.fd++B.fd.map (plusW A.wd),A.dr++B.dr.map (zbh A.fd.length)⟩
theorem zkg{w:W}{c wd g:Int}{x y:Int}(hx:0<=x)(hy:0<=y)(h:zac w c wd g=true):zac w (x+c) (x+wd+y) g=true:=by
 rcases zbg h with⟨rfl,h3,h4⟩|⟨rfl,h3⟩|⟨rfl,h3⟩|rfl|rfl|⟨p,q,rfl,h3,h4,h5,h6⟩
 .have:zac (.str sX) (x+c) (x+wd+y) g=(decide (0<x+c)&&decide (x+c<x+wd+y-1)):=rfl
  rw[this,vac,vaj,vaj];lia
 .have:zac (.str sLt) (x+c) (x+wd+y) g=decide (x+c>0):=rfl
  rw[this,vaj];lia
 .have:zac (.str sGt) (x+c) (x+wd+y) g=decide (x+c<x+wd+y-1):=rfl
  rw[this,vaj];lia
 .rfl
 .rfl
 .exact zj8 (by lia) h3 (by lia) (by lia) (by lia) (by lia)
theorem zil{wd g:Int}:∀{xs ys:List W} {c:Int},rowOk wd g c xs->rowOk wd g (c+xs.length) ys->rowOk wd g c (xs++ys)
 |[],ys,c,_,h=>by simpa using h
 |x::xs,ys,c,⟨h1,h2⟩,h=>⟨h1,zil h2 (by rw[vap]at h;rw[show c+1+ (xs.length:Int)=c+ ((xs.length+1:Nat):Int) by push_cast;lia];exact h)⟩
theorem zdz{wd wd' g g' x:Int}{f:W->W}(hf:∀w c,zac w c wd g=true->zac (f w) (x+c) wd' g'=true):∀{ws:List W} {c:Int},rowOk wd g c ws->rowOk wd' g' (x+c) (ws.map f)
 |[],_,_=>trivial
 |_::_,c,⟨h1,h2⟩=>⟨hf _ _ h1,by rw[show x+c+1=x+ (c+1) by lia];exact zdz hf h2⟩
theorem zqk{wd:Int}(h:0<=wd):((dots wd).length:Int)=wd:=by
 unfold dots;rw[vcl];exact vdg h
theorem za3{wd:Int}{m:Nat}{rs:List (List W)}(h:rs.length<=m):(zap wd m rs).length=m:=by
 unfold zap;rw[vag,vcl];lia
theorem zbu{wd g:Int}{m:Nat}{rs:List (List W)}(h0:0<=wd)(h:zbi wd g rs):zbi wd g (zap wd m rs):=by
 intro r hr
 rcases vby.mp hr with hr|hr
 .exact h r hr
 .rw[(List.mem_replicate.mp hr).2]
  exact⟨zqk h0,zdx _ _⟩
theorem zn6{α:Type}:∀{xs ys:List (List α)} {r:List α},r∈List.zipWith (· ++ ·) xs ys->∃a∈xs,∃b∈ys,r=a++b
 |[],_,r,h=>by simp at h
 |_::_,[],r,h=>by simp at h
 |x::xs,y::ys,r,h=>by
  rw[vcs]at h
  rcases vax.mp h with rfl|h
  .exact⟨x,vaf,y,vaf,rfl⟩
  .obtain⟨a,ha,b,hb,e⟩:=zn6 h
   exact⟨a,vad _ ha,b,vad _ hb,e⟩
theorem zg7{B:Bd}(b:B.Ok){a:Int}(ha:0<=a):zbi B.wd (a+B.gr) (B.rows.map λr=>r.map (zae a)):=by
 intro r hr
 obtain⟨q,hq,rfl⟩:=vaw.mp hr
 exact⟨by rw[vab];exact(b.r2 q hq).1,ze2 (λw c h=>zih ha h) (b.r2 q hq).2⟩
theorem zlq{w:W}{n m:Int}(hm:0<=m)(h:door w n=true):door (zbh m w) (m+n)=true:=by
 obtain⟨a,b,rfl,h1,h2,h3⟩:=za9 h
 rcases h3 with rfl|⟨i,rfl,h4,h5⟩
 .simp[zbh,plusW,door,within,fon,isNon,h1,h2]
 .simp only[zbh,plusW,door,within,fon,isNon,vdb,vac,vaj]
  lia
theorem zn7{w:W}{n m:Int}(hm:0<=m)(h:door w n=true):door w (n+m)=true:=by
 obtain⟨a,b,rfl,h1,h2,h3⟩:=za9 h
 rcases h3 with rfl|⟨i,rfl,h4,h5⟩
 .simp[door,within,fon,isNon,h1,h2]
 .simp only[door,within,fon,isNon,vdb,vac,vaj]
  lia
theorem zc0{w:W}{a b:Int}(h:within w a b=true):∃i:Int,w=.int i/\a<=i/\i<=b:=by
 cases w<;>simp[within]at h
 exact⟨_,rfl,h⟩
theorem zck{A B:Bd}(a:A.Ok)(b:B.Ok)(hw:A.wd+B.wd<=40)(hg:A.gr+B.gr<=8)(hf:A.fd.length+B.fd.length<=4):(zaa A B).Ok:=by
 have a1:=a.w1;have b1:=b.w1;have ag:=a.g1;have bg:=b.g1;have ar:=a.r1;have br:=b.r1;have af:=a.f1
 have hm1:A.rows.length<=hiR A B:=vc8 ..
 have hm2:B.rows.length<=hiR A B:=vdu ..
 have hm3:hiR A B<=60:=Nat.max_le.mpr ⟨ar,br⟩
 refine⟨by show 1<=A.wd+B.wd;lia,hw,by show 0<=A.gr+B.gr;lia,hg,?_,?_,?_,?_,?_,?_,?_⟩
 .show(List.zipWith _ _ _).length<=60
  rw[vdh,za3 hm1,za3 (by rw[vab];exact hm2)];lia
 .intro r hr
  obtain⟨x,hx,y,hy,rfl⟩:=zn6 (show r∈List.zipWith (· ++ ·) (zap A.wd (hiR A B) A.rows) (zap B.wd (hiR A B) (B.rows.map λr=>r.map (zae A.gr)))from hr)
  obtain⟨x1,x2⟩:=zbu (g:=A.gr) (by lia) a.r2 x hx
  obtain⟨y1,y2⟩:=zbu (by lia) (zg7 b a.g1) y hy
  refine⟨by show((x++y).length:Int)=A.wd+B.wd;rw[vag];push_cast;lia,zil ?_ ?_⟩
  .have:=zdz (f:=id) (x:=0) (wd':=A.wd+B.wd) (g':=A.gr+B.gr) (λw c h=>by
    have:=zkg (x:=0) (y:=B.wd) (by lia) (by lia) (zj9 b.g1 h)
    rw[show(0:Int)+A.wd+B.wd=A.wd+B.wd by lia]at this
    exact this) x2
   show rowOk (A.wd+B.wd) (A.gr+B.gr) 0 x
   simpa using this
  .have:=zdz (f:=id) (x:=A.wd) (wd':=A.wd+B.wd) (g':=A.gr+B.gr) (λw c h=>by
    have:=zkg (x:=A.wd) (y:=0) (by lia) (by lia) h
    rw[show A.wd+B.wd+0=A.wd+B.wd by lia]at this
    exact this) y2
   rw[x1]
   rw[List.map_id]at this
   rw[show(0:Int)+A.wd=A.wd+0 by lia]
   exact this
 .show 1<=(A.fd++B.fd.map (plusW A.wd)).length;rw[vag];lia
 .show(A.fd++B.fd.map (plusW A.wd)).length<=4;rw[vag,vab];lia
 .intro f hf
  show within f 0 (A.wd+B.wd-1)=true
  rcases vby.mp (show f∈A.fd++B.fd.map (plusW A.wd)from hf)with h|h
  .obtain⟨i,rfl,i1,i2⟩:=zc0 (a.f3 f h)
   simp only[within,vac,vaj];lia
  .obtain⟨q,hq,rfl⟩:=vaw.mp h
   obtain⟨i,rfl,i1,i2⟩:=zc0 (b.f3 q hq)
   simp only[plusW,within,vac,vaj];lia
 .show((A.dr++B.dr.map (zbh A.fd.length)).length:Int)=A.wd+B.wd
  rw[vag,vab];have:=a.d1;have:=b.d1;push_cast;lia
 .intro w hw
  have e:((zaa A B).fd.length:Int)=A.fd.length+B.fd.length:=by
   show((A.fd++B.fd.map (plusW A.wd)).length:Int)=_
   rw[vag,vab];push_cast;rfl
  rw[e]
  rcases vby.mp (show w∈A.dr++B.dr.map (zbh A.fd.length)from hw)with h|h
  .exact zn7 (by lia) (a.d2 w h)
  .obtain⟨q,hq,rfl⟩:=vaw.mp h
   exact zlq (by lia) (b.d2 q hq)
theorem col_l{x y:List W}{c:Int}(c0:0<=c)(c1:c<x.length):colAt (x++y) c=colAt x c:=by
 unfold colAt
 rw[vbg (by lia)]
theorem col_r{x y:List W}{c:Int}(c0:0<=c):colAt (x++y) (x.length+c)=colAt y c:=by
 unfold colAt
 rw[vau (by lia),show((x.length:Int)+c).toNat-x.length=c.toNat by lia]
theorem zrn{wd g:Int}:∀(L R:List (List W)) (c hd:Int) (ls:List Int),L.length=R.length->zbi wd g L->0<=c->c<wd->-1<=hd->hd<=1->Bits ls->fallP (List.zipWith (· ++ ·) L R) c hd ls=fallP L c hd ls
 |[],R,c,hd,ls,_,_,_,_,_,_,_=>by simp[fallP]
 |l::L,[],c,hd,ls,hl,_,_,_,_,_,_=>by simp at hl
 |l::L,r::R,c,hd,ls,hl,ok,c0,c1,h1,h2,b=>by
  obtain⟨_,hm⟩:=zcj (ok l vaf) c0 c1
  rw[vcs]
  have ec:colAt (l++r) c=colAt l c:=col_l c0 (by rw[(ok l vaf).1];exact c1)
  cases e:stepP (colAt l c) hd ls with
  |none=>rw[za7 (by rw[ec];exact e),za7 e]
  |some q=>
   obtain⟨d,t,l'⟩:=q
   obtain⟨a1,a2,a3,a4,a5,a6,a7⟩:=zb6 hm c0 c1 h1 h2 b e
   rw[za2 (by rw[ec];exact e),za2 e,zrn L R (c+d) d l' (by simpa using hl) (λr hr=>ok r (vad _ hr)) a3 a4 a1 a2 a6]
noncomputable def zkh(x:Int)(q:Fa):Fa:=⟨q.cs.map (· + x),q.ts,q.ls,q.st⟩
theorem zro{wd wl g gl:Int}:∀(L R:List (List W)) (c hd:Int) (ls:List Int),L.length=R.length->(∀l∈L,(l.length:Int)=wl)->zbi wd g R->0<=c->c<wd->-1<=hd->hd<=1->Bits ls->fallP (List.zipWith (· ++ ·) L R) (wl+c) hd ls=zkh wl (fallP R c hd ls)
 |[],[],c,hd,ls,_,_,_,_,_,_,_,_=>by simp[fallP,zkh]
 |[],_::_,c,hd,ls,hl,_,_,_,_,_,_,_=>by simp at hl
 |l::L,[],c,hd,ls,hl,_,_,_,_,_,_,_=>by simp at hl
 |l::L,r::R,c,hd,ls,hl,hL,ok,c0,c1,h1,h2,b=>by
  obtain⟨_,hm⟩:=zcj (ok r vaf) c0 c1
  rw[vcs]
  have ec:colAt (l++r) (wl+c)=colAt r c:=by rw[<-hL l vaf];exact col_r c0
  cases e:stepP (colAt r c) hd ls with
  |none=>rw[za7 (by rw[ec];exact e),za7 e];rfl
  |some q=>
   obtain⟨d,t,l'⟩:=q
   obtain⟨a1,a2,a3,a4,a5,a6,a7⟩:=zb6 hm c0 c1 h1 h2 b e
   rw[za2 (by rw[ec];exact e),za2 e,show wl+c+d=wl+ (c+d) by lia,zro (gl:=gl) L R (c+d) d l' (by simpa using hl) (λl h=>hL l (vad _ h)) (λr hr=>ok r (vad _ hr)) a3 a4 a1 a2 a6]
   simp only[zkh,vao]
   rw[show wl+ (c+d)=c+d+wl by lia]
noncomputable def downF(k:Nat)(c:Int)(q:Fa):Fa:=if q.st then q else⟨q.cs++vgc k (lastC c q.cs),q.ts,q.ls,false⟩
theorem zql{wd c:Int}(c0:0<=c)(c1:c<wd):colAt (dots wd) c=.str sDot:=by
 unfold colAt dots
 rw[vco,if_pos (by lia)];rfl
theorem zim{wd:Int}:∀(k:Nat) (c hd:Int) (ls:List Int),0<=c->c<wd->fallP (vgc k (dots wd)) c hd ls=⟨vgc k c,[],ls,false⟩
 |0,c,hd,ls,_,_=>rfl
 |k+1,c,hd,ls,c0,c1=>by
  rw[vbd,za2 (d:=0) (t:=[]) (l:=ls) (by rw[zql c0 c1,zdd]),show c+0=c by lia,zim k c 0 ls c0 c1,vbd]
  rfl
theorem ze5{wd g:Int}:∀(rs:List (List W)) (k:Nat) (c hd:Int) (ls:List Int),zbi wd g rs->0<=c->c<wd->-1<=hd->hd<=1->Bits ls->fallP (rs++vgc k (dots wd)) c hd ls=downF k c (fallP rs c hd ls)
 |[],k,c,hd,ls,_,c0,c1,_,_,b=>by
  rw[vcc,zim k c hd ls c0 c1]
  rfl
 |r::rs,k,c,hd,ls,ok,c0,c1,h1,h2,b=>by
  obtain⟨_,hm⟩:=zcj (ok r vaf) c0 c1
  rw[vcn]
  cases e:stepP (colAt r c) hd ls with
  |none=>rw[za7 e,za7 e];rfl
  |some q=>
   obtain⟨d,t,l⟩:=q
   obtain⟨a1,a2,a3,a4,a5,a6,a7⟩:=zb6 hm c0 c1 h1 h2 b e
   rw[za2 e,za2 e,ze5 rs k (c+d) d l (λr hr=>ok r (vad _ hr)) a3 a4 a1 a2 a6]
   unfold downF
   by_cases hst:(fallP rs (c+d) d l).st=true
   .simp only[hst,va3]
   .simp[hst,lastC]
theorem zdh{A B:Bd}(a:A.Ok)(b:B.Ok){la lb:List Int}(hla:(la.length:Int)=A.gr)(hlb:(lb.length:Int)=B.gr)(ba:Bits la)(bb:Bits lb){f:Nat}(hf:f<A.fd.length) :
 (zaa A B).fall (la++lb) f=(let q:=downF (hiR A B-A.rows.length) (A.col f) (A.fall la f);⟨q.cs,q.ts,q.ls++lb,q.st⟩)/\(zaa A B).col f=A.col f:=by
 obtain⟨hcol,c0,c1⟩:=a.col hf
 have ec:(zaa A B).col f=A.col f:=by
  have:(zaa A B).fd[f]?=A.fd[f]?:=vbg hf
  unfold Bd.col
  rw[this]
 refine⟨?_,ec⟩
 have a1:=a.w1;have b1:=b.w1
 have hm1:A.rows.length<=hiR A B:=vc8 ..
 have hm2:B.rows.length<=hiR A B:=vdu ..
 have bab:Bits (la++lb):=λx hx=>(vby.mp hx).elim (ba x) (bb x)
 have okA:zbi A.wd (la.length:Int) A.rows:=a.rows hla
 show fallP (List.zipWith (· ++ ·) _ _) ((zaa A B).col f) 0 (la++lb)=_
 rw[ec,zrn (wd:=A.wd) (g:=A.gr) _ _ _ _ _ (by rw[za3 hm1,za3 (by rw[vab];exact hm2)]) (zbu (by lia) a.r2) c0 c1 (by decide) (by decide) bab]
 show fallP (A.rows++vgc _ (dots A.wd)) _ 0 (la++lb)=_
 rw[ze5 (g:=A.gr) _ _ _ _ _ a.r2 c0 c1 (by decide) (by decide) bab,zg3 _ _ _ _ _ okA c0 c1 (by decide) (by decide) ba]
 show downF _ (A.col f) ⟨(A.fall la f).cs,(A.fall la f).ts,(A.fall la f).ls++lb,(A.fall la f).st⟩=_
 unfold downF
 by_cases hst:(A.fall la f).st=true
 .simp only[hst,va3]
 .simp[hst]
theorem zdi{A B:Bd}(a:A.Ok)(b:B.Ok){la lb:List Int}(hla:(la.length:Int)=A.gr)(hlb:(lb.length:Int)=B.gr)(ba:Bits la)(bb:Bits lb){f:Nat}(hf:f<B.fd.length) :
 (zaa A B).fall (la++lb) (A.fd.length+f)=(let q:=downF (hiR A B-B.rows.length) (B.col f) (B.fall lb f);⟨q.cs.map (· + A.wd),q.ts.map (· + A.gr),la++q.ls,q.st⟩)/\(zaa A B).col (A.fd.length+f)=B.col f+A.wd:=by
 obtain⟨hcol,c0,c1⟩:=b.col hf
 have ec:(zaa A B).col (A.fd.length+f)=B.col f+A.wd:=by
  have:(zaa A B).fd[A.fd.length+f]?=some (.int (B.col f+A.wd)):=by
   show(A.fd++B.fd.map (plusW A.wd))[A.fd.length+f]?=_
   rw[vau (by lia),show A.fd.length+f-A.fd.length=f by lia,va2,hcol]
   rfl
  unfold Bd.col at *
  rw[this]
 refine⟨?_,ec⟩
 have a1:=a.w1;have b1:=b.w1
 have hm1:A.rows.length<=hiR A B:=vc8 ..
 have hm2:B.rows.length<=hiR A B:=vdu ..
 have bab:Bits (la++lb):=λx hx=>(vby.mp hx).elim (ba x) (bb x)
 have okB:zbi B.wd (lb.length:Int) B.rows:=b.rows hlb
 have okM:zbi B.wd (A.gr+B.gr) (B.rows.map λr=>r.map (zae A.gr)):=zg7 b a.g1
 show fallP (List.zipWith (· ++ ·) _ _) ((zaa A B).col (A.fd.length+f)) 0 (la++lb)=_
 rw[ec,show B.col f+A.wd=A.wd+B.col f by lia,zro (wd:=B.wd) (wl:=A.wd) (g:=A.gr+B.gr) (gl:=A.gr) _ _ _ _ _ (by rw[za3 hm1,za3 (by rw[vab];exact hm2)]) (λl hl=>(zbu (g:=A.gr) (by lia) a.r2 l hl).1) (zbu (by lia) okM) c0 c1 (by decide) (by decide) bab]
 have e2:fallP (zap B.wd (hiR A B) (B.rows.map λr=>r.map (zae A.gr))) (B.col f) 0 (la++lb)=downF (hiR A B-B.rows.length) (B.col f) ⟨(B.fall lb f).cs,(B.fall lb f).ts.map (· + A.gr),la++(B.fall lb f).ls,(B.fall lb f).st⟩:=by
  unfold zap
  rw[ze5 (g:=A.gr+B.gr) _ _ _ _ _ okM c0 c1 (by decide) (by decide) bab,vab]
  rw[<-hla,zdy _ _ _ _ _ okB c0 c1 (by decide) (by decide) bb]
  rfl
 rw[e2]
 unfold downF zkh
 by_cases hst:(B.fall lb f).st=true
 .simp only[hst,va3]
 .simp[hst]
noncomputable def zipW(ws zs:List W):List W:=List.zipWith (λa b=>W.tup [a,b]) ws zs
theorem zqm{ws zs:List W}(i:Nat)(h:VH):nxt .zip (.tup [.tup ws,.tup zs]) i h=some (zipW ws zs)[i]?:=by
 simp only[nxt,seqW,zipW,List.getElem?_zipWith]
 cases ws[i]?<;>cases zs[i]?<;>rfl
theorem ztx{cl:Call}{a:E}{ρ:En}{h h1 h2:VH}{ow:Nat}{ix:List Nat}{e:E}{t:Tg}{ws zs ys:List W}(ea:ev cl a ρ h=.ok (.tup [.tup ws,.tup zs]) h1)(hn:(zipW ws zs).length<1000000)(el:lcL (tgW t) (λ_ h=>.ok (.bl true) h) (ev cl e) (zipW ws zs) (inner ow ix ρ) h1=.ok ys h2)(hy:ys.length<=1000000) :
 ev cl (.lc .zip a t ow ix (.cst (.bl true)) e) ρ h=.ok (.ref h2.n) (h2.new (.lst ys)):=by
 have l:=zcn (nx:=nxt .zip (.tup [.tup ws,.tup zs])) (tg:=tgW t) (c:=λ_ h=>.ok (.bl true) h) (e:=ev cl e) (ws:=zipW ws zs) (λi h=>zqm i h) fuel 0 (inner ow ix ρ) h1 [] (vbu _) (by simpa[fuel]using hn)
 rw[vdq,el]at l
 have q:ev cl (.lc .zip a t ow ix (.cst (.bl true)) e) ρ h=(ev cl a ρ h).bind λx h=>(lcG (nxt .zip x) (tgW t) (ev cl (.cst (.bl true))) (ev cl e) fuel 0 (inner ow ix ρ) h []).bind λys h=>if Nat.ble ys.length big then .ok (.ref h.n) (h.new (.lst ys))else .no:=by rw[ev]
 rw[q,ea,bindok]
 show(lcG (nxt .zip (.tup [.tup ws,.tup zs])) (tgW t) (λ_ h=>.ok (.bl true) h) (ev cl e) fuel 0 (inner ow ix ρ) h1 []).bind _=_
 rw[l]
 show(if Nat.ble ([].reverse++ys).length big then _ else _)=_
 rw[List.reverse_nil,vcc,if_pos (zdw hy)]
theorem zty{cl:Call}{a:E}{ρ:En}{h h1 h2:VH}{ow:Nat}{ix:List Nat}{e:E}{t:Tg}{ws zs ys:List W}(ea:ev cl a ρ h=.ok (.tup [.tup ws,.tup zs]) h1)(hn:(zipW ws zs).length<1000000)(el:lcL (tgW t) (λ_ h=>.ok (.bl true) h) (ev cl e) (zipW ws zs) (inner ow ix ρ) h1=.ok ys h2)(hy:ys.length<=1000000) :
 ev cl (.bi .tuple (.cons (.lc .zip a t ow ix (.cst (.bl true)) e) .nil)) ρ h=.ok (.tup ys) (h2.new (.lst ys)):=zny (ztx ea hn el hy) zat
theorem opE{cl:Call}{o:Op}{a b:E}{ρ:En}{h h1 h2:VH}{x y:W}{r:Res W}(ea:ev cl a ρ h=.ok x h1)(eb:ev cl b ρ h1=.ok y h2)(e:opW o x y h2=r):ev cl (.op o a b) ρ h=r:=by
 rw[ev,ea,bindok,eb,bindok,e]
theorem retE{cl:Call}{a:E}{ρ:En}{h h1:VH}{x:W}(ea:ev cl a ρ h=.ok x h1):exs cl (.ret a) ρ h=.ok (.rt x) h1:=by
 rw[exs,ea,bindok]
theorem setE{cl:Call}{i:Nat}{a:E}{ρ:En}{h h1:VH}{x:W}(ea:ev cl a ρ h=.ok x h1):exs cl (.set i a) ρ h=.ok (.nx (ρ.set i (some x))) h1:=by
 rw[exs,ea,bindok]
theorem varE{cl:Call}{i:Nat}{ρ:En}{h:VH}{x:W}(e:ρ[i]?=some (some x)):ev cl (.var i) ρ h=.ok x h:=by
 rw[ev,e];rfl
theorem idxE{cl:Call}{a b:E}{ρ:En}{h h1 h2:VH}{x y z:W}(ea:ev cl a ρ h=.ok x h1)(eb:ev cl b ρ h1=.ok y h2)(e:idxW h2 x y=some z):ev cl (.idx a b) ρ h=.ok z h2:=by
 rw[ev,ea,bindok,eb,bindok,e];rfl
theorem lenE{cl:Call}{a:E}{ρ:En}{h h1:VH}{x:W}{ws:List W}(ea:ev cl a ρ h=.ok x h1)(e:seqW h1 x=some ws):ev cl (.bi .len (.cons a .nil)) ρ h=.ok (.int ws.length) h1:=by
 rw[ev,ev,ea,bindok,ev,bindok]
 show lenW [x] h1=_
 simp only[lenW,e,ofsome]
theorem zf4{cl:Call}{ρ:En}{h h1 h':VH}{n:Nat}{a:E}{x w:W}(ea:ev cl a ρ h=.ok x h1)(e:cl n [x] h1=.ok w h'):ev cl (.call n (.cons a .nil)) ρ h=.ok w h':=by
 rw[ev,ev,ea,bindok,ev]
 exact e
theorem zb3{cl:Call}{ρ:En}{h h1 h2 h':VH}{n:Nat}{a b:E}{x y w:W}(ea:ev cl a ρ h=.ok x h1)(eb:ev cl b ρ h1=.ok y h2)(e:cl n [x,y] h2=.ok w h'):ev cl (.call n (.cons a (.cons b .nil))) ρ h=.ok w h':=by
 rw[ev,ev,ea,bindok,ev,eb,bindok,ev]
 exact e
theorem ze6{cl:Call}{ρ:En}{h h1 h2 h3 h':VH}{n:Nat}{a b c:E}{x y z w:W}(ea:ev cl a ρ h=.ok x h1)(eb:ev cl b ρ h1=.ok y h2)(ec:ev cl c ρ h2=.ok z h3)(e:cl n [x,y,z] h3=.ok w h'):ev cl (.call n (.cons a (.cons b (.cons c .nil)))) ρ h=.ok w h':=by
 rw[ev,ev,ea,bindok,ev,eb,bindok,ev,ec,bindok,ev]
 exact e
theorem zxw{cl:Call}{ρ:En}{h h1 h2 h3 h4 h':VH}{n:Nat}{a b c d:E}{x y z u w:W}(ea:ev cl a ρ h=.ok x h1)(eb:ev cl b ρ h1=.ok y h2)(ec:ev cl c ρ h2=.ok z h3)(ed:ev cl d ρ h3=.ok u h4)(e:cl n [x,y,z,u] h4=.ok w h'):ev cl (.call n (.cons a (.cons b (.cons c (.cons d .nil))))) ρ h=.ok w h':=by
 rw[ev,ev,ea,bindok,ev,eb,bindok,ev,ec,bindok,ev,ed,bindok,ev]
 exact e
theorem tup2E{cl:Call}{a b:E}{ρ:En}{h h1 h2:VH}{x y:W}(ea:ev cl a ρ h=.ok x h1)(eb:ev cl b ρ h1=.ok y h2):ev cl (.tup (.cons a (.cons b .nil))) ρ h=.ok (.tup [x,y]) h2:=by
 rw[ev,ev,ea,bindok,ev,eb,bindok,ev];rfl
theorem tup5E{cl:Call}{a b c d e:E}{ρ:En}{h h1 h2 h3 h4 h5:VH}{x y z u v:W}(ea:ev cl a ρ h=.ok x h1)(eb:ev cl b ρ h1=.ok y h2)(ec:ev cl c ρ h2=.ok z h3)(ed:ev cl d ρ h3=.ok u h4)(ee:ev cl e ρ h4=.ok v h5):ev cl (.tup (.cons a (.cons b (.cons c (.cons d (.cons e .nil)))))) ρ h=.ok (.tup [x,y,z,u,v]) h5:=by
 rw[ev,ev,ea,bindok,ev,eb,bindok,ev,ec,bindok,ev,ed,bindok,ev,ee,bindok,ev];rfl
structure CoreS(F:Nat->Option Fn):Prop where
 b:CoreB F
 f75:F 75=some fn75
 f76:F 76=some fn76
 f120:F 120=some fn120
 f122:F 122=some fn122
 f125:F 125=some fn125
section
variable{F:Nat->Option Fn}(C:CoreS F)
include C
theorem ze7{k:Nat}{h:VH}{rs:List (List W)}{wd:Int}{m:Nat}(w0:0<=wd)(w1:wd<=40)(hm:rs.length<=m)(h60:m<=60)(hp:∀n,W.lts n (rs.map .tup)=true):run F (k+1) 122 [.tup (rs.map .tup),.int wd,.int m] h=.ok (.tup ((zap wd m rs).map .tup)) h:=by
 rw[zaj C.f122 rfl]
 obtain⟨wn,rfl⟩:=vat w0
 have t1:=zjb (h:=⟨h.n,h.n,h.os⟩) (w:=.str sDot) (n:=wn) (by omega)
 have t2:=zjb (h:=⟨h.n,h.n,h.os⟩) (w:=.tup (vgc wn (.str sDot))) (n:=m-rs.length) (by omega)
 have ed:((m-rs.length:Nat):Int)=(m:Int)- (rs.length:Int):=by omega
 rw[ed]at t2
 have t3:=ze0 (h:=⟨h.n,h.n,h.os⟩) (xs:=rs.map .tup) (ys:=vgc (m-rs.length) (.tup (vgc wn (.str sDot)))) (by simp only[vab,vcl];omega)
 have ef:(zap (wn:Int) m rs).map W.tup=rs.map .tup++vgc (m-rs.length) (.tup (vgc wn (.str sDot))):=by
  unfold zap dots
  rw[vbn,List.map_replicate,vbt]
 have a1:ev (run F k) (.tup (.cons (.cst (.str (vgb "."))) .nil)) [some (.tup (rs.map .tup)),some (.int wn),some (.int m)] ⟨h.n,h.n,h.os⟩=.ok (.tup [.str sDot]) ⟨h.n,h.n,h.os⟩:=rfl
 have b1:ev (run F k) (.op .mul (.tup (.cons (.cst (.str (vgb "."))) .nil)) (.var 1)) [some (.tup (rs.map .tup)),some (.int wn),some (.int m)] ⟨h.n,h.n,h.os⟩=.ok (.tup (vgc wn (.str sDot))) ⟨h.n,h.n,h.os⟩:=by
  exact opE a1 (varE rfl) t1
 have b2:ev (run F k) (.tup (.cons (.op .mul (.tup (.cons (.cst (.str (vgb "."))) .nil)) (.var 1)) .nil)) [some (.tup (rs.map .tup)),some (.int wn),some (.int m)] ⟨h.n,h.n,h.os⟩=.ok (.tup [.tup (vgc wn (.str sDot))]) ⟨h.n,h.n,h.os⟩:=by
  rw[ev,ev,b1,bindok]
  rfl
 have b3:ev (run F k) (.op .sub (.var 2) (.bi .len (.cons (.var 0) .nil))) [some (.tup (rs.map .tup)),some (.int wn),some (.int m)] ⟨h.n,h.n,h.os⟩=.ok (.int ((m:Int)- (rs.length:Int))) ⟨h.n,h.n,h.os⟩:=by
  simp[ev,biW,lenW,seqW,opW,opI]
 have eb:exs (run F k) fn122.body [some (.tup (rs.map .tup)),some (.int wn),some (.int m)] ⟨h.n,h.n,h.os⟩=.ok (.rt (.tup ((zap (wn:Int) m rs).map .tup))) ⟨h.n,h.n,h.os⟩:=by
  refine zas (retE ?_)
  rw[ef]
  exact opE (varE rfl) (opE b2 b3 t2) t3
 show fin h (exs (run F k) fn122.body [some (.tup (rs.map .tup)),some (.int wn),some (.int m)] ⟨h.n,h.n,h.os⟩)=_
 rw[eb]
 refine zbo (n:=0) .refl λn=>?_
 rw[lt_tup,ef]
 refine zca λw hw=>?_
 rcases vby.mp hw with hw|hw
 .exact(by
   have:∀{ws:List W},W.lts n ws=true->∀w∈ws,W.lt n w=true:=by
    intro ws
    induction ws with
    |nil=>intro _ w h;cases h
    |cons x r ih=>
     intro h w hw
     rw[lts_cons,vac]at h
     rcases vax.mp hw with rfl|hw
     .exact h.1
     .exact ih h.2 w hw
   exact this (hp n) w hw)
 .rw[(List.mem_replicate.mp hw).2,lt_tup]
  exact zca λw hw=>by rw[(List.mem_replicate.mp hw).2];simp
theorem zjh{k:Nat}{h:VH}{ds:List W}{n m:Int}(hl:ds.length<=40)(hd:∀w∈ds,door w m=true):run F (k+1) 125 [.tup ds,.int n] h=.ok (.tup (ds.map (zbh n))) h:=by
 rw[zaj C.f125 rfl]
 obtain⟨h2,e2,g2⟩:=zjc (cl:=run F k) (e:=zde) (tl:=[some (.int n)]) (f:=zbh n) ds none none ⟨h.n,h.n,h.os⟩ (λw hw=>by
  obtain⟨a,b,rfl,_,_,hb⟩:=za9 (hd w hw)
  refine⟨.int a,b,rfl,λh=>⟨h,?_,.refl⟩⟩
  rcases hb with rfl|⟨i,rfl,_⟩
  .simp[zde,ev,cmpW,isNon,zbh,plusW]
  .simp[zde,ev,cmpW,isNon,zbh,plusW,opW,opI])
 have e3:=zbs (cl:=run F k) (a:=.var 0) (ρ:=[some (.tup ds),some (.int n)]) (h:=⟨h.n,h.n,h.os⟩) (h1:=⟨h.n,h.n,h.os⟩) (ow:=2) (ix:=[1]) (e:=zde) (by simp[ev]) (by omega) e2 (by rw[vab];omega)
 have eb:exs (run F k) fn125.body [some (.tup ds),some (.int n)] ⟨h.n,h.n,h.os⟩=.ok (.rt (.tup (ds.map (zbh n)))) (h2.new (.lst (ds.map (zbh n)))):=by simp only[fn125,exs,e3,bindok]
 show fin h (exs (run F k) fn125.body [some (.tup ds),some (.int n)] ⟨h.n,h.n,h.os⟩)=_
 rw[eb]
 refine zbo (n:=0) g2.new λj=>?_
 rw[lt_tup]
 refine zca λw hw=>?_
 obtain⟨w0,hw0,rfl⟩:=vaw.mp hw
 obtain⟨a,b,rfl,_,_,hb⟩:=za9 (hd w0 hw0)
 rcases hb with rfl|⟨i,rfl,_⟩<;>simp[zbh,plusW]
end
section
variable{F:Nat->Option Fn}(C:CoreS F)
include C
theorem zin{k:Nat}{h:VH}{w:W}{a c wd g:Int}(hm:zac w c wd g=true):run F (k+1) 75 [w,.int a] h=.ok (zae a w) h:=by
 rw[zaj C.f75 rfl]
 rcases zcp hm with⟨x,_,rfl⟩|⟨p,q,rfl,_⟩
 .simp[fn75,exs,ev,zae,zam]
 .simp[fn75,exs,ev,zae,zam,tgW,seqW,za1,opW,opI]
theorem zji{k:Nat}{h:VH}{rs:List (List W)}{a wd g:Int}(hl:rs.length<=60)(hr:∀r∈rs,(r.length:Int)<=40/\rowOk wd g 0 r):run F (k+2) 76 [.tup (rs.map .tup),.int a] h=.ok (.tup ((rs.map λr=>r.map (zae a)).map .tup)) h:=by
 rw[zaj C.f76 rfl]
 obtain⟨h2,e2,g2⟩:=zb0 (cl:=run F (k+1)) (e:=zex) (tl:=[some (.int a)]) (f:=λw=>match w with|.tup r=>.tup (r.map (zae a))|w=>w) (rs.map .tup) none ⟨h.n,h.n,h.os⟩ (λw hw h=>by
  obtain⟨r,hr',rfl⟩:=vaw.mp hw
  obtain⟨h40,ho⟩:=hr r hr'
  obtain⟨h3,e3,g3⟩:=zb0 (cl:=run F (k+1)) (e:=zcx) (tl:=[some (.int a)]) (f:=zae a) r none h (λw hw h=>by
   obtain⟨c,hm⟩:=zbt ho w hw
   exact⟨h,by simp[zcx,ev,zin C hm],.refl⟩)
  exact⟨_,zbs (cl:=run F (k+1)) (a:=.var 0) (ρ:=[some (.tup r),some (.int a)]) (h:=h) (h1:=h) (ow:=1) (ix:=[1]) (e:=zcx) (by simp[ev]) (by lia) e3 (by rw[vab];lia),g3.new⟩)
 have e3:=zbs (cl:=run F (k+1)) (a:=.var 0) (ρ:=[some (.tup (rs.map .tup)),some (.int a)]) (h:=⟨h.n,h.n,h.os⟩) (h1:=⟨h.n,h.n,h.os⟩) (ow:=1) (ix:=[1]) (e:=zex) (by simp[ev]) (by rw[vab];lia) e2 (by rw[vab,vab];lia)
 have e4:(List.map (λw:W=>match w with|.tup r=>W.tup (r.map (zae a))|w=>w) (rs.map W.tup))=(rs.map λr=>r.map (zae a)).map W.tup:=by simp
 rw[e4]at e3
 have eb:exs (run F (k+1)) fn76.body [some (.tup (rs.map .tup)),some (.int a)] ⟨h.n,h.n,h.os⟩=.ok (.rt (.tup ((rs.map λr=>r.map (zae a)).map .tup))) (h2.new (.lst ((rs.map λr=>r.map (zae a)).map .tup))):=by
  simp only[fn76,exs,e3,bindok]
 show fin h (exs (run F (k+1)) fn76.body [some (.tup (rs.map .tup)),some (.int a)] ⟨h.n,h.n,h.os⟩)=_
 rw[eb]
 refine zbo (n:=0) g2.new λm=>?_
 rw[lt_tup]
 refine zca λw hw=>?_
 obtain⟨r,hr1,rfl⟩:=vaw.mp hw
 obtain⟨r0,hr2,rfl⟩:=vaw.mp hr1
 rw[lt_tup]
 refine zca λw hw=>?_
 obtain⟨w0,hw0,rfl⟩:=vaw.mp hw
 obtain⟨c,hm⟩:=zbt (hr r0 hr2).2 w0 hw0
 rcases zcp hm with⟨x,_,rfl⟩|⟨p,q,rfl,_⟩
 .simp[zae]
 .simp[zae]
omit C in
theorem zn8{cl:Call}{e:E}{tl:En}{f:W->W->W}:∀(ws zs:List W) (x y:Option W) (h:VH),(∀a∈ws,∀b∈zs,∀h,ev cl e (some a::some b::tl) h=.ok (f a b) h)->lcL (tgW (.many [0,1])) (λ_ h=>.ok (.bl true) h) (ev cl e) (zipW ws zs) (x::y::tl) h=.ok (List.zipWith f ws zs) h
 |[],_,x,y,h,_=>rfl
 |_::_,[],x,y,h,_=>rfl
 |a::ws,b::zs,x,y,h,hs=>by
  have e1:=hs a vaf b vaf h
  have e2:=zn8 (e:=e) (tl:=tl) (f:=f) ws zs (some a) (some b) h λa' ha b' hb=>hs a' (vad _ ha) b' (vad _ hb)
  show lcL _ _ _ (.tup [a,b]::zipW ws zs) _ _=_
  simp only[lcL,tgW,seqW,za1,List.set,bindok,e1,e2,vcs]
omit C in
theorem zki{wd g:Int}{rs:List (List W)}(h:zbi wd g rs)(n:Nat):W.lts n (rs.map .tup)=true:=zca λw hw=>by
 obtain⟨r,hr,rfl⟩:=vaw.mp hw
 rw[lt_tup]
 exact zca λw hw=>by
  obtain⟨c,hm⟩:=zbt (h r hr).2 w hw
  exact zdg 24 w (zbz hm 22)
theorem zio{k:Nat}{h:VH}{A B:Bd}(a:A.Ok)(b:B.Ok)(hw:A.wd+B.wd<=40)(hg:A.gr+B.gr<=8)(hf:A.fd.length+B.fd.length<=4):run F (k+8) 120 [A.w,B.w] h=.ok (zaa A B).w h:=by
 rw[zaj C.f120 rfl]
 have a1:=a.w1;have b1:=b.w1;have ar:=a.r1;have br:=b.r1;have bw:=b.w2;have bd:=b.d1;have ad:=a.d1;have ag:=a.g1;have aw:=a.w2
 have hm1:A.rows.length<=hiR A B:=vc8 ..
 have hm2:B.rows.length<=hiR A B:=vdu ..
 have hm3:hiR A B<=60:=Nat.max_le.mpr ⟨ar,br⟩
 have okM:zbi B.wd (A.gr+B.gr) (B.rows.map λr=>r.map (zae A.gr)):=zg7 b a.g1
 have e1:=za8 C.b (k:=k) (h:=⟨h.n,h.n,h.os⟩) a
 have e2:=za8 C.b (k:=k) (h:=⟨h.n,h.n,h.os⟩) b
 obtain⟨h3,e3,g3⟩:=zb0 (cl:=run F (k+7)) (e:=zg5) (tl:=[some (.int A.wd)]) (f:=plusW A.wd) B.fd none ⟨h.n,h.n,h.os⟩ (λw hw h=>by
  obtain⟨i,rfl,_⟩:=zc0 (b.f3 w hw)
  exact⟨h,by simp[zg5,ev,opW,opI,plusW],.refl⟩)
 let h4:=h3.new (.lst (B.fd.map (plusW A.wd)))
 have g4:Gw ⟨h.n,h.n,h.os⟩ h4:=g3.new
 have lf:(B.fd.map (plusW A.wd)).length=B.fd.length:=vab ..
 have t3:=ze0 (h:=h4) (xs:=A.fd) (ys:=B.fd.map (plusW A.wd)) (by rw[lf];lia)
 have f1:=ze7 C (k:=k+6) (h:=h4) (rs:=A.rows) (wd:=A.wd) (m:=hiR A B) (by lia) (by lia) hm1 hm3 (λn=>zki (g:=A.gr) a.r2 n)
 have m1:=zji C (k:=k+5) (h:=h4) (a:=A.gr) (rs:=B.rows) (wd:=B.wd) (g:=B.gr) b.r1 (λr hr=>⟨by have:=(b.r2 r hr).1;lia,(b.r2 r hr).2⟩)
 have f2:=ze7 C (k:=k+6) (h:=h4) (rs:=B.rows.map λr=>r.map (zae A.gr)) (wd:=B.wd) (m:=hiR A B) (by lia) (by lia) (by rw[vab];exact hm2) hm3 (λn=>zki okM n)
 have z1:=zn8 (cl:=run F (k+7)) (e:=zkb) (tl:=[]) (f:=λx y=>match x,y with|.tup p,.tup q=>.tup (p++q)|x,_=>x) ((zap A.wd (hiR A B) A.rows).map .tup) ((zap B.wd (hiR A B) (B.rows.map λr=>r.map (zae A.gr))).map .tup) none none h4 (λx hx y hy h=>by
  obtain⟨p,hp,rfl⟩:=vaw.mp hx
  obtain⟨q,hq,rfl⟩:=vaw.mp hy
  have lp:=(zbu (g:=A.gr) (by lia) a.r2 p hp).1
  have lq:=(zbu (by lia) okM q hq).1
  exact opE (varE rfl) (varE rfl) (ze0 (by lia)))
 have ez:List.zipWith (λx y:W=>match x,y with|.tup p,.tup q=>W.tup (p++q)|x,_=>x) ((zap A.wd (hiR A B) A.rows).map .tup) ((zap B.wd (hiR A B) (B.rows.map λr=>r.map (zae A.gr))).map .tup)=(zaa A B).rows.map .tup:=by
  show _=(List.zipWith (· ++ ·) (zap A.wd (hiR A B) A.rows) (zap B.wd (hiR A B) (B.rows.map λr=>r.map (zae A.gr)))).map W.tup
  generalize zap A.wd (hiR A B) A.rows=L
  generalize zap B.wd (hiR A B) (B.rows.map λr=>r.map (zae A.gr))=R
  induction L generalizing R with
  |nil=>rfl
  |cons x L ih=>
   cases R with
   |nil=>rfl
   |cons y R=>simp only[vao,vcs,ih]
 rw[ez]at z1
 have ok:=zck a b hw hg hf
 have okr:=ok.r1
 have lz:(zipW ((zap A.wd (hiR A B) A.rows).map .tup) ((zap B.wd (hiR A B) (B.rows.map λr=>r.map (zae A.gr))).map .tup)).length<1000000:=by
  unfold zipW
  rw[vdh,vab,vab,za3 hm1,za3 (by rw[vab];exact hm2)];lia
 have d1:=zjh C (k:=k+6) (h:=h4.new (.lst ((zaa A B).rows.map .tup))) (ds:=B.dr) (n:=(A.fd.length:Int)) (m:=B.fd.length) (by lia) b.d2
 have t5:=ze0 (h:=h4.new (.lst ((zaa A B).rows.map .tup))) (xs:=A.dr) (ys:=B.dr.map (zbh A.fd.length)) (by rw[vab];lia)
 have hpl:=zg1 ok
 have hlt:∀m,W.lt m (zaa A B).w=true:=λm=>zdg 24 _ hpl
 have c1:¬(40<A.wd+B.wd):=by lia
 have c2:¬(8<A.gr+B.gr):=by lia
 have c3:¬((4:Int)< ((A.fd++B.fd.map (plusW A.wd)).length:Int)):=by rw[vag,lf];lia
 have emax:(if(B.rows.length:Int)> (A.rows.length:Int)then(B.rows.length:Int)else(A.rows.length:Int))=(hiR A B:Int):=by
  unfold hiR
  split<;>lia
 have eb:exs (run F (k+7)) fn120.body [some A.w,some B.w,none,none,none,none,none,none,none,none,none,none,none,none,none,none,none,none,none] ⟨h.n,h.n,h.os⟩=.ok (.rt (zaa A B).w) (h4.new (.lst ((zaa A B).rows.map .tup))):=by
  refine(zab (ρ':=[some A.w,some B.w,none,none,none,none,none,none,none,none,none,none,none,none,none,none,none,none,none]) (h':=⟨h.n,h.n,h.os⟩) (by simp[exs,ev,e1])).trans ?_
  refine(zab (ρ':=[some A.w,some B.w,none,none,none,none,none,none,none,none,none,none,none,none,none,none,none,none,none]) (h':=⟨h.n,h.n,h.os⟩) (by simp[exs,ev,e2])).trans ?_
  refine(zab (ρ':=[some A.w,some B.w,some (.int A.wd),some (.int A.gr),some (.tup (A.rows.map .tup)),some (.tup A.fd),some (.tup A.dr),none,none,none,none,none,none,none,none,none,none,none,none]) (h':=⟨h.n,h.n,h.os⟩) (by unfold Bd.w;simp[exs,ev,tgW,seqW,za1])).trans ?_
  refine(zab (ρ':=[some A.w,some B.w,some (.int A.wd),some (.int A.gr),some (.tup (A.rows.map .tup)),some (.tup A.fd),some (.tup A.dr),some (.int B.wd),some (.int B.gr),some (.tup (B.rows.map .tup)),some (.tup B.fd),some (.tup B.dr),none,none,none,none,none,none,none]) (h':=⟨h.n,h.n,h.os⟩) (by unfold Bd.w;simp[exs,ev,tgW,seqW,za1])).trans ?_
  generalize A.w=wA
  generalize B.w=wB
  refine(zab (setE (x:=.int (A.wd+B.wd)) (h1:=⟨h.n,h.n,h.os⟩) (opE (varE rfl) (varE rfl) rfl))).trans ?_
  refine(zab (setE (x:=.int (A.gr+B.gr)) (h1:=⟨h.n,h.n,h.os⟩) (opE (varE rfl) (varE rfl) rfl))).trans ?_
  refine(zab (setE (x:=.tup (A.fd++B.fd.map (plusW A.wd))) (h1:=h4) (opE (varE rfl) (zbs (t:=.one 0) (ws:=B.fd) (varE rfl) (by have:=b.f2;lia) e3 (by rw[lf];lia)) t3))).trans ?_
  refine(zab (ρ':=[some wA,some wB,some (.int A.wd),some (.int A.gr),some (.tup (A.rows.map .tup)),some (.tup A.fd),some (.tup A.dr),some (.int B.wd),some (.int B.gr),some (.tup (B.rows.map .tup)),some (.tup B.fd),some (.tup B.dr),some (.int (A.wd+B.wd)),some (.int (A.gr+B.gr)),some (.tup (A.fd++B.fd.map (plusW A.wd))),none,none,none,none]) (h':=h4) ?_).trans ?_
  .generalize A.fd++B.fd.map (plusW A.wd)=fd at c3
   simp[exs,ev,cmpW,cmpI,biW,lenW,seqW,c1,c2,c3]
  refine(zab (ρ':=[some wA,some wB,some (.int A.wd),some (.int A.gr),some (.tup (A.rows.map .tup)),some (.tup A.fd),some (.tup A.dr),some (.int B.wd),some (.int B.gr),some (.tup (B.rows.map .tup)),some (.tup B.fd),some (.tup B.dr),some (.int (A.wd+B.wd)),some (.int (A.gr+B.gr)),some (.tup (A.fd++B.fd.map (plusW A.wd))),some (.int (hiR A B)),none,none,none]) (h':=h4) ?_).trans ?_
  .rw[<-emax]
   simp[exs,ev,biW,lenW,maxW,seqW]
  refine(zab (setE (x:=.tup ((zap A.wd (hiR A B) A.rows).map .tup)) (h1:=h4) (ze6 (varE rfl) (varE rfl) (varE rfl) f1))).trans ?_
  refine(zab (setE (x:=.tup ((zap B.wd (hiR A B) (B.rows.map λr=>r.map (zae A.gr))).map .tup)) (h1:=h4) (ze6 (zb3 (varE rfl) (varE rfl) m1) (varE rfl) (varE rfl) f2))).trans ?_
  refine(zab (setE (x:=.tup ((zaa A B).rows.map .tup)) (h1:=h4.new (.lst ((zaa A B).rows.map .tup))) (zty (h1:=h4) (by rfl) lz z1 (by rw[vab];lia)))).trans ?_
  refine zas (retE ?_)
  refine tup5E (varE rfl) (varE rfl) (varE rfl) (varE rfl) (opE (varE rfl) (zb3 (varE rfl) (lenE (varE rfl) rfl) d1) t5)
 show fin h (exs (run F (k+7)) fn120.body [some A.w,some B.w,none,none,none,none,none,none,none,none,none,none,none,none,none,none,none,none,none] ⟨h.n,h.n,h.os⟩)=_
 rw[eb]
 exact zbo (n:=0) g4.new hlt
end
noncomputable def optW:Option Nat->W
 |none=>.non
 |some f=>.int f
noncomputable def callO(B:Bd)(ls:List Int)(f:Nat):Option Nat:=match outD B ls f with
 |.tup [_,.int i]=>some i.toNat
 |_=>none
theorem ziq{B:Bd}{ls:List Int}{f:Nat}(b:B.Ok)(hf:f<B.fd.length)(hl:(ls.length:Int)=B.gr)(bi:Bits ls):outD B ls f=.tup [nameP B ls f,optW (callO B ls f)]/\∀g,callO B ls f=some g->g<B.fd.length:=by
 have q:=b.fall hf hl bi
 unfold callO nameP
 by_cases z:(B.fall ls f).st=true
 .have:outD B ls f=.tup [.non,.non]:=by unfold outD;rw[if_pos z]
  rw[this]
  exact⟨rfl,λg h=>by cases h⟩
 .have e:outD B ls f=B.door (lastC (B.col f) (B.fall ls f).cs):=by unfold outD;rw[if_neg z]
  obtain⟨_,d2⟩:=b.door q.c4.1 q.c4.2
  obtain⟨x,y,de,_,_,hy⟩:=za9 d2
  rw[e,de]
  rcases hy with rfl|⟨i,rfl,i0,i1⟩
  .exact⟨rfl,λg h=>by cases h⟩
  .refine⟨?_,λg h=>?_⟩
   .show W.tup [.int x,.int i]=.tup [.int x,.int (i.toNat:Int)]
    rw[vdg i0]
   .have h:some i.toNat=some g:=h
    cases h
    lia
theorem zn9{n:Nat}{fo:Option Nat}:W.lt n (optW fo)=true:=by cases fo<;>simp[optW]
section
variable{F:Nat->Option Fn}(C:CoreP F)
include C
theorem zoa{k:Nat}{d c n b nf:Nat}{h:VH}{x:Option W}(D:Dk h d c b)(hb:b+5*n<1000000000)(h0:1<=nf)(h1:nf<=4) :
 ∃(ds:List W) (h':VH),lcL (tgW (.one 0)) (λ_ h=>.ok (.bl true) h) (ev (run F (k+4)) (.call 23 (.cons (.var 1) (.cons (.var 2) .nil)))) (zbd 0 n) [x,some (.ref d),some (.int nf)] h=.ok ds h'/\ds.length=n/\(∀w∈ds,door w nf=true)/\Dk h' d c (b+5*n)/\Keep h h' d c:=by
 obtain⟨ws,h',e,p,l,D',K'⟩:=zcz (cl:=run F (k+4)) (P:=λ_ w=>door w nf=true) (e:=.call 23 (.cons (.var 1) (.cons (.var 2) .nil))) (tl:=[some (.ref d),some (.int nf)]) (m:=5) (lim:=n) (λi h b _ _ D hb=>by
  obtain⟨w,h',e,a1,a2,a3⟩:=zlk C (k:=k) (nf:=nf) D hb (by lia) (by lia)
  exact⟨w,h',by simp[ev,e],a1,a2,a3⟩) n 0 x h b (by lia) (by lia) D hb
 exact⟨ws,h',e,l,zco p,D',K'⟩
theorem zjj(f135:F 135=some fn135){k:Nat}{h:VH}{d c b:Nat}{wd nf:Nat}{gr:Int}(D:Dk h d c b)(hb:b+2000<1000000000)(w0:1<=wd)(w1:wd<=40)(n0:1<=nf)(n1:nf<=4)(g0:0<=gr)(g1:gr<=8) :
 ∃B h',run F (k+6) 135 [.ref d,.int wd,.int nf,.int gr] h=.ok (Bd.w B) h'/\B.Ok/\B.wd=wd/\B.gr=gr/\B.fd.length=nf/\B.rows.length<=6/\Dk h' d c (b+2000)/\Keep h h' d c:=by
 rw[zaj f135 rfl]
 have D0:Dk ⟨h.n,h.n,h.os⟩ d c b:=D.lo
 obtain⟨t3,h3,e3,a3,b3,D3,K3⟩:=take C.toCoreD (k:=k+2) (m:=7) D0 (by lia) (by lia) (by lia)
 obtain⟨nr,hnr⟩:=vat a3
 obtain⟨rs,h4,e4,l4,p4,D4,K4⟩:=ztq C (k:=k) (n:=nr) (wd:=wd) (g:=gr) (x:=none) D3 (by lia) (by lia) g0 (by lia)
 have D4':=D4.new (o:=.lst (rs.map .tup))
 obtain⟨fs,h6,e6,l6,p6,D6,K6⟩:=zll C (k:=k+2) (n:=nf) (wd:=wd) (x:=none) D4' (by lia) (by lia) (by lia)
 have D6':=D6.new (o:=.lst fs)
 obtain⟨ds,h7,e7,l7,p7,D7,K7⟩:=zoa C (k:=k+1) (n:=wd) (nf:=nf) (x:=none) D6' (by lia) (by lia) (by lia)
 obtain⟨hne,ns,cells,p,q,gd,gc,_⟩:=D4
 have gl:(h7.new (.lst ds)).get h4.n=some (.lst (rs.map .tup)):=by
  have n1:h4.n≠d:=vck (zao gd)
  have n2:h4.n≠c:=vck (zao gc)
  have q2:=K6.get h4.n _ n1 n2 zat
  have q3:(h6.new (.lst fs)).get h4.n=some (.lst (rs.map .tup)):=by rw[zak (zao q2)];exact q2
  have q4:=K7.get h4.n _ n1 n2 q3
  rw[zak (zao q4)];exact q4
 have s3:=zrl (cl:=run F (k+5)) (a:=.cons (.call 5 (.cons (.var 0) (.cons (.cst (.int (7))) .nil))) .nil) (ρ:=[some (.ref d),some (.int wd),some (.int nf),some (.int gr),none,none,none]) (h:=⟨h.n,h.n,h.os⟩) (h1:=h3) (n:=nr) (ow:=1) (ix:=[0,3,1]) (by simp[ev,e3,hnr]) (by lia) e4 (by rw[vab];lia)
 have s4:=zig (cl:=run F (k+5)) (a:=.cons (.var 2) .nil) (ρ:=[some (.ref d),some (.int wd),some (.int nf),some (.int gr),some (.ref h4.n),none,none]) (h:=h4.new (.lst (rs.map .tup))) (h1:=h4.new (.lst (rs.map .tup))) (n:=nf) (ow:=1) (ix:=[0,1]) (by simp[ev]) (by lia) e6 (by lia)
 have s5:=zig (cl:=run F (k+5)) (a:=.cons (.var 1) .nil) (ρ:=[some (.ref d),some (.int wd),some (.int nf),some (.int gr),some (.ref h4.n),some (.tup fs),none]) (h:=h6.new (.lst fs)) (h1:=h6.new (.lst fs)) (n:=wd) (ow:=1) (ix:=[0,2]) (by simp[ev]) (by lia) e7 (by lia)
 have body:exs (run F (k+5)) fn135.body [some (.ref d),some (.int wd),some (.int nf),some (.int gr),none,none,none] ⟨h.n,h.n,h.os⟩=.ok (.rt (Bd.w ⟨wd,gr,rs,fs,ds⟩)) (h7.new (.lst ds)):=by
  refine(zab (ρ':=[some (.ref d),some (.int wd),some (.int nf),some (.int gr),some (.ref h4.n),none,none]) (h':=h4.new (.lst (rs.map .tup))) (by unfold zkc;simp only[exs,s3,bindok];rfl)).trans ?_
  refine(zab (ρ':=[some (.ref d),some (.int wd),some (.int nf),some (.int gr),some (.ref h4.n),some (.tup fs),none]) (h':=h6.new (.lst fs)) (by unfold zkd;simp only[exs,s4,bindok];rfl)).trans ?_
  refine(zab (ρ':=[some (.ref d),some (.int wd),some (.int nf),some (.int gr),some (.ref h4.n),some (.tup fs),some (.tup ds)]) (h':=h7.new (.lst ds)) (by unfold zke;simp only[exs,s5,bindok];rfl)).trans ?_
  simp[exs,ev,biW,zer,seqW,gl,Bd.w]
 have KK:Keep ⟨h.n,h.n,h.os⟩ (h7.new (.lst ds)) d c:=(((K3.trans K4).new.trans K6).new.trans K7).new
 obtain⟨h8,e8,D8,K8⟩:=zbx (cl:=run F (k+5)) (fl:=.nx []) body (.inr ⟨b,D⟩) (D7.new.mono (show _<=b+2000 by lia)) KK
 refine⟨⟨wd,gr,rs,fs,ds⟩,h8,e8,⟨by show(1:Int)<=wd;lia,by show(wd:Int)<=40;lia,g0,by show gr<=8;lia,by show rs.length<=60;lia,p4,by show 1<=fs.length;lia,by show fs.length<=4;lia,p6,by show(ds.length:Int)=wd;lia,λw hw=>by show door w fs.length=true;rw[l6];exact p7 w hw⟩,rfl,rfl,l6,by show rs.length<=6;lia,D8,K8⟩
end
theorem slcE{cl:Call}{a lo hi:E}{bl bh:Bool}{ρ:En}{h h1 h2 h3 h4:VH}{x l u w:W}{l' u':Option Int}(ea:ev cl a ρ h=.ok x h1)(el:ev cl lo ρ h1=.ok l h2)(eu:ev cl hi ρ h2=.ok u h3)(pl:partW bl l=some l')(pu:partW bh u=some u')(e:slcW x l' u' h3=.ok w h4):ev cl (.slc a bl lo bh hi) ρ h=.ok w h4:=by
 rw[ev,ea,bindok,el,bindok,eu,bindok,pl,pu]
 exact e
theorem lst2E{cl:Call}{a b:E}{ρ:En}{h h1 h2:VH}{x y:W}(ea:ev cl a ρ h=.ok x h1)(eb:ev cl b ρ h1=.ok y h2):ev cl (.lst (.cons a (.cons b .nil))) ρ h=.ok (.ref h2.n) (h2.new (.lst [x,y])):=by
 rw[ev,ev,ea,bindok,ev,eb,bindok,ev];rfl
theorem ztz{xs ys:List Int}{h:VH}(hl:xs.length+ys.length<=1000000):opW .add (iW xs) (iW ys) h=.ok (iW (xs++ys)) h:=by
 unfold iW
 rw[ze0 (by rw[vab,vab];exact hl),vbn]
theorem iteF{cl:Call}{c:E}{a b:S}{ρ:En}{h h1:VH}(e:ev cl c ρ h=.ok (.bl false) h1):exs cl (.ite c a b) ρ h=exs cl b ρ h1:=by
 rw[exs,e];rfl
theorem iteT{cl:Call}{c:E}{a b:S}{ρ:En}{h h1:VH}(e:ev cl c ρ h=.ok (.bl true) h1):exs cl (.ite c a b) ρ h=exs cl a ρ h1:=by
 rw[exs,e];rfl
theorem truE{cl:Call}{a:E}{ρ:En}{h h1:VH}{b:Bool}(e:ev cl a ρ h=.ok (.bl b) h1):ev cl (.tru a) ρ h=.ok (.bl b) h1:=by
 rw[ev,e,bindok];rfl
theorem exprE{cl:Call}{a:E}{ρ:En}{h h1:VH}{x:W}(ea:ev cl a ρ h=.ok x h1):exs cl (.expr a) ρ h=.ok (.nx ρ) h1:=by
 rw[exs,ea,bindok]
theorem zkj{n:Nat}{ls:List Int}:zaw (n+2) (iW ls)=true:=by
 unfold iW
 rw[zb2,vbi]
 intro w hw
 obtain⟨x,_,rfl⟩:=vaw.mp hw
 rfl
theorem zob{P:Int->Prop}:∀{ws:List W},(∀w∈ws,∃x:Int,w=.int x/\P x)->∃xs:List Int,ws=xs.map .int/\∀x∈xs,P x
 |[],_=>⟨[],rfl,by simp⟩
 |w::r,h=>by
  obtain⟨x,rfl,hx⟩:=h w vaf
  obtain⟨xs,rfl,hs⟩:=zob λw hw=>h w (vad _ hw)
  refine⟨x::xs,rfl,λy hy=>?_⟩
  rcases vax.mp hy with rfl|hy
  .exact hx
  .exact hs y hy
theorem zoc{P:Nat->Prop}:∀{ws:List W},(∀w∈ws,∃x:Nat,w=.int x/\P x)->∃xs:List Nat,ws=rowW xs/\∀x∈xs,P x
 |[],_=>⟨[],rfl,by simp⟩
 |w::r,h=>by
  obtain⟨x,rfl,hx⟩:=h w vaf
  obtain⟨xs,rfl,hs⟩:=zoc λw hw=>h w (vad _ hw)
  refine⟨x::xs,rfl,λy hy=>?_⟩
  rcases vax.mp hy with rfl|hy
  .exact hx
  .exact hs y hy
theorem takeE{F:Nat->Option Fn}(D':CoreD F){k:Nat}{h:VH}{d c b:Nat}{m:Int}{ρ:En}{x y:E}{vi:Nat}(D:Dk h d c b)(hb:b<1000000000)(hm:0<m)(hm2:m<1073741824)(hx:ev (run F (k+3)) x ρ h=.ok (.ref d) h)(hy:ev (run F (k+3)) y ρ h=.ok (.int m) h) :
 ∃(r:Nat) (h':VH),ev (run F (k+3)) (.call 5 (.cons x (.cons y .nil))) ρ h=.ok (.int r) h'/\(r:Int)<m/\Dk h' d c (b+1)/\Keep h h' d c:=by
 obtain⟨r,h',e,r0,r1,D',K'⟩:=take D' (k:=k) (m:=m) D hb hm hm2
 obtain⟨n,rfl⟩:=vat r0
 exact⟨n,h',zb3 hx hy e,r1,D',K'⟩
theorem zg8{t:Nat}{h:VH}:opW .add (.int 1) (.int t) h=.ok (.int ((1+t:Nat):Int)) h:=by
 show Res.ok (W.int (1+ (t:Int))) h=_
 rw[show(1+ (t:Int))=((1+t:Nat):Int) by lia]
section
variable{F:Nat->Option Fn}(C:CoreD F)
include C
theorem zjk{k:Nat}{h:VH}{d c b g:Nat}(f20:F 20=some fn20)(D:Dk h d c b)(hb:b+10<1000000000)(hg:g<=8) :
 ∃ls h',run F (k+4) 20 [.ref d,.int g] h=.ok (iW ls) h'/\ls.length=g/\Bits ls/\Dk h' d c (b+10)/\Keep h h' d c:=by
 rw[zaj f20 rfl]
 have D0:Dk ⟨h.n,h.n,h.os⟩ d c b:=D.lo
 obtain⟨ws,h2,e2,p2,l2,D2,K2⟩:=zcz (cl:=run F (k+3)) (P:=λ_ w=>∃x:Int,w=.int x/\(x=0\/x=1)) (e:=zg4) (tl:=[some (.ref d)]) (m:=1) (lim:=g) (λi h b h0 hl D hb=>by
  obtain⟨r,h',e,r0,r1,D',K'⟩:=take C (k:=k) (m:=2) D (by lia) (by decide) (by decide)
  exact⟨.int r,h',by simp[zg4,ev,e],⟨r,rfl,by lia⟩,D',K'⟩) g 0 none ⟨h.n,h.n,h.os⟩ b (by lia) (by lia) D0 (by lia)
 obtain⟨ls,rfl,hbits⟩:=zob (zco p2)
 have e3:=zig (cl:=run F (k+3)) (a:=.cons (.var 1) .nil) (ρ:=[some (.ref d),some (.int g)]) (h:=⟨h.n,h.n,h.os⟩) (ow:=1) (ix:=[0]) (e:=zg4) (by simp[ev]) (by lia) e2 (by rw[l2];lia)
 obtain⟨h5,e5,D5,K5⟩:=zbx (cl:=run F (k+3)) (fl:=.nx []) (w:=iW ls) (body:=fn20.body) (ρ:=[some (.ref d),some (.int g)]) (F:=F) (k:=k+3) (h:=h) (h':=h2.new (.lst (ls.map .int))) (by simp only[fn20,exs,e3,bindok];rfl) (.inr ⟨b,D⟩) (D2.new.mono (show _<=b+10 by lia)) K2.new
 exact⟨ls,h5,e5,by rw[vab]at l2;exact l2,hbits,D5,K5⟩
end
structure CoreY1(F:Nat->Option Fn):Prop where
 f173:F 173=some fn173
 f174:F 174=some fn174
structure CoreY0(F:Nat->Option Fn):Prop where
 f173:F 173=some fn173
 f174:F 174=some fn174
 f175:F 175=some fn175
theorem varE0{cl:Call}{i:Nat}{ρ:En}{h:VH}{x:W}(e:ρ[i]?=some (some x)):ev cl (.var i) ρ h=.ok x h:=by
 rw[ev,e];rfl
theorem idxE0{cl:Call}{a b:E}{ρ:En}{h h1 h2:VH}{x y z:W}(ea:ev cl a ρ h=.ok x h1)(eb:ev cl b ρ h1=.ok y h2)(e:idxW h2 x y=some z):ev cl (.idx a b) ρ h=.ok z h2:=by
 rw[ev,ea,bindok,eb,bindok,e];rfl
theorem setE0{cl:Call}{i:Nat}{a:E}{ρ:En}{h h1:VH}{x:W}(ea:ev cl a ρ h=.ok x h1):exs cl (.set i a) ρ h=.ok (.nx (ρ.set i (some x))) h1:=by
 rw[exs,ea];rfl
theorem zod{h:VH}{x:W}{r:List W}:idxW h (.tup (x::r)) (.int 0)=some x:=zby (j:=0) (xs:=x::r) rfl
theorem zg9{h:VH}{i:Int}:eqW h (.int i) .non=some false:=rfl
section
variable{F:Nat->Option Fn}(C:CoreY1 F)
include C
theorem zqn{k:Nat}{h0:VH}{gs:List VO}{cs ts:List W}{ls:List Int}{w:W}{c wd hd:Int}(hm:zac w c wd (ls.length:Int)=true) :
 run F (k+1) 173 [w,.int hd,.ref (h0.n+2),.non] (st3 h0 gs cs ts (ls.map .int))=match stepP w hd ls with
  |none=>.ok .non (st3 h0 gs cs ts (ls.map .int))
  |some (d,_,l)=>.ok (.int d) (st3 h0 gs cs ts (l.map .int)):=by
 rw[zaj C.f173 rfl]
 rcases zbg hm with⟨rfl,h3,h4⟩|⟨rfl,h3⟩|⟨rfl,h3⟩|rfl|rfl|⟨p,q,rfl,h3,h4,h5,h6⟩
 .rw[zn1];simp[fn173,exs,ev,cmpW,zam]
 .rw[zjd];simp[fn173,exs,ev,cmpW,zam]
 .rw[zje];simp[fn173,exs,ev,cmpW,zam]
 .rw[zdd];simp[fn173,exs,ev,cmpW,zam]
 .rw[zn2];simp[fn173,exs,ev,cmpW,zam]
 .rw[zb5]
  have hp:p<ls.length:=by lia
  have e1:=zxu hp
  have g:VH.get ⟨(st3 h0 gs cs ts (ls.map .int)).n,(st3 h0 gs cs ts (ls.map .int)).n,(st3 h0 gs cs ts (ls.map .int)).os⟩ (h0.n+2)=some (.lst (ls.map .int)):=by rw[get_lo];exact st_l
  have e2:ixN (ls.map W.int).length (p:Int)=some p:=ztu (by rw[vab];exact hp)
  have e3:exs (run F k) fn173.body [some (.tup [.int p,.int q]),some (.int hd),some (.ref (h0.n+2)),some .non,none,none,none] ⟨(st3 h0 gs cs ts (ls.map .int)).n,(st3 h0 gs cs ts (ls.map .int)).n,(st3 h0 gs cs ts (ls.map .int)).os⟩=.ok (.rt (.int (if ls.getD p 0=q then -1 else 1))) (VH.set ⟨(st3 h0 gs cs ts (ls.map .int)).n,(st3 h0 gs cs ts (ls.map .int)).n,(st3 h0 gs cs ts (ls.map .int)).os⟩ (h0.n+2) (.lst ((ls.set p (1-ls.getD p 0)).map .int))):=by
   rw[List.map_set]
   generalize ls.getD p 0=y at e1 ⊢
   by_cases z:y=(q:Int)
   .simp only[fn173,exs,ev,tgW,seqW,za1,va6,vay,va9,ofsome,bindok,isi_tup,va1,tru_bl,ty_tuple_tuple,vbv,vbl,idxW,g,e1,opW,opI,e2,cmpW,za5,zg9,vdp,z,vd4,va3]
   .simp only[fn173,exs,ev,tgW,seqW,za1,va6,vay,va9,ofsome,bindok,isi_tup,va1,tru_bl,ty_tuple_tuple,vbv,vbl,idxW,g,e1,opW,opI,e2,cmpW,za5,zg9,vdp,z,decide_false,vbb]
  show fin _ (exs (run F k) fn173.body [some (.tup [.int p,.int q]),some (.int hd),some (.ref (h0.n+2)),some .non,none,none,none] _)=_
  rw[e3]
  exact zqi
theorem zt0{k:Nat}{h0:VH}{b l f:W}{r:List W}{c wd hd:Int}{cs ts:List W}{ls:List Int}{y:Option W}(ok:(r.length:Int)=wd/\rowOk wd (ls.length:Int) 0 r)(c0:0<=c)(c1:c<wd)(hc:cs.length<=1000)(ht:ts.length<=1000) :
 exs (run F (k+1)) zdf [some b,some l,some f,some .non,some (.int c),some (.ref h0.n),some (.ref (h0.n+1)),some (.ref (h0.n+2)),some (.int hd),some (.tup r),y] (st3 h0 [] cs ts (ls.map .int))=match stepP (colAt r c) hd ls with
  |none=>.ok (.bk [some b,some l,some f,some .non,some (.int c),some (.ref h0.n),some (.ref (h0.n+1)),some (.ref (h0.n+2)),some .non,some (.tup r),some (colAt r c)]) (st3 h0 [] cs ts (ls.map .int))
  |some (d,t,l')=>.ok (.nx [some b,some l,some f,some .non,some (.int (c+d)),some (.ref h0.n),some (.ref (h0.n+1)),some (.ref (h0.n+2)),some (.int d),some (.tup r),some (colAt r c)]) (st3 h0 [] (cs++[.int (c+d)]) (ts++t.map .int) (l'.map .int)):=by
 obtain⟨_,hm⟩:=zcj ok c0 c1
 have e0:=zxv ok c0 c1
 generalize colAt r c=w at hm e0 ⊢
 have e1:=zqn C (k:=k) (h0:=h0) (gs:=[]) (cs:=cs) (ts:=ts) (hd:=hd) hm
 unfold zdf
 rw[zab (ρ':=[some b,some l,some f,some .non,some (.int c),some (.ref h0.n),some (.ref (h0.n+1)),some (.ref (h0.n+2)),some (.int hd),some (.tup r),some w]) (h':=st3 h0 [] cs ts (ls.map .int)) (setE0 (idxE0 (x:=.tup r) (y:=.int c) (varE0 rfl) (varE0 rfl) e0))]
 have key:∀(d:Int)(l':List Int)(t:List Int),stepP w hd ls=some (d,t,l')->exs (run F (k+1)) (.seq (.ite (.and (.tru (.isi .tuple (.var 10))) (.cmp .ne (.idx (.var 10) (.cst (.int (0)))) (.var 3))) (.seq (.expr (.mt .append (.var 6) (.cons (.idx (.var 10) (.cst (.int (0)))) .nil))) .skip) .skip) (.seq (.aug 4 .add (.var 8)) (.seq (.expr (.mt .append (.var 5) (.cons (.var 4) .nil))) .skip))) [some b,some l,some f,some .non,some (.int c),some (.ref h0.n),some (.ref (h0.n+1)),some (.ref (h0.n+2)),some (.int d),some (.tup r),some w] (st3 h0 [] cs ts (l'.map .int))=.ok (.nx [some b,some l,some f,some .non,some (.int (c+d)),some (.ref h0.n),some (.ref (h0.n+1)),some (.ref (h0.n+2)),some (.int d),some (.tup r),some w]) (st3 h0 [] (cs++[.int (c+d)]) (ts++t.map .int) (l'.map .int)):=by
  intro d l' t es
  have fin:∀ts':List W,exs (run F (k+1)) (.seq (.aug 4 .add (.var 8)) (.seq (.expr (.mt .append (.var 5) (.cons (.var 4) .nil))) .skip)) [some b,some l,some f,some .non,some (.int c),some (.ref h0.n),some (.ref (h0.n+1)),some (.ref (h0.n+2)),some (.int d),some (.tup r),some w] (st3 h0 [] cs ts' (l'.map .int))=.ok (.nx [some b,some l,some f,some .non,some (.int (c+d)),some (.ref h0.n),some (.ref (h0.n+1)),some (.ref (h0.n+2)),some (.int d),some (.tup r),some w]) (st3 h0 [] (cs++[.int (c+d)]) ts' (l'.map .int)):=by
   intro ts'
   rw[zab (ρ':=[some b,some l,some f,some .non,some (.int (c+d)),some (.ref h0.n),some (.ref (h0.n+1)),some (.ref (h0.n+2)),some (.int d),some (.tup r),some w]) (h':=st3 h0 [] cs ts' (l'.map .int)) rfl]
   have ea:=zdc (cl:=run F (k+1)) (i:=5) (l:=h0.n) (x:=.var 4) (ρ:=[some b,some l,some f,some .non,some (.int (c+d)),some (.ref h0.n),some (.ref (h0.n+1)),some (.ref (h0.n+2)),some (.int d),some (.tup r),some w]) (h:=st3 h0 [] cs ts' (l'.map .int)) (h1:=st3 h0 [] cs ts' (l'.map .int)) (w:=.int (c+d)) (acc:=cs) (acc0:=cs) rfl st_c (by simp[ev]) st_c (by lia)
   rw[zts]at ea
   simp only[exs,ea,bindok]
  rcases zbg hm with⟨rfl,h3,h4⟩|⟨rfl,h3⟩|⟨rfl,h3⟩|rfl|rfl|⟨p,q,rfl,h3,h4,h5,h6⟩
  .rw[zn1]at es;cases es
   rw[zab (ρ':=[some b,some l,some f,some .non,some (.int c),some (.ref h0.n),some (.ref (h0.n+1)),some (.ref (h0.n+2)),some (.int hd),some (.tup r),some (.str sX)]) (h':=st3 h0 [] cs ts (ls.map .int)) rfl,fin];simp
  .rw[zjd]at es;cases es
   rw[zab (ρ':=[some b,some l,some f,some .non,some (.int c),some (.ref h0.n),some (.ref (h0.n+1)),some (.ref (h0.n+2)),some (.int (-1)),some (.tup r),some (.str sLt)]) (h':=st3 h0 [] cs ts (ls.map .int)) rfl,fin];simp
  .rw[zje]at es;cases es
   rw[zab (ρ':=[some b,some l,some f,some .non,some (.int c),some (.ref h0.n),some (.ref (h0.n+1)),some (.ref (h0.n+2)),some (.int 1),some (.tup r),some (.str sGt)]) (h':=st3 h0 [] cs ts (ls.map .int)) rfl,fin];simp
  .rw[zdd]at es;cases es
   rw[zab (ρ':=[some b,some l,some f,some .non,some (.int c),some (.ref h0.n),some (.ref (h0.n+1)),some (.ref (h0.n+2)),some (.int 0),some (.tup r),some (.str sDot)]) (h':=st3 h0 [] cs ts (ls.map .int)) rfl,fin];simp
  .rw[zn2]at es;cases es
  .rw[zb5]at es;cases es
   have ea:=zdc (cl:=run F (k+1)) (i:=6) (l:=h0.n+1) (x:=.idx (.var 10) (.cst (.int 0))) (ρ:=[some b,some l,some f,some .non,some (.int c),some (.ref h0.n),some (.ref (h0.n+1)),some (.ref (h0.n+2)),some (.int (if ls.getD p 0=q then -1 else 1)),some (.tup r),some (.tup [.int p,.int q])]) (h:=st3 h0 [] cs ts ((ls.set p (1-ls.getD p 0)).map .int)) (h1:=st3 h0 [] cs ts ((ls.set p (1-ls.getD p 0)).map .int)) (w:=.int p) (acc:=ts) (acc0:=ts) rfl st_t (by simp[ev,idxW];rfl) st_t (by lia)
   rw[ztt]at ea
   have eb:exs (run F (k+1)) (.ite (.and (.tru (.isi .tuple (.var 10))) (.cmp .ne (.idx (.var 10) (.cst (.int (0)))) (.var 3))) (.seq (.expr (.mt .append (.var 6) (.cons (.idx (.var 10) (.cst (.int (0)))) .nil))) .skip) .skip) [some b,some l,some f,some .non,some (.int c),some (.ref h0.n),some (.ref (h0.n+1)),some (.ref (h0.n+2)),some (.int (if ls.getD p 0=q then -1 else 1)),some (.tup r),some (.tup [.int p,.int q])] (st3 h0 [] cs ts ((ls.set p (1-ls.getD p 0)).map .int))=.ok (.nx [some b,some l,some f,some .non,some (.int c),some (.ref h0.n),some (.ref (h0.n+1)),some (.ref (h0.n+2)),some (.int (if ls.getD p 0=q then -1 else 1)),some (.tup r),some (.tup [.int p,.int q])]) (st3 h0 [] cs (ts++[.int p]) ((ls.set p (1-ls.getD p 0)).map .int)):=by
    rw[exs]
    have e5:ev (run F (k+1)) (.and (.tru (.isi .tuple (.var 10))) (.cmp .ne (.idx (.var 10) (.cst (.int (0)))) (.var 3))) [some b,some l,some f,some .non,some (.int c),some (.ref h0.n),some (.ref (h0.n+1)),some (.ref (h0.n+2)),some (.int (if ls.getD p 0=q then -1 else 1)),some (.tup r),some (.tup [.int p,.int q])] (st3 h0 [] cs ts ((ls.set p (1-ls.getD p 0)).map .int))=.ok (.bl true) (st3 h0 [] cs ts ((ls.set p (1-ls.getD p 0)).map .int)):=by simp[ev,zod,cmpW,zg9]
    rw[e5,bindok]
    simp only[exs,ea,bindok]
   rw[zab eb,fin]
   rfl
 cases es:stepP w hd ls with
 |none=>
  rw[es]at e1
  rw[zab (ρ':=[some b,some l,some f,some .non,some (.int c),some (.ref h0.n),some (.ref (h0.n+1)),some (.ref (h0.n+2)),some .non,some (.tup r),some w]) (h':=st3 h0 [] cs ts (ls.map .int)) (by simp only[exs,ev,va6,vay,va9,ofsome,bindok,e1,vbv,vbl])]
  exact zln rfl
 |some q=>
  obtain⟨d,t,l'⟩:=q
  rw[es]at e1
  rw[zab (ρ':=[some b,some l,some f,some .non,some (.int c),some (.ref h0.n),some (.ref (h0.n+1)),some (.ref (h0.n+2)),some (.int d),some (.tup r),some w]) (h':=st3 h0 [] cs ts (l'.map .int)) (by simp only[exs,ev,va6,vay,va9,ofsome,bindok,e1,vbv,vbl])]
  rw[zab (ρ':=[some b,some l,some f,some .non,some (.int c),some (.ref h0.n),some (.ref (h0.n+1)),some (.ref (h0.n+2)),some (.int d),some (.tup r),some w]) (h':=st3 h0 [] cs ts (l'.map .int)) rfl]
  exact key d l' t es
theorem zf5{k:Nat}{h0:VH}{b l f:W}{wd:Int}:∀(rs:List (List W)) (c hd:Int) (cs ts:List W) (ls:List Int) (x y:Option W),zbi wd (ls.length:Int) rs->0<=c->c<wd->-1<=hd->hd<=1->Bits ls->cs.length+rs.length<=1000->ts.length+rs.length<=1000->
 ∃c' hd' x' y',forL (tgW (.one 9)) (exs (run F (k+1)) zdf) (rs.map .tup) [some b,some l,some f,some .non,some (.int c),some (.ref h0.n),some (.ref (h0.n+1)),some (.ref (h0.n+2)),some (.int hd),x,y] (st3 h0 [] cs ts (ls.map .int)) =
  .ok (.nx [some b,some l,some f,some .non,c',some (.ref h0.n),some (.ref (h0.n+1)),some (.ref (h0.n+2)),hd',x',y']) (st3 h0 [] (cs++(fallP rs c hd ls).cs.map .int) (ts++(fallP rs c hd ls).ts.map .int) ((fallP rs c hd ls).ls.map .int))
 |[],c,hd,cs,ts,ls,x,y,_,_,_,_,_,_,_,_=>⟨some (.int c),some (.int hd),x,y,by simp[forL,fallP]⟩
 |r::rs,c,hd,cs,ts,ls,x,y,ok,c0,c1,h1,h2,bi,hc,ht=>by
  have hc':cs.length+rs.length+1<=1000:=by rw[vap]at hc;lia
  have ht':ts.length+rs.length+1<=1000:=by rw[vap]at ht;lia
  have eb:=zt0 C (k:=k) (h0:=h0) (b:=b) (l:=l) (f:=f) (hd:=hd) (cs:=cs) (ts:=ts) (y:=y) (ok r vaf) c0 c1 (by lia) (by lia)
  obtain⟨_,hm⟩:=zcj (ok r vaf) c0 c1
  cases e:stepP (colAt r c) hd ls with
  |none=>
   rw[e]at eb
   rw[za7 e]
   refine⟨some (.int c),some .non,some (.tup r),some (colAt r c),?_⟩
   simp only[vao,forL,tgW,vbv,vbl,eb,bindok,vdi,vb2]
  |some q=>
   obtain⟨d,t,l'⟩:=q
   rw[e]at eb
   obtain⟨a1,a2,a3,a4,a5,a6,a7⟩:=zb6 hm c0 c1 h1 h2 bi e
   obtain⟨c',hd',x',y',ih⟩:=zf5 (k:=k) (h0:=h0) (b:=b) (l:=l) (f:=f) rs (c+d) d (cs++[.int (c+d)]) (ts++t.map .int) l' (some (.tup r)) (some (colAt r c)) (λr hr=>by rw[a5];exact ok r (vad _ hr)) a3 a4 a1 a2 a6 (by simp only[vag,vba];lia) (by simp only[vag,vab];lia)
   rw[za2 e]
   refine⟨c',hd',x',y',?_⟩
   simp only[vao,forL,tgW,vbv,vbl,eb,bindok,ih,vbn,vbr,vc6]
theorem zt1{k:Nat}{h:VH}{B:Bd}{ls:List Int}{f:Nat}(b:B.Ok)(hf:f<B.fd.length)(hl:(ls.length:Int)=B.gr)(bi:Bits ls):run F (k+2) 174 [B.w,iW ls,.int f,.non] h=.ok (wayW B ls f) h:=by
 rw[zaj C.f174 rfl]
 obtain⟨e0,c0,c1⟩:=b.col hf
 have hr:=b.r1
 obtain⟨c',hd',x',y',el⟩:=zf5 C (k:=k) (h0:=h) (b:=B.w) (l:=iW ls) (f:=.int f) B.rows (B.col f) 0 [.int (B.col f)] [] ls none none (b.rows hl) c0 c1 (by decide) (by decide) bi (by rw[vba];lia) (by rw[vd0];lia)
 have e1:atI B.fd (f:Int)=some (.int (B.col f)):=zby e0
 have i3:atI [W.int B.wd,.int B.gr,.tup (B.rows.map .tup),.tup B.fd,.tup B.dr] 3=some (.tup B.fd):=rfl
 have i2:atI [W.int B.wd,.int B.gr,.tup (B.rows.map .tup),.tup B.fd,.tup B.dr] 2=some (.tup (B.rows.map .tup)):=rfl
 have hz:(B.rows.map W.tup).length<1000000:=by rw[vab];lia
 have eb:exs (run F (k+1)) fn174.body [some B.w,some (iW ls),some (.int f),some .non,none,none,none,none,none,none,none] ⟨h.n,h.n,h.os⟩=.ok (.rt (wayW B ls f)) (st3 h [] (([.int (B.col f)]:List W)++(fallP B.rows (B.col f) 0 ls).cs.map .int) (([]:List W)++(fallP B.rows (B.col f) 0 ls).ts.map .int) ((fallP B.rows (B.col f) 0 ls).ls.map .int)):=by
  show exs (run F (k+1)) (.seq _ _) _ _=_
  rw[zab (ρ':=[some B.w,some (iW ls),some (.int f),some .non,some (.int (B.col f)),none,none,none,none,none,none]) (h':=⟨h.n,h.n,h.os⟩) (by unfold Bd.w;simp[exs,ev,idxW,i3,e1])]
  rw[zab (ρ':=[some B.w,some (iW ls),some (.int f),some .non,some (.int (B.col f)),some (.ref h.n),none,none,none,none,none]) (h':=VH.new ⟨h.n,h.n,h.os⟩ (.lst [.int (B.col f)])) (by simp[exs,ev])]
  rw[zab (ρ':=[some B.w,some (iW ls),some (.int f),some .non,some (.int (B.col f)),some (.ref h.n),some (.ref (h.n+1)),none,none,none,none]) (h':=VH.new (VH.new ⟨h.n,h.n,h.os⟩ (.lst [.int (B.col f)])) (.lst [])) (by simp[exs,ev,VH.new])]
  rw[zab (ρ':=[some B.w,some (iW ls),some (.int f),some .non,some (.int (B.col f)),some (.ref h.n),some (.ref (h.n+1)),some (.ref (h.n+2)),none,none,none]) (h':=st3 h [] [.int (B.col f)] [] (ls.map .int)) (by unfold iW;simp[exs,ev,VH.new,biW,listW,seqW,st3])]
  rw[zab (ρ':=[some B.w,some (iW ls),some (.int f),some .non,some (.int (B.col f)),some (.ref h.n),some (.ref (h.n+1)),some (.ref (h.n+2)),some (.int 0),none,none]) (h':=st3 h [] [.int (B.col f)] [] (ls.map .int)) (by simp[exs,ev])]
  have ei:ev (run F (k+1)) (.idx (.var 0) (.cst (.int (2)))) [some B.w,some (iW ls),some (.int f),some .non,some (.int (B.col f)),some (.ref h.n),some (.ref (h.n+1)),some (.ref (h.n+2)),some (.int 0),none,none] (st3 h [] [.int (B.col f)] [] (ls.map .int))=.ok (.tup (B.rows.map .tup)) (st3 h [] [.int (B.col f)] [] (ls.map .int)):=by
   unfold Bd.w;simp[ev,idxW,i2]
  have ef:=zdq (tg:=tgW (.one 9)) (b:=exs (run F (k+1)) zdf) (ρ:=[some B.w,some (iW ls),some (.int f),some .non,some (.int (B.col f)),some (.ref h.n),some (.ref (h.n+1)),some (.ref (h.n+2)),some (.int 0),none,none]) (h:=st3 h [] [.int (B.col f)] [] (ls.map .int)) hz
  rw[el]at ef
  refine(zab (by rw[exs,ei,bindok,ef])).trans ?_
  have et:=tup3 (cl:=run F (k+1)) (zg6 (i:=5) (ρ:=[some B.w,some (iW ls),some (.int f),some .non,c',some (.ref h.n),some (.ref (h.n+1)),some (.ref (h.n+2)),hd',x',y']) rfl (st_c (h:=h) (gs:=[]) (c:=([.int (B.col f)]:List W)++(fallP B.rows (B.col f) 0 ls).cs.map .int) (t:=([]:List W)++(fallP B.rows (B.col f) 0 ls).ts.map .int) (l:=(fallP B.rows (B.col f) 0 ls).ls.map .int))) (zg6 (i:=6) rfl st_t) (zg6 (i:=7) rfl st_l)
  simp only[exs,et,bindok]
  rfl
 show fin h (exs (run F (k+1)) fn174.body [some B.w,some (iW ls),some (.int f),some .non,none,none,none,none,none,none,none] ⟨h.n,h.n,h.os⟩)=_
 rw[eb]
 exact zam (vai _) ztv
end
section
variable{F:Nat->Option Fn}(C:CoreY0 F)
include C
theorem zt2{k:Nat}{h:VH}{B:Bd}{ls:List Int}{f:Nat}(b:B.Ok)(hf:f<B.fd.length)(hl:(ls.length:Int)=B.gr)(bi:Bits ls):run F (k+2) 174 [B.w,iW ls,.int f,.non] h=.ok (wayW B ls f) h:=zt1 ⟨C.f173,C.f174⟩ b hf hl bi
noncomputable def downW(B:Bd)(ls:List Int)(f:Nat):W:=if(B.fall ls f).st then .non else .int (lastC (B.col f) (B.fall ls f).cs)
theorem zlr{k:Nat}{h:VH}{B:Bd}{ls:List Int}{f:Nat}(b:B.Ok)(hf:f<B.fd.length)(hl:(ls.length:Int)=B.gr)(bi:Bits ls):run F (k+3) 175 [B.w,iW ls,.int f,.non] h=.ok (.tup [downW B ls f,iW (B.fall ls f).ls]) h:=by
 rw[zaj C.f175 rfl]
 have e1:=zt2 C (k:=k) (h:=⟨h.n,h.n,h.os⟩) b hf hl bi
 have q:=b.fall hf hl bi
 have i2:atI [W.int B.wd,.int B.gr,.tup (B.rows.map .tup),.tup B.fd,.tup B.dr] 2=some (.tup (B.rows.map .tup)):=rfl
 have e2:exs (run F (k+2)) (.unp [4,5,6] (.call 174 (.cons (.var 0) (.cons (.var 1) (.cons (.var 2) (.cons (.var 3) .nil)))))) [some B.w,some (iW ls),some (.int f),some .non,none,none,none,none] ⟨h.n,h.n,h.os⟩=.ok (.nx [some B.w,some (iW ls),some (.int f),some .non,some (iW (B.col f:: (B.fall ls f).cs)),some (iW (B.fall ls f).ts),some (iW (B.fall ls f).ls),none]) ⟨h.n,h.n,h.os⟩:=by
  simp only[exs,ev,va6,vay,va9,ofsome,bindok,e1,wayW,tgW,seqW,za1,vbv,vbl,va1]
 have e3:ev (run F (k+2)) (.cmp .gt (.bi .len (.cons (.var 4) .nil)) (.bi .len (.cons (.idx (.var 0) (.cst (.int (2)))) .nil))) [some B.w,some (iW ls),some (.int f),some .non,some (iW (B.col f:: (B.fall ls f).cs)),some (iW (B.fall ls f).ts),some (iW (B.fall ls f).ls),none] ⟨h.n,h.n,h.os⟩=.ok (.bl (!(B.fall ls f).st)) ⟨h.n,h.n,h.os⟩:=by
  have:decide ((B.rows.length:Int)< ((B.fall ls f).cs.length:Int)+1)=!(B.fall ls f).st:=by
   cases z:(B.fall ls f).st with
   |true=>have:=q.c5 z;exact vbe (by lia)
   |false=>have:=q.c3 z;exact vbs (by lia)
  unfold Bd.w iW
  simp[ev,biW,lenW,seqW,idxW,i2,cmpW,cmpI,this]
 have el:=ztw (cs:=(B.fall ls f).cs) (c:=B.col f)
 show fin h (exs (run F (k+2)) (.seq (.unp [4,5,6] (.call 174 (.cons (.var 0) (.cons (.var 1) (.cons (.var 2) (.cons (.var 3) .nil)))))) _) [some B.w,some (iW ls),some (.int f),some .non,none,none,none,none] ⟨h.n,h.n,h.os⟩)=_
 rw[zab e2]
 have e4:ev (run F (k+2)) (.idx (.var 4) (.neg (.cst (.int (1))))) [some B.w,some (iW ls),some (.int f),some .non,some (iW (B.col f:: (B.fall ls f).cs)),some (iW (B.fall ls f).ts),some (iW (B.fall ls f).ls),none] ⟨h.n,h.n,h.os⟩=.ok (.int (lastC (B.col f) (B.fall ls f).cs)) ⟨h.n,h.n,h.os⟩:=by
  unfold iW
  simp only[ev,va6,vay,va9,ofsome,bindok,idxW,el]
 have e5:exs (run F (k+2)) (.set 7 (.ite (.cmp .gt (.bi .len (.cons (.var 4) .nil)) (.bi .len (.cons (.idx (.var 0) (.cst (.int (2)))) .nil))) (.idx (.var 4) (.neg (.cst (.int (1))))) (.cst .non))) [some B.w,some (iW ls),some (.int f),some .non,some (iW (B.col f:: (B.fall ls f).cs)),some (iW (B.fall ls f).ts),some (iW (B.fall ls f).ls),none] ⟨h.n,h.n,h.os⟩=.ok (.nx [some B.w,some (iW ls),some (.int f),some .non,some (iW (B.col f:: (B.fall ls f).cs)),some (iW (B.fall ls f).ts),some (iW (B.fall ls f).ls),some (downW B ls f)]) ⟨h.n,h.n,h.os⟩:=by
  unfold downW
  rw[exs,ev,e3]
  cases z:(B.fall ls f).st with
  |true=>rfl
  |false=>simp only[vdp,bindok,e4];rfl
 rw[zab e5]
 simp only[exs]
 rw[tup2 (x:=downW B ls f) (y:=iW (B.fall ls f).ls) rfl rfl]
 refine zam (vai _) ?_
 unfold downW
 split<;>simp[iW_lt]
end
noncomputable abbrev Stn:=List Int×Option Nat
noncomputable def stW(s:Stn):W:=.tup [iW s.1,optW s.2]
noncomputable def dkS(s:Stn):DK:=(s.1,s.2.map λ(f:Nat)=>(f:Int))
theorem zha:∀ls:List Int,mapO intD (ls.map .int)=some ls
 |[]=>rfl
 |x::ls=>by
  have h:=zha ls
  rw[vao]
  unfold mapO
  simp only[intD,h]
theorem ze8(s:Stn):keyD (stW s)=some (dkS s):=by
 obtain⟨ls,fo⟩:=s
 cases fo with
 |none=>simp[stW,iW,optW,keyD,zha,dkS]
 |some f=>simp[stW,iW,optW,keyD,zha,dkS]
theorem zt3{s t:Stn}(h:dkS s=dkS t):s=t:=by
 obtain⟨ls,fo⟩:=s
 obtain⟨ms,go⟩:=t
 unfold dkS at h
 have h1:=vdv Prod.fst h
 have h2:=vdv Prod.snd h
 simp only at h1 h2
 subst h1
 cases fo<;>cases go<;>simp at h2 ⊢
 lia
noncomputable def zba:Str:=vgb "board"
noncomputable def zbl:Str:=vgb "fault"
noncomputable def sOut:Str:=vgb "outcomes"
noncomputable def fn344(C:Addr):Fn:=⟨3,3,(.seq (.sat C zba (.var 0) (.var 1)) (.seq (.sat C zbl (.var 0) (.var 2)) (.seq (.sat C sOut (.var 0) (.dsp .nil)) .skip)))⟩
noncomputable def fn345(C:Addr):Fn:=⟨3,4,(.seq (.set 3 (.tup (.cons (.var 1) (.cons (.var 2) .nil)))) (.seq (.ite (.cmp .nin (.var 3) (.att C sOut (.var 0))) (.seq (.put (.att C sOut (.var 0)) (.var 3) (.call 176 (.cons (.att C zba (.var 0)) (.cons (.var 1) (.cons (.var 2) (.cons (.att C zbl (.var 0)) .nil)))))) .skip) .skip) (.seq (.ret (.idx (.att C sOut (.var 0)) (.var 3))) .skip)))⟩
noncomputable def fn347(C:Addr):Fn:=⟨2,2,(.seq (.ret (.mk C 344 (.cons (.var 0) (.cons (.var 1) .nil)))) .skip)⟩
noncomputable def zb7(C:Addr):S:=(.seq (.unp [5,1] (.mcall C (vgb "fall") 345 (.var 0) (.cons (.var 1) (.cons (.var 4) .nil)))) (.seq (.expr (.mt .append (.var 3) (.cons (.idx (.var 5) (.cst (.int (0)))) .nil))) .skip))
noncomputable def fn179(C:Addr):Fn:=⟨3,6,(.seq (.set 3 (.lst .nil)) (.seq (.«for» .seq (.var 2) (.one 4) (zb7 C)) (.seq (.ret (.tup (.cons (.bi .tuple (.cons (.var 3) .nil)) (.cons (.var 1) .nil)))) .skip)))⟩
noncomputable def fn180:Fn:=⟨2,2,(.seq (.ite (.not (.tru (.call 28 (.cons (.var 1) (.cons (.bi .len (.cons (.idx (.var 0) (.cst (.int (3)))) .nil)) (.cons (.cst (.int (2000))) .nil)))))) (.seq .no .skip) .skip) .skip)⟩
noncomputable def fn183:Fn:=⟨3,3,(.seq (.expr (.call 24 (.cons (.var 0) (.cons (.var 1) .nil)))) (.seq (.expr (.call 180 (.cons (.var 0) (.cons (.var 2) .nil)))) (.seq (.ret (.call 179 (.cons (.call 347 (.cons (.var 0) (.cons (.cst .non) .nil))) (.cons (.var 1) (.cons (.var 2) .nil))))) .skip)))⟩
structure CoreO(F:Nat->Option Fn)(c:Addr):Prop extends CoreY0 F where
 f176:F 176=some fn176
 f344:F 344=some (fn344 c)
 f345:F 345=some (fn345 c)
 f347:F 347=some (fn347 c)
 f179:F 179=some (fn179 c)
noncomputable def outS(B:Bd)(s:Stn):W:=match s.2 with
 |some f=>.tup [outD B s.1 f,iW (B.fall s.1 f).ls]
 |none=>.non
theorem zdj{B:Bd}{s:Stn}:∀(xs:List Stn),lookD (xs.map stW) (xs.map (outS B)) (dkS s)=if s∈xs then some (outS B s)else none
 |[]=>by simp[lookD]
 |x::xs=>by
  have ih:=zdj (B:=B) (s:=s) xs
  rw[vao,vao]
  unfold lookD
  by_cases e:x=s
  .subst e
   rw[if_pos (ze8 x),if_pos vaf]
  .rw[if_neg (by rw[ze8];intro z;exact e (zt3 (vbj z))),ih]
   by_cases hm:s∈xs
   .rw[if_pos hm,if_pos (vad _ hm)]
   .rw[if_neg hm,if_neg (by simp[hm,vbw e])]
noncomputable def flds:List Str:=[zba,zbl,sOut]
structure Bq(c:Addr)(B:Bd)(h:VH)(o d:Nat)(xs:List Stn):Prop where
 ins:h.get o=some (.ins c flds [B.w,.non,.ref d])
 dct:h.get d=some (.dt (xs.map stW) (xs.map (outS B)))
theorem Bq.ne{c:Addr}{B:Bd}{h:VH}{o d:Nat}{xs:List Stn}(b:Bq c B h o d xs):o≠d:=λz=>by
 have:=b.ins
 rw[z,b.dct]at this;cases this
theorem Bq.lo{c:Addr}{B:Bd}{h:VH}{o d l:Nat}{xs:List Stn}(b:Bq c B h o d xs):Bq c B ⟨h.n,l,h.os⟩ o d xs:=⟨b.ins,b.dct⟩
theorem sBF:(zbl=zba)=False:=by simp only[vdx,vd9];decide +kernel
theorem sBO:(zba=sOut)=False:=by simp only[vdx,vd9];decide +kernel
theorem sFO:(zbl=sOut)=False:=by simp only[vdx,vd9];decide +kernel
theorem sBF':(zba=zbl)=False:=by simp only[vdx,vd9];decide +kernel
section
variable{c:Addr}{B:Bd}{h:VH}{o d:Nat}{xs:List Stn}{cl:Call}{ρ:En}{i:Nat}
theorem att_o(b:Bq c B h o d xs)(hρ:ρ[i]?=some (some (.ref o))):ev cl (.att c sOut (.var i)) ρ h=.ok (.ref d) h:=by
 rw[ev,varE hρ,bindok]
 simp only[attW,b.ins,va3,flds,lookF,sBO,sFO,vbb,ofsome]
theorem att_b(b:Bq c B h o d xs)(hρ:ρ[i]?=some (some (.ref o))):ev cl (.att c zba (.var i)) ρ h=.ok B.w h:=by
 rw[ev,varE hρ,bindok]
 simp only[attW,b.ins,va3,flds,lookF,ofsome]
theorem att_f(b:Bq c B h o d xs)(hρ:ρ[i]?=some (some (.ref o))):ev cl (.att c zbl (.var i)) ρ h=.ok .non h:=by
 rw[ev,varE hρ,bindok]
 simp only[attW,b.ins,va3,flds,lookF,sBF',vbb,ofsome]
end
theorem zxx{h:VH}{a:Nat}{B:Bd}{xs:List Stn}{s:Stn}(g:h.get a=some (.dt (xs.map stW) (xs.map (outS B)))):inW h (stW s) (.ref a)=some (decide (s∈xs)):=by
 have e:seqW h (.ref a)=none:=by simp[seqW,g]
 unfold inW
 rw[e]
 simp only[inD,g,ze8,zdj]
 by_cases hm:s∈xs<;>simp[hm]
theorem zoe{h:VH}{a:Nat}{B:Bd}{xs:List Stn}{s:Stn}(g:h.get a=some (.dt (xs.map stW) (xs.map (outS B))))(hm:s∈xs):idxW h (.ref a) (stW s)=some (outS B s):=by
 show idxD h a (stW s)=_
 simp only[idxD,g,ze8,zdj,if_pos hm]
theorem putO{cl:Call}{o i v:E}{ρ:En}{h h1 h2 h3:VH}{a:Nat}{B:Bd}{w:W}{xs:List Stn}{s:Stn}(ev1:ev cl v ρ h=.ok w h1)(ev2:ev cl o ρ h1=.ok (.ref a) h2)(ev3:ev cl i ρ h2=.ok (stW s) h3)(g:h3.get a=some (.dt (xs.map stW) (xs.map (outS B))))(hn:s∉xs)(hl:xs.length<=100000) :
 exs cl (.put o i v) ρ h=.ok (.nx ρ) (h3.set a (.dt (xs.map stW++[stW s]) (xs.map (outS B)++[w]))):=by
 rw[exs,ev1,bindok,ev2,bindok,ev3,bindok]
 show putD ρ a (stW s) w h3=_
 have hb:Nat.blt (xs.map stW).length big=true:=znz (by rw[vab];omega)
 simp only[putD,g,ze8,zdj,if_neg hn,hb]
 rfl
section
variable{F:Nat->Option Fn}(Y:CoreY0 F)(f176:F 176=some fn176)
include Y f176
theorem zof{k:Nat}{h:VH}{B:Bd}{ls:List Int}{f:Nat}(b:B.Ok)(hf:f<B.fd.length)(hl:(ls.length:Int)=B.gr)(bi:Bits ls):run F (k+4) 176 [B.w,iW ls,.int f,.non] h=.ok (.tup [outD B ls f,iW (B.fall ls f).ls]) h:=by
 rw[zaj f176 rfl]
 have e1:=zlr Y (k:=k) (h:=⟨h.n,h.n,h.os⟩) b hf hl bi
 have q:=b.fall hf hl bi
 obtain⟨a1,a2⟩:=b.door q.c4.1 q.c4.2
 have e2:exs (run F (k+3)) (.unp [4,5] (.call 175 (.cons (.var 0) (.cons (.var 1) (.cons (.var 2) (.cons (.var 3) .nil)))))) [some B.w,some (iW ls),some (.int f),some .non,none,none,none] ⟨h.n,h.n,h.os⟩=.ok (.nx [some B.w,some (iW ls),some (.int f),some .non,some (downW B ls f),some (iW (B.fall ls f).ls),none]) ⟨h.n,h.n,h.os⟩:=by
  simp only[exs,ev,va6,vay,va9,ofsome,bindok,e1,tgW,seqW,za1,vbv,vbl,va1]
 have i4:idxW ⟨h.n,h.n,h.os⟩ B.w (.int 4)=some (.tup B.dr):=rfl
 have e3:ev (run F (k+3)) (.ite (.cmp .isn (.var 4) (.cst .non)) (.cst (.tup [.non,.non])) (.idx (.idx (.var 0) (.cst (.int (4)))) (.var 4))) [some B.w,some (iW ls),some (.int f),some .non,some (downW B ls f),some (iW (B.fall ls f).ls),none] ⟨h.n,h.n,h.os⟩=.ok (outD B ls f) ⟨h.n,h.n,h.os⟩:=by
  unfold downW outD
  cases z:(B.fall ls f).st with
  |true=>simp[ev,cmpW,isNon]
  |false=>
   have i5:idxW ⟨h.n,h.n,h.os⟩ (.tup B.dr) (.int (lastC (B.col f) (B.fall ls f).cs))=some (B.door (lastC (B.col f) (B.fall ls f).cs)):=a1
   simp[ev,cmpW,isNon,i4,i5]
 show fin h (exs (run F (k+3)) fn176.body [some B.w,some (iW ls),some (.int f),some .non,none,none,none] ⟨h.n,h.n,h.os⟩)=_
 have eb:exs (run F (k+3)) fn176.body [some B.w,some (iW ls),some (.int f),some .non,none,none,none] ⟨h.n,h.n,h.os⟩=.ok (.rt (.tup [outD B ls f,iW (B.fall ls f).ls])) ⟨h.n,h.n,h.os⟩:=by
  refine(zab e2).trans ?_
  refine(zab (setE e3)).trans ?_
  exact zas (retE (tup2E (varE rfl) (varE rfl)))
 rw[eb]
 refine zam (vai _) ?_
 obtain⟨oe,_⟩:=ziq b hf hl bi
 rw[oe]
 simp[iW_lt,zn9,zn4 b hf hl bi]
end
theorem zog{F:Nat->Option Fn}{c:Addr}(C:CoreO F c){k:Nat}{h:VH}{B:Bd}{ls:List Int}{f:Nat}(b:B.Ok)(hf:f<B.fd.length)(hl:(ls.length:Int)=B.gr)(bi:Bits ls):run F (k+4) 176 [B.w,iW ls,.int f,.non] h=.ok (.tup [outD B ls f,iW (B.fall ls f).ls]) h:=zof C.toCoreY0 C.f176 b hf hl bi
theorem zt4{B:Bd}{ls:List Int}{f n:Nat}(b:B.Ok)(hf:f<B.fd.length)(hl:(ls.length:Int)=B.gr)(bi:Bits ls):W.lt n (outS B (ls,some f))=true:=by
 obtain⟨oe,_⟩:=ziq b hf hl bi
 show W.lt n (.tup [outD B ls f,iW (B.fall ls f).ls])=true
 rw[oe]
 simp[iW_lt,zn9,zn4 b hf hl bi]
theorem Bq.put{c:Addr}{B:Bd}{h:VH}{o d:Nat}{xs:List Stn}{s:Stn}(q:Bq c B h o d xs):Bq c B (h.set d (.dt (xs.map stW++[stW s]) (xs.map (outS B)++[outS B s]))) o d (xs++[s]):=by
 refine⟨?_,?_⟩
 .rw[zal q.dct q.ne];exact q.ins
 .rw[za6 q.dct,vbn,vbn];rfl
theorem Bq.other{c:Addr}{B:Bd}{h:VH}{o d l:Nat}{xs:List Stn}{ns ms:List W}(q:Bq c B h o d xs)(g:h.get l=some (.lst ns)):Bq c B (h.set l (.lst ms)) o d xs:=by
 refine⟨?_,?_⟩
 .rw[zal g λz=>by subst z;rw[q.ins]at g;cases g];exact q.ins
 .rw[zal g λz=>by subst z;rw[q.dct]at g;cases g];exact q.dct
theorem zxy{h:VH}{i b:Nat}{o:VO}(h1:b<=h.lo)(h2:b<=i):b<=(h.set i o).lo:=by
 unfold VH.set
 simp only
 split<;>assumption
section
variable{F:Nat->Option Fn}{c:Addr}(C:CoreO F c)
include C
theorem fall3{k:Nat}{h:VH}{B:Bd}{ls:List Int}{f o d:Nat}{xs:List Stn}(b:B.Ok)(hf:f<B.fd.length)(hl:(ls.length:Int)=B.gr)(bi:Bits ls)(q:Bq c B h o d xs)(hx:xs.length<=100000) :
 ∃h' xs',run F (k+5) 345 [.ref o,iW ls,.int f] h=.ok (outS B (ls,some f)) h'/\Bq c B h' o d xs'/\h'.n=h.n/\(∀z,z<=h.lo->z<=d->z<=h'.lo)/\(∀i,i≠d->h'.get i=h.get i)/\xs'.length<=xs.length+1:=by
 have q0:Bq c B ⟨h.n,h.n,h.os⟩ o d xs:=q.lo
 have s1:exs (run F (k+4)) (.set 3 (.tup (.cons (.var 1) (.cons (.var 2) .nil)))) [some (.ref o),some (iW ls),some (.int f),none] ⟨h.n,h.n,h.os⟩=.ok (.nx [some (.ref o),some (iW ls),some (.int f),some (stW (ls,some f))]) ⟨h.n,h.n,h.os⟩:=setE (tup2E (varE rfl) (varE rfl))
 have ec:ev (run F (k+4)) (.cmp .nin (.var 3) (.att c sOut (.var 0))) [some (.ref o),some (iW ls),some (.int f),some (stW (ls,some f))] ⟨h.n,h.n,h.os⟩=.ok (.bl (!decide ((ls,some f)∈xs))) ⟨h.n,h.n,h.os⟩:=by
  rw[ev,varE rfl,bindok,att_o q0 rfl,bindok]
  simp only[cmpW,zxx q0.dct,va1,ofsome]
 rw[zaj C.f345 rfl]
 by_cases hm:(ls,some f)∈xs
 .refine⟨h,xs,?_,q,rfl,λz h1 _=>h1,λ_ _=>rfl,vdf _⟩
  rw[vbs hm]at ec
  have eb:exs (run F (k+4)) (fn345 c).body [some (.ref o),some (iW ls),some (.int f),none] ⟨h.n,h.n,h.os⟩=.ok (.rt (outS B (ls,some f))) ⟨h.n,h.n,h.os⟩:=by
   refine(zab s1).trans ?_
   refine(zab (b:=_) ((iteF ec).trans rfl)).trans ?_
   refine zas (retE ?_)
   rw[ev,att_o q0 rfl,bindok,varE rfl,bindok,zoe q0.dct hm,ofsome]
  show fin h (exs (run F (k+4)) (fn345 c).body [some (.ref o),some (iW ls),some (.int f),none] ⟨h.n,h.n,h.os⟩)=_
  rw[eb]
  exact zam (vai _) (zt4 b hf hl bi)
 .rw[vbe hm]at ec
  have e1:=zog C (k:=k) (h:=⟨h.n,h.n,h.os⟩) b hf hl bi
  have ev1:ev (run F (k+4)) (.call 176 (.cons (.att c zba (.var 0)) (.cons (.var 1) (.cons (.var 2) (.cons (.att c zbl (.var 0)) .nil))))) [some (.ref o),some (iW ls),some (.int f),some (stW (ls,some f))] ⟨h.n,h.n,h.os⟩=.ok (outS B (ls,some f)) ⟨h.n,h.n,h.os⟩:=by
   have:ev (run F (k+4)) (.cons (.att c zba (.var 0)) (.cons (.var 1) (.cons (.var 2) (.cons (.att c zbl (.var 0)) .nil)))) [some (.ref o),some (iW ls),some (.int f),some (stW (ls,some f))] ⟨h.n,h.n,h.os⟩=.ok (.tup [B.w,iW ls,.int f,.non]) ⟨h.n,h.n,h.os⟩:=by
    rw[ev,att_b q0 rfl,bindok,ev,varE rfl,bindok,ev,varE rfl,bindok,ev,att_f q0 rfl,bindok,ev]
    rfl
   rw[ev,this,bindok]
   exact e1
  have e2:=putO (s:=(ls,some f)) (i:=.var 3) ev1 (att_o (i:=0) q0 rfl) (varE rfl) q0.dct hm hx
  have q1:=q0.put (s:=(ls,some f))
  have hd:d<h.n:=zao q.dct
  refine⟨⟨h.n,if Nat.ble h.lo d then h.lo else d,h.os.set (h.n-1-d) (.dt (xs.map stW++[stW (ls,some f)]) (xs.map (outS B)++[outS B (ls,some f)]))⟩,xs++[(ls,some f)],?_,⟨q1.ins,q1.dct⟩,rfl,λz h1 h2=>?_,λi hi=>zal (h:=⟨h.n,h.n,h.os⟩) q0.dct hi,by simp⟩
  .have eb:exs (run F (k+4)) (fn345 c).body [some (.ref o),some (iW ls),some (.int f),none] ⟨h.n,h.n,h.os⟩=.ok (.rt (outS B (ls,some f))) ((VH.mk h.n h.n h.os).set d (.dt (xs.map stW++[stW (ls,some f)]) (xs.map (outS B)++[outS B (ls,some f)]))):=by
    refine(zab s1).trans ?_
    refine(zab (b:=_) ((iteT ec).trans ((zab e2).trans rfl))).trans ?_
    refine zas (retE ?_)
    rw[ev,att_o q1 rfl,bindok,varE rfl,bindok,zoe q1.dct (by simp),ofsome]
   show fin h (exs (run F (k+4)) (fn345 c).body [some (.ref o),some (iW ls),some (.int f),none] ⟨h.n,h.n,h.os⟩)=_
   rw[eb]
   show leave h _ _=_
   unfold leave VH.set
   have h1:Nat.blt d h.n=true:=zan.mpr hd
   have h2:Nat.ble h.n d=false:=by
    cases z:Nat.ble h.n d with
    |false=>rfl
    |true=>exact absurd (va5 z) (by omega)
   simp only[h1,va3,h2,vcp,vam,vbb]
  .show z<=(if Nat.ble h.lo d then h.lo else d)
   split<;>assumption
end
theorem zt5{a b e:W}:lookF (vgb "fall") flds [a,b,e]=none:=by
 have h1:(zba=vgb "fall")=False:=by simp only[vdx,vd9];decide +kernel
 have h2:(zbl=vgb "fall")=False:=by simp only[vdx,vd9];decide +kernel
 have h3:(sOut=vgb "fall")=False:=by simp only[vdx,vd9];decide +kernel
 simp only[flds,lookF,h1,h2,h3,vbb]
section
variable{F:Nat->Option Fn}{c:Addr}(C:CoreO F c)
include C
theorem zf6{k:Nat}{B:Bd}{row:W}{o d l:Nat}(b:B.Ok):∀(r:List Nat) (ls:List Int) (ns:List W) (xs:List Stn) (g:VH) (x y:Option W),(∀f∈r,f<B.fd.length)->(ls.length:Int)=B.gr->Bits ls->ns.length+r.length<=100000->xs.length+r.length<=100000->Bq c B g o d xs->g.get l=some (.lst ns)->
 ∃g' xs' x' y',forL (tgW (.one 4)) (exs (run F (k+5)) (zb7 c)) (rowW r) [some (.ref o),some (iW ls),some row,some (.ref l),x,y] g=.ok (.nx [some (.ref o),some (iW (toldP B r ls).2),some row,some (.ref l),x',y']) g'/\Bq c B g' o d xs'/\g'.get l=some (.lst (ns++(toldP B r ls).1))/\xs'.length<=xs.length+r.length/\∀z,z<=g.lo->z<=d->z<=l->z<=g'.lo
 |[],ls,ns,xs,g,x,y,_,_,_,_,_,q,gl=>⟨g,xs,x,y,by simp[forL,rowW,toldP],q,by simpa[toldP]using gl,vcz _ _,λz h _ _=>h⟩
 |f::r,ls,ns,xs,g,x,y,hr,hl,bi,hn,hx,q,gl=>by
  have hf:=hr f vaf
  have qf:=b.fall hf hl bi
  obtain⟨z,ez,_⟩:=ze3 b hf hl bi
  rw[vap]at hn hx
  obtain⟨g1,xs1,e1,q1,n1,lo1,o1,l1⟩:=fall3 C (k:=k) b hf hl bi q (by omega)
  have gl1:g1.get l=some (.lst ns):=by
   rw[o1 l λz=>by subst z;rw[q.dct]at gl;cases gl];exact gl
  have em:ev (run F (k+5)) (.mcall c (vgb "fall") 345 (.var 0) (.cons (.var 1) (.cons (.var 4) .nil))) [some (.ref o),some (iW ls),some row,some (.ref l),some (.int f),y] g=.ok (outS B (ls,some f)) g1:=by
   have ea:ev (run F (k+5)) (.cons (.var 1) (.cons (.var 4) .nil)) [some (.ref o),some (iW ls),some row,some (.ref l),some (.int f),y] g=.ok (.tup [iW ls,.int f]) g:=by
    rw[ev,varE rfl,bindok,ev,varE rfl,bindok,ev];rfl
   have hi:isIns c (vgb "fall") g (.ref o)=true:=by
    simp only[isIns,q.ins,zt5,vd4,Option.isNone_none,Bool.and_self]
   rw[ev,varE rfl,bindok]
   show(if isIns c (vgb "fall") g (.ref o)=true then _ else _)=_
   rw[if_pos hi,ea,bindok]
   exact e1
  have e2:exs (run F (k+5)) (.unp [5,1] (.mcall c (vgb "fall") 345 (.var 0) (.cons (.var 1) (.cons (.var 4) .nil)))) [some (.ref o),some (iW ls),some row,some (.ref l),some (.int f),y] g=.ok (.nx [some (.ref o),some (iW (B.fall ls f).ls),some row,some (.ref l),some (.int f),some (outD B ls f)]) g1:=by
   rw[exs,em,bindok]
   rfl
  have ea:=zdc (cl:=run F (k+5)) (i:=3) (l:=l) (x:=.idx (.var 5) (.cst (.int 0))) (ρ:=[some (.ref o),some (iW (B.fall ls f).ls),some row,some (.ref l),some (.int f),some (outD B ls f)]) (h:=g1) (h1:=g1) (w:=nameP B ls f) (acc:=ns) (acc0:=ns) rfl gl1 (by rw[ez];simp only[ev,va6,vay,va9,ofsome,bindok,idxW];rfl) gl1 (by omega)
  obtain⟨g',xs',x',y',ih,iq,il,ixl,ilo⟩:=zf6 (k:=k) (row:=row) b r (B.fall ls f).ls (ns++[nameP B ls f]) xs1 (g1.set l (.lst (ns++[nameP B ls f]))) (some (.int f)) (some (outD B ls f)) (λg hg=>hr g (vad _ hg)) (by rw[qf.l1];exact hl) qf.l2 (by rw[vag,vba];omega) (by omega) (q1.other gl1) (za6 gl1)
  refine⟨g',xs',x',y',?_,iq,by rw[il];simp only[toldP,vbr,vc6],by rw[vap];omega,λz h1 h2 h3=>ilo z (zxy (lo1 z h1 h2) h3) h2 h3⟩
  have eb:exs (run F (k+5)) (zb7 c) [some (.ref o),some (iW ls),some row,some (.ref l),some (.int f),y] g=.ok (.nx [some (.ref o),some (iW (B.fall ls f).ls),some row,some (.ref l),some (.int f),some (outD B ls f)]) (g1.set l (.lst (ns++[nameP B ls f]))):=by
   unfold zb7
   rw[zab e2]
   simp only[exs,ea,bindok]
  show forL (tgW (.one 4)) (exs (run F (k+5)) (zb7 c)) (.int f::rowW r) _ _=_
  simp only[forL,tgW,vbv,vbl,eb,bindok,ih,toldP]
end
section
variable{F:Nat->Option Fn}{c:Addr}(C:CoreO F c)
include C
theorem init3{k:Nat}{h:VH}{w1 w2:W}:run F (k+1) 344 [.ref h.n,w1,w2] (h.new (.ins c [] []))=.ok .non ⟨h.n+2,if Nat.ble h.lo h.n then h.lo else h.n,.dt [] [] :: .ins c flds [w1,w2,.ref (h.n+1)]::h.os⟩:=by
 rw[zaj C.f344 rfl]
 have b1:Nat.blt h.n (h.n+1)=true:=zan.mpr (by lia)
 have b2:Nat.blt h.n (h.n+2)=true:=zan.mpr (by lia)
 have b3:Nat.blt h.n h.n=false:=by
  cases z:Nat.blt h.n h.n with
  |false=>rfl
  |true=>exact absurd (zan.mp z) (vca _)
 have b4:Nat.ble (h.n+1) h.n=false:=by
  cases z:Nat.ble (h.n+1) h.n with
  |false=>rfl
  |true=>exact absurd (va5 z) (by lia)
 have s1:exs (run F k) (.sat c zba (.var 0) (.var 1)) [some (.ref h.n),some w1,some w2] ⟨h.n+1,h.n+1,.ins c [] []::h.os⟩=.ok (.nx [some (.ref h.n),some w1,some w2]) ⟨h.n+1,h.n,.ins c [zba] [w1]::h.os⟩:=by
  have g:(VH.mk (h.n+1) (h.n+1) (.ins c [] []::h.os)).get h.n=some (.ins c [] []):=zat (h:=⟨h.n,h.n+1,h.os⟩)
  rw[exs,varE rfl,bindok,varE rfl,bindok]
  simp only[satW,g,vd4,vdw]
  rw[if_pos (by decide)]
  unfold VH.set
  simp only[b1,va3,show h.n+1-1-h.n=0 by lia,vbl,putN,putV]
 have s2:exs (run F k) (.sat c zbl (.var 0) (.var 2)) [some (.ref h.n),some w1,some w2] ⟨h.n+1,h.n,.ins c [zba] [w1]::h.os⟩=.ok (.nx [some (.ref h.n),some w1,some w2]) ⟨h.n+1,h.n,.ins c [zba,zbl] [w1,w2]::h.os⟩:=by
  have g:(VH.mk (h.n+1) h.n (.ins c [zba] [w1]::h.os)).get h.n=some (.ins c [zba] [w1]):=zat (h:=⟨h.n,h.n,h.os⟩)
  rw[exs,varE rfl,bindok,varE rfl,bindok]
  simp only[satW,g,vd4,vdw]
  rw[if_pos (by decide)]
  unfold VH.set
  simp only[b3,vam,vbb,show h.n+1-1-h.n=0 by lia,vbl,putN,putV,sBF']
 have s3:exs (run F k) (.sat c sOut (.var 0) (.dsp .nil)) [some (.ref h.n),some w1,some w2] ⟨h.n+1,h.n,.ins c [zba,zbl] [w1,w2]::h.os⟩=.ok (.nx [some (.ref h.n),some w1,some w2]) ⟨h.n+2,h.n,.dt [] [] :: .ins c flds [w1,w2,.ref (h.n+1)]::h.os⟩:=by
  have ed:ev (run F k) (.dsp .nil) [some (.ref h.n),some w1,some w2] ⟨h.n+1,h.n,.ins c [zba,zbl] [w1,w2]::h.os⟩=.ok (.ref (h.n+1)) ⟨h.n+2,h.n,.dt [] [] :: .ins c [zba,zbl] [w1,w2]::h.os⟩:=rfl
  have g:(VH.mk (h.n+2) h.n (.dt [] [] :: .ins c [zba,zbl] [w1,w2]::h.os)).get h.n=some (.ins c [zba,zbl] [w1,w2]):=by
   unfold VH.get
   simp only[b2,va3,show h.n+2-1-h.n=1 by lia]
   rfl
  rw[exs,ed,bindok,varE rfl,bindok]
  simp only[satW,g,vd4,vdw]
  rw[if_pos (by decide)]
  unfold VH.set
  simp only[b3,vam,vbb,show h.n+2-1-h.n=1 by lia,vbl,vbv,putN,putV,sBO,sFO,flds]
 have eb:exs (run F k) (fn344 c).body [some (.ref h.n),some w1,some w2] ⟨h.n+1,h.n+1,.ins c [] []::h.os⟩=.ok (.nx [some (.ref h.n),some w1,some w2]) ⟨h.n+2,h.n,.dt [] [] :: .ins c flds [w1,w2,.ref (h.n+1)]::h.os⟩:=(zab s1).trans ((zab s2).trans ((zab s3).trans rfl))
 show fin (h.new (.ins c [] [])) (exs (run F k) (fn344 c).body [some (.ref h.n),some w1,some w2] ⟨h.n+1,h.n+1,.ins c [] []::h.os⟩)=_
 rw[eb]
 show leave (h.new (.ins c [] [])) .non _=_
 unfold leave
 show(if(Nat.ble (h.n+1) h.n&&_)=true then _ else _)=_
 rw[b4,vcp,if_neg vcb]
 rfl
theorem zoh{k:Nat}{h:VH}{w1 w2:W}:∃lo,run F (k+2) 347 [w1,w2] h=.ok (.ref h.n) ⟨h.n+2,lo,.dt [] [] :: .ins c flds [w1,w2,.ref (h.n+1)]::h.os⟩/\∀z,z<=h.lo->z<=h.n->z<=lo:=by
 rw[zaj C.f347 rfl]
 have e:=init3 C (k:=k) (h:=⟨h.n,h.n,h.os⟩) (w1:=w1) (w2:=w2)
 have hbb:Nat.ble h.n h.n=true:=vd8.mpr (vai _)
 have ea:ev (run F (k+1)) (.cons (.var 0) (.cons (.var 1) .nil)) [some w1,some w2] ⟨h.n,h.n,h.os⟩=.ok (.tup [w1,w2]) ⟨h.n,h.n,h.os⟩:=by
  rw[ev,varE rfl,bindok,ev,varE rfl,bindok,ev];rfl
 have em:ev (run F (k+1)) (.mk c 344 (.cons (.var 0) (.cons (.var 1) .nil))) [some w1,some w2] ⟨h.n,h.n,h.os⟩=.ok (.ref h.n) ⟨h.n+2,h.n,.dt [] [] :: .ins c flds [w1,w2,.ref (h.n+1)]::h.os⟩:=by
  rw[ev,ea,bindok]
  show(run F (k+1) 344 [.ref h.n,w1,w2] _).bind _=_
  rw[e,bindok]
  simp only[hbb,va3]
  rfl
 have eb:exs (run F (k+1)) (fn347 c).body [some w1,some w2] ⟨h.n,h.n,h.os⟩=.ok (.rt (.ref h.n)) ⟨h.n+2,h.n,.dt [] [] :: .ins c flds [w1,w2,.ref (h.n+1)]::h.os⟩:=zas (retE em)
 refine⟨if Nat.ble h.lo h.n then h.lo else h.n,?_,λz h1 h2=>by split<;>assumption⟩
 show fin h (exs (run F (k+1)) (fn347 c).body [some w1,some w2] ⟨h.n,h.n,h.os⟩)=_
 rw[eb]
 show leave h (.ref h.n) _=_
 have hlt:W.lt h.n (.ref h.n)=false:=by
  show Nat.blt h.n h.n=false
  cases z:Nat.blt h.n h.n with
  |false=>rfl
  |true=>exact absurd (zan.mp z) (vca _)
 unfold leave
 rw[hlt,Bool.and_false,if_neg vcb]
omit C in
theorem Bq.new{B:Bd}{h:VH}{o d:Nat}{xs:List Stn}{v:VO}(q:Bq c B h o d xs):Bq c B (h.new v) o d xs:=
 ⟨(zak (zao q.ins)).trans q.ins,(zak (zao q.dct)).trans q.dct⟩
theorem zqo{k:Nat}{h:VH}{B:Bd}{ls:List Int}{r:List Nat}{o d:Nat}{xs:List Stn}(b:B.Ok)(hr:r.length<=2000)(hf:∀f∈r,f<B.fd.length)(hl:(ls.length:Int)=B.gr)(bi:Bits ls)(q:Bq c B h o d xs)(hx:xs.length<=90000) :
 ∃h',run F (k+6) 179 [.ref o,iW ls,.tup (rowW r)] h=.ok (.tup [.tup (toldP B r ls).1,iW (toldP B r ls).2]) h'/\(∃xs',Bq c B h' o d xs'/\xs'.length<=xs.length+r.length)/\∀z,z<=h.lo->z<=d->z<=h.n->z<=h'.lo:=by
 have q0:Bq c B ((VH.mk h.n h.n h.os).new (.lst [])) o d xs:=q.lo.new
 have g0:((VH.mk h.n h.n h.os).new (.lst [])).get h.n=some (.lst []):=zat (h:=⟨h.n,h.n,h.os⟩)
 obtain⟨g,xs',x,y,e3,iq,il,ixl,ilo⟩:=zf6 C (k:=k) (row:=.tup (rowW r)) b r ls [] xs _ none none hf hl bi (by rw[vd0];lia) (by lia) q0 g0
 have hz:(rowW r).length<1000000:=by unfold rowW;rw[vab];lia
 have s3:exs (run F (k+5)) (.set 3 (.lst .nil)) [some (.ref o),some (iW ls),some (.tup (rowW r)),none,none,none] ⟨h.n,h.n,h.os⟩=.ok (.nx [some (.ref o),some (iW ls),some (.tup (rowW r)),some (.ref h.n),none,none]) ((VH.mk h.n h.n h.os).new (.lst [])):=rfl
 have s4:exs (run F (k+5)) (.«for» .seq (.var 2) (.one 4) (zb7 c)) [some (.ref o),some (iW ls),some (.tup (rowW r)),some (.ref h.n),none,none] ((VH.mk h.n h.n h.os).new (.lst []))=.ok (.nx [some (.ref o),some (iW (toldP B r ls).2),some (.tup (rowW r)),some (.ref h.n),x,y]) g:=by
  have ef:=zdq (tg:=tgW (.one 4)) (b:=exs (run F (k+5)) (zb7 c)) (ρ:=[some (.ref o),some (iW ls),some (.tup (rowW r)),some (.ref h.n),none,none]) (h:=(VH.mk h.n h.n h.os).new (.lst [])) hz
  rw[e3]at ef
  rw[exs,varE rfl,bindok,ef]
 have eb:exs (run F (k+5)) (fn179 c).body [some (.ref o),some (iW ls),some (.tup (rowW r)),none,none,none] ⟨h.n,h.n,h.os⟩=.ok (.rt (.tup [.tup (toldP B r ls).1,iW (toldP B r ls).2])) g:=by
  refine(zab s3).trans ((zab s4).trans (zas (retE (tup2E (zg6 rfl ?_) (varE rfl)))))
  rw[il];rfl
 have hlt:W.lt h.n (.tup [.tup (toldP B r ls).1,iW (toldP B r ls).2])=true:=by
  obtain⟨_,_,hn⟩:=ze4 b r ls hf hl bi
  simp only[lt_tup,lts_cons,lts_nil,iW_lt,Bool.and_true]
  have:∀ws:List W,(∀w∈ws,w=.non\/∃i:Int,w=.int i)->W.lts h.n ws=true:=by
   intro ws
   induction ws with
   |nil=>intro _;simp
   |cons w r ih=>
    intro hw
    rw[lts_cons,ih λw h=>hw w (vad _ h)]
    rcases hw w vaf with rfl|⟨i,rfl⟩<;>simp
  exact this _ hn
 have ilo':∀z,z<=d->z<=h.n->z<=g.lo:=λz h1 h2=>ilo z h2 h1 h2
 rw[zaj C.f179 rfl]
 by_cases hc:h.n<=g.lo
 .refine⟨h,?_,⟨xs,q,vcz _ _⟩,λz h1 _ _=>h1⟩
  show fin h (exs (run F (k+5)) (fn179 c).body [some (.ref o),some (iW ls),some (.tup (rowW r)),none,none,none] ⟨h.n,h.n,h.os⟩)=_
  rw[eb]
  exact zam hc hlt
 .refine⟨⟨g.n,if Nat.ble h.lo g.lo then h.lo else g.lo,g.os⟩,?_,⟨xs',iq.lo,ixl⟩,λz h1 h2 h3=>?_⟩
  .show fin h (exs (run F (k+5)) (fn179 c).body [some (.ref o),some (iW ls),some (.tup (rowW r)),none,none,none] ⟨h.n,h.n,h.os⟩)=_
   rw[eb]
   show leave h _ g=_
   unfold leave
   have h2:Nat.ble h.n g.lo=false:=by
    cases z:Nat.ble h.n g.lo with
    |false=>rfl
    |true=>exact absurd (va5 z) hc
   rw[h2,vcp,if_neg vcb]
  .have:=ilo' z h2 h3
   show z<=(if Nat.ble h.lo g.lo then h.lo else g.lo)
   split<;>assumption
end
structure CoreLn(F:Nat->Option Fn):Prop where
 f17:F 17=some fn17
 f22:F 22=some fn22
 f24:F 24=some fn24
structure CoreRw(F:Nat->Option Fn):Prop extends CoreLn F where
 f28:F 28=some fn28
 f180:F 180=some fn180
section
variable{F:Nat->Option Fn}(L:CoreLn F)(B':CoreB F)
include L B'
theorem zfd{k:Nat}{h:VH}{B:Bd}{ls:List Int}(b:B.Ok)(hl:(ls.length:Int)=B.gr)(bi:Bits ls):run F (k+9) 24 [B.w,iW ls] h=.ok .non h:=by
 have hg:=b.g2
 have w0:∀h:VH,run F (k+7) 17 [iW ls,.int B.gr] h=.ok (.bl true) h:=by
  intro h
  rw[zaj L.f17 rfl]
  have e:=zbj B'.toCoreA (k:=k+3) (h:=⟨h.n,h.n,h.os⟩) (w:=iW ls) (a:=B.gr) (b:=B.gr) (lo:=0) (hi:=1) (by unfold Kn iW;simp) (λws e=>by
   cases e
   refine⟨by rw[vab];lia,λx hx=>?_⟩
   obtain⟨y,_,rfl⟩:=vaw.mp hx
   unfold Kn;simp)
  rw[zn3 hl bi]at e
  simp[fn17,exs,ev,e,zam]
 have w1:∀h:VH,run F (k+8) 22 [B.w,iW ls] h=.ok (.bl true) h:=by
  intro h
  rw[zaj L.f22 rfl]
  have e:=za8 B' (k:=k) (h:=⟨h.n,h.n,h.os⟩) b
  have i0:idxW ⟨h.n,h.n,h.os⟩ B.w (.int 1)=some (.int B.gr):=rfl
  have e2:=w0 ⟨h.n,h.n,h.os⟩
  simp[fn22,exs,ev,e,i0,e2,zam]
 rw[zaj L.f24 rfl]
 simp[fn24,exs,ev,w1,znr]
end
section
variable{F:Nat->Option Fn}{c:Addr}(C:CoreO F c)(R:CoreRw F)(B':CoreB F)
include R B'
theorem zir{k:Nat}{h:VH}{B:Bd}{r:List Nat}(hr:r.length<=2000)(hf:∀f∈r,f<B.fd.length):run F (k+5) 180 [B.w,.tup (rowW r)] h=.ok .non h:=by
 have e:∀h:VH,run F (k+4) 28 [.tup (rowW r),.int B.fd.length,.int 2000] h=.ok (.bl true) h:=by
  intro h
  rw[zaj R.f28 rfl]
  have e:=zbj B'.toCoreA (k:=k) (h:=⟨h.n,h.n,h.os⟩) (w:=.tup (rowW r)) (a:=0) (b:=2000) (lo:=0) (hi:=B.fd.length-1) (by unfold Kn;simp) (λws e=>by
   cases e
   unfold rowW
   refine⟨by rw[vab];lia,λx hx=>?_⟩
   obtain⟨y,_,rfl⟩:=vaw.mp hx
   unfold Kn;simp)
  have e2:zch (.tup (rowW r)) 0 2000 0 (B.fd.length-1)=true:=by
   unfold rowW zch zaz
   simp only[vab,vac,vaj,vbi]
   refine⟨⟨by lia,by lia⟩,λw hw=>?_⟩
   obtain⟨x,hx,rfl⟩:=vaw.mp hw
   have:=hf x hx
   simp only[within,vac,vaj]
   lia
  rw[e2]at e
  simp[fn28,exs,ev,opW,opI,e,zam]
 rw[zaj R.f180 rfl]
 have i3:idxW ⟨h.n,h.n,h.os⟩ B.w (.int 3)=some (.tup B.fd):=rfl
 simp[fn180,exs,ev,i3,biW,lenW,seqW,e,znr]
include C
theorem told3{k:Nat}{h:VH}{B:Bd}{ls:List Int}{r:List Nat}(f183:F 183=some fn183)(b:B.Ok)(hr:r.length<=2000)(hf:∀f∈r,f<B.fd.length)(hl:(ls.length:Int)=B.gr)(bi:Bits ls):run F (k+10) 183 [B.w,iW ls,.tup (rowW r)] h=.ok (.tup [.tup (toldP B r ls).1,iW (toldP B r ls).2]) h:=by
 rw[zaj f183 rfl]
 have e1:=zfd R.toCoreLn B' (k:=k) (h:=⟨h.n,h.n,h.os⟩) b hl bi
 have e2:=zir R B' (k:=k+4) (h:=⟨h.n,h.n,h.os⟩) (B:=B) hr hf
 obtain⟨lo,e3,hlo⟩:=zoh C (k:=k+7) (h:=⟨h.n,h.n,h.os⟩) (w1:=B.w) (w2:=.non)
 have q:Bq c B ⟨h.n+2,lo,.dt [] [] :: .ins c flds [B.w,.non,.ref (h.n+1)]::h.os⟩ h.n (h.n+1) []:=by
  refine⟨?_,zat (h:=⟨h.n+1,lo,.ins c flds [B.w,.non,.ref (h.n+1)]::h.os⟩)⟩
  exact(zak (h:=⟨h.n+1,lo,.ins c flds [B.w,.non,.ref (h.n+1)]::h.os⟩) (o:=.dt [] []) (by show h.n<h.n+1;lia)).trans (zat (h:=⟨h.n,lo,h.os⟩))
 obtain⟨h',e4,_,lo'⟩:=zqo C (k:=k+3) b hr hf hl bi q (vbu _)
 have s1:exs (run F (k+9)) (.expr (.call 24 (.cons (.var 0) (.cons (.var 1) .nil)))) [some B.w,some (iW ls),some (.tup (rowW r))] ⟨h.n,h.n,h.os⟩=.ok (.nx [some B.w,some (iW ls),some (.tup (rowW r))]) ⟨h.n,h.n,h.os⟩:=by
  simp[exs,ev,e1]
 have s2:exs (run F (k+9)) (.expr (.call 180 (.cons (.var 0) (.cons (.var 2) .nil)))) [some B.w,some (iW ls),some (.tup (rowW r))] ⟨h.n,h.n,h.os⟩=.ok (.nx [some B.w,some (iW ls),some (.tup (rowW r))]) ⟨h.n,h.n,h.os⟩:=by
  simp[exs,ev,e2]
 have ec:ev (run F (k+9)) (.call 347 (.cons (.var 0) (.cons (.cst .non) .nil))) [some B.w,some (iW ls),some (.tup (rowW r))] ⟨h.n,h.n,h.os⟩=.ok (.ref h.n) ⟨h.n+2,lo,.dt [] [] :: .ins c flds [B.w,.non,.ref (h.n+1)]::h.os⟩:=by
  have:ev (run F (k+9)) (.cons (.var 0) (.cons (.cst .non) .nil)) [some B.w,some (iW ls),some (.tup (rowW r))] ⟨h.n,h.n,h.os⟩=.ok (.tup [B.w,.non]) ⟨h.n,h.n,h.os⟩:=rfl
  rw[ev,this,bindok]
  exact e3
 have er:ev (run F (k+9)) (.call 179 (.cons (.call 347 (.cons (.var 0) (.cons (.cst .non) .nil))) (.cons (.var 1) (.cons (.var 2) .nil)))) [some B.w,some (iW ls),some (.tup (rowW r))] ⟨h.n,h.n,h.os⟩=.ok (.tup [.tup (toldP B r ls).1,iW (toldP B r ls).2]) h':=by
  have:ev (run F (k+9)) (.cons (.call 347 (.cons (.var 0) (.cons (.cst .non) .nil))) (.cons (.var 1) (.cons (.var 2) .nil))) [some B.w,some (iW ls),some (.tup (rowW r))] ⟨h.n,h.n,h.os⟩=.ok (.tup [.ref h.n,iW ls,.tup (rowW r)]) ⟨h.n+2,lo,.dt [] [] :: .ins c flds [B.w,.non,.ref (h.n+1)]::h.os⟩:=by
   rw[ev,ec,bindok,ev,varE rfl,bindok,ev,varE rfl,bindok,ev];rfl
  rw[ev,this,bindok]
  exact e4
 have eb:exs (run F (k+9)) fn183.body [some B.w,some (iW ls),some (.tup (rowW r))] ⟨h.n,h.n,h.os⟩=.ok (.rt (.tup [.tup (toldP B r ls).1,iW (toldP B r ls).2])) h':=(zab s1).trans ((zab s2).trans (zas (retE er)))
 show fin h (exs (run F (k+9)) fn183.body [some B.w,some (iW ls),some (.tup (rowW r))] ⟨h.n,h.n,h.os⟩)=_
 rw[eb]
 refine zam (lo' h.n (hlo h.n (vai _) (vai _)) (vdf _) (by show h.n<=h.n+2;lia)) ?_
 obtain⟨_,_,hn⟩:=ze4 b r ls hf hl bi
 simp only[lt_tup,lts_cons,lts_nil,iW_lt,Bool.and_true]
 have:∀ws:List W,(∀w∈ws,w=.non\/∃i:Int,w=.int i)->W.lts h.n ws=true:=by
  intro ws
  induction ws with
  |nil=>intro _;simp
  |cons w r ih=>
   intro hw
   rw[lts_cons,ih λw h=>hw w (vad _ h)]
   rcases hw w vaf with rfl|⟨i,rfl⟩<;>simp
 exact this _ hn
end
noncomputable def mirW(w:W):W:=match w with
 |.tup [.int g,.int s]=>.tup [.int g,.int (1-s)]
 |.str x=>if x==sLt then .str sGt else if x==sGt then .str sLt else .str x
 |w=>w
noncomputable def mirF(wd:Int)(w:W):W:=match w with
 |.int c=>.int (wd-1-c)
 |w=>w
noncomputable def mirR(r:List W):List W:=r.reverse.map mirW
noncomputable def mirB(B:Bd):Bd:=⟨B.wd,B.gr,B.rows.map mirR,B.fd.map (mirF B.wd),B.dr.reverse⟩
theorem mir_x:mirW (.str sX)=.str sX:=rfl
theorem zxz:mirW (.str sLt)=.str sGt:=rfl
theorem zx0:mirW (.str sGt)=.str sLt:=rfl
theorem zrp{a b:Nat}:mirW (.tup [.int a,.int b])=.tup [.int a,.int (1- (b:Int))]:=rfl
theorem mm_x{c wd g:Int}(h1:0<c)(h2:c<wd-1):zac (.str sX) c wd g=true:=by
 unfold zac
 rw[if_pos (show(isS (.str sX) "x" || zbr (.str sX) g)=true from rfl),vbs h1,vbs h2];rfl
theorem mm_lt{c wd g:Int}(h1:0<c):zac (.str sLt) c wd g=true:=vbs h1
theorem mm_gt{c wd g:Int}(h2:c<wd-1):zac (.str sGt) c wd g=true:=vbs h2
theorem zx1{c wd g:Int}:zac (.str sDot) c wd g=true:=rfl
theorem mm_s{c wd g:Int}:zac (.str sS) c wd g=true:=rfl
theorem mm_rk{a b:Int}{c wd g:Int}(a0:0<=a)(a1:a<g)(b0:0<=b)(b1:b<=1)(h1:0<c)(h2:c<wd-1):zac (.tup [.int a,.int b]) c wd g=true:=by
 have hr:zbr (.tup [.int a,.int b]) g=true:=by
  show(within (.int a) 0 (g-1)&&within (.int b) 0 1)=true
  simp only[within,vac,vaj]
  lia
 unfold zac
 rw[hr,Bool.or_true,if_pos rfl,vbs h1,vbs h2];rfl
theorem zt6{w:W}{c wd g:Int}(h:zac w c wd g=true):zac (mirW w) (wd-1-c) wd g=true:=by
 rcases zbg h with⟨rfl,h3,h4⟩|⟨rfl,h3⟩|⟨rfl,h3⟩|rfl|rfl|⟨p,q,rfl,h3,h4,h5,h6⟩
 .rw[mir_x];exact mm_x (by lia) (by lia)
 .rw[zxz];exact mm_gt (by lia)
 .rw[zx0];exact mm_lt (by lia)
 .exact zx1
 .exact mm_s
 .rw[zrp];exact mm_rk (by lia) (by lia) (by lia) (by lia) (by lia) (by lia)
theorem zkk{wd g:Int}:∀{ws:List W} {c:Int},(∀i w,ws[i]?=some w->zac w (c+ (i:Nat)) wd g=true)->rowOk wd g c ws
 |[],_,_=>trivial
 |w::r,c,h=>by
  refine⟨?_,zkk λi x e=>?_⟩
  .have:=h 0 w rfl
   simpa using this
  .have:=h (i+1) x e
   rw[show c+ ((i+1:Nat):Int)=c+1+ (i:Int) by lia]at this
   exact this
theorem zoi{r:List W}{i:Nat}(hi:i<r.length):(mirR r)[i]?=(r[r.length-1-i]?).map mirW:=by
 unfold mirR
 rw[va2,List.getElem?_reverse hi]
theorem zt7{wd g:Int}{r:List W}(h:(r.length:Int)=wd/\rowOk wd g 0 r):((mirR r).length:Int)=wd/\rowOk wd g 0 (mirR r):=by
 have hl:(mirR r).length=r.length:=by unfold mirR;rw[vab,vb6]
 refine⟨by rw[hl];exact h.1,zkk λi w e=>?_⟩
 have hi:i<r.length:=by rw[<-hl];exact(va8.mp e).1
 rw[zoi hi]at e
 cases q:r[r.length-1-i]? with
 |none=>rw[q]at e;cases e
 |some x=>
  rw[q]at e
  cases e
  have:=zt6 (zg2 _ h.2 q)
  have e1:=h.1
  rw[show wd-1- (0+ ((r.length-1-i:Nat):Int))=0+ (i:Int) by lia]at this
  exact this
theorem zf7{B:Bd}(b:B.Ok):(mirB B).Ok where
 w1:=b.w1
 w2:=b.w2
 g1:=b.g1
 g2:=b.g2
 r1:=by show(B.rows.map mirR).length<=60;rw[vab];exact b.r1
 r2:=λr hr=>by
  obtain⟨x,hx,rfl⟩:=vaw.mp (show r∈B.rows.map mirR from hr)
  exact zt7 (b.r2 x hx)
 f1:=by show 1<=(B.fd.map (mirF B.wd)).length;rw[vab];exact b.f1
 f2:=by show(B.fd.map (mirF B.wd)).length<=4;rw[vab];exact b.f2
 f3:=λf hf=>by
  obtain⟨x,hx,rfl⟩:=vaw.mp (show f∈B.fd.map (mirF B.wd)from hf)
  have:=b.f3 x hx
  cases x<;>simp only[within]at this<;>try(cases this;done)
  rw[vac,vaj,vaj]at this
  show(decide _&&decide _)=true
  rw[vac,vaj,vaj]
  show 0<=B.wd-1-_/\B.wd-1-_<=B.wd-1
  lia
 d1:=by show(B.dr.reverse.length:Int)=B.wd;rw[vb6];exact b.d1
 d2:=λd hd=>by
  have:=b.d2 d (List.mem_reverse.mp (show d∈B.dr.reverse from hd))
  show door d ((B.fd.map (mirF B.wd)).length:Nat)=true
  rw[vab];exact this
theorem zqp{w:W}{c wd g hd:Int}{ls:List Int}(h:zac w c wd g=true)(b:Bits ls):stepP (mirW w) (-hd) ls=(stepP w hd ls).map λq=>(-q.1,q.2.1,q.2.2):=by
 rcases zbg h with⟨rfl,h3,h4⟩|⟨rfl,h3⟩|⟨rfl,h3⟩|rfl|rfl|⟨p,q,rfl,h3,h4,h5,h6⟩
 .rfl
 .rfl
 .rfl
 .rfl
 .rfl
 .rw[zrp,zb5]
  obtain⟨q',hq'⟩:∃q':Nat,(1- (q:Int))=(q':Int):=vat (by lia)
  rw[hq',zb5]
  have hb:=zka b p
  show some _=some _
  congr 2
  by_cases z:ls.getD p 0=(q:Int)
  .rw[if_pos z,if_neg (by lia)];rfl
  .rw[if_neg z,if_pos (by lia)]
theorem zt8{wd g:Int}{r:List W}{c:Int}(h:(r.length:Int)=wd/\rowOk wd g 0 r)(c0:0<=c)(c1:c<wd):colAt (mirR r) (wd-1-c)=mirW (colAt r c):=by
 obtain⟨n,rfl⟩:=vat c0
 have e1:=h.1
 have hn:n<r.length:=by lia
 have hm:(wd-1- (n:Int)).toNat=r.length-1-n:=by lia
 unfold colAt
 rw[hm,zoi (by lia),show r.length-1- (r.length-1-n)=n by lia,vbt,va0 hn]
 rfl
noncomputable def mirQ(wd:Int)(q:Fa):Fa:=⟨q.cs.map λc=>wd-1-c,q.ts,q.ls,q.st⟩
theorem zkl{wd g:Int}:∀(rs:List (List W)) (c hd:Int) (ls:List Int),zbi wd g rs->0<=c->c<wd->-1<=hd->hd<=1->Bits ls->fallP (rs.map mirR) (wd-1-c) (-hd) ls=mirQ wd (fallP rs c hd ls)
 |[],_,_,_,_,_,_,_,_,_=>rfl
 |r::rs,c,hd,ls,ok,c0,c1,h1,h2,b=>by
  have okr:=ok r vaf
  obtain⟨_,hm⟩:=zcj okr c0 c1
  have es:=zqp (hd:=hd) hm b
  rw[<-zt8 okr c0 c1]at es
  cases e:stepP (colAt r c) hd ls with
  |none=>
   rw[e]at es
   rw[vao,za7 es,za7 e];rfl
  |some q=>
   obtain⟨d,t,l⟩:=q
   rw[e]at es
   obtain⟨a1,a2,a3,a4,a5,a6,a7⟩:=zb6 hm c0 c1 h1 h2 b e
   have ih:=zkl rs (c+d) d l (λr hr=>ok r (vad _ hr)) a3 a4 a1 a2 a6
   rw[vao,za2 es,za2 e]
   have:wd-1-c + -d=wd-1- (c+d):=by lia
   simp only[this,ih]
   rfl
theorem zkm{wd:Int}:∀(cs:List Int) (c:Int),lastC (wd-1-c) (cs.map λc=>wd-1-c)=wd-1-lastC c cs
 |[],_=>rfl
 |x::r,_=>zkm r x
section
variable{B:Bd}(b:B.Ok)
include b
theorem zkn{f:Nat}(hf:f<B.fd.length):(mirB B).col f=B.wd-1-B.col f:=by
 obtain⟨e,_⟩:=b.col hf
 unfold Bd.col
 show(match(B.fd.map (mirF B.wd))[f]? with|some (.int c)=>c|_=>0)=_
 rw[va2,e];rfl
theorem ze9{ls:List Int}{f:Nat}(hf:f<B.fd.length)(hl:(ls.length:Int)=B.gr)(bi:Bits ls):(mirB B).fall ls f=mirQ B.wd (B.fall ls f):=by
 obtain⟨_,c0,c1⟩:=b.col hf
 have:=zkl B.rows (B.col f) 0 ls (b.rows hl) c0 c1 (by decide) (by decide) bi
 unfold Bd.fall
 rw[zkn b hf]
 exact this
theorem zqq{c:Int}(c0:0<=c)(c1:c<B.wd):(mirB B).door (B.wd-1-c)=B.door c:=by
 obtain⟨n,rfl⟩:=vat c0
 have e1:=b.d1
 unfold Bd.door
 show(B.dr.reverse[(B.wd-1- (n:Int)).toNat]?).getD .non=(B.dr[(n:Int).toNat]?).getD .non
 rw[show(B.wd-1- (n:Int)).toNat=B.dr.length-1-n by lia,List.getElem?_reverse (by lia),show B.dr.length-1- (B.dr.length-1-n)=n by lia,vbt]
theorem zoj{ls:List Int}{f:Nat}(hf:f<B.fd.length)(hl:(ls.length:Int)=B.gr)(bi:Bits ls):outD (mirB B) ls f=outD B ls f:=by
 have q:=b.fall hf hl bi
 unfold outD
 rw[ze9 b hf hl bi,zkn b hf]
 show(if(B.fall ls f).st=true then _ else(mirB B).door (lastC (B.wd-1-B.col f) ((B.fall ls f).cs.map λc=>B.wd-1-c)))=_
 rw[zkm,zqq b q.c4.1 q.c4.2]
theorem zko:∀(r:List Nat) (ls:List Int),(∀f∈r,f<B.fd.length)->(ls.length:Int)=B.gr->Bits ls->toldP (mirB B) r ls=toldP B r ls
 |[],_,_,_,_=>rfl
 |f::r,ls,hr,hl,bi=>by
  have hf:=hr f vaf
  have q:=b.fall hf hl bi
  have e:((mirB B).fall ls f).ls=(B.fall ls f).ls:=by rw[ze9 b hf hl bi];rfl
  simp only[toldP,nameP,zoj b hf hl bi,e,zko r (B.fall ls f).ls (λg hg=>hr g (vad _ hg)) (by rw[q.l1];exact hl) q.l2]
end
theorem zkp:∀(xs:List Int) (c y:Int) (ys:List Int),lastC c (xs++y::ys)=lastC y ys
 |[],_,_,_=>rfl
 |x::r,_,y,ys=>zkp r x y ys
theorem zt9{wd:Int}{c:Int}(c0:0<=c)(c1:c<wd):colAt (vgc wd.toNat (.str sDot)) c=.str sDot:=by
 unfold colAt
 rw[vco,if_pos (by omega)]
 rfl
theorem zls{A B:Bd}(a:A.Ok)(b:B.Ok)(hw:A.wd=B.wd){la lb:List Int}(hla:(la.length:Int)=A.gr)(hlb:(lb.length:Int)=B.gr)(ba:Bits la)(bb:Bits lb){f:Nat}(hf:f<A.fd.length) :
 (zah A B).fall (la++lb) f=if(A.fall la f).st then⟨(A.fall la f).cs,(A.fall la f).ts,(A.fall la f).ls++lb,true⟩else
   ⟨(A.fall la f).cs++lastC (A.col f) (A.fall la f).cs:: (fallP B.rows (lastC (A.col f) (A.fall la f).cs) 0 lb).cs,(A.fall la f).ts++(fallP B.rows (lastC (A.col f) (A.fall la f).cs) 0 lb).ts.map (· + A.gr),(A.fall la f).ls++(fallP B.rows (lastC (A.col f) (A.fall la f).cs) 0 lb).ls,(fallP B.rows (lastC (A.col f) (A.fall la f).cs) 0 lb).st⟩:=by
 obtain⟨_,c0,c1⟩:=a.col hf
 have q:=a.fall hf hla ba
 have e1:=zg3 A.rows (A.col f) 0 la lb (a.rows hla) c0 c1 (by decide) (by decide) ba
 have bits:Bits (la++lb):=λx hx=>by
  rcases vby.mp hx with h|h
  .exact ba x h
  .exact bb x h
 have e2:=zik (D:=vgc A.wd.toNat (.str sDot)) (R:=B.rows.map λr=>r.map (zae A.gr)) (λc c0 c1=>zt9 c0 c1) A.rows (A.col f) 0 (la++lb) a.r2 c0 c1 (by decide) (by decide) bits
 have e3:(zah A B).fall (la++lb) f=fallP (A.rows++vgc A.wd.toNat (.str sDot)::B.rows.map λr=>r.map (zae A.gr)) (A.col f) 0 (la++lb):=by
  show fallP (A.rows++[vgc A.wd.toNat (.str sDot)]++B.rows.map λr=>r.map (zae A.gr)) (A.col f) 0 (la++lb)=_
  rw[vbr,vc6]
 have hq:(((A.fall la f).ls.length:Nat):Int)=A.gr:=by rw[q.l1];exact hla
 have e4:=zdy B.rows (lastC (A.col f) (A.fall la f).cs) 0 (A.fall la f).ls lb (b.rows hlb) q.c4.1 (by rw[<-hw];exact q.c4.2) (by decide) (by decide) bb
 rw[hq]at e4
 rw[e3,e2,e1]
 show(if(A.fall la f).st then(⟨(A.fall la f).cs,(A.fall la f).ts,(A.fall la f).ls++lb,(A.fall la f).st⟩:Fa)else _)=_
 by_cases z:(A.fall la f).st=true
 .rw[if_pos z,if_pos z,z]
 .rw[if_neg z,if_neg z]
  show(⟨(A.fall la f).cs++lastC (A.col f) (A.fall la f).cs:: (fallP (B.rows.map λr=>r.map (zae A.gr)) (lastC (A.col f) (A.fall la f).cs) 0 ((A.fall la f).ls++lb)).cs,(A.fall la f).ts++(fallP (B.rows.map λr=>r.map (zae A.gr)) (lastC (A.col f) (A.fall la f).cs) 0 ((A.fall la f).ls++lb)).ts,(fallP (B.rows.map λr=>r.map (zae A.gr)) (lastC (A.col f) (A.fall la f).cs) 0 ((A.fall la f).ls++lb)).ls,(fallP (B.rows.map λr=>r.map (zae A.gr)) (lastC (A.col f) (A.fall la f).cs) 0 ((A.fall la f).ls++lb)).st⟩:Fa)=_
  rw[e4]
theorem zok{n:Int}{w:W}:zct (keptD n w)=zct w:=by
 unfold keptD
 split
 .rfl
 .rfl
theorem zhb(x:Int):∀(cs:List Int) (c:Int),lastC (c+x) (cs.map (· + x))=lastC c cs+x
 |[],_=>rfl
 |y::cs,_=>zhb x cs y
theorem zx2{A B:Bd}(a:A.Ok){c:Int}(c0:0<=c)(c1:c<A.wd):(zaa A B).door c=A.door c:=by
 have:=a.d1
 show((A.dr++B.dr.map (zbh A.fd.length))[c.toNat]?).getD .non=(A.dr[c.toNat]?).getD .non
 rw[vbg (by omega)]
theorem zx3{A B:Bd}(a:A.Ok){c:Int}(c0:0<=c):(zaa A B).door (c+A.wd)=((B.dr[c.toNat]?).map (zbh A.fd.length)).getD .non:=by
 have:=a.d1
 have:=a.w1
 show((A.dr++B.dr.map (zbh A.fd.length))[(c+A.wd).toNat]?).getD .non=_
 rw[vau (by omega),show(c+A.wd).toNat-A.dr.length=c.toNat by omega,va2]
theorem zed:∀(k:Nat) (c:Int) (cs:List Int),lastC c (cs++vgc k (lastC c cs))=lastC c cs
 |0,c,cs=>by simp
 |k+1,c,[]=>by
  show lastC c (vgc (k+1) c)=c
  rw[vbd]
  show lastC c (vgc k c)=c
  exact zed k c []
 |k+1,c,x::cs=>zed (k+1) x cs
noncomputable def lowB(B:Bd)(c:Int):Bd:=⟨B.wd,B.gr,B.rows,[.int c],B.dr.map (keptD 1)⟩
theorem zol{B:Bd}(b:B.Ok){c:Int}(c0:0<=c)(c1:c<B.wd):(lowB B c).Ok where
 w1:=b.w1
 w2:=b.w2
 g1:=b.g1
 g2:=b.g2
 r1:=b.r1
 r2:=b.r2
 f1:=vai 1
 f2:=show 1<=4 by decide
 f3:=λf hf=>by
  rw[vdm.mp (show f∈[W.int c]from hf)]
  show(decide (0<=c)&&decide (c<=B.wd-1))=true
  rw[vac,vaj,vaj]
  omega
 d1:=by show(((B.dr.map (keptD 1)).length:Nat):Int)=B.wd;rw[vab];exact b.d1
 d2:=λd hd=>by
  obtain⟨e,he,rfl⟩:=vaw.mp (show d∈B.dr.map (keptD 1)from hd)
  exact zii (b.d2 e he)
noncomputable def fq(B:Bd)(c:Int)(ls:List Int):Fa:=fallP B.rows c 0 ls
noncomputable def nmC(B:Bd)(c:Int)(ls:List Int):W:=if(fq B c ls).st then .non else zct (B.door (lastC c (fq B c ls).cs))
theorem nm_is{B:Bd}{ls:List Int}{f:Nat}:nameP B ls f=nmC B (B.col f) ls:=by
 unfold nameP outD nmC
 show zct (if(fq B (B.col f) ls).st then _ else _)=_
 split<;>rfl
theorem zom{B:Bd}{c:Int}:(lowB B c).col 0=c:=rfl
theorem zua{n:Int}{w:W}:zct (zbh n w)=zct w:=by
 unfold zbh
 split<;>rfl
theorem fq_ok{B:Bd}(b:B.Ok){c:Int}{ls:List Int}(c0:0<=c)(c1:c<B.wd)(hl:(ls.length:Int)=B.gr)(bi:Bits ls):(fq B c ls).Ok B.wd c B.rows.length ls.length:=zjf B.rows c 0 ls (b.rows hl) c0 c1 (by decide) (by decide) bi
section
variable{A B:Bd}(a:A.Ok)(b:B.Ok){la lb:List Int}(hla:(la.length:Int)=A.gr)(hlb:(lb.length:Int)=B.gr)(ba:Bits la)(bb:Bits lb)
include a b hla hlb ba bb
theorem bes_l{c:Int}(c0:0<=c)(c1:c<A.wd):(fq (zaa A B) c (la++lb)).st=(fq A c la).st/\(fq (zaa A B) c (la++lb)).ls=(fq A c la).ls++lb/\lastC c (fq (zaa A B) c (la++lb)).cs=lastC c (fq A c la).cs:=by
 have e:(fq (zaa A B) c (la++lb))=(let q:=downF (hiR A B-A.rows.length) c (fq A c la);⟨q.cs,q.ts,q.ls++lb,q.st⟩):=(zdh (zol a c0 c1) b hla hlb ba bb (f:=0) Nat.one_pos).1
 rw[e]
 unfold downF
 by_cases z:(fq A c la).st=true
 .simp only[z,va3,and_self]
 .simp only[if_neg z,true_and]
  exact⟨by simpa using z,zed _ _ _⟩
theorem bes_r{c:Int}(c0:0<=c)(c1:c<B.wd):(fq (zaa A B) (c+A.wd) (la++lb)).st=(fq B c lb).st/\(fq (zaa A B) (c+A.wd) (la++lb)).ls=la++(fq B c lb).ls/\lastC (c+A.wd) (fq (zaa A B) (c+A.wd) (la++lb)).cs=lastC c (fq B c lb).cs+A.wd:=by
 obtain⟨h1,h2⟩:=zdi a (zol b c0 c1) hla hlb ba bb (f:=0) Nat.one_pos
 have e:(fq (zaa A B) (c+A.wd) (la++lb))=(let q:=downF (hiR A B-B.rows.length) c (fq B c lb);⟨q.cs.map (· + A.wd),q.ts.map (· + A.gr),la++q.ls,q.st⟩):=by
  refine Eq.trans ?_ h1
  show fallP (zaa A B).rows (c+A.wd) 0 (la++lb)=fallP (zaa A (lowB B c)).rows ((zaa A (lowB B c)).col (A.fd.length+0)) 0 (la++lb)
  rw[h2,zom]
  rfl
 rw[e]
 unfold downF
 by_cases z:(fq B c lb).st=true
 .simp only[z,va3,true_and]
  exact zhb _ _ _
 .simp only[if_neg z,true_and]
  refine⟨by simpa using z,?_⟩
  rw[zhb,zed]
theorem bel{c:Int}(hw:A.wd=B.wd)(c0:0<=c)(c1:c<A.wd):(fq (zah A B) c (la++lb)).st=((fq A c la).st|| (fq B (lastC c (fq A c la).cs) lb).st)/\
 (fq (zah A B) c (la++lb)).ls=(fq A c la).ls++(if(fq A c la).st then lb else(fq B (lastC c (fq A c la).cs) lb).ls)/\
 ((fq A c la).st=false->lastC c (fq (zah A B) c (la++lb)).cs=lastC (lastC c (fq A c la).cs) (fq B (lastC c (fq A c la).cs) lb).cs):=by
 have e:=zls (zol a c0 c1) b hw hla hlb ba bb (f:=0) Nat.one_pos
 have e:fq (zah A B) c (la++lb)=_:=e
 rw[zom]at e
 rw[e]
 show(if(fq A c la).st then _ else _:Fa).st=_/\(if(fq A c la).st then _ else _:Fa).ls=_/\(_->lastC c (if(fq A c la).st then _ else _:Fa).cs=_)
 by_cases z:(fq A c la).st=true
 .simp only[z,va3,Bool.true_or,true_and]
  exact⟨rfl,λq=>by cases q⟩
 .have z':(fq A c la).st=false:=by simpa using z
  simp only[z',vam,vbb,vdb]
  exact⟨rfl,rfl,λ_=>zkp _ _ _ _⟩
theorem zkq{c:Int}(c0:0<=c)(c1:c<A.wd):nmC (zaa A B) c (la++lb)=nmC A c la:=by
 obtain⟨h1,h2,h3⟩:=bes_l a b hla hlb ba bb c0 c1
 have q:=fq_ok a c0 c1 hla ba
 unfold nmC
 rw[h1,h3,zx2 a q.c4.1 q.c4.2]
theorem zkr{c:Int}(c0:0<=c)(c1:c<B.wd):nmC (zaa A B) (c+A.wd) (la++lb)=nmC B c lb:=by
 obtain⟨h1,h2,h3⟩:=bes_r a b hla hlb ba bb c0 c1
 have q:=fq_ok b c0 c1 hlb bb
 unfold nmC
 rw[h1,h3,zx3 a q.c4.1]
 split
 .rfl
 .show _=zct ((B.dr[_]?).getD .non)
  cases B.dr[(lastC c (fq B c lb).cs).toNat]? with
  |none=>rfl
  |some w=>exact zua
theorem bel_n{c:Int}(hw:A.wd=B.wd)(c0:0<=c)(c1:c<A.wd):nmC (zah A B) c (la++lb)=if(fq A c la).st then .non else nmC B (lastC c (fq A c la).cs) lb:=by
 obtain⟨h1,h2,h3⟩:=bel a b hla hlb ba bb hw c0 c1
 unfold nmC
 rw[h1]
 by_cases z:(fq A c la).st=true
 .rw[z];rfl
 .have z':(fq A c la).st=false:=by simpa using z
  rw[h3 z',z',vdb]
  have:∀x:Int,zct ((zah A B).door x)=zct (B.door x):=λx=>by
   have:(zah A B).door x=keptD A.fd.length (B.door x):=by
    show((B.dr.map (keptD A.fd.length))[x.toNat]?).getD .non=keptD A.fd.length ((B.dr[x.toNat]?).getD .non)
    rw[va2]
    cases B.dr[x.toNat]?<;>rfl
   rw[this,zok]
  rw[this]
  rfl
end
structure Four(A B C D:Bd):Prop where
 a:A.Ok
 b:B.Ok
 c:C.Ok
 d:D.Ok
 w:A.wd=C.wd
 v:B.wd=D.wd
 x:(zaa A B).Ok
 y:(zaa C D).Ok
 z:(zah A C).Ok
 u:(zah B D).Ok
structure Lns(A B C D:Bd)(la lb lc ld:List Int):Prop where
 a:(la.length:Int)=A.gr
 b:(lb.length:Int)=B.gr
 c:(lc.length:Int)=C.gr
 d:(ld.length:Int)=D.gr
 ba:Bits la
 bb:Bits lb
 bc:Bits lc
 bd:Bits ld
theorem za4{xs ys:List Int}(h1:Bits xs)(h2:Bits ys):Bits (xs++ys):=λx hx=>(vby.mp hx).elim (h1 x) (h2 x)
theorem zbc{xs ys:List Int}{m n:Int}(h1:(xs.length:Int)=m)(h2:(ys.length:Int)=n):((xs++ys).length:Int)=m+n:=by rw[vag];lia
section
variable{A B C D:Bd}(H:Four A B C D)
include H
theorem zx4{la lb lc ld:List Int}(L:Lns A B C D la lb lc ld){f:Nat}(hf:f<A.fd.length+B.fd.length) :
 ∃la' lb' lc' ld',Lns A B C D la' lb' lc' ld'/\nameP (zaa (zah A C) (zah B D)) ((la++lc)++(lb++ld)) f=nameP (zah (zaa A B) (zaa C D)) ((la++lb)++(lc++ld)) f/\
  ((zah (zaa A B) (zaa C D)).fall ((la++lb)++(lc++ld)) f).ls=(la'++lb')++(lc'++ld')/\((zaa (zah A C) (zah B D)).fall ((la++lc)++(lb++ld)) f).ls=(la'++lc')++(lb'++ld'):=by
 have hxw:(zaa A B).wd=(zaa C D).wd:=by show A.wd+B.wd=C.wd+D.wd;rw[H.w,H.v]
 have lab:=zbc L.a L.b
 have lcd:=zbc L.c L.d
 have lac:=zbc L.a L.c
 have lbd:=zbc L.b L.d
 have bab:=za4 L.ba L.bb
 have bcd:=za4 L.bc L.bd
 have bac:=za4 L.ba L.bc
 have bbd:=za4 L.bb L.bd
 have a1:=H.a.w1
 have b1:=H.b.w1
 rw[nm_is,nm_is]
 rcases Nat.lt_or_ge f A.fd.length with q|q
 .obtain⟨_,c0,c1⟩:=H.a.col q
  have e1:(zah (zaa A B) (zaa C D)).col f=A.col f:=(zdh H.a H.b L.a L.b L.ba L.bb q).2
  have e2:(zaa (zah A C) (zah B D)).col f=A.col f:=(zdh H.z H.u lac lbd bac bbd q).2
  show ∃la' lb' lc' ld',Lns A B C D la' lb' lc' ld'/\_/\(fq (zah (zaa A B) (zaa C D)) ((zah (zaa A B) (zaa C D)).col f) _).ls=_/\(fq (zaa (zah A C) (zah B D)) ((zaa (zah A C) (zah B D)).col f) _).ls=_
  rw[e1,e2]
  generalize A.col f=c at c0 c1
  have cx:c< (zaa A B).wd:=by show c<A.wd+B.wd;lia
  have fo:=fq_ok H.a c0 c1 L.a L.ba
  obtain⟨s1,s2,s3⟩:=bes_l H.a H.b L.a L.b L.ba L.bb c0 c1
  obtain⟨p1,p2,p3⟩:=bel H.x H.y lab lcd bab bcd hxw c0 cx
  have pn:=bel_n H.x H.y lab lcd bab bcd hxw c0 cx
  obtain⟨t1,t2,t3⟩:=bes_l H.z H.u lac lbd bac bbd c0 c1
  have tn:=zkq H.z H.u lac lbd bac bbd c0 c1
  obtain⟨r1,r2,r3⟩:=bel H.a H.c L.a L.c L.ba L.bc H.w c0 c1
  have rn:=bel_n H.a H.c L.a L.c L.ba L.bc H.w c0 c1
  rw[s1,s3]at pn p2
  have d1:lastC c (fq A c la).cs<C.wd:=by rw[<-H.w];exact fo.c4.2
  obtain⟨v1,v2,v3⟩:=bes_l H.c H.d L.c L.d L.bc L.bd fo.c4.1 d1
  have vn:=zkq H.c H.d L.c L.d L.bc L.bd fo.c4.1 d1
  have fc:=fq_ok H.c fo.c4.1 d1 L.c L.bc
  rw[vn]at pn
  rw[s2,v2]at p2
  rw[rn]at tn
  rw[r2]at t2
  refine⟨(fq A c la).ls,lb,if(fq A c la).st then lc else(fq C (lastC c (fq A c la).cs) lc).ls,ld,⟨by rw[fo.l1];exact L.a,L.b,?_,L.d,fo.l2,L.bb,?_,L.bd⟩,tn.trans pn.symm,?_,t2⟩
  .split
   .exact L.c
   .rw[fc.l1];exact L.c
  .split
   .exact L.bc
   .exact fc.l2
  .rw[p2]
   split<;>rfl
 .obtain⟨i,rfl⟩:∃i,f=A.fd.length+i:=⟨f-A.fd.length,by lia⟩
  have q:i<B.fd.length:=by lia
  obtain⟨_,c0,c1⟩:=H.b.col q
  have e1:(zah (zaa A B) (zaa C D)).col (A.fd.length+i)=B.col i+A.wd:=(zdi H.a H.b L.a L.b L.ba L.bb q).2
  have e2:(zaa (zah A C) (zah B D)).col (A.fd.length+i)=B.col i+A.wd:=(zdi H.z H.u lac lbd bac bbd q).2
  show ∃la' lb' lc' ld',Lns A B C D la' lb' lc' ld'/\_/\(fq (zah (zaa A B) (zaa C D)) ((zah (zaa A B) (zaa C D)).col (A.fd.length+i)) _).ls=_/\(fq (zaa (zah A C) (zah B D)) ((zaa (zah A C) (zah B D)).col (A.fd.length+i)) _).ls=_
  rw[e1,e2]
  generalize B.col i=c at c0 c1
  have cx:c+A.wd< (zaa A B).wd:=by show c+A.wd<A.wd+B.wd;lia
  have fo:=fq_ok H.b c0 c1 L.b L.bb
  obtain⟨s1,s2,s3⟩:=bes_r H.a H.b L.a L.b L.ba L.bb c0 c1
  obtain⟨p1,p2,p3⟩:=bel H.x H.y lab lcd bab bcd hxw (show 0<=c+A.wd by lia) cx
  have pn:=bel_n H.x H.y lab lcd bab bcd hxw (show 0<=c+A.wd by lia) cx
  obtain⟨t1,t2,t3⟩:=bes_r H.z H.u lac lbd bac bbd c0 c1
  have tn:=zkr H.z H.u lac lbd bac bbd c0 c1
  obtain⟨r1,r2,r3⟩:=bel H.b H.d L.b L.d L.bb L.bd H.v c0 c1
  have rn:=bel_n H.b H.d L.b L.d L.bb L.bd H.v c0 c1
  rw[s1,s3,H.w]at pn p2
  have d1:lastC c (fq B c lb).cs<D.wd:=by rw[<-H.v];exact fo.c4.2
  obtain⟨v1,v2,v3⟩:=bes_r H.c H.d L.c L.d L.bc L.bd fo.c4.1 d1
  have vn:=zkr H.c H.d L.c L.d L.bc L.bd fo.c4.1 d1
  have fc:=fq_ok H.d fo.c4.1 d1 L.d L.bd
  rw[vn]at pn
  rw[v2]at p2
  rw[<-H.w]at pn p2
  rw[s2]at p2
  rw[rn]at tn
  rw[r2]at t2
  refine⟨la,(fq B c lb).ls,lc,if(fq B c lb).st then ld else(fq D (lastC c (fq B c lb).cs) ld).ls,⟨L.a,by rw[fo.l1];exact L.b,L.c,?_,L.ba,fo.l2,L.bc,?_⟩,tn.trans pn.symm,?_,t2⟩
  .split
   .exact L.d
   .rw[fc.l1];exact L.d
  .split
   .exact L.bd
   .exact fc.l2
  .rw[p2]
   split<;>rfl
theorem zrq:∀(r:List Nat) {la lb lc ld:List Int},Lns A B C D la lb lc ld->(∀f∈r,f<A.fd.length+B.fd.length)->
 ∃la' lb' lc' ld' ns,Lns A B C D la' lb' lc' ld'/\toldP (zah (zaa A B) (zaa C D)) r ((la++lb)++(lc++ld))=(ns,(la'++lb')++(lc'++ld'))/\toldP (zaa (zah A C) (zah B D)) r ((la++lc)++(lb++ld))=(ns,(la'++lc')++(lb'++ld'))
 |[],la,lb,lc,ld,L,_=>⟨la,lb,lc,ld,[],L,rfl,rfl⟩
 |f::r,la,lb,lc,ld,L,hf=>by
  obtain⟨a1,b1,c1,d1,L1,e1,e2,e3⟩:=zx4 H L (hf f vaf)
  obtain⟨a2,b2,c2,d2,ns,L2,q1,q2⟩:=zrq r L1 λg hg=>hf g (vad _ hg)
  refine⟨a2,b2,c2,d2,nameP (zah (zaa A B) (zaa C D)) ((la++lb)++(lc++ld)) f::ns,L2,?_,?_⟩
  .rw[toldP,e2,q1]
  .rw[toldP,e3,q2,e1]
end
noncomputable def turnF(na nb f:Nat):Nat:=if f<na then nb+f else f-na
section
variable{A B:Bd}(a:A.Ok)(b:B.Ok)
include a b
theorem zqr{la lb:List Int}(hla:(la.length:Int)=A.gr)(hlb:(lb.length:Int)=B.gr)(ba:Bits la)(bb:Bits lb){f:Nat}(hf:f<A.fd.length+B.fd.length) :
 ∃la' lb',(la'.length:Int)=A.gr/\(lb'.length:Int)=B.gr/\Bits la'/\Bits lb'/\nameP (zaa (mirB B) (mirB A)) (lb++la) (turnF A.fd.length B.fd.length f)=nameP (zaa A B) (la++lb) f/\
  ((zaa A B).fall (la++lb) f).ls=la'++lb'/\((zaa (mirB B) (mirB A)).fall (lb++la) (turnF A.fd.length B.fd.length f)).ls=lb'++la':=by
 have ma:=zf7 a
 have mb:=zf7 b
 have nB:(mirB B).fd.length=B.fd.length:=by show(B.fd.map (mirF B.wd)).length=_;rw[vab]
 have nA:(mirB A).fd.length=A.fd.length:=by show(A.fd.map (mirF A.wd)).length=_;rw[vab]
 have mn:∀{X:Bd}{ls:List Int}{g:Nat},X.Ok->g<X.fd.length->(ls.length:Int)=X.gr->Bits ls->nameP (mirB X) ls g=nameP X ls g:=λx h1 h2 h3=>by
  unfold nameP
  rw[zoj x h1 h2 h3]
 have ml:∀{X:Bd}{ls:List Int}{g:Nat},X.Ok->g<X.fd.length->(ls.length:Int)=X.gr->Bits ls->((mirB X).fall ls g).ls=(X.fall ls g).ls:=λx h1 h2 h3=>by
  rw[ze9 x h1 h2 h3];rfl
 unfold turnF
 rcases Nat.lt_or_ge f A.fd.length with q|q
 .rw[if_pos q]
  have fo:=a.fall q hla ba
  obtain⟨_,c0,c1⟩:=a.col q
  obtain⟨_,c2,c3⟩:=ma.col (show f< (mirB A).fd.length by rw[nA];exact q)
  have e1:=(zdh a b hla hlb ba bb q).2
  have e2:=(zdi mb ma hlb hla bb ba (show f< (mirB A).fd.length by rw[nA];exact q)).2
  rw[nB]at e2
  obtain⟨s1,s2,s3⟩:=bes_l a b hla hlb ba bb c0 c1
  have sn:=zkq a b hla hlb ba bb c0 c1
  obtain⟨t1,t2,t3⟩:=bes_r mb ma hlb hla bb ba c2 c3
  have tn:=zkr mb ma hlb hla bb ba c2 c3
  refine⟨(A.fall la f).ls,lb,by rw[fo.l1];exact hla,hlb,fo.l2,bb,?_,?_,?_⟩
  .rw[nm_is,nm_is,e1,e2,sn,tn,<-nm_is,<-nm_is,mn a q hla ba]
  .show(fq (zaa A B) ((zaa A B).col f) _).ls=_
   rw[e1,s2];rfl
  .show(fq (zaa (mirB B) (mirB A)) ((zaa (mirB B) (mirB A)).col (B.fd.length+f)) _).ls=_
   rw[e2,t2]
   show lb++((mirB A).fall la f).ls=_
   rw[ml a q hla ba]
 .obtain⟨i,rfl⟩:∃i,f=A.fd.length+i:=⟨f-A.fd.length,by lia⟩
  have q':i<B.fd.length:=by lia
  rw[if_neg (by lia),show A.fd.length+i-A.fd.length=i by lia]
  have fo:=b.fall q' hlb bb
  obtain⟨_,c0,c1⟩:=b.col q'
  obtain⟨_,c2,c3⟩:=mb.col (show i< (mirB B).fd.length by rw[nB];exact q')
  have e1:=(zdi a b hla hlb ba bb q').2
  have e2:=(zdh mb ma hlb hla bb ba (show i< (mirB B).fd.length by rw[nB];exact q')).2
  obtain⟨s1,s2,s3⟩:=bes_r a b hla hlb ba bb c0 c1
  have sn:=zkr a b hla hlb ba bb c0 c1
  obtain⟨t1,t2,t3⟩:=bes_l mb ma hlb hla bb ba c2 c3
  have tn:=zkq mb ma hlb hla bb ba c2 c3
  refine⟨la,(B.fall lb i).ls,hla,by rw[fo.l1];exact hlb,ba,fo.l2,?_,?_,?_⟩
  .rw[nm_is,nm_is,e1,e2,sn,tn,<-nm_is,<-nm_is,mn b q' hlb bb]
  .show(fq (zaa A B) ((zaa A B).col (A.fd.length+i)) _).ls=_
   rw[e1,s2];rfl
  .show(fq (zaa (mirB B) (mirB A)) ((zaa (mirB B) (mirB A)).col i) _).ls=_
   rw[e2,t2]
   show((mirB B).fall lb i).ls++la=_
   rw[ml b q' hlb bb]
theorem zks:∀(r:List Nat) {la lb:List Int},(la.length:Int)=A.gr->(lb.length:Int)=B.gr->Bits la->Bits lb->(∀f∈r,f<A.fd.length+B.fd.length)->
 ∃la' lb' ns,(la'.length:Int)=A.gr/\(lb'.length:Int)=B.gr/\toldP (zaa A B) r (la++lb)=(ns,la'++lb')/\toldP (zaa (mirB B) (mirB A)) (r.map (turnF A.fd.length B.fd.length)) (lb++la)=(ns,lb'++la')
 |[],la,lb,h1,h2,h3,h4,_=>⟨la,lb,[],h1,h2,rfl,rfl⟩
 |f::r,la,lb,h1,h2,h3,h4,hf=>by
  obtain⟨a1,b1,l1,l2,l3,l4,e1,e2,e3⟩:=zqr a b h1 h2 h3 h4 (hf f vaf)
  obtain⟨a2,b2,ns,m1,m2,q1,q2⟩:=zks r l1 l2 l3 l4 λg hg=>hf g (vad _ hg)
  refine⟨a2,b2,nameP (zaa A B) (la++lb) f::ns,m1,m2,?_,?_⟩
  .rw[toldP,e2,q1]
  .rw[vao,toldP,e3,q2,e1]
end
theorem eqT{cl:Call}{a b:E}{ρ:En}{h h1 h2:VH}{w:W}(ea:ev cl a ρ h=.ok w h1)(eb:ev cl b ρ h1=.ok w h2)(p:zaw 24 w=true):ev cl (.cmp .eq a b) ρ h=.ok (.bl true) h2:=by
 rw[ev,ea,bindok,eb,bindok]
 simp only[cmpW,zqe p,va1,ofsome]
theorem orF{cl:Call}{a b:E}{ρ:En}{h h1 h2:VH}{r:Bool}(ea:ev cl a ρ h=.ok (.bl false) h1)(eb:ev cl b ρ h1=.ok (.bl r) h2):ev cl (.or a b) ρ h=.ok (.bl r) h2:=by
 rw[ev,ea,bindok];exact eb
theorem andT{cl:Call}{a b:E}{ρ:En}{h h1 h2:VH}{r:Bool}(ea:ev cl a ρ h=.ok (.bl true) h1)(eb:ev cl b ρ h1=.ok (.bl r) h2):ev cl (.and a b) ρ h=.ok (.bl r) h2:=by
 rw[ev,ea,bindok];exact eb
noncomputable def zkt:E:=(.call 189 (.cons (.var 0) .nil))
noncomputable def zhc:E:=(.bi .tuple (.cons (.lc .seq (.bi .rev (.cons (.var 0) (.cons (.neg (.cst (.int (1)))) .nil))) (.one 0) 1 [] (.cst (.bl true)) zkt) .nil))
noncomputable def zku:E:=(.op .sub (.op .sub (.var 1) (.cst (.int (1)))) (.var 0))
noncomputable def fn188:Fn:=⟨1,8,(.seq (.expr (.call 14 (.cons (.var 0) .nil))) (.seq (.unp [1,2,3,4,5] (.var 0)) (.seq (.set 6 (.bi .tuple (.cons (.lc .seq (.var 3) (.one 0) 1 [] (.cst (.bl true)) zhc) .nil))) (.seq (.set 7 (.bi .tuple (.cons (.lc .seq (.var 4) (.one 0) 1 [1] (.cst (.bl true)) zku) .nil))) (.seq (.ret (.tup (.cons (.var 1) (.cons (.var 2) (.cons (.var 6) (.cons (.var 7) (.cons (.bi .rev (.cons (.var 5) (.cons (.neg (.cst (.int (1)))) .nil))) .nil))))))) .skip)))))⟩
noncomputable def fn189:Fn:=⟨1,3,(.seq (.ite (.tru (.isi .tuple (.var 0))) (.seq (.unp [1,2] (.var 0)) (.seq (.ret (.tup (.cons (.var 1) (.cons (.op .sub (.cst (.int (1))) (.var 2)) .nil)))) .skip)) .skip) (.seq (.ret (.bi .cget (.cons (.cst (.tup [(.tup [(.str (vgb "<")),(.str (vgb ">"))]),(.tup [(.str (vgb ">")),(.str (vgb "<"))])])) (.cons (.var 0) (.cons (.var 0) .nil))))) .skip))⟩
theorem revE{cl:Call}{a:E}{ρ:En}{h h1:VH}{ws:List W}(ea:ev cl a ρ h=.ok (.tup ws) h1):ev cl (.bi .rev (.cons a (.cons (.neg (.cst (.int (1)))) .nil))) ρ h=.ok (.tup ws.reverse) h1:=by
 rw[ev,ev,ea,bindok];rfl
theorem unp5T{cl:Call}{a b c d f:Nat}{e:E}{ρ:En}{h h1:VH}{x y z u v:W}(ee:ev cl e ρ h=.ok (.tup [x,y,z,u,v]) h1):exs cl (.unp [a,b,c,d,f] e) ρ h=.ok (.nx (((((ρ.set a (some x)).set b (some y)).set c (some z)).set d (some u)).set f (some v))) h1:=by
 rw[exs,ee,bindok];rfl
noncomputable def mirT(w:W):W:=match w with
 |.tup r=>.tup (mirR r)
 |w=>w
section
variable{F:Nat->Option Fn}(f189:F 189=some fn189)
include f189
theorem zon{k:Nat}{h:VH}{w:W}{c wd g:Int}(hm:zac w c wd g=true):run F (k+1) 189 [w] h=.ok (mirW w) h:=by
 rw[zaj f189 rfl]
 have eb:exs (run F k) fn189.body [some w,none,none] ⟨h.n,h.n,h.os⟩=.ok (.rt (mirW w)) ⟨h.n,h.n,h.os⟩/\∀m,W.lt m (mirW w)=true:=by
  rcases zbg hm with⟨rfl,h3,h4⟩|⟨rfl,h3⟩|⟨rfl,h3⟩|rfl|rfl|⟨p,q,rfl,h3,h4,h5,h6⟩<;>exact⟨rfl,λ_=>rfl⟩
 show fin h (exs (run F k) fn189.body [some w,none,none] ⟨h.n,h.n,h.os⟩)=_
 rw[eb.1]
 exact zbo (n:=0) .refl eb.2
theorem zqs{k:Nat}{h:VH}{r:List W}{wd g:Int}(hr:(r.length:Int)=wd/\rowOk wd g 0 r)(hw:wd<=40):∃h',ev (run F (k+1)) zhc [some (.tup r)] h=.ok (.tup (mirR r)) h'/\Gw h h':=by
 have e1:=hr.1
 obtain⟨h',e,gw⟩:=zb0 (cl:=run F (k+1)) (e:=zkt) (tl:=[]) (f:=mirW) r.reverse none h λw hw h=>⟨h,zf4 (varE rfl) (zon f189 (zbt hr.2 w (List.mem_reverse.mp hw)).choose_spec),.refl⟩
 have hl:(r.reverse.map mirW).length<=1000000:=by rw[vab,vb6];omega
 exact⟨_,zbs (revE (varE rfl)) (by rw[vb6];omega) e hl,gw.new⟩
end
section
variable{F:Nat->Option Fn}(C:CoreB F)(f188:F 188=some fn188)(f189:F 189=some fn189)
include C f188 f189
theorem zfa{k:Nat}{h:VH}{B:Bd}(b:B.Ok):run F (k+8) 188 [B.w] h=.ok (mirB B).w h:=by
 rw[zaj f188 rfl]
 have e1:=za8 C (k:=k) (h:=⟨h.n,h.n,h.os⟩) b
 have hw2:=b.w2
 have hr1:=b.r1
 have hf2:=b.f2
 obtain⟨h2,e2,g2⟩:=zb0 (cl:=run F (k+7)) (e:=zhc) (tl:=[]) (f:=mirT) (B.rows.map .tup) none ⟨h.n,h.n,h.os⟩ λw hw h=>by
  obtain⟨r,hr,rfl⟩:=vaw.mp hw
  exact zqs f189 (k:=k+6) (b.r2 r hr) hw2
 have m2:(B.rows.map W.tup).map mirT=(B.rows.map mirR).map W.tup:=by rw[veg,veg];rfl
 rw[m2]at e2
 obtain⟨h3,e3,g3⟩:=zb0 (cl:=run F (k+7)) (e:=zku) (tl:=[some (.int B.wd)]) (f:=mirF B.wd) B.fd none (h2.new (.lst ((B.rows.map mirR).map .tup))) λw hw h=>by
  have:=b.f3 w hw
  cases w<;>simp only[within]at this<;>try(cases this;done)
  exact⟨h,rfl,.refl⟩
 have hl2:((B.rows.map mirR).map W.tup).length<=1000000:=by rw[vab,vab];omega
 have hl3:(B.fd.map (mirF B.wd)).length<=1000000:=by rw[vab];omega
 have eb:exs (run F (k+7)) fn188.body [some B.w,none,none,none,none,none,none,none] ⟨h.n,h.n,h.os⟩=.ok (.rt (mirB B).w) (h3.new (.lst (B.fd.map (mirF B.wd)))):=
  (zab (exprE (zf4 (varE rfl) e1))).trans ((zab (unp5T (varE rfl))).trans
    ((zab (setE (zbs (varE rfl) (by rw[vab];omega) e2 hl2))).trans
    ((zab (setE (zbs (varE rfl) (by omega) e3 hl3))).trans
    (zas (retE (tup5E (varE rfl) (varE rfl) (varE rfl) (varE rfl) (revE (varE rfl))))))))
 have hpl:=zg1 (zf7 b)
 show fin h (exs (run F (k+7)) fn188.body [some B.w,none,none,none,none,none,none,none] ⟨h.n,h.n,h.os⟩)=_
 rw[eb]
 exact zbo (n:=0) (g2.new.trans g3.new) λm=>zdg 24 _ hpl
end
noncomputable def zc1:E:=(.call 20 (.cons (.var 1) (.cons (.idx (.var 0) (.cst (.int (1)))) .nil)))
noncomputable def zc2:E:=(.call 5 (.cons (.var 1) (.cons (.bi .len (.cons (.idx (.var 2) (.cst (.int (3)))) .nil)) .nil)))
noncomputable def zhd:Fn:=⟨2,16,(.seq (.unp [2,3,4,5] (.var 1)) (.seq (.set 6 (.call 96 (.cons (.call 120 (.cons (.var 2) (.cons (.var 3) .nil))) (.cons (.call 120 (.cons (.var 4) (.cons (.var 5) .nil))) .nil)))) (.seq (.set 7 (.call 96 (.cons (.var 2) (.cons (.var 4) .nil)))) (.seq (.set 7 (.call 120 (.cons (.var 7) (.cons (.call 96 (.cons (.var 3) (.cons (.var 5) .nil))) .nil)))) (.seq (.set 8 (.lc .seq (.var 1) (.one 0) 1 [0] (.cst (.bl true)) zc1)) (.seq (.set 9 (.bi .tuple (.cons (.lc .rng1 (.cons (.call 5 (.cons (.var 0) (.cons (.cst (.int (31))) .nil))) .nil) (.one 0) 1 [0,6] (.cst (.bl true)) zc2) .nil))) (.seq (.unp [10,11] (.call 183 (.cons (.var 6) (.cons (.op .add (.op .add (.op .add (.idx (.var 8) (.cst (.int (0)))) (.idx (.var 8) (.cst (.int (1))))) (.idx (.var 8) (.cst (.int (2))))) (.idx (.var 8) (.cst (.int (3))))) (.cons (.var 9) .nil))))) (.seq (.unp [12,13] (.call 183 (.cons (.var 7) (.cons (.op .add (.op .add (.op .add (.idx (.var 8) (.cst (.int (0)))) (.idx (.var 8) (.cst (.int (2))))) (.idx (.var 8) (.cst (.int (1))))) (.idx (.var 8) (.cst (.int (3))))) (.cons (.var 9) .nil))))) (.seq (.set 14 (.lst (.cons (.idx (.var 2) (.cst (.int (1)))) (.cons (.idx (.var 3) (.cst (.int (1)))) (.cons (.idx (.var 4) (.cst (.int (1)))) .nil))))) (.seq (.set 15 (.lst (.cons (.slc (.var 11) false (.cst .non) true (.idx (.var 14) (.cst (.int (0))))) (.cons (.slc (.var 11) true (.idx (.var 14) (.cst (.int (0)))) true (.op .add (.idx (.var 14) (.cst (.int (0)))) (.idx (.var 14) (.cst (.int (1)))))) (.cons (.slc (.var 11) true (.op .add (.idx (.var 14) (.cst (.int (0)))) (.idx (.var 14) (.cst (.int (1))))) true (.bi .sum (.cons (.var 14) .nil))) (.cons (.slc (.var 11) true (.bi .sum (.cons (.var 14) .nil)) false (.cst .non)) .nil)))))) (.seq (.ret (.and (.cmp .eq (.var 10) (.var 12)) (.cmp .eq (.var 13) (.op .add (.op .add (.op .add (.idx (.var 15) (.cst (.int (0)))) (.idx (.var 15) (.cst (.int (2))))) (.idx (.var 15) (.cst (.int (1))))) (.idx (.var 15) (.cst (.int (3)))))))) .skip)))))))))))⟩
noncomputable def zjl:E:=(.call 5 (.cons (.var 1) (.cons (.bi .len (.cons (.idx (.var 2) (.cst (.int (3)))) .nil)) .nil)))
noncomputable def zc3:E:=(.op .mod (.op .sub (.var 0) (.var 1)) (.bi .len (.cons (.idx (.var 2) (.cst (.int (3)))) .nil)))
noncomputable def zhe:Fn:=⟨3,13,(.seq (.set 3 (.call 188 (.cons (.call 120 (.cons (.var 1) (.cons (.var 2) .nil))) .nil))) (.seq (.set 4 (.call 120 (.cons (.call 188 (.cons (.var 2) .nil)) (.cons (.call 188 (.cons (.var 1) .nil)) .nil)))) (.seq (.set 5 (.lst (.cons (.call 20 (.cons (.var 0) (.cons (.idx (.var 1) (.cst (.int (1)))) .nil))) (.cons (.call 20 (.cons (.var 0) (.cons (.idx (.var 2) (.cst (.int (1)))) .nil))) .nil)))) (.seq (.set 6 (.bi .tuple (.cons (.lc .rng1 (.cons (.call 5 (.cons (.var 0) (.cons (.cst (.int (31))) .nil))) .nil) (.one 0) 1 [0,3] (.cst (.bl true)) zjl) .nil))) (.seq (.set 7 (.bi .len (.cons (.idx (.var 1) (.cst (.int (3)))) .nil))) (.seq (.set 8 (.bi .tuple (.cons (.lc .seq (.var 6) (.one 0) 1 [7,3] (.cst (.bl true)) zc3) .nil))) (.seq (.unp [9,10] (.call 183 (.cons (.var 3) (.cons (.op .add (.idx (.var 5) (.cst (.int (0)))) (.idx (.var 5) (.cst (.int (1))))) (.cons (.var 6) .nil))))) (.seq (.unp [11,12] (.call 183 (.cons (.var 4) (.cons (.op .add (.idx (.var 5) (.cst (.int (1)))) (.idx (.var 5) (.cst (.int (0))))) (.cons (.var 8) .nil))))) (.seq (.ret (.and (.cmp .eq (.var 9) (.var 11)) (.cmp .eq (.var 12) (.op .add (.slc (.var 10) true (.idx (.var 1) (.cst (.int (1)))) false (.cst .non)) (.slc (.var 10) false (.cst .non) true (.idx (.var 1) (.cst (.int (1))))))))) .skip)))))))))⟩
noncomputable def zfb:S:=(.seq (.set 7 (.idx (.lst (.cons (.var 4) (.cons (.op .add (.cst (.int (1))) (.call 5 (.cons (.var 1) (.cons (.op .sub (.cst (.int (4))) (.var 4)) .nil)))) .nil))) (.op .mod (.var 6) (.cst (.int (2)))))) (.seq (.expr (.mt .append (.var 5) (.cons (.call 135 (.cons (.var 1) (.cons (.idx (.var 3) (.op .mod (.var 6) (.cst (.int (2))))) (.cons (.var 7) (.cons (.call 5 (.cons (.var 1) (.cons (.cst (.int (3))) .nil))) .nil))))) .nil))) .skip))
noncomputable def zfc:S:=(.seq (.set 3 (.lst (.cons (.op .add (.cst (.int (1))) (.call 5 (.cons (.var 1) (.cons (.cst (.int (9))) .nil)))) (.cons (.op .add (.cst (.int (1))) (.call 5 (.cons (.var 1) (.cons (.cst (.int (9))) .nil)))) .nil)))) (.seq (.set 4 (.op .add (.cst (.int (1))) (.call 5 (.cons (.var 1) (.cons (.cst (.int (3))) .nil))))) (.seq (.set 5 (.lst .nil)) (.seq (.«for» .rng1 (.cons (.cst (.int (4))) .nil) (.one 6) zfb) (.seq (.ite (.or (.not (.tru (.call 700 (.cons (.var 1) (.cons (.var 5) .nil))))) (.not (.tru (.call 701 (.cons (.var 1) (.cons (.idx (.var 5) (.cst (.int (0)))) (.cons (.idx (.var 5) (.cst (.int (1)))) .nil))))))) (.seq (.ret (.cst (.bl false))) .skip) .skip) .skip)))))
noncomputable def zee:Fn:=⟨1,8,(.seq (.set 1 (.call 3 (.cons (.var 0) .nil))) (.seq (.«for» .rng1 (.cons (.cst (.int (3))) .nil) (.one 2) zfc) (.seq (.ret (.cst (.bl true))) .skip)))⟩
theorem zkv{la lb:List Int}{g:Int}{h:VH}(hla:(la.length:Int)=g):slcW (iW (la++lb)) none (some g) h=.ok (iW la) h:=by
 have:cutW ((la++lb).map W.int) none (some g)=la.map .int:=by
  unfold cutW
  have e1:HT.sIx ((la++lb).map W.int).length 0 none=0:=rfl
  have e2:HT.sIx ((la++lb).map W.int).length ((la++lb).map W.int).length (some g)=la.length:=by
   simp only[HT.sIx,vab,vag]
   split<;>lia
  rw[e1,e2,vdq,Nat.sub_zero,vbn,vd1 (by rw[vab])]
 show Res.ok (W.tup _) h=_
 rw[this];rfl
theorem zis{la lb:List Int}{g:Int}{h:VH}(hla:(la.length:Int)=g):slcW (iW (la++lb)) (some g) none h=.ok (iW lb) h:=by
 have:cutW ((la++lb).map W.int) (some g) none=lb.map .int:=by
  unfold cutW
  have e1:HT.sIx ((la++lb).map W.int).length 0 (some g)=la.length:=by
   simp only[HT.sIx,vab,vag]
   split<;>lia
  have e2:HT.sIx ((la++lb).map W.int).length ((la++lb).map W.int).length none=(la++lb).length:=by simp[HT.sIx]
  rw[e1,e2,vbn,vd2 (by rw[vab])]
  rw[List.take_of_length_le (by rw[vab,vag];lia)]
 show Res.ok (W.tup _) h=_
 rw[this];rfl
theorem lst4E{cl:Call}{a b c d:E}{ρ:En}{h h1 h2 h3 h4:VH}{x y z u:W}(ea:ev cl a ρ h=.ok x h1)(eb:ev cl b ρ h1=.ok y h2)(ec:ev cl c ρ h2=.ok z h3)(ed:ev cl d ρ h3=.ok u h4):ev cl (.lst (.cons a (.cons b (.cons c (.cons d .nil))))) ρ h=.ok (.ref h4.n) (h4.new (.lst [x,y,z,u])):=by
 rw[ev,ev,ea,bindok,ev,eb,bindok,ev,ec,bindok,ev,ed,bindok,ev]
 rfl
theorem Dk.ltq{h:VH}{d c b:Nat}(D:Dk h d c b):d<h.n/\c<h.n:=by
 obtain⟨_,ns,cells,p,q,a1,a2,_⟩:=D
 exact⟨zao a1,zao a2⟩
theorem addI{a b:Int}{g:VH}:opW .add (.int a) (.int b) g=.ok (.int (a+b)) g:=rfl
theorem subI{a b:Int}{g:VH}:opW .sub (.int a) (.int b) g=.ok (.int (a-b)) g:=rfl
theorem zoo{xs ys zs:List Int}{g k:Int}{h:VH}(hg:(xs.length:Int)=g)(hk:(ys.length:Int)=k):slcW (iW (xs++(ys++zs))) (some g) (some (g+k)) h=.ok (iW ys) h:=by
 have:cutW ((xs++(ys++zs)).map W.int) (some g) (some (g+k))=ys.map .int:=by
  unfold cutW
  have e1:HT.sIx ((xs++(ys++zs)).map W.int).length 0 (some g)=xs.length:=by
   simp only[HT.sIx,vab,vag]
   split<;>lia
  have e2:HT.sIx ((xs++(ys++zs)).map W.int).length ((xs++(ys++zs)).map W.int).length (some (g+k))=xs.length+ys.length:=by
   simp only[HT.sIx,vab,vag]
   split<;>lia
  rw[e1,e2,vbn,vd2 (by rw[vab]),Nat.add_sub_cancel_left,vbn,vd1 (by rw[vab])]
 show Res.ok (W.tup _) h=_
 rw[this];rfl
theorem unp4L{cl:Call}{a b c d:Nat}{e:E}{ρ:En}{h h1:VH}{l:Nat}{x y z u:W}(ee:ev cl e ρ h=.ok (.ref l) h1)(g:h1.get l=some (.lst [x,y,z,u])):exs cl (.unp [a,b,c,d] e) ρ h=.ok (.nx ((((ρ.set a (some x)).set b (some y)).set c (some z)).set d (some u))) h1:=by
 rw[exs,ee,bindok]
 simp only[tgW,seqW,g,za1,va1,ofsome]
theorem unp2T{cl:Call}{a b:Nat}{e:E}{ρ:En}{h h1:VH}{x y:W}(ee:ev cl e ρ h=.ok (.tup [x,y]) h1):exs cl (.unp [a,b] e) ρ h=.ok (.nx ((ρ.set a (some x)).set b (some y))) h1:=by
 rw[exs,ee,bindok];rfl
theorem zef{nx:Nat->VH->Option (Option W)}{tg:W->VH->En->Option En}{c e:FE}{fu i:Nat}{ρ ρ1:En}{h h1:VH}{acc:List W}{w y:W}(e1:nx i h=some (some w))(e2:tg w h ρ=some ρ1)(e3:c ρ1 h=.ok (.bl true) h)(e4:e ρ1 h=.ok y h1):lcG nx tg c e (fu+1) i ρ h acc=lcG nx tg c e fu (i+1) ρ1 h1 (y::acc):=by
 rw[lcG,e1]
 dsimp only
 rw[e2]
 dsimp only
 rw[e3,bindok]
 dsimp only
 rw[e4,bindok]
theorem zqt{nx:Nat->VH->Option (Option W)}{tg:W->VH->En->Option En}{c e:FE}{fu i:Nat}{ρ:En}{h:VH}{acc:List W}(e1:nx i h=some none):lcG nx tg c e (fu+1) i ρ h acc=.ok acc.reverse h:=by
 rw[lcG,e1]
theorem zit{ns:List W}(h:∀w∈ns,w=.non\/∃i:Int,w=.int i):zaw 24 (.tup ns)=true:=by
 rw[zb2,vbi]
 intro w hw
 rcases h w hw with rfl|⟨i,rfl⟩<;>rfl
theorem catE{cl:Call}{a b:E}{ρ:En}{h h1 h2:VH}{xs ys:List Int}(ea:ev cl a ρ h=.ok (iW xs) h1)(eb:ev cl b ρ h1=.ok (iW ys) h2)(hl:xs.length+ys.length<=1000000):ev cl (.op .add a b) ρ h=.ok (iW (xs++ys)) h2:=opE ea eb (ztz hl)
theorem idxR{cl:Call}{i l j:Nat}{ρ:En}{h:VH}{ws:List W}{w:W}(hρ:ρ[i]?=some (some (.ref l)))(g:h.get l=some (.lst ws))(e:ws[j]?=some w):ev cl (.idx (.var i) (.cst (.int (j:Int)))) ρ h=.ok w h:=by
 refine idxE (varE hρ) rfl ?_
 show(match h.get l with
  |some (.lst ws)=>L2.atI ws (j:Int)
  |some (.dk kvs)=>lookK kvs (.inl (j:Int))
  |_=>none)=some w
 rw[g]
 exact zby e
theorem sum3E{cl:Call}{i l:Nat}{ρ:En}{h:VH}{a b c:Int}(hρ:ρ[i]?=some (some (.ref l)))(g:h.get l=some (.lst [.int a,.int b,.int c])):ev cl (.bi .sum (.cons (.var i) .nil)) ρ h=.ok (.int (a+b+c)) h:=by
 rw[ev,ev,varE hρ,bindok,ev]
 show sumW [.ref l] h=_
 simp only[sumW,g,mapO,iZ,va1,ofsome,List.sum_cons,List.sum_nil]
 rw[show a+ (b+ (c+0))=a+b+c by lia]
structure C49(F:Nat->Option Fn)(c:Addr):Prop where
 p:CoreP F
 s:CoreS F
 j:CoreJ F
 o:CoreO F c
 r:CoreRw F
 f20:F 20=some fn20
 f135:F 135=some fn135
 f183:F 183=some fn183
 f188:F 188=some fn188
 f189:F 189=some fn189
 f700:F 700=some zhd
 f701:F 701=some zhe
 f702:F 702=some zee
section
variable{F:Nat->Option Fn}{a:Addr}(C:C49 F a)
include C
theorem zop{k d c bb:Nat}{h:VH}{B:Bd}{ρ:En}{x y:E}(b:B.Ok)(D:Dk h d c bb)(hb:bb+10<1000000000)(hx:ev (run F (k+4)) x ρ h=.ok (.ref d) h)(hy:ev (run F (k+4)) y ρ h=.ok (.int B.gr) h):∃ls h',ev (run F (k+4)) (.call 20 (.cons x (.cons y .nil))) ρ h=.ok (iW ls) h'/\(ls.length:Int)=B.gr/\Bits ls/\Dk h' d c (bb+10)/\Keep h h' d c:=by
 have g1:=b.g1
 have g2:=b.g2
 obtain⟨g,hg⟩:=vat g1
 obtain⟨ls,h',e,l,bi,D',K'⟩:=zjk C.p.toCoreD (k:=k) (g:=g) C.f20 D hb (by lia)
 rw[hg]at hy
 exact⟨ls,h',zb3 hx hy e,by lia,bi,D',K'⟩
theorem row49{k d c bb:Nat}{h:VH}{B:Bd}{ρ:En}{ix:List Nat}(b:B.Ok)(D:Dk h d c bb)(hb:bb+100<1000000000)(h0:ρ[0]?=some (some (.ref d)))(hin:inner 1 ix ρ=[none,some (.ref d),some B.w]) :
 ∃r h',(∀f∈r,f<B.fd.length)/\r.length<=30/\ev (run F (k+3)) (.bi .tuple (.cons (.lc .rng1 (.cons (.call 5 (.cons (.var 0) (.cons (.cst (.int (31))) .nil))) .nil) (.one 0) 1 ix (.cst (.bl true)) zc2) .nil)) ρ h=.ok (.tup (rowW r)) h'/\Dk h' d c (bb+100)/\Keep h h' d c:=by
 have CD:=C.p.toCoreD
 have f1:=b.f1
 have f2:=b.f2
 obtain⟨t,h1,e1,a1,D1,K1⟩:=takeE CD (k:=k) (m:=31) (ρ:=ρ) (x:=.var 0) (y:=.cst (.int (31))) (vi:=0) D (by lia) (by decide) (by decide) (varE h0) rfl
 have i3:∀h:VH,idxW h B.w (.int 3)=some (.tup B.fd):=λ_=>rfl
 obtain⟨ws,h2,e2,p2,l2,D2,K2⟩:=zcz (cl:=run F (k+3)) (P:=λ_ w=>∃x:Nat,w=.int x/\x<B.fd.length) (e:=zc2) (tl:=[some (.ref d),some B.w]) (m:=1) (lim:=t) (λi h b h0 hl D hb=>by
  obtain⟨r,h',e,r1,D',K'⟩:=takeE CD (k:=k) (m:=(B.fd.length:Int)) (ρ:=[some (.int i),some (.ref d),some B.w]) (x:=.var 1) (y:=.bi .len (.cons (.idx (.var 2) (.cst (.int (3)))) .nil)) (vi:=0) D (by lia) (by lia) (by lia) (varE rfl) (lenE (idxE (varE rfl) rfl (i3 _)) rfl)
  exact⟨.int r,h',e,⟨r,rfl,by lia⟩,D',K'⟩) t 0 none h1 _ (by lia) (by lia) D1 (by lia)
 obtain⟨r,rfl,hrf⟩:=zoc (zco p2)
 have hrl:r.length=t:=by unfold rowW at l2;rw[vab]at l2;exact l2
 rw[<-hin]at e2
 refine⟨r,_,hrf,by lia,zig (n:=t) (h1:=h1) (by rw[ev,e1,bindok,ev];rfl) (by lia) e2 (by rw[l2];lia),(D2.new).mono (by lia),(K1.trans K2).new⟩
theorem zub{k d c bb l:Nat}{h:VH}{A B E G:Bd}{ρ:En}(H:Four A B E G)(D:Dk h d c bb)(hb:bb+100<1000000000)(hin:inner 1 [0] ρ=[none,some (.ref d)])(h1:ρ[1]?=some (some (.ref l)))(gl:h.get l=some (.lst [A.w,B.w,E.w,G.w]))(nd:l≠d)(nc:l≠c) :
 ∃la lb lc ld h',Lns A B E G la lb lc ld/\ev (run F (k+4)) (.lc .seq (.var 1) (.one 0) 1 [0] (.cst (.bl true)) zc1) ρ h=.ok (.ref h'.n) (h'.new (.lst [iW la,iW lb,iW lc,iW ld]))/\Dk h' d c (bb+40)/\Keep h h' d c:=by
 have i1:∀(B:Bd)(h:VH),idxW h B.w (.int 1)=some (.int B.gr):=λ_ _=>rfl
 have one:∀{B:Bd}{bb:Nat}{h:VH},B.Ok->Dk h d c bb->bb+10<1000000000->∃ls h',ev (run F (k+4)) zc1 [some B.w,some (.ref d)] h=.ok (iW ls) h'/\(ls.length:Int)=B.gr/\Bits ls/\Dk h' d c (bb+10)/\Keep h h' d c:=λ{B bb h} b D hb=>zop C (k:=k) b D hb (varE rfl) (idxE (varE rfl) rfl (i1 B h))
 obtain⟨la,k1,e1,l1,b1,D1,K1⟩:=one H.a D (by lia)
 obtain⟨lb,k2,e2,l2,b2,D2,K2⟩:=one H.b D1 (by lia)
 obtain⟨lc,k3,e3,l3,b3,D3,K3⟩:=one H.c D2 (by lia)
 obtain⟨ld,k4,e4,l4,b4,D4,K4⟩:=one H.d D3 (by lia)
 have g1:=K1.get _ _ nd nc gl
 have g2:=K2.get _ _ nd nc g1
 have g3:=K3.get _ _ nd nc g2
 have g4:=K4.get _ _ nd nc g3
 have nx:∀{h:VH}(i:Nat),h.get l=some (.lst [A.w,B.w,E.w,G.w])->nxt .seq (.ref l) i h=some ([A.w,B.w,E.w,G.w][i]?):=λ{h} i g=>by
  show(seqW h (.ref l)).map _=_
  simp only[seqW,g];rfl
 refine⟨la,lb,lc,ld,k4,⟨l1,l2,l3,l4,b1,b2,b3,b4⟩,?_,D4,((K1.trans K2).trans K3).trans K4⟩
 rw[ev,varE h1,bindok,hin]
 obtain⟨m,hm⟩:∃m,fuel=m+1+1+1+1+1:=⟨999995,rfl⟩
 rw[hm,zef (w:=A.w) (ρ1:=[some A.w,some (.ref d)]) (nx 0 gl) rfl rfl e1,zef (w:=B.w) (ρ1:=[some B.w,some (.ref d)]) (nx 1 g1) rfl rfl e2,zef (w:=E.w) (ρ1:=[some E.w,some (.ref d)]) (nx 2 g2) rfl rfl e3,zef (w:=G.w) (ρ1:=[some G.w,some (.ref d)]) (nx 3 g3) rfl rfl e4,zqt (nx 4 g4),bindok]
 rfl
noncomputable abbrev R700(x0 x1 x2 x3 x4 x5 x6 x7 x8 x9 x10 x11 x12 x13 x14 x15:Option W):En:=[x0,x1,x2,x3,x4,x5,x6,x7,x8,x9,x10,x11,x12,x13,x14,x15]
theorem zoq{k d c bb l:Nat}{h:VH}{A B E G:Bd}(H:Four A B E G)(D:Dk h d c bb)(hb:bb+400<1000000000)(gl:h.get l=some (.lst [A.w,B.w,E.w,G.w]))(nd:l≠d)(nc:l≠c)
 (sw:A.wd+B.wd<=40) (sg:A.gr+B.gr+ (E.gr+G.gr)<=8) (sf:A.fd.length+B.fd.length<=4) (sf2:E.fd.length+G.fd.length<=4) (sr:∀X:Bd,X=A\/X=B\/X=E\/X=G->X.rows.length<=6) :
 ∃h',run F (k+12) 700 [.ref d,.ref l] h=.ok (.bl true) h'/\Dk h' d c (bb+400)/\Keep h h' d c:=by
 have ga:=H.a.g1
 have gb:=H.b.g1
 have ge:=H.c.g1
 have gg:=H.d.g1
 have ra:=sr A (.inl rfl)
 have rb:=sr B (.inr (.inl rfl))
 have re:=sr E (.inr (.inr (.inl rfl)))
 have rg:=sr G (.inr (.inr (.inr rfl)))
 have hxw:(zaa A B).wd=(zaa E G).wd:=by show A.wd+B.wd=E.wd+G.wd;rw[H.w,H.v]
 have rows1:(zaa A B).rows.length<=6:=by
  show(List.zipWith _ _ _).length<=6
  rw[vdh,za3 (show A.rows.length<=hiR A B from vc8 ..)]
  have:hiR A B<=6:=Nat.max_le.mpr ⟨ra,rb⟩
  lia
 have rows2:(zaa E G).rows.length<=6:=by
  show(List.zipWith _ _ _).length<=6
  rw[vdh,za3 (show E.rows.length<=hiR E G from vc8 ..)]
  have:hiR E G<=6:=Nat.max_le.mpr ⟨re,rg⟩
  lia
 have sxg:(zaa A B).gr+ (zaa E G).gr<=8:=sg
 have okP:(zah (zaa A B) (zaa E G)).Ok:=zec H.x H.y hxw sxg (by lia)
 have zg:A.gr+E.gr<=8:=by lia
 have ug:B.gr+G.gr<=8:=by lia
 have zu:(zah A E).gr+ (zah B G).gr<=8:=by show A.gr+E.gr+ (B.gr+G.gr)<=8;lia
 have okQ:(zaa (zah A E) (zah B G)).Ok:=zck H.z H.u sw zu sf
 rw[zaj C.f700 rfl]
 have D0:Dk ⟨h.n,h.n,h.os⟩ d c bb:=D.lo
 have gl0:VH.get ⟨h.n,h.n,h.os⟩ l=some (.lst [A.w,B.w,E.w,G.w]):=gl
 have e1:=zio C.s (k:=k+3) (h:=⟨h.n,h.n,h.os⟩) H.a H.b sw (by lia) sf
 have e2:=zio C.s (k:=k+3) (h:=⟨h.n,h.n,h.os⟩) H.c H.d (by rw[<-H.w,<-H.v];exact sw) (by lia) sf2
 have e3:=below C.j (k:=k+3) (h:=⟨h.n,h.n,h.os⟩) H.x H.y hxw sxg (by lia)
 have e4:=below C.j (k:=k+3) (h:=⟨h.n,h.n,h.os⟩) H.a H.c H.w zg (by lia)
 have e5:=below C.j (k:=k+3) (h:=⟨h.n,h.n,h.os⟩) H.b H.d H.v ug (by lia)
 have e6:=zio C.s (k:=k+3) (h:=⟨h.n,h.n,h.os⟩) H.z H.u sw zu sf
 generalize hP:zah (zaa A B) (zaa E G)=P at *
 generalize hQ:zaa (zah A E) (zah B G)=Q at *
 obtain⟨la,lb,lc,ld,h1,L,el,D1,K1⟩:=zub C (k:=k+7) (ρ:=R700 (some (.ref d)) (some (.ref l)) (some A.w) (some B.w) (some E.w) (some G.w) (some P.w) (some Q.w) none none none none none none none none) H D0 (by lia) rfl rfl gl0 nd nc
 obtain⟨hd1,hc1⟩:d<h1.n/\c<h1.n:=D1.ltq
 obtain⟨r,h2,hrf,hrl,er,D2,K2⟩:=row49 C (k:=k+8) (B:=P) (ρ:=R700 (some (.ref d)) (some (.ref l)) (some A.w) (some B.w) (some E.w) (some G.w) (some P.w) (some Q.w) (some (.ref h1.n)) none none none none none none none) (ix:=[0,6]) okP (D1.new (o:=.lst [iW la,iW lb,iW lc,iW ld])) (by lia) rfl rfl
 have g8:h2.get h1.n=some (.lst [iW la,iW lb,iW lc,iW ld]):=K2.get _ _ (by lia) (by lia) zat
 have hrfP:∀f∈r,f<A.fd.length+B.fd.length:=λf hf=>by
  have:=hrf f hf
  rw[<-hP]at this
  have e:(zah (zaa A B) (zaa E G)).fd.length=A.fd.length+B.fd.length:=by show(A.fd++B.fd.map _).length=_;rw[vag,vab]
  lia
 have hrfQ:∀f∈r,f<Q.fd.length:=λf hf=>by
  have e:(zaa (zah A E) (zah B G)).fd.length=A.fd.length+B.fd.length:=by show(A.fd++B.fd.map _).length=_;rw[vag,vab]
  rw[<-hQ,e];exact hrfP f hf
 obtain⟨la',lb',lc',ld',nms,L',t1,t2⟩:=zrq H r L hrfP
 rw[hP]at t1
 rw[hQ]at t2
 have lP:((((la++lb)++(lc++ld)).length:Nat):Int)=P.gr:=by rw[<-hP];exact zbc (zbc L.a L.b) (zbc L.c L.d)
 have lQ:((((la++lc)++(lb++ld)).length:Nat):Int)=Q.gr:=by rw[<-hQ];exact zbc (zbc L.a L.c) (zbc L.b L.d)
 have bP:Bits ((la++lb)++(lc++ld)):=za4 (za4 L.ba L.bb) (za4 L.bc L.bd)
 have bQ:Bits ((la++lc)++(lb++ld)):=za4 (za4 L.ba L.bc) (za4 L.bb L.bd)
 have e7:=told3 C.o C.r C.s.b (k:=k+1) C.f183 (h:=h2) (r:=r) okP (by lia) hrf lP bP
 have e8:=told3 C.o C.r C.s.b (k:=k+1) C.f183 (h:=h2) (r:=r) okQ (by lia) hrfQ lQ bQ
 obtain⟨_,_,tn⟩:=ze4 okP r _ hrf lP bP
 rw[t1]at e7 tn
 have tn:∀w∈nms,w=.non\/∃i:Int,w=.int i:=tn
 rw[t2]at e8
 have La:=L.a
 have Lb:=L.b
 have Lc:=L.c
 have Ld:=L.d
 have La':=L'.a
 have Lb':=L'.b
 have Lc':=L'.c
 have Ld':=L'.d
 let h3:=h2.new (.lst [.int A.gr,.int B.gr,.int E.gr])
 let h4:=h3.new (.lst [iW la',iW lb',iW lc',iW ld'])
 have g14:h3.get h2.n=some (.lst [.int A.gr,.int B.gr,.int E.gr]):=zat
 have g15:h4.get h3.n=some (.lst [iW la',iW lb',iW lc',iW ld']):=zat
 have body:exs (run F (k+11)) zhd.body (R700 (some (.ref d)) (some (.ref l)) none none none none none none none none none none none none none none) ⟨h.n,h.n,h.os⟩=.ok (.rt (.bl true)) h4:=by
  refine(zab (unp4L (varE rfl) gl0)).trans ?_
  refine(zab (setE (zb3 (zb3 (varE rfl) (varE rfl) e1) (zb3 (varE rfl) (varE rfl) e2) e3))).trans ?_
  refine(zab (setE (zb3 (varE rfl) (varE rfl) e4))).trans ?_
  refine(zab (setE (zb3 (varE rfl) (zb3 (varE rfl) (varE rfl) e5) e6))).trans ?_
  refine(zab (setE el)).trans ?_
  refine(zab (setE er)).trans ?_
  refine(zab (unp2T (ze6 (varE rfl) (y:=iW ((la++lb)++(lc++ld))) (h2:=h2) ?_ (varE rfl) e7))).trans ?_
  .have:=catE (cl:=run F (k+11)) (catE (catE (idxR (i:=8) (j:=0) (ρ:=R700 (some (.ref d)) (some (.ref l)) (some A.w) (some B.w) (some E.w) (some G.w) (some P.w) (some Q.w) (some (.ref h1.n)) (some (.tup (rowW r))) none none none none none none) rfl g8 rfl) (idxR (i:=8) (j:=1) rfl g8 rfl) (by lia)) (idxR (i:=8) (j:=2) rfl g8 rfl) (by rw[vag];lia)) (idxR (i:=8) (j:=3) rfl g8 rfl) (by simp only[vag];lia)
   rw[vbr (la++lb)]at this
   exact this
  refine(zab (unp2T (ze6 (varE rfl) (y:=iW ((la++lc)++(lb++ld))) (h2:=h2) ?_ (varE rfl) e8))).trans ?_
  .have:=catE (cl:=run F (k+11)) (catE (catE (idxR (i:=8) (j:=0) (ρ:=R700 (some (.ref d)) (some (.ref l)) (some A.w) (some B.w) (some E.w) (some G.w) (some P.w) (some Q.w) (some (.ref h1.n)) (some (.tup (rowW r))) (some (.tup nms)) (some (iW ((la'++lb')++(lc'++ld')))) none none none none) rfl g8 rfl) (idxR (i:=8) (j:=2) rfl g8 rfl) (by lia)) (idxR (i:=8) (j:=1) rfl g8 rfl) (by rw[vag];lia)) (idxR (i:=8) (j:=3) rfl g8 rfl) (by simp only[vag];lia)
   rw[vbr (la++lc)]at this
   exact this
  refine(zab (setE (x:=.ref h2.n) (h1:=h3) rfl)).trans ?_
  have i14:∀{h:VH}{y:Option W}(j:Nat){w:W},h.get h2.n=some (.lst [.int A.gr,.int B.gr,.int E.gr])->[W.int A.gr,.int B.gr,.int E.gr][j]?=some w->ev (run F (k+11)) (.idx (.var 14) (.cst (.int (j:Int)))) (R700 (some (.ref d)) (some (.ref l)) (some A.w) (some B.w) (some E.w) (some G.w) (some P.w) (some Q.w) (some (.ref h1.n)) (some (.tup (rowW r))) (some (.tup nms)) (some (iW ((la'++lb')++(lc'++ld')))) (some (.tup nms)) (some (iW ((la'++lc')++(lb'++ld')))) (some (.ref h2.n)) y) h=.ok w h:=λ{h y} j{w} hg he=>idxR (i:=14) rfl hg he
  refine(zab (setE (x:=.ref h3.n) (h1:=h4) (lst4E (h1:=h3) (h2:=h3) (h3:=h3) (h4:=h3) (slcE (varE rfl) rfl (i14 0 g14 rfl) rfl rfl ?_) (slcE (varE rfl) (i14 0 g14 rfl) (opE (i14 0 g14 rfl) (i14 1 g14 rfl) addI) rfl rfl ?_) (slcE (varE rfl) (opE (i14 0 g14 rfl) (i14 1 g14 rfl) addI) (sum3E rfl g14) rfl rfl ?_) (slcE (varE rfl) (sum3E rfl g14) rfl rfl rfl ?_)))).trans ?_
  .rw[vbr];exact zkv La'
  .rw[vbr];exact zoo La' Lb'
  .exact zoo (zbc La' Lb') Lc'
  .rw[<-vbr];exact zis (zbc (zbc La' Lb') Lc')
  refine zas (retE (andT (eqT (w:=.tup nms) (varE rfl) (varE rfl) (zit tn)) (eqT (w:=iW ((la'++lc')++(lb'++ld'))) (varE rfl) ?_ zkj)))
  have:=catE (cl:=run F (k+11)) (catE (catE (idxR (i:=15) (j:=0) (ρ:=R700 (some (.ref d)) (some (.ref l)) (some A.w) (some B.w) (some E.w) (some G.w) (some P.w) (some Q.w) (some (.ref h1.n)) (some (.tup (rowW r))) (some (.tup nms)) (some (iW ((la'++lb')++(lc'++ld')))) (some (.tup nms)) (some (iW ((la'++lc')++(lb'++ld')))) (some (.ref h2.n)) (some (.ref h3.n))) rfl g15 rfl) (idxR (i:=15) (j:=2) rfl g15 rfl) (by lia)) (idxR (i:=15) (j:=1) rfl g15 rfl) (by rw[vag];lia)) (idxR (i:=15) (j:=3) rfl g15 rfl) (by simp only[vag];lia)
  rw[vbr (la'++lc')]at this
  exact this
 obtain⟨h5,e9,D5,K5⟩:=zbx (cl:=run F (k+11)) (fl:=.nx []) body (.inr ⟨bb,D⟩) ((D2.new.new).mono (show _<=bb+400 by lia)) (((K1.new).trans K2).new.new)
 exact⟨h5,e9,D5,K5⟩
end
theorem modI{h:VH}{i j:Int}(h1:0<j):opW .mod (.int i) (.int j) h=.ok (.int (i % j)) h:=by
 simp only[opW,opI,vbs h1,va3,va1,ofsome]
theorem zuc{na nb f:Nat}(hf:f<na+nb):((f:Int)- (na:Int)) % ((na+nb:Nat):Int)=(turnF na nb f:Int):=by
 unfold turnF
 split
 .exact((Int.ediv_emod_unique (q:=-1) (show(0:Int)< ((na+nb:Nat):Int) by lia)).mpr ⟨by lia,by lia,by lia⟩).2
 .rw[Int.emod_eq_of_lt (by lia) (by lia)]
  lia
noncomputable abbrev R701(x0 x1 x2 x3 x4 x5 x6 x7 x8 x9 x10 x11 x12:Option W):En:=[x0,x1,x2,x3,x4,x5,x6,x7,x8,x9,x10,x11,x12]
section
variable{F:Nat->Option Fn}{a:Addr}(C:C49 F a)
include C
theorem zjm{k d c bb:Nat}{h:VH}{A B:Bd}(ao:A.Ok)(bo:B.Ok)(x:(zaa A B).Ok)(D:Dk h d c bb)(hb:bb+400<1000000000)(sw:A.wd+B.wd<=40)(sg:A.gr+B.gr<=8)(sf:A.fd.length+B.fd.length<=4) :
 ∃h',run F (k+12) 701 [.ref d,A.w,B.w] h=.ok (.bl true) h'/\Dk h' d c (bb+400)/\Keep h h' d c:=by
 have ma:=zf7 ao
 have mb:=zf7 bo
 have nB:(mirB B).fd.length=B.fd.length:=by show(B.fd.map (mirF B.wd)).length=_;rw[vab]
 have nA:(mirB A).fd.length=A.fd.length:=by show(A.fd.map (mirF A.wd)).length=_;rw[vab]
 have okP:=zf7 x
 have sw':(mirB B).wd+ (mirB A).wd<=40:=by show B.wd+A.wd<=40;lia
 have sg':(mirB B).gr+ (mirB A).gr<=8:=by show B.gr+A.gr<=8;lia
 have sf':(mirB B).fd.length+ (mirB A).fd.length<=4:=by rw[nA,nB];lia
 have okQ:=zck mb ma sw' sg' sf'
 rw[zaj C.f701 rfl]
 have D0:Dk ⟨h.n,h.n,h.os⟩ d c bb:=D.lo
 have e1:=zio C.s (k:=k+3) (h:=⟨h.n,h.n,h.os⟩) ao bo sw sg sf
 have e2:=zfa C.s.b C.f188 C.f189 (k:=k+3) (h:=⟨h.n,h.n,h.os⟩) x
 have e3:=zfa C.s.b C.f188 C.f189 (k:=k+3) (h:=⟨h.n,h.n,h.os⟩) bo
 have e4:=zfa C.s.b C.f188 C.f189 (k:=k+3) (h:=⟨h.n,h.n,h.os⟩) ao
 have e5:=zio C.s (k:=k+3) (h:=⟨h.n,h.n,h.os⟩) mb ma sw' sg' sf'
 have fdP:(mirB (zaa A B)).fd.length=A.fd.length+B.fd.length:=by
  show((A.fd++B.fd.map _).map _).length=_
  rw[vab,vag,vab]
 have fdQ:(zaa (mirB B) (mirB A)).fd.length=B.fd.length+A.fd.length:=by
  show((mirB B).fd++(mirB A).fd.map _).length=_
  rw[vag,vab,nA,nB]
 have toldP':=λr ls h1 h2 h3=>zko x r ls h1 h2 h3
 generalize hP:mirB (zaa A B)=P at *
 generalize hQ:zaa (mirB B) (mirB A)=Q at *
 have i1:∀(B:Bd)(h:VH),idxW h B.w (.int 1)=some (.int B.gr):=λ_ _=>rfl
 have i3:∀(B:Bd)(h:VH),idxW h B.w (.int 3)=some (.tup B.fd):=λ_ _=>rfl
 obtain⟨la,h1,el1,La,Ba,D1,K1⟩:=zop C (k:=k+7) (x:=.var 0) (y:=.idx (.var 1) (.cst (.int (1)))) (ρ:=R701 (some (.ref d)) (some A.w) (some B.w) (some P.w) (some Q.w) none none none none none none none none) ao D0 (by lia) (varE rfl) (idxE (varE rfl) rfl (i1 A _))
 obtain⟨lb,h2,el2,Lb,Bb,D2,K2⟩:=zop C (k:=k+7) (x:=.var 0) (y:=.idx (.var 2) (.cst (.int (1)))) (ρ:=R701 (some (.ref d)) (some A.w) (some B.w) (some P.w) (some Q.w) none none none none none none none none) bo D1 (by lia) (varE rfl) (idxE (varE rfl) rfl (i1 B _))
 obtain⟨hd2,hc2⟩:d<h2.n/\c<h2.n:=D2.ltq
 obtain⟨r,h3,hrf,hrl,er,D3,K3⟩:=row49 C (k:=k+8) (B:=P) (ρ:=R701 (some (.ref d)) (some A.w) (some B.w) (some P.w) (some Q.w) (some (.ref h2.n)) none none none none none none none) (ix:=[0,3]) okP (D2.new (o:=.lst [iW la,iW lb])) (by lia) rfl rfl
 have g5:h3.get h2.n=some (.lst [iW la,iW lb]):=K3.get _ _ (by lia) (by lia) zat
 have hrf':∀f∈r,f<A.fd.length+B.fd.length:=λf hf=>by rw[<-fdP];exact hrf f hf
 obtain⟨h4,e8,G4⟩:=zb0 (cl:=run F (k+11)) (e:=zc3) (tl:=[some (.int (A.fd.length:Int)),some P.w]) (f:=λw=>match w with|.int i=>.int ((i- (A.fd.length:Int)) % ((A.fd.length+B.fd.length:Nat):Int))|w=>w) (rowW r) none h3 (λw hw h=>by
  obtain⟨f,hf,rfl⟩:=vaw.mp hw
  have f1:=okP.f1
  refine⟨h,opE (opE (varE rfl) (varE rfl) subI) (lenE (idxE (varE rfl) rfl (i3 P _)) rfl) ?_,.refl⟩
  rw[fdP]
  exact modI (by lia))
 have hturn:(rowW r).map (λw=>match w with|.int i=>W.int ((i- (A.fd.length:Int)) % ((A.fd.length+B.fd.length:Nat):Int))|w=>w)=rowW (r.map (turnF A.fd.length B.fd.length)):=by
  unfold rowW
  rw[veg,veg]
  refine List.map_congr_left λf hf=>?_
  show W.int _=.int _
  rw[zuc (hrf' f hf)]
 rw[hturn]at e8
 have e9:=zbs (cl:=run F (k+11)) (a:=.var 6) (ρ:=R701 (some (.ref d)) (some A.w) (some B.w) (some P.w) (some Q.w) (some (.ref h2.n)) (some (.tup (rowW r))) (some (.int (A.fd.length:Int))) none none none none none) (h:=h3) (h1:=h3) (ow:=1) (ix:=[7,3]) (e:=zc3) (t:=.one 0) (varE rfl) (by unfold rowW;rw[vab];lia) e8 (by unfold rowW;rw[vab,vab];lia)
 let h5:=h4.new (.lst (rowW (r.map (turnF A.fd.length B.fd.length))))
 have D5:Dk h5 d c (bb+10+10+100):=by
  obtain⟨ne,ns,cells,p,q,a1,a2,a3⟩:=D3
  exact Dk.new ⟨ne,ns,cells,p,q,G4.get _ _ a1,G4.get _ _ a2,a3⟩
 have g5':h5.get h2.n=some (.lst [iW la,iW lb]):=by
  have:=G4.get _ _ g5
  exact(zak (zao this)).trans this
 obtain⟨la',lb',nms,La',Lb',t1,t2⟩:=zks ao bo r La Lb Ba Bb hrf'
 rw[hQ]at t2
 have xfd:(zaa A B).fd.length=A.fd.length+B.fd.length:=by show(A.fd++B.fd.map _).length=_;rw[vag,vab]
 have lX:(((la++lb).length:Nat):Int)=(zaa A B).gr:=zbc La Lb
 have lP:(((la++lb).length:Nat):Int)=P.gr:=by rw[<-hP];exact lX
 have lQ:(((lb++la).length:Nat):Int)=Q.gr:=by rw[<-hQ];exact zbc Lb La
 have hrfQ:∀f∈r.map (turnF A.fd.length B.fd.length),f<Q.fd.length:=λf hf=>by
  obtain⟨g,hg,rfl⟩:=vaw.mp hf
  have:=hrf' g hg
  rw[fdQ]
  unfold turnF
  split<;>lia
 have e10:=told3 C.o C.r C.s.b (k:=k+1) C.f183 (h:=h5) (r:=r) okP (by lia) hrf lP (za4 Ba Bb)
 have e11:=told3 C.o C.r C.s.b (k:=k+1) C.f183 (h:=h5) (r:=r.map (turnF A.fd.length B.fd.length)) okQ (by rw[vab];lia) hrfQ lQ (za4 Bb Ba)
 obtain⟨_,_,tn⟩:=ze4 okP r _ hrf lP (za4 Ba Bb)
 rw[toldP' r (la++lb) (λf hf=>by rw[xfd];exact hrf' f hf) lX (za4 Ba Bb),t1]at e10 tn
 rw[t2]at e11
 have tn:∀w∈nms,w=.non\/∃i:Int,w=.int i:=tn
 have g1:=ao.g2
 have g2:=bo.g2
 have body:exs (run F (k+11)) zhe.body (R701 (some (.ref d)) (some A.w) (some B.w) none none none none none none none none none none) ⟨h.n,h.n,h.os⟩=.ok (.rt (.bl true)) h5:=by
  refine(zab (setE (zf4 (zb3 (varE rfl) (varE rfl) e1) e2))).trans ?_
  refine(zab (setE (zb3 (zf4 (varE rfl) e3) (zf4 (varE rfl) e4) e5))).trans ?_
  refine(zab (setE (lst2E el1 el2))).trans ?_
  refine(zab (setE er)).trans ?_
  refine(zab (setE (lenE (idxE (varE rfl) rfl (i3 A _)) rfl))).trans ?_
  refine(zab (setE e9)).trans ?_
  refine(zab (unp2T (ze6 (varE rfl) (catE (idxR (i:=5) (j:=0) rfl g5' rfl) (idxR (i:=5) (j:=1) rfl g5' rfl) (by lia)) (varE rfl) e10))).trans ?_
  refine(zab (unp2T (ze6 (varE rfl) (catE (idxR (i:=5) (j:=1) rfl g5' rfl) (idxR (i:=5) (j:=0) rfl g5' rfl) (by lia)) (varE rfl) e11))).trans ?_
  refine zas (retE (andT (eqT (w:=.tup nms) (varE rfl) (varE rfl) (zit tn)) (eqT (w:=iW (lb'++la')) (varE rfl) (catE (h1:=h5) (slcE (varE rfl) (idxE (varE rfl) rfl (i1 A _)) rfl rfl rfl ?_) (slcE (varE rfl) rfl (idxE (varE rfl) rfl (i1 A _)) rfl rfl ?_) (by lia)) zkj)))
  .exact zis La'
  .exact zkv La'
 obtain⟨h6,e12,D6,K6⟩:=zbx (cl:=run F (k+11)) (fl:=.nx []) body (.inr ⟨bb,D⟩) (D5.mono (show _<=bb+400 by lia)) ((((K1.trans K2).new.trans K3).trans ⟨G4.le,λi o _ _ e=>G4.get i o e⟩).new)
 exact⟨h6,e12,D6,K6⟩
end
theorem Dk.setQ{h:VH}{d c b l:Nat}{o o0:VO}(D:Dk h d c b)(g:h.get l=some o0)(hd:l≠d)(hc:l≠c):Dk (h.set l o) d c b:=by
 obtain⟨ne,ns,cells,p,q,a1,a2,a3⟩:=D
 exact⟨ne,ns,cells,p,q,(zal g (vbw hd)).trans a1,(zal g (vbw hc)).trans a2,a3⟩
theorem idxV{cl:Call}{i l j:Nat}{e:E}{ρ:En}{h:VH}{ws:List W}{w:W}(hρ:ρ[i]?=some (some (.ref l)))(ee:ev cl e ρ h=.ok (.int (j:Int)) h)(g:h.get l=some (.lst ws))(q:ws[j]?=some w):ev cl (.idx (.var i) e) ρ h=.ok w h:=by
 refine idxE (varE hρ) ee ?_
 show(match h.get l with
  |some (.lst ws)=>L2.atI ws (j:Int)
  |some (.dk kvs)=>lookK kvs (.inl (j:Int))
  |_=>none)=some w
 rw[g]
 exact zby q
theorem zbv{cl:Call}{i:Nat}{b:S}{w:W}{r:List W}{ρ ρ':En}{h h':VH}(e:exs cl b (ρ.set i (some w)) h=.ok (.nx ρ') h'):forL (tgW (.one i)) (exs cl b) (w::r) ρ h=forL (tgW (.one i)) (exs cl b) r ρ' h':=by
 simp only[forL,tgW,e,bindok]
theorem zkw{cl:Call}{a:E}{t:Tg}{b:S}{ρ:En}{h:VH}{n:Nat}(ea:ev cl a ρ h=.ok (.int (n:Int)) h)(hn:n<1000000):exs cl (.«for» .rng1 (.cons a .nil) t b) ρ h=forL (tgW t) (exs cl b) (zbd 0 n) ρ h:=by
 rw[exs,ev,ea,bindok,ev,bindok,bindok]
 exact zto hn
theorem notE9{cl:Call}{a:E}{ρ:En}{h h1:VH}{b:Bool}(ea:ev cl a ρ h=.ok (.bl b) h1):ev cl (.not a) ρ h=.ok (.bl (!b)) h1:=by rw[ev,ea,bindok]
section
variable{F:Nat->Option Fn}{a:Addr}(C:C49 F a)
include C
theorem zx5{k d c bb l3 l5 nf w0 w1:Nat}{s x2 x7:Option W}{bs:List W}{j:Nat}{h:VH}(D:Dk h d c bb)(hb:bb+3000<1000000000)(n1:1<=nf)(n3:nf<=3)(a0:1<=w0)(a1:w0<=9)(b0:1<=w1)(b1:w1<=9)(g3:h.get l3=some (.lst [.int (w0:Int),.int (w1:Int)]))(g5:h.get l5=some (.lst bs))(hbs:bs.length<=10)(d3:l3≠d)(c3:l3≠c)(d5:l5≠d)(c5:l5≠c)(h35:l3≠l5) :
 ∃(B:Bd) (x7':Option W) (h':VH),exs (run F (k+11)) zfb [s,some (.ref d),x2,some (.ref l3),some (.int (nf:Int)),some (.ref l5),some (.int (j:Int)),x7] h=.ok (.nx [s,some (.ref d),x2,some (.ref l3),some (.int (nf:Int)),some (.ref l5),some (.int (j:Int)),x7']) h'/\B.Ok/\(B.wd=if j % 2=0 then(w0:Int)else w1)/\B.gr<=2/\(if j % 2=0 then B.fd.length=nf else nf+B.fd.length<=4)/\B.rows.length<=6/\
  h'.get l5=some (.lst (bs++[B.w]))/\h'.get l3=some (.lst [.int (w0:Int),.int (w1:Int)])/\Dk h' d c (bb+3000):=by
 have CD:=C.p.toCoreD
 have hj:j % 2=0\/j % 2=1:=by lia
 obtain⟨t,h1,e1,r1,D1,K1⟩:=takeE CD (k:=k+8) (m:=4- (nf:Int)) (ρ:=[s,some (.ref d),x2,some (.ref l3),some (.int (nf:Int)),some (.ref l5),some (.int (j:Int)),x7]) (x:=.var 1) (y:=.op .sub (.cst (.int (4))) (.var 4)) (vi:=0) D (by lia) (by lia) (by lia) (varE rfl) (opE (x:=.int 4) (h1:=h) rfl (varE rfl) rfl)
 let h2:=h1.new (.lst [.int (nf:Int),.int ((1+t:Nat):Int)])
 obtain⟨m,hm,hm1,hm4⟩:∃m:Nat,[W.int (nf:Int),.int ((1+t:Nat):Int)][j % 2]?=some (.int (m:Int))/\(if j % 2=0 then m=nf else nf+m<=4)/\1<=m:=by
  rcases hj with z|z<;>rw[z]
  .exact⟨nf,rfl,by simp,n1⟩
  .exact⟨1+t,rfl,by simp;lia,by lia⟩
 have hm5:m<=4:=by
  rcases hj with z|z<;>rw[z]at hm1<;>simp at hm1<;>lia
 obtain⟨wd,hw,hwd,wd1,wd9⟩:∃wd:Nat,[W.int (w0:Int),.int (w1:Int)][j % 2]?=some (.int (wd:Int))/\((wd:Int)=if j % 2=0 then(w0:Int)else w1)/\1<=wd/\wd<=9:=by
  rcases hj with z|z<;>rw[z]
  .exact⟨w0,rfl,by simp,a0,a1⟩
  .exact⟨w1,rfl,by simp,b0,b1⟩
 have emod:∀{x:Option W}{h:VH},ev (run F (k+11)) (.op .mod (.var 6) (.cst (.int (2)))) [s,some (.ref d),x2,some (.ref l3),some (.int (nf:Int)),some (.ref l5),some (.int (j:Int)),x] h=.ok (.int ((j % 2:Nat):Int)) h:=λ{x h}=>opE (varE rfl) rfl (modI (by decide))
 have s1:ev (run F (k+11)) (.idx (.lst (.cons (.var 4) (.cons (.op .add (.cst (.int (1))) (.call 5 (.cons (.var 1) (.cons (.op .sub (.cst (.int (4))) (.var 4)) .nil)))) .nil))) (.op .mod (.var 6) (.cst (.int (2))))) [s,some (.ref d),x2,some (.ref l3),some (.int (nf:Int)),some (.ref l5),some (.int (j:Int)),x7] h=.ok (.int (m:Int)) h2:=by
  refine idxE (lst2E (varE rfl) (opE (x:=.int 1) (h1:=h) rfl e1 zg8)) emod ?_
  show(match h2.get h1.n with
   |some (.lst ws)=>L2.atI ws ((j % 2:Nat):Int)
   |some (.dk kvs)=>lookK kvs (.inl ((j % 2:Nat):Int))
   |_=>none)=_
  rw[show h2.get h1.n=some (.lst [.int (nf:Int),.int ((1+t:Nat):Int)])from zat]
  exact zby hm
 have g3a:h2.get l3=some (.lst [.int (w0:Int),.int (w1:Int)]):=by
  have:=K1.get _ _ d3 c3 g3
  exact(zak (zao this)).trans this
 have g5a:h2.get l5=some (.lst bs):=by
  have:=K1.get _ _ d5 c5 g5
  exact(zak (zao this)).trans this
 obtain⟨gr,h3,e3,r3,D3,K3⟩:=takeE CD (k:=k+8) (m:=3) (ρ:=[s,some (.ref d),x2,some (.ref l3),some (.int (nf:Int)),some (.ref l5),some (.int (j:Int)),some (.int (m:Int))]) (x:=.var 1) (y:=.cst (.int (3))) (vi:=0) (D1.new (o:=.lst [.int (nf:Int),.int ((1+t:Nat):Int)])) (by lia) (by decide) (by decide) (varE rfl) rfl
 obtain⟨B,h4,e4,bo,q1,q2,q3,q4,D4,K4⟩:=zjj C.p C.f135 (k:=k+5) (wd:=wd) (nf:=m) (gr:=(gr:Int)) D3 (by lia) wd1 (by lia) hm4 hm5 (by lia) (by lia)
 have g3b:=K4.get _ _ d3 c3 (K3.get _ _ d3 c3 g3a)
 have g5b:=K4.get _ _ d5 c5 (K3.get _ _ d5 c5 g5a)
 have e5:=zdc (cl:=run F (k+11)) (i:=5) (l:=l5) (x:=.call 135 (.cons (.var 1) (.cons (.idx (.var 3) (.op .mod (.var 6) (.cst (.int (2))))) (.cons (.var 7) (.cons (.call 5 (.cons (.var 1) (.cons (.cst (.int (3))) .nil))) .nil))))) (w:=B.w) (ρ:=[s,some (.ref d),x2,some (.ref l3),some (.int (nf:Int)),some (.ref l5),some (.int (j:Int)),some (.int (m:Int))]) (h:=h2) (h1:=h4) rfl g5a (zxw (varE rfl) (idxV rfl emod g3a hw) (varE rfl) e3 e4) g5b (by lia)
 refine⟨B,some (.int (m:Int)),h4.set l5 (.lst (bs++[B.w])),?_,bo,q1.trans hwd,by rw[q2];lia,by rw[q3];exact hm1,q4,za6 g5b,(zal g5b h35).trans g3b,(D4.setQ g5b d5 c5).mono (by lia)⟩
 refine(zab (setE s1)).trans ?_
 exact(zab (exprE e5)).trans rfl
theorem zor{k d c bb:Nat}{s x2 x3 x4 x5 x6 x7:Option W}{h:VH}(D:Dk h d c bb)(hb:bb+20000<1000000000) :
 ∃y3 y4 y5 y6 y7 h',exs (run F (k+12)) zfc [s,some (.ref d),x2,x3,x4,x5,x6,x7] h=.ok (.nx [s,some (.ref d),x2,y3,y4,y5,y6,y7]) h'/\Dk h' d c (bb+20000):=by
 have CD:=C.p.toCoreD
 obtain⟨t0,h1,e1,r1,D1,K1⟩:=takeE CD (k:=k+9) (m:=9) (ρ:=[s,some (.ref d),x2,x3,x4,x5,x6,x7]) (x:=.var 1) (y:=.cst (.int (9))) (vi:=0) D (by lia) (by decide) (by decide) (varE rfl) rfl
 obtain⟨t1,h2,e2,r2,D2,K2⟩:=takeE CD (k:=k+9) (m:=9) (ρ:=[s,some (.ref d),x2,x3,x4,x5,x6,x7]) (x:=.var 1) (y:=.cst (.int (9))) (vi:=0) D1 (by lia) (by decide) (by decide) (varE rfl) rfl
 let h3:=h2.new (.lst [.int ((1+t0:Nat):Int),.int ((1+t1:Nat):Int)])
 obtain⟨t2,h4,e4,r4,D4,K4⟩:=takeE CD (k:=k+9) (m:=3) (ρ:=[s,some (.ref d),x2,some (.ref h2.n),x4,x5,x6,x7]) (x:=.var 1) (y:=.cst (.int (3))) (vi:=0) (D2.new (o:=.lst [.int ((1+t0:Nat):Int),.int ((1+t1:Nat):Int)])) (by lia) (by decide) (by decide) (varE rfl) rfl
 obtain⟨hd2,hc2⟩:=D2.ltq
 obtain⟨hd4,hc4⟩:=D4.ltq
 have g3:h4.get h2.n=some (.lst [.int ((1+t0:Nat):Int),.int ((1+t1:Nat):Int)]):=K4.get _ _ (by lia) (by lia) zat
 have hn4:=zao g3
 let h5:=h4.new (.lst [])
 have g3':h5.get h2.n=some (.lst [.int ((1+t0:Nat):Int),.int ((1+t1:Nat):Int)]):=(zak hn4).trans g3
 have st:=λ{bb:Nat}{x7:Option W}{bs:List W}(j:Nat){h:VH}(D:Dk h d c bb)(hb:bb+3000<1000000000)(g3:h.get h2.n=some (.lst [.int ((1+t0:Nat):Int),.int ((1+t1:Nat):Int)]))(g5:h.get h4.n=some (.lst bs))(hbs:bs.length<=10)=>zx5 C (k:=k+1) (nf:=1+t2) (w0:=1+t0) (w1:=1+t1) (s:=s) (x2:=x2) (x7:=x7) (bs:=bs) (j:=j) D hb (by lia) (by lia) (by lia) (by lia) (by lia) (by lia) g3 g5 hbs (by lia) (by lia) (by lia) (by lia) (by lia)
 obtain⟨A,y1,k1,s1,oa,wa,ga,fa,ra,v1,u1,E1⟩:=st (x7:=x7) 0 D4.new (by lia) g3' (zat (h:=h4)) (by decide)
 obtain⟨B,y2,k2,s2,ob,wb,gb,fb,rb,v2,u2,E2⟩:=st (x7:=y1) 1 E1 (by lia) u1 v1 (by simp)
 obtain⟨P,y3,k3,s3,op,wp,gp,fp,rp,v3,u3,E3⟩:=st (x7:=y2) 2 E2 (by lia) u2 v2 (by simp)
 obtain⟨Q,y4,k4,s4,oq,wq,gq,fq',rq,v4,u4,E4⟩:=st (x7:=y3) 3 E3 (by lia) u3 v3 (by simp)
 have wa:A.wd=((1+t0:Nat):Int):=wa
 have wb:B.wd=((1+t1:Nat):Int):=wb
 have wp:P.wd=((1+t0:Nat):Int):=wp
 have wq:Q.wd=((1+t1:Nat):Int):=wq
 have fa:A.fd.length=1+t2:=fa
 have fb:1+t2+B.fd.length<=4:=fb
 have fp:P.fd.length=1+t2:=fp
 have fq':1+t2+Q.fd.length<=4:=fq'
 have sw:A.wd+B.wd<=40:=by lia
 have sf:A.fd.length+B.fd.length<=4:=by lia
 have H:Four A B P Q:=⟨oa,ob,op,oq,wa.trans wp.symm,wb.trans wq.symm,zck oa ob sw (by lia) sf,zck op oq (by lia) (by lia) (by lia),zec oa op (wa.trans wp.symm) (by lia) (by lia),zec ob oq (wb.trans wq.symm) (by lia) (by lia)⟩
 obtain⟨k5,e5,D5,K5⟩:=zoq C (k:=k) (l:=h4.n) H E4 (by lia) v4 (by lia) (by lia) sw (by lia) sf (by lia) (λX hX=>by rcases hX with rfl|rfl|rfl|rfl<;>assumption)
 have v5:=K5.get _ _ (show h4.n≠d by lia) (show h4.n≠c by lia) v4
 obtain⟨k6,e6,D6,K6⟩:=zjm C (k:=k) oa ob H.x D5 (by lia) sw (by lia) sf
 refine⟨some (.ref h2.n),some (.int ((1+t2:Nat):Int)),some (.ref h4.n),some (.int ((3:Nat):Int)),y4,k6,?_,D6.mono (by lia)⟩
 refine(zab (setE (x:=.ref h2.n) (h1:=h3) (lst2E (opE (x:=.int 1) (h1:=h) rfl e1 zg8) (opE (x:=.int 1) (h1:=h1) rfl e2 zg8)))).trans ?_
 refine(zab (setE (opE (x:=.int 1) (h1:=h3) rfl e4 zg8))).trans ?_
 refine(zab (setE (x:=.ref h4.n) (h1:=h5) rfl)).trans ?_
 refine(zab (ρ':=[s,some (.ref d),x2,some (.ref h2.n),some (.int ((1+t2:Nat):Int)),some (.ref h4.n),some (.int ((3:Nat):Int)),y4]) (h':=k4) ?_).trans ?_
 .refine(zkw (n:=4) rfl (by decide)).trans ?_
  exact(zbv s1).trans ((zbv s2).trans ((zbv s3).trans ((zbv s4).trans rfl)))
 refine(zab (ρ':=[s,some (.ref d),x2,some (.ref h2.n),some (.int ((1+t2:Nat):Int)),some (.ref h4.n),some (.int ((3:Nat):Int)),y4]) (h':=k6) ((iteF (h1:=k6) ?_).trans rfl)).trans rfl
 exact orF (h1:=k5) (notE9 (truE (zb3 (varE rfl) (varE rfl) e5))) (notE9 (truE (ze6 (varE rfl) (idxR (i:=5) (j:=0) rfl v5 rfl) (idxR (i:=5) (j:=1) rfl v5 rfl) e6)))
theorem law49{ns:List Int}(hl:ns.length<=63):zcm (run F 30 702 [.fz (ns.map .int)] ⟨0,0,[]⟩)=true:=by
 rw[show(30:Nat)=29+1 from rfl,zaj C.f702 rfl]
 obtain⟨h1,e1,D1⟩:=deck C.p.toCoreD (k:=28) (h:=⟨0,0,[]⟩) hl
 generalize hx0:W.fz (ns.map .int)=x0 at *
 obtain⟨a3,a4,a5,a6,a7,h2,s1,D2⟩:=zor C (k:=17) (s:=some x0) (x2:=some (.int 0)) (x3:=none) (x4:=none) (x5:=none) (x6:=none) (x7:=none) D1 (by lia)
 obtain⟨b3,b4,b5,b6,b7,h3,s2,D3⟩:=zor C (k:=17) (s:=some x0) (x2:=some (.int (0+1))) (x3:=a3) (x4:=a4) (x5:=a5) (x6:=a6) (x7:=a7) D2 (by lia)
 obtain⟨c3,c4,c5,c6,c7,h4,s3,D4⟩:=zor C (k:=17) (s:=some x0) (x2:=some (.int (0+1+1))) (x3:=b3) (x4:=b4) (x5:=b5) (x6:=b6) (x7:=b7) D3 (by lia)
 have eb:exs (run F 29) zee.body [some x0,none,none,none,none,none,none,none] ⟨0,0,[]⟩=.ok (.rt (.bl true)) h4:=by
  refine(zab (setE (h1:=h1) (x:=.ref (0+1)) (zf4 (varE rfl) e1))).trans ?_
  refine(zab (ρ':=[some x0,some (.ref (0+1)),some (.int (0+1+1)),c3,c4,c5,c6,c7]) (h':=h4) ?_).trans (zas (retE rfl))
  refine(zkw (n:=3) rfl (by decide)).trans ?_
  exact(zbv s1).trans ((zbv s2).trans ((zbv s3).trans rfl))
 subst hx0
 show zcm (fin ⟨0,0,[]⟩ (exs (run F 29) zee.body [some (.fz (ns.map .int)),none,none,none,none,none,none,none] ⟨0,0,[]⟩))=true
 rw[eb]
 obtain⟨h11,e11,_⟩:=zez (h:=⟨0,0,[]⟩) (w:=.bl true) (zhz (zh0 F 29) _ _ ⟨0,0,[]⟩ _ _ eb)
 show zcm (leave ⟨0,0,[]⟩ (.bl true) h4)=true
 rw[e11]
 rfl
end
end RF
namespace HD
open PySem PySem.W PySem.Calls PyProof.Rows
noncomputable section
noncomputable def p:Program:=PySem.Challenge.pw_ballrockers_k49_whole_beside_and_below
noncomputable abbrev S(x:String):Str:=Str.ofString x
noncomputable abbrev U(x:String)(t:Tok):Value:=Value.str (S x) t
noncomputable abbrev R(a:Addr):Value:=Value.ref a
noncomputable abbrev I(i:Int)(t:Tok):Value:=Value.int i t
noncomputable abbrev E(P:Params)(x:String)(t:Tok)(v:Value):DictEntry:=DictEntry.mk (PyData.keyHash P (S x)) (Value.str (S x) t) v
noncomputable abbrev N(o:Obj)(l r:BT):BT:=BT.node o l r
noncomputable abbrev Z:BT:=BT.nil
noncomputable abbrev L(o:Obj):BT:=BT.node o Z Z
noncomputable abbrev Y(c:String)(d:Data):Obj:=Obj.mk (Value.type c) none d #[]
noncomputable abbrev X(d:Data):Obj:=Obj.mk Value.none none d #[]
noncomputable def atN(l:List Stmt)(i:Nat):Stmt:=l.getD i (Stmt.Pass ⟨0,0,0,0⟩)
noncomputable def fbS:Stmt->List Stmt
 |.FunctionDef _ _ b _ _ _ _ _ _ _=>b
 |.ClassDef _ _ _ b _ _ _ _ _ _ _=>b
 |_=>[]
noncomputable def faS:Stmt->Arguments
 |.FunctionDef _ a _ _ _ _ _ _ _ _=>a
 |_=>⟨[],[],none,[],[],none,[]⟩
noncomputable def fsS:Stmt->Scope
 |.FunctionDef _ _ _ _ _ _ s _ _ _=>s
 |_=>p.main.scope
noncomputable def fb(i:Nat):List Stmt:=fbS (atN p.main.body i)
noncomputable def fa(i:Nat):Arguments:=faS (atN p.main.body i)
noncomputable def fs(i:Nat):Scope:=fsS (atN p.main.body i)
noncomputable def cb(i j:Nat):List Stmt:=fbS (atN (fb i) j)
noncomputable def ca(i j:Nat):Arguments:=faS (atN (fb i) j)
noncomputable def cs(i j:Nat):Scope:=fsS (atN (fb i) j)
noncomputable abbrev O:Value:=Value.none
noncomputable abbrev J(i:Int):Value:=Value.int i 0
noncomputable abbrev V(t:Tok):Value:=Value.str (S "/claim/cut.py") t
noncomputable abbrev A(l:Array Value):Data:=Data.fields l
noncomputable abbrev B(f:FuncData):Data:=Data.func f
noncomputable abbrev G(x:String)(i:Nat)(g:Addr)(c:List (Str×Addr))(d k o m:Value)(n:Option Addr)(cd ct:Value)(b:Addr):FuncData:=FuncData.mk (S x) (S x) (fa i) (FuncBody.stmts (fb i)) (fs i) g c d k o m n cd ct b
section
variable(P:Params)
noncomputable def N0:Nat:=6884
noncomputable def lo:List Str:=[S "MIRRORED_RAMPS",S "fallen",S "heading_behind",S "come_down",S "come_out"]
noncomputable def keep:List Nat:=[1,2,3,4,5,6,7,9,10,11,12,14,15,16,17,18,19,20,21,22,23,24,25,26,27,28,29,30,32,33,34,35,36,38,39,40,42,43,44,46,47,48,49,55,56,58,59,60,62,63,64,65,66,67,68,69,70,71,72,73]
noncomputable def life:Life:=(Life.mk [] [] [] 0 [] [] false #[] [] 0 false false false 0 [2000,10,10] false 0 true [] [] 0 false)
noncomputable def m0:Nat:=11
noncomputable def ann:Option Value:=(some (R 6))
noncomputable def env:Env:={scope:=p.main.scope,locals:=mainNs,globals:=mainNs,cells:=[],code:=(R 13),frame:=some 14}
noncomputable def bd:List Stmt:=behindTheImports p
noncomputable def cd:Code:=Code.body bd env
noncomputable def fr:List Frame:=[topFrame (Pos.mk 0 0 0 0)]
noncomputable abbrev qC(n:String)(t:Nat)(l k:Int)(r m:Nat):Obj:=Y "code" (A #[U n t,U n (t+1),V (t+2),J l,J k,J 0,J 0,J 3,R r,Value.bool true,J 181,R (r+1),O,R (r+2),R (r+3),R (r+4),J (Int.ofNat m),J l,V (m+1)])
noncomputable abbrev qD(n:String)(t:Nat)(l k:Int)(r m:Nat):Obj:=Y "code" (A #[U n t,U n (t+1),V (t+2),J l,J k,J 0,J 0,J 3,R r,Value.bool true,J 181,R (r+1),O,O,O,R (r+2),J (Int.ofNat m),J l,V (m+1)])
noncomputable def qU:Nat->List String->List Value
 |_,[]=>[]
 |t,x::r=>U x t::qU (t+1) r
noncomputable abbrev qT(t:Nat)(l:List String):Obj:=Y "tuple" (Data.seq (qU t l).toArray 0)
noncomputable abbrev qF(n:String)(i:Nat)(u:Value)(r:Addr):Obj:=Y "function" (B (G n i 3 [] O O O u none (R r) O 0))
noncomputable abbrev qG(n:String)(i:Nat):Obj:=X (B (G n i 0 [] O O O O none O O 0))
noncomputable def qJ:List (Int×Nat)->List Value
 |[]=>[]
 |(a,b)::r=>J a::J 0::R b::qJ r
noncomputable def qO:List Obj->List Obj
 |x::_::r=>x::qO r
 |x=>x
noncomputable def qE:List Obj->List Obj
 |_::y::r=>y::qE r
 |_=>[]
noncomputable def qB:Nat->List Obj->BT
 |f+1,x::r=>N x (qB f (qO r)) (qB f (qE r))
 |_,_=>Z
 def a0:=(Y "tuple" (Data.seq #[] 0))
 def a1:=(X (A #[]))
 abbrev qN(n:String)(i t:Nat)(l k:Int)(r:Nat)(u:Value):List Obj:=[a0,a1,qG n i,qD n t l k r (t+3),qF n i u (r+3)]
 abbrev qM(n:String)(i t:Nat)(s:List String)(l k:Int)(r:Nat)(u:Value):List Obj:=[a0,a1,qT (t+3) s,a0,qG n i,qC n t l k r (t+3+s.length),qF n i u (r+5)]
 def a2:=(Y "code" (A #[(U "<module>" 182),(U "<module>" 183),(V 184),(J 1),(J 0),(J 0),(J 0),(J 0),(R 11),(Value.bool false),(J 181),(R 12),O,O,O,O,(J 185),(J 1),(V 186)]))
 def a3:=(Obj.mk (Value.type "frame") none Data.plain #[(some (R 13)),(some (R 3)),(some (R 3)),none,(some (U "__main__" 164)),none,(some (R 0))])
 def ha:Heap:=Heap.mk (Array.mk [(boot_o_0 P),(boot_o_1 P),(boot_o_2 P),(boot_o_3 P),(boot_o_4 P),(boot_o_5 P),(boot_o_6 P),(boot_o_7 P),(boot_o_8 P),(boot_o_9 P),(boot_o_10 P),a0,a1,a2,a3]) (Life.mk [] [] [] 0 [] [] false #[] [] 0 false false false 0 [2000,10,10] false 0 true [] [] 0 false)
noncomputable def sa(w:World)(os:OsState):Shared:=⟨ha w.params,(Array.mk []),(Drawn.mk 0 0 0 0),187,os⟩
theorem seg_q{w:World}{n:Nat}{s s':SharedT}{l:List Stmt}{pos pos':Pos}(h:PySem.W.Fast.tw10110043849684766642 PySem.W.Fast.tw14364793385576792824 p w m0 ann 1 n s (piecesOf l env cd pos fr)=some (.next,s',cd,pos')) :
 segRun treeTable p w m0 ann 1 n s.abs (piecesOf l env cd pos fr)=some (.next,s'.abs,cd,pos'):=
 segRun_of (by rw[PySem.W.Fast.te10110043849684766642,vb7];exact h)
theorem pre_q{w:World}{n:Nat}{s s':Shared}{pos:Pos}(h:PySem.W.Fast.tw15667345088766844465 PySem.W.Fast.tw14364793385576792824 p w m0 ann n s (topStub p)=some (s',⟨PySem.W.Fast.tw11892475500146522536 PySem.W.Fast.tw14364793385576792824 cd,cd,pos,fr⟩)) :
 topGo treeTable p w m0 ann n s (topStub p)=some (s',⟨denote treeTable cd,cd,pos,fr⟩):=by
 rw[PySem.W.Fast.te15667345088766844465,vb7,PySem.W.Fast.te11892475500146522536];exact h
theorem zud{w:World}{n:Nat}{s s':Shared}{pos pos':Pos}(h:PySem.W.Fast.tw14374325043358763698 PySem.W.Fast.tw14364793385576792824 p w m0 ann 1 n s (blockOf bd env cd pos fr)=some (.next,s',cd,pos')) :
 segRun treeTable p w m0 ann 1 n s (blockOf bd env cd pos fr)=some (.next,s',cd,pos'):=by
 rw[PySem.W.Fast.te14374325043358763698,vb7];exact h
theorem fin_q{w:World}{n:Nat}{s s':Shared}{pos:Pos}(h:PySem.W.Fast.tw14082659384304107361 PySem.W.Fast.tw14364793385576792824 p w m0 ann n s ⟨doneF .next,cd,pos,fr⟩=some s') :
 topRun treeTable p w m0 ann n s ⟨doneF .next,cd,pos,fr⟩=some s':=by
 rw[PySem.W.Fast.te14082659384304107361,vb7];exact h
set_option maxHeartbeats 0 in
theorem pre(w:World)(os:OsState):topGo treeTable p w m0 ann 12 ⟨boot_heap w.params,Array.mk [],boot_drawn,boot_toks,os⟩ (topStub p)=some (sa w os,⟨denote treeTable cd,cd,(Pos.mk 0 0 0 0),fr⟩):=pre_q (by kernel_rfl)
 def vtb:List Obj:=[(boot_o_0 P),(boot_o_1 P),(boot_o_2 P),(boot_o_3 P),(boot_o_4 P),(boot_o_5 P),(boot_o_6 P),(boot_o_7 P),(boot_o_8 P),(boot_o_9 P),(boot_o_10 P),a0,a1,a2,a3]
 def tb:=qB 20 (vtb P)
noncomputable def sb(w:World)(os:OsState):SharedT:=⟨tb w.params,15,life,(Array.mk []),(Drawn.mk 0 0 0 0),187,os⟩
set_option maxHeartbeats 0 in
theorem block(w:World)(os:OsState):segRun treeTable p w m0 ann 1 1 (sa w os) (blockOf bd env cd (Pos.mk 0 0 0 0) fr)=some (.next,(sb w os).abs,cd,(Pos.mk 0 0 0 0)):=zud (by kernel_rfl)
 def ea4:=[(E P "__doc__" 166 O),(E P "__package__" 167 O),(E P "__loader__" 168 (Value.builtin "__main__.__loader__#opaque")),(E P "__spec__" 169 O),(E P "__annotations__" 170 (R 6)),(E P "__builtins__" 171 (R 4)),(E P "__file__" 173 (V 172)),(E P "__cached__" 174 O),(E P "BoardError" 206 (R 24)),(E P "NoBoard" 222 (R 37)),(E P "Fault" 249 (R 56)),(E P "NoLeans" 265 (R 68)),(E P "NoRow" 281 (R 80)),(E P "NoFit" 297 (R 92))]
 def a4:=Y "dict" (Data.dict ((E P "__name__" 165 (U "ballrockers.errors" 187))::ea4 P).toArray 15)
 def ja5:List (Int×Nat):=[(2,20),(4,33),(6,45),(11,64),(13,76),(15,88)]
 def a5:=X (A (qJ ja5).toArray)
 def a6:=(Y "tuple" (Data.seq #[(Value.type "ValueError")] 0))
 def a7:=(Y "builtin_function_or_method" (A #[(Value.builtin "type.__prepare__"),(Value.type "type")]))
 def a8:=(Y "dict" (Data.dict #[(E P "__module__" 196 (U "ballrockers.errors" 187)),(E P "__qualname__" 198 (U "BoardError" 197)),(E P "__firstlineno__" 200 (I 2 199)),(E P "__static_attributes__" 201 (R 22))] 4))
 def a9:=(Y "code" (A #[(U "BoardError" 191),(U "BoardError" 192),(V 193),(J 2),(J 0),(J 0),(J 0),(J 0),(R 18),(Value.bool false),(J 181),(R 19),O,O,O,O,(J 194),(J 2),(V 195)]))
 def a10:=(Obj.mk (Value.type "frame") none Data.plain #[(some (R 20)),(some (R 3)),(some (R 17)),none,(some (U "ballrockers.errors" 187)),none,(some (R 0))])
 def a11:=(Y "dict" (Data.dict #[(E P "__module__" 196 (U "ballrockers.errors" 187)),(E P "__firstlineno__" 200 (I 2 199)),(E P "__static_attributes__" 201 (R 22)),(E P "__weakref__" 203 (R 25)),(E P "__doc__" 204 O)] 3))
 def qR(l:List Nat):Obj:=(Obj.mk (Value.type "type") none (Data.cls (ClassData.mk (S "BoardError") [(Value.type "ValueError")] [(R 24),(Value.type "ValueError"),(Value.type "Exception"),(Value.type "BaseException"),(Value.type "object")] 23 (S "BoardError") true [] (l.map λi=>R i) false none false)) #[(some (R 15)),none,(some (U "BoardError" 189)),(some (U "BoardError" 197)),(some (Value.builtin "ValueError.__new__")),(some (Value.bool true))])
 def a12:=qR [37,56,68,80,92]
 def a13:=(Y "getset_descriptor" (A #[(U "__weakref__" 202),(R 24),(Value.builtin "ExceptionGroup.__weakref__"),O]))
 def a14:=(Y "super" (A #[(R 24),(R 24),(R 24)]))
 def a15:=(Y "builtin_function_or_method" (A #[(Value.builtin "object.__init_subclass__"),(R 24)]))
 def a16:=(Y "tuple" (Data.seq #[(R 24)] 0))
 def a24:=(Y "dict" (Data.dict #[(E P "__module__" 230 (U "ballrockers.errors" 187)),(E P "__qualname__" 232 (U "Fault" 231)),(E P "__firstlineno__" 234 (I 6 233)),(E P "__init__" 243 (R 53)),(E P "__static_attributes__" 246 (R 54))] 5))
 def a25:=(X (A #[(J 8),(J 4),(R 52)]))
 def a26:=(Y "code" (A #[(U "Fault" 225),(U "Fault" 226),(V 227),(J 6),(J 0),(J 0),(J 0),(J 0),(R 43),(Value.bool false),(J 181),(R 44),O,O,O,O,(J 228),(J 6),(V 229)]))
 def a27:=(Obj.mk (Value.type "frame") none Data.plain #[(some (R 45)),(some (R 3)),(some (R 42)),none,(some (U "ballrockers.errors" 187)),none,(some (R 0))])
 def a28:=qT 238 ["self","row","column"]
 def a29:=(X (B (FuncData.mk (S "__init__") (S "Fault.__init__") (ca 3 0) (FuncBody.stmts (cb 3 0)) (cs 3 0) 0 [] O O O O none O O 0)))
 def a30:=(Y "code" (A #[(U "__init__" 235),(U "Fault.__init__" 236),(V 237),(J 8),(J 3),(J 0),(J 0),(J 3),(R 47),(Value.bool true),(J 181),(R 48),O,(R 49),(R 50),(R 51),(J 241),(J 8),(V 242)]))
 def a31:=(Y "function" (B (FuncData.mk (S "__init__") (S "Fault.__init__") (ca 3 0) (FuncBody.stmts (cb 3 0)) (cs 3 0) 3 [] O O O (U "ballrockers.errors" 187) none (R 52) O 0)))
 def a32:=qT 244 ["column","row"]
 def a33:=(Y "dict" (Data.dict #[(E P "__module__" 230 (U "ballrockers.errors" 187)),(E P "__firstlineno__" 234 (I 6 233)),(E P "__init__" 243 (R 53)),(E P "__static_attributes__" 246 (R 54)),(E P "__doc__" 247 O)] 2))
 def a34:=(Obj.mk (Value.type "type") none (Data.cls (ClassData.mk (S "Fault") [(R 24)] [(R 56),(R 24),(Value.type "ValueError"),(Value.type "Exception"),(Value.type "BaseException"),(Value.type "object")] 55 (S "Fault") true [] [] false none false)) #[(some (R 40)),none,(some (U "Fault" 223)),(some (U "Fault" 231)),(some (Value.builtin "ValueError.__new__")),(some (Value.bool true))])
 def a35:=(Y "super" (A #[(R 56),(R 56),(R 56)]))
 def a36:=(Y "builtin_function_or_method" (A #[(Value.builtin "object.__init_subclass__"),(R 56)]))
 def qK(n:String)(t:Nat)(l:Int)(b:Nat):List Obj:=[a16,a7,Y "dict" (Data.dict #[E P "__module__" (t+7) (U "ballrockers.errors" 187),E P "__qualname__" (t+9) (U n (t+8)),E P "__firstlineno__" (t+11) (I l (t+10)),E P "__static_attributes__" (t+12) (R (b+7))] 4),a0,a1,Y "code" (A #[U n (t+2),U n (t+3),V (t+4),J l,J 0,J 0,J 0,J 0,R (b+3),Value.bool false,J 181,R (b+4),O,O,O,O,J (Int.ofNat (t+5)),J l,V (t+6)]),Obj.mk (Value.type "frame") none Data.plain #[some (R (b+5)),some (R 3),some (R (b+2)),none,some (U "ballrockers.errors" 187),none,some (R 0)],a0,Y "dict" (Data.dict #[E P "__module__" (t+7) (U "ballrockers.errors" 187),E P "__firstlineno__" (t+11) (I l (t+10)),E P "__static_attributes__" (t+12) (R (b+7)),E P "__doc__" (t+13) O] 2),Obj.mk (Value.type "type") none (Data.cls (ClassData.mk (S n) [R 24] [R (b+9),R 24,Value.type "ValueError",Value.type "Exception",Value.type "BaseException",Value.type "object"] (b+8) (S n) true [] [] false none false)) #[some (R b),none,some (U n t),some (U n (t+8)),some (Value.builtin "ValueError.__new__"),some (Value.bool true)],Y "super" (A #[R (b+9),R (b+9),R (b+9)]),Y "builtin_function_or_method" (A #[Value.builtin "object.__init_subclass__",R (b+9)])]
 def vt0:List Obj:=((vtb P).set 3 (a4 P)).set 12 a5++([a6,a7,(a8 P),a0,a1,a9,a10,a0,(a11 P),a12,a13,a14,a15]++(qK P "NoBoard" 207 4 28++([a16,a7,(a24 P),a0,a25,a26,a27,a0,a1,a28,a0,a29,a30,a31,a32,(a33 P),a34,a35,a36]++(qK P "NoLeans" 250 11 59++(qK P "NoRow" 266 13 71++(qK P "NoFit" 282 15 83))))))
 def t0:=qB 20 (vt0 P)
noncomputable def s0(w:World)(os:OsState):SharedT:=⟨t0 w.params,95,life,(Array.mk []),(Drawn.mk 0 0 0 0),298,os⟩
noncomputable def st0:List Stmt:=(bd.drop 0).take 7
set_option maxHeartbeats 0 in
theorem seg0(w:World)(os:OsState):segRun treeTable p w m0 ann 1 1295 (sb w os).abs (piecesOf st0 env cd (Pos.mk 0 0 0 0) fr)=some (.next,(s0 w os).abs,cd,(Pos.mk 15 0 16 8)):=seg_q (by kernel_rfl)
 def ea58:=(ea4 P++[(E P "TooGreat" 313 (R 104)),(E P "is_whole" 322 (R 113)),(E P "is_whole_within" 331 (R 120)),(E P "is_tuple_within" 340 (R 127)),(E P "are_wholes_within" 352 (R 134)),(E P "MOST_COLUMNS" 356 (I 40 355)),(E P "MOST_ROWS" 358 (I 60 357)),(E P "MOST_GROUPS" 360 (I 8 359)),(E P "MOST_FEEDERS" 362 (I 4 361)),(E P "MOST_NAME" 364 (I 99 363)),(E P "look_at_board" 378 (R 141)),(E P "is_leans" 386 (R 148)),(E P "look_at_leans" 394 (R 155)),(E P "is_row" 403 (R 162)),(E P "is_board_but_for_places" 415 (R 169)),(E P "are_rows" 424 (R 176)),(E P "are_doors" 434 (R 183)),(E P "is_door" 444 (R 190)),(E P "is_feeder_or_none" 452 (R 197)),(E P "may_stand" 462 (R 204)),(E P "is_rocker" 472 (R 211)),(E P "are_leans" 480 (R 218)),(E P "below" 501 (R 225)),(E P "moved_rows" 507 (R 230)),(E P "moved_piece" 517 (R 237)),(E P "kept_doors" 523 (R 242)),(E P "kept_call" 531 (R 249)),(E P "beside" 539 (R 254)),(E P "filled_rows" 548 (R 261)),(E P "moved_doors" 554 (R 266)),(E P "MIRRORED_RAMPS" 563 (R 267)),(E P "mirrored" 569 (R 272)),(E P "mirrored_piece" 578 (R 279)),(E P "LEFT" 583 (I (-1) 582)),(E P "STRAIGHT" 585 (I 0 584)),(E P "RIGHT" 587 (I 1 586)),(E P "NO_DOOR" 588 (R 280)),(E P "fallen" 605 (R 288)),(E P "heading_behind" 618 (R 296)),(E P "come_down" 632 (R 304)),(E P "come_out" 645 (R 312))])
 def a58:=Y "dict" (Data.dict ((E P "__name__" 165 (U "ballrockers.balls" 646))::ea58 P).toArray 56)
 def ja59:List (Int×Nat):=ja5++[(17,100),(20,112),(22,119),(24,126),(26,133),(39,140),(47,147),(50,154),(53,161),(55,168),(64,175),(71,182),(78,189),(83,196),(85,203),(93,210),(98,217),(101,224),(113,229),(115,236),(120,241),(122,248),(125,253),(140,260),(142,265),(146,271),(152,278),(162,287),(178,295),(192,303),(196,311)]
 def a59:=X (A (qJ ja59).toArray)
 def a60:=qR [37,56,68,80,92,104]
 def u314:=U "ballrockers.whole" 314
 def u353:=U "ballrockers.boards" 353
 def u481:=U "ballrockers.joined" 481
 def u532:=U "ballrockers.beside" 532
 def a157:=qG "moved_doors" 40
 def a158:=qD "moved_doors" 549 142 2 262 552
 def a159:=qF "moved_doors" 40 u532 265
 def a160:=(Y "dict" (Data.dict #[(E P "<" 557 (U ">" 558)),(E P ">" 559 (U "<" 560))] 2))
 def a161:=qG "mirrored" 43
 def a162:=qD "mirrored" 564 146 1 268 567
 def a163:=qF "mirrored" 43 (U "ballrockers.mirrors" 555) 271
 def a164:=qT 573 ["piece","group","side"]
 def a165:=qG "mirrored_piece" 44
 def a166:=qC "mirrored_piece" 570 152 1 273 576
 def a167:=qF "mirrored_piece" 44 (U "ballrockers.mirrors" 555) 278
 def a168:=(Y "tuple" (Data.seq #[O,O] 0))
 def a169:=(Y "tuple" (Data.seq #[O] 0))
 def a170:=qT 592 ["board","leans","feeder","fault","column","columns","turned","leaning","heading","places","piece"]
 def a171:=qG "fallen" 50
 def a172:=qC "fallen" 589 162 4 282 603
 def a173:=(Y "function" (B (G "fallen" 50 3 [] (R 281) O O (U "ballrockers.ways" 579) none (R 287) O 0)))
 def a174:=qT 609 ["piece","heading","leaning","fault","group","side","lean"]
 def a175:=qG "heading_behind" 51
 def a176:=qC "heading_behind" 606 178 4 290 616
 def a177:=(Y "function" (B (G "heading_behind" 51 3 [] (R 289) O O (U "ballrockers.ways" 579) none (R 295) O 0)))
 def a178:=qT 622 ["board","leans","feeder","fault","columns","turned","behind","column"]
 def a179:=qG "come_down" 52
 def a180:=qC "come_down" 619 192 4 298 630
 def a181:=(Y "function" (B (G "come_down" 52 3 [] (R 297) O O (U "ballrockers.ways" 579) none (R 303) O 0)))
 def a182:=qT 636 ["board","leans","feeder","fault","column","behind","door"]
 def a183:=qG "come_out" 53
 def a184:=qC "come_out" 633 196 4 306 643
 def a185:=(Y "function" (B (G "come_out" 53 3 [] (R 305) O O (U "ballrockers.ways" 579) none (R 311) O 0)))
 def vt1:List Obj:=(((vt0 P).set 3 (a58 P)).set 12 a59).set 24 a60++(qK P "TooGreat" 298 17 95++(qM "is_whole" 9 316 ["thing"] 20 1 107 u314++(qM "is_whole_within" 10 323 ["thing","low","high"] 22 3 114 u314++(qM "is_tuple_within" 11 332 ["thing","fewest","most"] 24 3 121 u314++(qM "are_wholes_within" 12 341 ["thing","fewest","most","low","high","number"] 26 5 128 u314++(qM "look_at_board" 19 365 ["board","width","groups","rows","row","places","column","piece"] 39 1 135 u353++(qM "is_leans" 20 379 ["board","thing"] 47 2 142 u353++(qM "look_at_leans" 21 387 ["board","thing"] 50 2 149 u353++(qM "is_row" 22 395 ["thing","feeders","most"] 53 3 156 u353++(qM "is_board_but_for_places" 23 404 ["board","width","groups","rows","feeders","doors"] 55 1 163 u353++(qM "are_rows" 24 416 ["thing","width","places"] 64 2 170 u353++(qM "are_doors" 25 425 ["thing","width","feeders","door"] 71 3 177 u353++(qM "is_door" 26 435 ["thing","feeders","name","call"] 78 2 184 u353++(qM "is_feeder_or_none" 27 445 ["thing","feeders"] 83 2 191 u353++(qM "may_stand" 28 453 ["piece","column","width","groups"] 85 4 198 u353++(qM "is_rocker" 29 463 ["thing","groups","group","side"] 93 2 205 u353++(qM "are_leans" 30 473 ["thing","groups"] 98 2 212 u353++(qM "below" 32 483 ["board","other","width","groups","rows","feeders","other_width","other_groups","other_rows","other_feeders","doors","all_rows","all_groups"] 101 2 219 u481++(qN "moved_rows" 33 502 113 2 226 u481++(qM "moved_piece" 34 508 ["piece","more","group","side"] 115 2 231 u481++(qN "kept_doors" 35 518 120 2 238 u481++(qM "kept_call" 36 524 ["call","feeders"] 122 2 243 u481++(qN "beside" 38 534 125 2 250 u532++(qM "filled_rows" 39 540 ["rows","width","many"] 140 3 255 u532++([a0,a1,a157,a158,a159,(a160 P),a0,a1,a161,a162,a163,a0,a1,a164,a0,a165,a166,a167,a168,a169,a0,a1,a170,a0,a171,a172,a173,a169,a0,a1,a174,a0,a175,a176,a177,a169,a0,a1,a178,a0,a179,a180,a181,a169,a0,a1,a182,a0,a183,a184,a185])))))))))))))))))))))))))
 def t1:=qB 20 (vt1 P)
noncomputable def s1(w:World)(os:OsState):SharedT:=⟨t1 w.params,313,life,(Array.mk []),(Drawn.mk 0 0 0 0),648,os⟩
noncomputable def st1:List Stmt:=(bd.drop 7).take 48
set_option maxHeartbeats 0 in
theorem seg1(w:World)(os:OsState):segRun treeTable p w m0 ann 1 1353 (s0 w os).abs (piecesOf st1 env cd (Pos.mk 15 0 16 8) fr)=some (.next,(s1 w os).abs,cd,(Pos.mk 200 0 200 8)):=byRow2 "special-get-raises" (P:=λw=>segRun treeTable p w m0 ann 1 1353 (s0 w os).abs (piecesOf st1 env cd (Pos.mk 15 0 16 8) fr)=some (.next,(s1 w os).abs,cd,(Pos.mk 200 0 200 8))) (λw=>seg_q (by kernel_rfl)) (λw=>seg_q (by kernel_rfl)) w
 def ea186:=(ea58 P++[(E P "Balls" 689 (R 337)),(E P "told_by" 701 (R 348)),(E P "MOST_BALLS" 705 (I 2000 704)),(E P "told" 714 (R 355)),(E P "look_at_row" 722 (R 362)),(E P "_law_cell" 732 (R 369)),(E P "_law_mixed" 742 (R 376)),(E P "_law_deck" 748 (R 381)),(E P "_law_take" 757 (R 388)),(E P "_law_piece" 769 (R 395)),(E P "_law_row" 775 (R 400)),(E P "_law_door" 785 (R 407)),(E P "_law_leans" 791 (R 412)),(E P "_law_small" 797 (R 417)),(E P "_law_both_ways" 803 (R 422)),(E P "_law_mirrored_so" 809 (R 427)),(E P "law" 823 (R 434))])
 def a186:=Y "dict" (Data.dict ((E P "__name__" 165 (U "law_ballrockers_k49_whole_beside_and_below" 723))::ea186 P).toArray 73)
 def ja187:List (Int×Nat):=ja59++[(201,318),(213,347),(221,354),(225,361),(229,368),(233,375),(236,380),(238,387),(247,394),(257,399),(259,406),(265,411),(267,416),(272,421),(284,426),(294,433)]
 def a187:=X (A (qJ ja187).toArray)
 def a188:=(Y "dict" (Data.dict #[(E P "__module__" 655 (U "ballrockers.balls" 646)),(E P "__qualname__" 657 (U "Balls" 656)),(E P "__firstlineno__" 659 (I 201 658)),(E P "__init__" 668 (R 327)),(E P "fall" 678 (R 334)),(E P "__static_attributes__" 682 (R 335))] 6))
 def a189:=(X (A #[(J 203),(J 4),(R 326),(J 208),(J 4),(R 333)]))
 def a190:=(Y "code" (A #[(U "Balls" 650),(U "Balls" 651),(V 652),(J 201),(J 0),(J 0),(J 0),(J 0),(R 316),(Value.bool false),(J 181),(R 317),O,O,O,O,(J 653),(J 201),(V 654)]))
 def a191:=(Obj.mk (Value.type "frame") none Data.plain #[(some (R 318)),(some (R 3)),(some (R 315)),none,(some (U "ballrockers.balls" 646)),none,(some (R 0))])
 def a192:=qT 663 ["self","board","fault"]
 def a193:=(X (B (FuncData.mk (S "__init__") (S "Balls.__init__") (ca 55 0) (FuncBody.stmts (cb 55 0)) (cs 55 0) 0 [] O O O O none O O 0)))
 def a194:=(Y "code" (A #[(U "__init__" 660),(U "Balls.__init__" 661),(V 662),(J 203),(J 3),(J 0),(J 0),(J 3),(R 321),(Value.bool true),(J 181),(R 322),O,(R 323),(R 324),(R 325),(J 666),(J 203),(V 667)]))
 def a195:=(Y "function" (B (FuncData.mk (S "__init__") (S "Balls.__init__") (ca 55 0) (FuncBody.stmts (cb 55 0)) (cs 55 0) 3 [] (R 320) O O (U "ballrockers.balls" 646) none (R 326) O 0)))
 def a196:=qT 672 ["self","leans","feeder","ball"]
 def a197:=(X (B (FuncData.mk (S "fall") (S "Balls.fall") (ca 55 1) (FuncBody.stmts (cb 55 1)) (cs 55 1) 0 [] O O O O none O O 0)))
 def a198:=(Y "code" (A #[(U "fall" 669),(U "Balls.fall" 670),(V 671),(J 208),(J 3),(J 0),(J 0),(J 3),(R 328),(Value.bool true),(J 181),(R 329),O,(R 330),(R 331),(R 332),(J 676),(J 208),(V 677)]))
 def a199:=(Y "function" (B (FuncData.mk (S "fall") (S "Balls.fall") (ca 55 1) (FuncBody.stmts (cb 55 1)) (cs 55 1) 3 [] O O O (U "ballrockers.balls" 646) none (R 333) O 0)))
 def a200:=qT 679 ["board","fault","outcomes"]
 def a201:=(Y "dict" (Data.dict #[(E P "__module__" 655 (U "ballrockers.balls" 646)),(E P "__firstlineno__" 659 (I 201 658)),(E P "__init__" 668 (R 327)),(E P "fall" 678 (R 334)),(E P "__static_attributes__" 682 (R 335)),(E P "__dict__" 684 (R 338)),(E P "__weakref__" 686 (R 339)),(E P "__doc__" 687 O)] 4))
 def a202:=(Obj.mk (Value.type "type") none (Data.cls (ClassData.mk (S "Balls") [(Value.type "object")] [(R 337),(Value.type "object")] 336 (S "Balls") true [] [] false none false)) #[none,none,(some (U "Balls" 648)),(some (U "Balls" 656)),(some (Value.builtin "object.__new__")),(some (Value.bool true))])
 def a203:=(Y "getset_descriptor" (A #[(U "__dict__" 683),(R 337),(Value.builtin "function.__dict__"),(Value.builtin "function.__dict__#set")]))
 def a204:=(Y "getset_descriptor" (A #[(U "__weakref__" 685),(R 337),(Value.builtin "ExceptionGroup.__weakref__"),O]))
 def a205:=(Y "super" (A #[(R 337),(R 337),(R 337)]))
 def a206:=(Y "builtin_function_or_method" (A #[(Value.builtin "object.__init_subclass__"),(R 337)]))
 def a207:=qT 693 ["balls","leans","row","names","feeder","door"]
 def a208:=qG "told_by" 56
 def a209:=qC "told_by" 690 213 3 342 699
 def a210:=qF "told_by" 56 (U "ballrockers.balls" 646) 347
 def a211:=qT 709 ["board","leans","row"]
 def a212:=qG "told" 59
 def a213:=qC "told" 706 221 3 349 712
 def a214:=qF "told" 59 (U "ballrockers.runs" 702) 354
 def a215:=qT 718 ["board","thing"]
 def a216:=qG "look_at_row" 60
 def a217:=qC "look_at_row" 715 225 2 356 720
 def a218:=qF "look_at_row" 60 (U "ballrockers.runs" 702) 361
 def u723:=U "law_ballrockers_k49_whole_beside_and_below" 723
 def vt2:List Obj:=((vt1 P).set 3 (a186 P)).set 12 a187++([a0,a7,(a188 P),a0,a189,a190,a191,a169,a0,a1,a192,a0,a193,a194,a195,a0,a1,a196,a0,a197,a198,a199,a200,(a201 P),a202,a203,a204,a205,a206,a0,a1,a207,a0,a208,a209,a210,a0,a1,a211,a0,a212,a213,a214,a0,a1,a215,a0,a216,a217,a218]++(qM "_law_cell" 62 725 ["_law_script","_law_k"] 229 2 363 u723++(qM "_law_mixed" 63 733 ["_law_script","_law_k","_law_many","_law_number"] 233 3 370 u723++(qN "_law_deck" 64 743 236 1 377 u723++(qM "_law_take" 65 749 ["_law_deck_here","_law_many","_law_cell_here"] 238 2 382 u723++(qM "_law_piece" 66 758 ["_law_deck_here","_law_column","_law_width","_law_groups","_law_lot","_law_piece_here"] 247 4 389 u723++(qN "_law_row" 67 770 257 3 396 u723++(qM "_law_door" 68 776 ["_law_deck_here","_law_feeders","_law_name","_law_call"] 259 2 401 u723++(qN "_law_leans" 69 786 265 2 408 u723++(qN "_law_small" 70 792 267 4 413 u723++(qN "_law_both_ways" 71 798 272 2 418 u723++(qN "_law_mirrored_so" 72 804 284 3 423 u723)))++(qM "law" 73 810 ["_law_script","_law_deck_here","_law_turn","_law_widths","_law_feeders","_law_boards","_law_k","_law_more"] 294 1 428 u723))))))))))
 def t2:=qB 20 (vt2 P)
noncomputable def s2(w:World)(os:OsState):SharedT:=⟨t2 w.params,435,life,(Array.mk []),(Drawn.mk 0 0 0 0),824,os⟩
noncomputable def st2:List Stmt:=(bd.drop 55).take 19
set_option maxHeartbeats 0 in
theorem seg2(w:World)(os:OsState):segRun treeTable p w m0 ann 1 734 (s1 w os).abs (piecesOf st2 env cd (Pos.mk 200 0 200 8) fr)=some (.next,(s2 w os).abs,cd,(Pos.mk 294 0 305 15)):=seg_q (by kernel_rfl)
 def hz:Heap:=Heap.mk (Array.mk (vt2 P)) (Life.mk [] [] [] 0 [] [] false #[] [] 0 false false false 0 [2000,10,10] false 0 true [] [] 0 false)
noncomputable def sz(w:World)(os:OsState):Shared:=⟨hz w.params,(Array.mk []),(Drawn.mk 0 0 0 0),824,os⟩
set_option maxHeartbeats 0 in
theorem fin(w:World)(os:OsState):topRun treeTable p w m0 ann 2 (s2 w os).abs ⟨doneF .next,cd,(Pos.mk 294 0 305 15),fr⟩=some (sz w os):=fin_q (by kernel_rfl)
 def as:List Addr:=[2,3,15,22,23,24,25,28,35,36,37,40,47,49,50,52,53,54,55,56,59,66,67,68,71,78,79,80,83,90,91,92,95,102,103,104,107,109,110,112,113,114,116,117,119,120,121,123,124,126,127,128,130,131,133,134,135,137,138,140,141,142,144,145,147,148,149,151,152,154,155,156,158,159,161,162,163,165,166,168,169,170,172,173,175,176,177,179,180,182,183,184,186,187,189,190,191,193,194,196,197,198,200,201,203,204,205,207,208,210,211,212,214,215,217,218,219,221,222,224,225,226,229,230,231,233,234,236,237,238,241,242,243,245,246,248,249,250,253,254,255,257,258,260,261,262,265,266,267,268,271,272,273,275,276,278,279,280,281,282,284,285,287,288,289,290,292,293,295,296,297,298,300,301,303,304,305,306,308,309,311,312,320,321,323,324,326,327,328,330,331,333,334,335,336,337,338,339,342,344,345,347,348,349,351,352,354,355,356,358,359,361,362,363,365,366,368,369,370,372,373,375,376,377,380,381,382,384,385,387,388,389,391,392,394,395,396,399,400,401,403,404,406,407,408,411,412,413,416,417,418,421,422,423,426,427,428,430,431,433,434]
 def K:Frag:=as.map λi=>(i,(vt2 P).getD i a0)
noncomputable def M0:Nat:=(12+ (1+ (1295+ (1353+ (734+2)))))
theorem bd_is:bd=st0++(st1++(st2++([]))):=by kernel_rfl
theorem rest(w:World)(os:OsState):topRun treeTable p w m0 ann (1295+ (1353+ (734+ (2)))) (sb w os).abs (restOf bd env cd (Pos.mk 0 0 0 0) fr)=some (sz w os):=by
 rw[show restOf bd env cd (Pos.mk 0 0 0 0) fr=restOf (st0++(st1++(st2++([])))) env cd (Pos.mk 0 0 0 0) fr from vdv (λb=>restOf b env cd (Pos.mk 0 0 0 0) fr) bd_is]
 exact(piece_app (seg0 w os) (piece_app (seg1 w os) (piece_app (seg2 w os) (piece_nil (fin w os)))))
theorem run(w:World)(os:OsState):topRun treeTable p w m0 ann M0 ⟨boot_heap w.params,Array.mk [],boot_drawn,boot_toks,os⟩ (topStub p)=some (sz w os):=
 go_top (pre w os) (piece_block (block w os) (rest w os))
noncomputable def lawAt:Nat:=73
noncomputable def zx6:Pos:=(Pos.mk 294 0 305 15)
noncomputable def q:Program:={p with main:={p.main with body:=keep.map (atN p.main.body)}}
theorem as_is:∀P,as=(K P).map (·.1):=λ_=>by kernel_rfl
noncomputable def H:Hook:=kHook K as as_is
noncomputable def Xt(s:Shared):Bool:=xlAt q [] s&&recOk [] s
theorem zx7(w:World)(os:OsState):(staticsOk (importedModules p.main.body) (boot_heap w.params) (hz w.params)&&namesBound p (hz w.params)&&gensDone (sz w os)&&laidKept (boot_heap w.params) (hz w.params))=true:=by
 rw[PySem.W.Fast.te5923862056798008813];kernel_rfl
theorem zx8(w:World)(os:OsState):seen ((recsOf q).map (·.name)) (ownsOf q) [] {sz w os with gens:=#[]}=expectedOf q:=by
 rw[PySem.W.Fast.te5160383126252970620,PySem.W.R.mapR_eq,PySem.W.Fast.te3399658132070893891,PySem.W.Fast.te5991557255702980513];kernel_rfl
theorem l_blt(w:World)(os:OsState):(sz w os).heap.bltView=bltViewBooted:=by kernel_rfl
theorem zx9(w:World)(os:OsState):((sz w os).heap.keysOk (looseW q lo) ((recsOf q).map (·.name)) ((litsOf q).map (·.1)) ((clssOf q (looseW q lo)).map (·.name))&& (sz w os).heap.accountedOkI (importedModules p.main.body)&& (sz w os).heap.isNs mainGlobals&& (sz w os).heap.isNs builtinsNs&&tablesOk q (sz w os).heap&&Xt (sz w os)&& (if true=true then(sz w os).gens.size==0 else !leftWithCleanup (sz w os).gens))=true:=by
 rw[PySem.W.Fast.te10880121769531294198,PySem.W.Fast.te821141287760084731,PySem.W.R.mapR_eq,PySem.W.Fast.te3399658132070893891,PySem.W.Fast.te7409074990110511671,PySem.W.Fast.te13664370479719496447,PySem.W.Fast.te14722251495701143533,PySem.W.Fast.te10994771534591457954,PySem.W.Fast.te5923862056798008813];kernel_rfl
theorem zya(w:World)(os:OsState):tabsOk q (sz w os)=true:=by rw[PySem.W.Fast.te479339242167458305];kernel_rfl
theorem l_pin(w:World)(os:OsState):pinSeenD q (drecsOf q) (sz w os)=pinGoodD (drecsOf q):=by rw[PySem.W.Fast.te16090120013241838585,PySem.W.Fast.te3247288618530077131];kernel_rfl
theorem l_plE(w:World)(os:OsState):plainSeenE q (looseW q lo) (sz w os)=plainGoodE q (looseW q lo):=by rw[PySem.W.Fast.te2386780881361962483,PySem.W.Fast.te821141287760084731];kernel_rfl
theorem l_plD(w:World)(os:OsState):plainSeenD q lo (sz w os)=plainGoodD q lo:=by rw[PySem.W.Fast.te11698064438423848299];kernel_rfl
theorem zyb(w:World)(os:OsState):wideSeen q (sz w os)=wideGood q:=by rw[PySem.W.Fast.te7317090234206586261];kernel_rfl
theorem l_cls(w:World)(os:OsState):clsSeenW q lo (sz w os)=clsGoodW q lo:=by rw[PySem.W.Fast.te7369524293546568484];kernel_rfl
theorem zyc(w:World)(os:OsState):as.map (sz w os).heap.get?=(K w.params).map λp=>some p.2:=by kernel_rfl
theorem left:LeftO p q lo Xt (Hook.obs H) (Hook.val H) N0 true:=
 LeftO.of_pieces (H₀:=boot_heap) (H₁:=hz) (boot_open (by kernel_rfl) (by kernel_rfl) (λs=>by kernel_rfl)) (λw=>by kernel_rfl) run (by kernel_rfl)
  (λw=>funext λos=>looks_pair (zx7 w os) (looks_pair
    (looks_pair (zx8 w os) (looks_pair (l_blt w os) (looks_pair (zx9 w os) (looks_pair (zya w os) (looks_pair (l_pin w os) (looks_pair (l_plE w os) (looks_pair (l_plD w os) (looks_pair (zyb w os) (l_cls w os)))))))))
    (zyc w os)))
noncomputable def df:DefRec:=⟨S "law",fa lawAt,fb lawAt,fs lawAt,zx6⟩
theorem df_is:defOf q (S "law")=some (df,[]):=by kernel_rfl
theorem holds(l:OpenLaw)(hp:l.prog=p)(hn:l.name=S "law")(ok:l.wellSaid=true)(hch:(chainsOk q&&opensWell p&& (frees l.row.toRowW&&l.row.within.isEmpty))=true)(hb:l.row.toRowW.prog.bare)(hw:l.row.toRowW.promised)
 (hwr:(!l.row.writes||l.row.records.isEmpty)=true) (hk:p.theDef (S "law")=some (df.params,df.body,df.scope)) (hkw:kwWritten? df.params.kwonlyargs df.params.kw_defaults=some [])
 (call:WalkO q lo (XL q []) (Hook.says H) l.row.toRowW df [] λf vs=>PySem.call f vs):l.Holds:=
 holds_law ok λsaid=>PySem.W.holds_open (q:=q) (loose:=lo) (Xt:=Xt) (XP:=XL q []) (Yf:=Hook.obs H) (Ya:=Hook.val H) (YP:=Hook.says H) (N:=N0) (r:=l.row) (by have h:l.row.toRowW.prog=p:=hp;show LeftO l.row.toRowW.prog q lo Xt (Hook.obs H) (Hook.val H) N0 true;rw[h];exact left) (Hook.of H) (Hook.keeps H) (λs e=>xl_of s (Bool.and_eq_true_iff.mp e).1) XL.keeps
  (by show defOf q l.name=_;rw[hn];exact df_is) (by show l.prog.theDef l.name=_;rw[hp,hn];exact hk) hkw (λs e=>recFacts_of (Bool.and_eq_true_iff.mp e).2) hwr said (by have h:l.row.toRowW.prog=p:=hp;rw[h];exact hch) hb hw call
end
end
end HD
namespace RF
noncomputable def T49:List PySem.Str:=(["is_whole","is_whole_within","_law_cell","_law_deck","_law_mixed","_law_take","is_tuple_within","are_wholes_within","are_doors","are_rows","is_board_but_for_places","is_door","is_feeder_or_none","is_rocker","look_at_board","may_stand"]++vgc 1 "" ++ ["are_leans"]++vgc 2 "" ++ ["_law_leans","_law_piece","is_leans","_law_door","look_at_leans","_law_row"]++vgc 2 "" ++ ["is_row"]++vgc 46 "" ++ ["moved_piece","moved_rows"]++vgc 19 "" ++ ["below","kept_call","kept_doors"]++vgc 21 "" ++ ["beside"]++vgc 1 "" ++ ["filled_rows"]++vgc 2 "" ++ ["moved_doors"]++vgc 9 "" ++ ["_law_small"]++vgc 37 "" ++ ["heading_behind","fallen","come_down","come_out"]++vgc 2 "" ++ ["told_by","look_at_row"]++vgc 2 "" ++ ["told"]++vgc 4 "" ++ ["mirrored","mirrored_piece"]++vgc 154 "" ++ ["Balls.__init__","Balls.fall"]++vgc 1 "" ++ ["Balls"]++vgc 352 "" ++ ["_law_both_ways","_law_mirrored_so","law"]).map vgb
noncomputable def fnNo:Fn:=⟨0,0,.no⟩
noncomputable def zrr:List Fn:=[fn0,fn1,fn2,fn3,fn4,fn5,fn6,fn7,fn8,fn9,fn10,fn11,fn12,fn13,fn14,fn15]++vgc 1 fnNo++[fn17]++vgc 2 fnNo++[fn20,fn21,fn22,fn23,fn24,fn25]++vgc 2 fnNo++[fn28]++vgc 46 fnNo++[fn75,fn76]++vgc 19 fnNo++[fn96,fn97,fn98]++vgc 21 fnNo++[fn120]++vgc 1 fnNo++[fn122]++vgc 2 fnNo++[fn125]++vgc 9 fnNo++[fn135]++vgc 37 fnNo++[fn173,fn174,fn175,fn176]++vgc 2 fnNo++[fn179 337,fn180]++vgc 2 fnNo++[fn183]++vgc 4 fnNo++[fn188,fn189]++vgc 154 fnNo++[fn344 337,fn345 337]++vgc 1 fnNo++[fn347 337]++vgc 352 fnNo++[zhd,zhe,zee]
theorem c49:C49 (λi=>zrr[i]?) 337:=by repeat' (first|rfl|constructor)
end RF
set_option maxHeartbeats 0 in
theorem RF.pb49(P:PySem.Params):RF.cProg (HD.K P) RF.T49 60 60=some RF.zrr:=by kernel_rfl
open PySem PySem.W PyProof.Rows
set_option maxRecDepth 100000 in
set_option maxHeartbeats 0 in
theorem PySem.Challenge.cw_ballrockers_k49_whole_beside_and_below_holds : PySem.Challenge.rw_ballrockers_k49_whole_beside_and_below.Holds := by
 refine HD.holds _ rfl rfl RF.pa49 (by kernel_rfl) ⟨rfl,rfl,rfl,rfl,rfl,by decide +kernel⟩ ?hw rfl (by kernel_rfl) (by kernel_rfl) ?call
 (case hw=>w_witness2)
 refine RF.zqc RF.T49 60 60 30 702 rfl (by kernel_rfl) ⟨rfl,by decide,by decide⟩ ?d (λw h Y=>PySem.W.kIn_of Y) (by kernel_rfl) ⟨by decide +kernel,by decide +kernel,by decide +kernel⟩ ?b ?c
 (case d=>
   intro w
   have e:RF.DctOk w (HD.K w.params)=(PyData.keyHash w.params "<" = hashStr w "<"/\PyData.keyHash w.params ">" = hashStr w ">"/\True):=by kernel_rfl
   rw[e];exact⟨rfl,rfl,trivial⟩)
 (case c=>intro w;kernel_rfl)
 (case b=>
   intro w ns hl
   exact RF.ztn (RF.pb49 _) (RF.law49 RF.c49 hl))
