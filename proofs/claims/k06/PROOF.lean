import PyProof.Rows.All
import Wide.All
import OpenK.AllK
import Wide.FinOn
import Lean
import PyProof.EqAt
import PyProof.EqKinds
import PyProof.TupleCall
import KE.KUnpack
import PySem.Challenge.RW_ballrockers_k06_ways_held
set_option Elab.async false
set_option linter.all false
set_option genSizeOf false
set_option maxRecDepth 100000
set_option maxHeartbeats 0 in
theorem RF.pa06:PySem.Challenge.rw_ballrockers_k06_ways_held.wellSaid=true:=by kernel_rfl
def vat:=@decide_eq_true_eq
def vbd:=@of_decide_eq_true
def vbj:=@if_true
def vbo:=@if_false
def vbw:=@decide_eq_false
def vcr:=@beq_iff_eq
def vc6:=@beq_eq_false_iff_ne
def vdm:=@or_false
def vdn:=@congrArg
open PySem.W renaming Frag->vga
open PySem.Str renaming ofString->vgb
open List renaming replicate->vgc
open Bool renaming and_eq_true->vaa,false_eq_true->vaq,false_ne_true->va3,or_eq_true->vcp,false_and->vdb,eq_iff_iff->vdv,not_true->vd0,not_eq_true'->vd3,and_false->vek,not_false->vel,or_true->veq
open PySem renaming wpAny_bind->vab,wpAny_pure->vag,wpAny_field->vbn,wpAny_mono->vbp,wpAny_newObj_type->vbs,wpAny_standAt->vbu,wpAny_holding->vb0,wpAny_truthy_bool->vb2,wpAny_callSpecial?_slot->vb3,wpAny_loadPart_at->vb4,wpAny_Call_Name_kw->vch,wpAny_isSubtype_exc->vcm,wpAny_pyIter_tuple->vcq,wpAny_call_entry->vcz,wpAny_setField_rec->vc0,wpAny_seqItems->vc1,wpAny_passesOwn->vc2,wpAny_pyIter_list->vc3,mem_of_lookup->vc8,wpAny_execs_nil->vdf,wpAny_call->vds,codeAny_mono->vdt,call_meets->vdu,wpAny_setField->vd7,wpAny_of_eq->vec,wpAny_typeOf->veh,sizeLine_eq->vem,wpAny_attempt->ven,wpAny_onRaise->vep,wpAny_rule->ves
open PySem.Heap renaming get?_push_of_some->vac,lt_size->vam,get?_push_size->vaz,get?_update_other->vb8,size_push->vca,get?_update_self->vcn
open Nat renaming le_refl->vad,lt_of_lt_of_le->vae,le_trans->van,ne_of_lt->vay,le_of_ble_eq_true->va5,lt_of_le_of_lt->va6,ne_of_gt->va8,le_add_right->vbg,zero_le->vbv,lt_succ_self->vbx,not_lt->vcf,eq_of_beq_eq_true->vcg,lt_irrefl->vct,add_le_add_left->vcw,add_le_add->vdd,le_of_lt->vdr,lt_succ_of_lt->vd2,le_succ->vd4,le_succ_of_le->vd5,ble_eq->veb,lt_trans->ver
open List renaming length_map->vaf,size_toArray->vah,length_cons->vai,length_append->vaj,mem_cons_of_mem->vak,getElem?_eq_getElem->vao,mem_cons_self->vap,getElem?_eq_some_iff->vas,mem_cons->vaw,getElem?_cons_succ->vax,map_cons->va0,getElem?_cons_zero->va1,lookup_cons->va2,getElem?_append_right->va4,getElem?_eq_none_iff->vbb,append_nil->vbc,replicate_succ->vbe,mem_append_right->vbf,set_cons_zero->vbh,getElem?_set_self->vbi,not_mem_nil->vbk,mem_append->vbl,set_cons_succ->vbm,getElem?_map->vbr,length_singleton->vbt,getElem?_append_left->vby,all_cons->vb1,mem_singleton->vb6,zip_cons_cons->vb7,all_eq_true->vcb,filterMap_cons->vcc,length_reverse->vcd,getElem?_set_ne->vci,getElem_mem->vcj,flatten_cons->vcl,find?_cons->vco,mem_of_getElem?->vcs,of_mem_zip->vcv,getD_eq_getElem?_getD->vcy,nil_append->vc4,mem_map->vc5,getElem?_replicate->vc9,cons_append->vda,forIn_nil->vdc,length_set->vdg,map_nil->vdh,length_nil->vdi,getElem?_eq_none->vdj,set_append_right->vdk,reverse_cons->vdl,length_drop->vdo,nodup_cons->vdx,forIn_cons->vdy,mem_range->vd6,length_take->vd9,map_append->vef,any_cons->veo
open Int renaming eq_ofNat_of_zero_le->vau,toNat_natCast->vck,emod_lt_of_pos->vd1,ofNat_lt->vd8,emod_nonneg->veg,le_trans->vei,ofNat_le->vej
open Option renaming map_some->vav,join_some->vba,bind_some->vdp
open PyProof.Rows renaming slot_tuple_getitem->va7,callWith_type1->vcu
open PySem.AutoSeq1 renaming wpAny_loadPart'->va9
open PySem.W renaming kia_one->vbq,callWith_K->vdw,mg_of->vea
open Ne renaming symm->vbz
open Array renaming getElem?_eq_some_iff->vb5,length_toList->vc7
open Option.some renaming inj->vb9
open PySem.W.Fast renaming te14364793385576792824->vce
open PySem.F renaming slot_tuple_iterator_next->vcx,slot_tuple_mul->vdq,slot_zip_next->ved
open PySem.SeqAt renaming canLay_of_shaped->vde
open PySem.Code renaming quiet_builtin->vdz
open LawfulMonad renaming pure_bind->vee
namespace L2
open PySem PySem.Spec PyProof.Rows
noncomputable abbrev Key:=Sum Int Str
noncomputable def keyIs:Key->Value->Bool
 |.inl k,v=>Value.isInt k v
 |.inr x,v=>Value.isStrOf x v
noncomputable def keyH(w:World):Key->Int
 |.inl k=>hashInt k
 |.inr x=>hashStr w x
theorem zaw:∀{k:Key} {v:Value},keyIs k v=true->(∃i t,k=Sum.inl i/\v=Value.int i t)\/(∃x t,k=Sum.inr x/\v=Value.str x t)
 |.inl i,v,h=>by
  obtain⟨t,e⟩:=Value.isInt_shape (k:=i) (v:=v) h
  exact .inl ⟨i,t,rfl,e⟩
 |.inr x,v,h=>by
  obtain⟨t,e⟩:=Value.isStrOf_shape (x:=x) (v:=v) h
  exact .inr ⟨x,t,rfl,e⟩
theorem zk1(i:Int)(t:Tok):keyIs (.inl i) (.int i t)=true:=by simp[keyIs,Value.isInt]
theorem zk2(x:Str)(t:Tok):keyIs (.inr x) (.str x t)=true:=by simp[keyIs,Value.isStrOf]
theorem zt8(a b:Int):decide ((Sum.inl a:Key)=Sum.inl b)=(a==b):=by
 by_cases e:a=b
 .subst e;simp
 .have h:¬(Sum.inl a:Key)=Sum.inl b:=λq=>e (Sum.inl.inj q)
  rw[vbw h]
  exact(vc6.mpr e).symm
theorem zt9(a b:Str):decide ((Sum.inr a:Key)=Sum.inr b)=decide (a=b):=by
 by_cases e:a=b
 .subst e;simp
 .have h:¬(Sum.inr a:Key)=Sum.inr b:=λq=>e (Sum.inr.inj q)
  rw[vbw h,vbw e]
theorem zua(a:Int)(b:Str):decide ((Sum.inl a:Key)=Sum.inr b)=false:=vbw (λq=>nomatch q)
theorem zub(a:Str)(b:Int):decide ((Sum.inr a:Key)=Sum.inl b)=false:=vbw (λq=>nomatch q)
noncomputable def zay(prog:Program)(w:World):PySem.KeyKind prog w Key where
 is:=keyIs
 hash:=keyH w
 inj:=λv a b ha hb=>by
  rcases zaw ha with⟨i,t,rfl,rfl⟩|⟨x,t,rfl,rfl⟩
  .rcases zaw hb with⟨j,u,rfl,e⟩|⟨y,u,rfl,e⟩
   .injection e with e1 _;rw[e1]
   .exact nomatch e
  .rcases zaw hb with⟨j,u,rfl,e⟩|⟨y,u,rfl,e⟩
   .exact nomatch e
   .injection e with e1 _;rw[e1]
 byValue:=λk v h=>by
  rcases zaw h with⟨i,t,rfl,rfl⟩|⟨x,t,rfl,rfl⟩<;>rfl
 pyHash:=λhv h=>by
  rcases zaw hv with⟨i,t,rfl,rfl⟩|⟨x,t,rfl,rfl⟩
  .exact wpAny_pyHash_int h
  .exact wpAny_pyHash_str h
 eqBool:=λhu hv h=>by
  rcases zaw hu with⟨i,t,rfl,rfl⟩|⟨x,t,rfl,rfl⟩
  .rcases zaw hv with⟨j,u,rfl,rfl⟩|⟨y,u,rfl,rfl⟩
   .rw[zt8]at h;exact wpAny_eqBool_int h
   .rw[zua]at h;exact SeqAt.EqAt.int_str i t y u _ _ _ _ h
  .rcases zaw hv with⟨j,u,rfl,rfl⟩|⟨y,u,rfl,rfl⟩
   .rw[zub]at h;exact SeqAt.EqAt.str_int x t j u _ _ _ _ h
   .rw[zt9]at h;exact wpAny_eqBool_str h
 «strs»:=λk x t v h=>by
  rcases zaw h with⟨i,u,rfl,e⟩|⟨y,u,rfl,e⟩
  .exact nomatch e
  .injection e with e1 _
   subst e1
   cases v<;>rfl
theorem zig(prog:Program)(w:World)(i:Int)(t:Tok):(zay prog w).is (.inl i) (.int i t)=true:=zk1 i t
theorem zih(prog:Program)(w:World)(x:Str)(t:Tok):(zay prog w).is (.inr x) (.str x t)=true:=zk2 x t
inductive V where
 |non|bl (b:Bool)|int (i:Int)|str (x:Str)|byt (b:Array UInt8)|flt (b:UInt64)|ref (a:Addr)|ty (n:String)
 deriving DecidableEq
noncomputable def RelV:V->Value->Prop
 |.non,u=>u=Value.none
 |.bl b,u=>u=Value.bool b
 |.int i,u=>∃t,u=Value.int i t
 |.str x,u=>∃t,u=Value.str x t
 |.byt b,u=>∃t,u=Value.bytes b t
 |.flt b,u=>∃t,u=Value.float b t
 |.ref a,u=>u=Value.ref a
 |.ty n,u=>u=Value.type n
noncomputable abbrev Vals:List V->List Value->Prop:=Paired RelV
theorem Vals.length{xs:List V}{us:List Value}(r:Vals xs us):xs.length=us.length:=Paired.length r
theorem Vals.get:∀{xs:List V} {us:List Value} {i:Nat} {x:V},Vals xs us->xs[i]?=some x->∃u,us[i]?=some u/\RelV x u
 |_,_,_,_,.nil,e=>by simp at e
 |_,_,0,_,.cons r _,e=>by simp at e;subst e;exact⟨_,rfl,r⟩
 |_,_,i+1,x,.cons _ t,e=>by
  obtain⟨u,h1,h2⟩:=Vals.get (i:=i) (x:=x) t (by simpa using e)
  exact⟨u,by simpa using h1,h2⟩
theorem Vals.set{x:V}{u:Value}(r:RelV x u):∀{xs:List V} {us:List Value} (i:Nat),Vals xs us->Vals (xs.set i x) (us.set i u)
 |_,_,_,.nil=>.nil
 |_,_,0,.cons _ t=>.cons r t
 |_,_,i+1,.cons q t=>.cons q (Vals.set r i t)
theorem Vals.append:∀{xs ys:List V} {us ws:List Value},Vals xs us->Vals ys ws->Vals (xs++ys) (us++ws)
 |_,_,_,_,.nil,s=>s
 |_,_,_,_,.cons r t,s=>.cons r (Vals.append t s)
theorem Vals.take:∀{xs:List V} {us:List Value} (n:Nat),Vals xs us->Vals (xs.take n) (us.take n)
 |_,_,0,_=>.nil
 |_,_,_+1,.nil=>.nil
 |_,_,n+1,.cons r t=>.cons r (Vals.take n t)
theorem Vals.drop:∀{xs:List V} {us:List Value} (n:Nat),Vals xs us->Vals (xs.drop n) (us.drop n)
 |_,_,0,r=>r
 |_,_,_+1,.nil=>.nil
 |_,_,n+1,.cons _ t=>Vals.drop n t
noncomputable def RelO:Option V->Option Value->Prop
 |some v,some u=>RelV v u
 |none,none=>True
 |_,_=>False
noncomputable def KV{κ:Type}:List (κ×V)->List (κ×Value)->Prop:=Paired λ(p:κ×V) (q:κ×Value)=>p.1=q.1/\RelV p.2 q.2
noncomputable def kV:Key->V
 |.inl i=>.int i
 |.inr x=>.str x
inductive HO where
 /-- a list -/
 |lst (xs:List V)
 /-- a tuple (never changes) -/
 |tup (xs:List V)
 /-- a dict whose keys are ints and texts;one whose keys are tuples of ints and texts (the empty one is both) -/
 |dK (kvs:List (Key×V))|dT (kvs:List (List Key×V))
 /-- a set of ints: its members,its size -/
 |set (S:Int->Bool) (n:Nat)
 /-- an instance of the class at C,its dict at dx,its attributes -/
 |ins (C dx:Addr) (fs:List (Str×V))
 /-- the dict of the instance at x -/
 |own (x:Addr)
 /-- the dict of an exception -/
 |xd (fs:List (Str×V))
 /-- a bound method,f of x -/
 |met (f x:Addr)
 /-- a range object lo,lo+1,.. below hi -/
 |rng (lo hi:Int)
 /-- a thing that is known to the object (the script;a dict while a loop walks it): read,never written while it is so -/
 |frz (o:Obj) (u:HO)
 /-- a code object's table -/
 |tbl (ps:Array Value)
 /-- any other thing,by what is true of its one object (a def of one's own: SetO a S n:=HO.ext λh=>..) -/
 |ext (φ:Heap->Prop)
noncomputable abbrev Hp:=Addr->Option HO
noncomputable def upd(H:Hp)(a:Addr)(o:HO):Hp:=λb=>if b=a then some o else H b
theorem zai{H:Hp}{a:Addr}{o:HO}:upd H a o a=some o:=by unfold upd;rw[if_pos rfl]
theorem zaf{H:Hp}{a b:Addr}{o:HO}(h:b≠a):upd H a o b=H b:=by unfold upd;rw[if_neg h]
theorem ne_of{H:Hp}{a b:Addr}{o u:HO}(h:H a=some o)(h':H b=some u)(d:o≠u):a≠b:=by
 intro e;subst e;rw[h]at h';exact d (vb9 h')
theorem zag{H:Hp}{a b:Addr}{o:HO}(h:H a=some o)(h':H b=none):a≠b:=by
 intro e;subst e;rw[h]at h';cases h'
noncomputable def zbf(h:Heap)(a:Addr)(items:Array Value):Prop:=∃o,h.get? a=some o/\o.cls=.type "tuple"/\(∃n,o.data=.seq items n)/\o.dict=none
theorem zbf.tup{h:Heap}{a:Addr}{items:Array Value}(x:zbf h a items):IsTup h a items:=let⟨o,e,c,d,_⟩:=x;⟨o,e,c,d⟩
theorem zbf.lt{h:Heap}{a:Addr}{items:Array Value}(x:zbf h a items):a<h.objs.size:=x.tup.lt
theorem zbf.new(h:Heap)(items:Array Value):zbf (h.push {cls:=.type "tuple",data:=.seq items}) h.objs.size items:=⟨_,vaz _ rfl,rfl,⟨_,rfl⟩,rfl⟩
section
variable(P:Program)(w:World)
noncomputable def ObjOk(H:Hp)(h:Heap)(a:Addr):HO->Prop
 |.lst xs=>xs.length<=sizeLine/\∃(its:List Value) (n:Nat),Vals xs its/\h.get? a=some {cls:=.type "list",data:=.seq its.toArray n}
 |.tup xs=>xs.length<=sizeLine/\∃its:List Value,Vals xs its/\zbf h a its.toArray
 |.dK kvs=>kvs.length<=sizeLine/\(a==sysModules)=false/\∃vs,KV kvs vs/\h.DictOf (zay P w) a vs
 |.dT kvs=>kvs.length<=sizeLine/\(a==sysModules)=false/\∃xs:List (List Key×Addr×Value),
  Paired (λ(p:List Key×V)(q:List Key×Addr×Value)=>p.1=q.1/\H q.2.1=some (.tup (p.1.map kV))/\RelV p.2 q.2.2) kvs xs/\
  ∃o es ep,h.get? a=some o/\o.ExactDict/\o.data=.dict es ep/\es.toList=xs.map (entryOfKey (tupleKind (zay P w)))/\(xs.map (·.1)).Nodup
 |.set S n=>h.SetOf (intKind P w) a S n
 |.ins C dx fs=>H dx=some (.own a)/\fs.length<=1000/\dx≠a/\h.get? a=some (PySem.W.instObj C dx)/\
  ∃mA,h.Ns1 dx mA/\(∀f,RelO (fs.lookup f) (mA f))/\PySem.Within mA (fs.map (·.1))
 |.own _=>∃o,h.get? a=some o
 |.xd fs=>∃mA,h.Ns1 a mA/\∀f,RelO (fs.lookup f) (mA f)
 |.rng lo hi=>∃t u v,h.get? a=some {cls:=.type "range",data:=.fields #[.int lo t,.int hi u,.int 1 v]}
 |.frz o u=>h.get? a=some o/\ObjOk H h a u
 |.tbl ps=>h.get? a=some {cls:=.none,data:=.fields ps}
 |.met f x=>h.get? a=some (PySem.W.methodObj (.ref f) (.ref x))
 |.ext φ=>φ h/\(∃o,h.get? a=some o)/\∀h1 h2:Heap,φ h1->(∀o,h1.get? a=some o->h2.get? a=some o)->φ h2
noncomputable def HOk(H:Hp)(h:Heap):Prop:=∀a o,H a=some o->ObjOk P w H h a o
end
section
variable{P:Program}{w:World}{H H':Hp}{h h':Heap}{a:Addr}{o:HO}
theorem ObjOk.lt(x:ObjOk P w H h a o):a<h.objs.size:=by
 cases o with
 |lst xs=>obtain⟨_,_,_,_,e⟩:=x;exact vam e
 |tup xs=>obtain⟨_,_,_,p⟩:=x;exact p.lt
 |dK kvs=>obtain⟨_,_,_,_,o,_,_,e,_⟩:=x;exact vam e
 |dT kvs=>obtain⟨_,_,_,_,o,_,_,e,_⟩:=x;exact vam e
 |set S n=>obtain⟨o,_,_,_,e,_⟩:=x;exact vam e
 |ins C dx fs=>obtain⟨_,_,_,e,_⟩:=x;exact vam e
 |own y=>obtain⟨_,e⟩:=x;exact vam e
 |xd fs=>obtain⟨_,⟨_,_,_,e,_⟩,_⟩:=x;exact vam e
 |rng lo hi=>obtain⟨_,_,_,e⟩:=x;exact vam e
 |frz ob u=>obtain⟨e,_⟩:=x;exact vam e
 |tbl ps=>exact vam (show h.get? a=some _ from x)
 |met f y=>exact vam (show h.get? a=some _ from x)
 |ext φ=>obtain⟨_,⟨_,e⟩,_⟩:=x;exact vam e
theorem Paired.mapP{α β:Type}{F G:α->β->Prop}:∀{l₁:List α} {l₂:List β},Paired F l₁ l₂->(∀a b,F a b->G a b)->Paired G l₁ l₂
 |_,_,.nil,_=>.nil
 |_,_,.cons r t,f=>.cons (f _ _ r) (Paired.mapP t f)
theorem ObjOk.stay(x:ObjOk P w H h a o)(k:∀b u,(b=a\/H b=some (.own a))->h.get? b=some u->h'.get? b=some u)
 (ho:∀b,H b=some (.own a)->H' b=some (.own a)) (ht:∀b xs,H b=some (.tup xs)->H' b=some (.tup xs)):ObjOk P w H' h' a o:=by
 induction o with
 |lst xs=>obtain⟨z,its,n,r,e⟩:=x;exact⟨z,its,n,r,k _ _ (.inl rfl) e⟩
 |tup xs=>obtain⟨z,its,r,ob,e,c⟩:=x;exact⟨z,its,r,ob,k _ _ (.inl rfl) e,c⟩
 |dK kvs=>obtain⟨z,y,vs,r,ob,es,ep,e,c⟩:=x;exact⟨z,y,vs,r,ob,es,ep,k _ _ (.inl rfl) e,c⟩
 |dT kvs=>
  obtain⟨z,y,xs,r,ob,es,ep,e,c⟩:=x
  exact⟨z,y,xs,Paired.mapP r λp q z=>⟨z.1,ht _ _ z.2.1,z.2.2⟩,ob,es,ep,k _ _ (.inl rfl) e,c⟩
 |set S n=>obtain⟨ob,es,ep,t,e,c⟩:=x;exact⟨ob,es,ep,t,k _ _ (.inl rfl) e,c⟩
 |ins C dx fs=>
  obtain⟨d,z,ne,e,mA,⟨od,es,ep,e2,c⟩,r⟩:=x
  exact⟨ho _ d,z,ne,k _ _ (.inl rfl) e,mA,⟨od,es,ep,k _ _ (.inr d) e2,c⟩,r⟩
 |own y=>obtain⟨ob,e⟩:=x;exact⟨ob,k _ _ (.inl rfl) e⟩
 |xd fs=>obtain⟨mA,⟨od,es,ep,e,c⟩,r⟩:=x;exact⟨mA,⟨od,es,ep,k _ _ (.inl rfl) e,c⟩,r⟩
 |rng lo hi=>obtain⟨t,u,v,e⟩:=x;exact⟨t,u,v,k _ _ (.inl rfl) e⟩
 |frz ob u ih=>obtain⟨e,q⟩:=x;exact⟨k _ _ (.inl rfl) e,ih q⟩
 |tbl ps=>
  have e:h.get? a=some {cls:=.none,data:=.fields ps}:=x
  show h'.get? a=some {cls:=.none,data:=.fields ps}
  exact k a _ (.inl rfl) e
 |met f y=>
  have e:h.get? a=some (PySem.W.methodObj (.ref f) (.ref y)):=x
  show h'.get? a=some (PySem.W.methodObj (.ref f) (.ref y))
  exact k a _ (.inl rfl) e
 |ext φ=>obtain⟨p,⟨o,e⟩,st⟩:=x;exact⟨st _ _ p λo q=>k _ _ (.inl rfl) q,⟨o,k _ _ (.inl rfl) e⟩,st⟩
theorem HOk.lt(x:HOk P w H h)(e:H a=some o):a<h.objs.size:=(x a o e).lt
theorem HOk.fresh(x:HOk P w H h)(e:h.objs.size<=a):H a=none:=by
 cases q:H a with
 |none=>rfl
 |some u=>exact absurd (vae (x.lt q) e) (vct _)
theorem HOk.kept(x:HOk P w H h)(k:∀b u,h.get? b=some u->h'.get? b=some u):HOk P w H h':=λa o e=>
 (x a o e).stay (λb u _ q=>k b u q) (λ_ q=>q) λ_ _ q=>q
theorem HOk.laid(x:HOk P w H h)(k:∀b u,h.get? b=some u->h'.get? b=some u)(hp:h.objs.size<=a)(new:ObjOk P w (upd H a o) h' a o):HOk P w (upd H a o) h':=λb u e=>by
 have hn:=x.fresh hp
 by_cases hb:b=a
 .subst hb;rw[zai]at e;cases e;exact new
 .rw[zaf hb]at e
  exact(x b u e).stay (λc v _ q=>k c v q) (λc q=>by rw[zaf (zag q hn)];exact q) λc xs q=>by rw[zaf (zag q hn)];exact q
end
noncomputable def Rd(H:Hp)(a:Addr)(u:HO):Prop:=H a=some u\/∃o,H a=some (.frz o u)
theorem Rd.ok{P:Program}{w:World}{H:Hp}{h:Heap}{a:Addr}{u:HO}(r:Rd H a u)(x:HOk P w H h):ObjOk P w H h a u:=by
 rcases r with r|⟨o,r⟩
 .exact x a u r
 .obtain⟨_,q⟩:=x a _ r
  exact q
noncomputable def Mut:Option HO->Prop
 |some (.lst _)=>True
 |some (.dK _)=>True
 |some (.dT _)=>True
 |some (.set _ _)=>True
 |some (.ins _ _ _)=>True
 |some (.ext _)=>True
 |_=>False
section
variable{P:Program}{w:World}{H:Hp}{h h':Heap}{x e:Addr}{o':HO}
theorem HOk.write(ok:HOk P w H h)(mu:Mut (H x))(he:e=x\/H e=some (.own x))(k:∀b u,b≠e->h.get? b=some u->h'.get? b=some u)(heo:∃u,h'.get? e=some u)
 (new:ObjOk P w (upd H x o') h' x o'):HOk P w (upd H x o') h':=λb u q=>by
 have nown:∀c y,H c=some (.own y)->c≠x:=λc y r z=>by subst z;rw[r]at mu;exact mu
 have ntup:∀c xs,H c=some (.tup xs)->c≠x:=λc xs r z=>by subst z;rw[r]at mu;exact mu
 by_cases hb:b=x
 .subst hb;rw[zai]at q;cases q;exact new
 .rw[zaf hb]at q
  by_cases hbe:b=e
  .have q':H b=some (.own x):=by
    rcases he with z|z
    .exact absurd (hbe.trans z) hb
    .rw[hbe];exact z
   rw[q]at q';cases q'
   obtain⟨v,hv⟩:=heo
   exact⟨v,by rw[hbe];exact hv⟩
  .refine(ok b u q).stay (λc v hc r=>k c v ?_ r) (λc r=>by rw[zaf (nown c b r)];exact r) λc xs r=>by rw[zaf (ntup c xs r)];exact r
   rcases hc with rfl|hc
   .exact hbe
   .rintro rfl
    rcases he with z|z
    .exact nown c b hc z
    .rw[hc]at z;cases z;exact hb rfl
end
structure Un(fs ex:List Addr)(H H':Hp)(h h':Heap):Prop where
 keep:∀b o,h.get? b=some o->H b=none->b∉fs->b∉ex->h'.get? b=some o
 slot:∀b o,h.get? b=some o->H b=none->b∈fs->b∉ex->∃sl,h'.get? b=some {o with slots:=sl}
 free:∀b o,h.get? b=some o->H b=none->b∉ex->H' b=none
 there:∀b o,h.get? b=some o->b∉ex->∃o',h'.get? b=some o'
 tups:∀b xs,H b=some (.tup xs)->H' b=some (.tup xs)
 frzs:∀b o u,H b=some (.frz o u)->H' b=some (.frz o u)
 tbls:∀b ps,H b=some (.tbl ps)->∃more,H' b=some (.tbl (ps++more))
section
variable{fs fs' ex ex':List Addr}{H H1 H2:Hp}{h h1 h2 h':Heap}{a x e:Addr}{o:HO}
theorem Un.any(u:Un fs ex H H1 h h1){b:Addr}{ob:Obj}(q:h.get? b=some ob)(n:H b=none)(hx:b∉ex):∃sl,h1.get? b=some {ob with slots:=sl}:=by
 by_cases hb:b∈fs
 .exact u.slot b ob q n hb hx
 .exact⟨ob.slots,u.keep b ob q n hb hx⟩
theorem Un.kept(k:∀b u,h.get? b=some u->h'.get? b=some u):Un fs ex H H h h':=
 ⟨λb ob q _ _ _=>k b ob q,λb ob q _ _ _=>⟨ob.slots,k b ob q⟩,λ_ _ _ n _=>n,λb ob q _=>⟨ob,k b ob q⟩,λ_ _ q=>q,λ_ _ _ q=>q,λ_ ps q=>⟨#[],by rw[q];simp⟩⟩
theorem Un.refl:Un fs ex H H h h:=Un.kept λ_ _ q=>q
theorem Un.laid(k:∀b u,h.get? b=some u->h'.get? b=some u)(hp:h.objs.size<=a)(hn:H a=none):Un fs ex H (upd H a o) h h' where
 keep:=λb u q _ _ _=>k b u q
 slot:=λb u q _ _ _=>⟨u.slots,k b u q⟩
 free:=λb u q n _=>by rw[zaf (vay (vae (vam q) hp))];exact n
 there:=λb u q _=>⟨u,k b u q⟩
 tups:=λb xs q=>by rw[zaf (zag q hn)];exact q
 frzs:=λb u xs q=>by rw[zaf (zag q hn)];exact q
 tbls:=λb ps q=>⟨#[],by rw[zaf (zag q hn),q];simp⟩
theorem Un.write(mu:Mut (H x))(he:e=x\/H e=some (.own x))(k:∀b u,b≠e->h.get? b=some u->h'.get? b=some u)(heo:∃u,h'.get? e=some u):Un fs ex H (upd H x o) h h':=by
 have hx:∀b,H b=none->b≠x:=λb n z=>by subst z;rw[n]at mu;exact mu
 have hb:∀b,H b=none->b≠e:=λb n z=>by
  subst z
  rcases he with r|r
  .exact hx b n r
  .rw[n]at r;cases r
 have hm:∀b u,H b=some u->¬Mut (some u)->b≠x:=λb u q nm z=>by subst z;rw[q]at mu;exact nm mu
 refine⟨λb u q n _ _=>k b u (hb b n) q,λb u q n _ _=>⟨u.slots,k b u (hb b n) q⟩,λb u q n _=>by rw[zaf (hx b n)];exact n,λb u q _=>?_,
  λb xs q=>by rw[zaf (hm b _ q λz=>z)];exact q,λb u xs q=>by rw[zaf (hm b _ q λz=>z)];exact q,λb ps q=>⟨#[],by rw[zaf (hm b _ q λz=>z),q];simp⟩⟩
 by_cases hbe:b=e
 .subst hbe;exact heo
 .exact⟨u,k b u hbe q⟩
end
noncomputable def trk(h:Heap)(H:Hp):List Addr:=(List.range h.objs.size).filter λa=>(H a).isSome
noncomputable def hidT(h:Heap)(H:Hp):Heap:=PySem.W.hideAll h (trk h H)
theorem zk3(h:Heap)(H:Hp):(hidT h H).objs.size=h.objs.size:=PySem.W.hideAll_size _ _
theorem zoj{h:Heap}{H:Hp}{b:Addr}{o:Obj}(e:h.get? b=some o)(n:H b=none):(hidT h H).get? b=some o:=
 PySem.W.hideAll_get _ e λhm=>by
  have q:(H b).isSome=true:=(List.mem_filter.mp hm).2
  rw[n]at q;simp at q
theorem zrv{h:Heap}{H:Hp}{b:Addr}{o:Obj}(e:(hidT h H).get? b=some o):h.get? b=some o/\H b=none:=by
 have e':h.get? b=some o:=PySem.W.of_hideAll (trk h H) e
 refine⟨e',?_⟩
 cases q:H b with
 |none=>rfl
 |some x=>
  have hm:b∈trk h H:=List.mem_filter.mpr ⟨vd6.mpr (vam e'),by simp[q]⟩
  have z:(hidT h H).get? b=none:=PySem.W.hideAll_none (trk h H) hm
  rw[z]at e;cases e
structure Mod(K:vga)(mg:Str->Option Value)(base:Heap):Prop where
 kin:K.In base
 glob:base.Ns mainGlobals mg
 blt:∃mb,base.Ns builtinsNs mb/\∀x:Str,x≠"__name__"->mb x=bootBuiltins x
 nolimit:base.NoLimit
set_option genInjectivity false in
structure Cx where
 prog:Program
 w:World
 K:vga
 mg:Str->Option Value
 base:Heap
 A:Around
 N:List Str
 s₀:Shared
 H₀:Hp
 env:Env
 outer:List Env
 stack:List Env
 ex:List Addr
 fn:Str->Bool
 calm:Bool
 pn:List (Addr×Obj)
 xe:Value->Shared->Prop
noncomputable def frs(l:List Env):List Addr:=l.filterMap (·.frame)
noncomputable abbrev Cx.fs(X:Cx):List Addr:=frs X.outer
noncomputable def Vis(sc:Scope)(x:Str):Prop:=sc.names.lookup x=some .local\/sc.names.lookup x=some .cell\/sc.names.lookup x=some .free
noncomputable def Loc(sc:Scope)(x:Str):Prop:=sc.names.lookup x=some .local\/sc.names.lookup x=some .cell
noncomputable def Look(env:Env)(h:Heap)(m:Str->Option Value)(x:Str)(u:Value):Prop:=
 (env.kindOf x=some .local/\m x=some u)\/((env.kindOf x=some .cell\/env.kindOf x=some .free)/\∃c,env.cells.lookup x=some c/\h.IsCell c (some u))
structure Cx.Ok(X:Cx):Prop where
 mod:Mod X.K X.mg X.base
 kind:X.env.scope.kind=.function
 glob:X.env.globals=mainGlobals
 blt:X.env.builtins=builtinsNs
 above:X.s₀.heap.objs.size<=X.env.locals
 inj:∀x y c,X.env.cells.lookup x=some c->X.env.cells.lookup y=some c->x=y
 has:∀x,(X.env.kindOf x=some .cell\/X.env.kindOf x=some .free)->∃c,X.env.cells.lookup x=some c
 cab:∀x c,X.fn x=true->X.env.cells.lookup x=some c->X.s₀.heap.objs.size<=c
 hd:X.calm=true->X.A.handled=none
 frames:X.A.frames=some X.stack
 stk:X.stack=X.outer\/(X.stack=X.env::X.outer/\X.env.frame=some X.env.locals)
 exf:∀b∈X.ex,b≠X.env.locals/\∀x c,X.env.cells.lookup x=some c->c≠b
 bs:∀b o,X.base.get? b=some o->X.s₀.heap.get? b=some o/\X.H₀ b=none
 bsz:X.base.objs.size<=X.s₀.heap.objs.size
 noex:∀b o,X.base.get? b=some o->b∉X.ex
 exfs:∀b∈X.ex,b∉X.fs
 funs:X.s₀.heap.FunFrames X.base X.outer
 frf:∀b∈X.fs,X.H₀ b=none
structure Inv(X:Cx)(pins:List (Addr×Obj))(σ:List (Option V))(H:Hp)(s:Shared):Prop where
 ok:X.Ok
 os:s.os=X.s₀.os
 bare:AllBare s.gens
 base:Un X.fs X.ex X.H₀ H X.s₀.heap s.heap
 loc:∃m,s.heap.Ns X.env.locals m/\∀(i:Nat)(x:Str)(v:V),X.N[i]?=some x->σ[i]?=some (some v)->Vis X.env.scope x->∃u,RelV v u/\Look X.env s.heap m x u
 cell:∀x c,X.env.cells.lookup x=some c->∃v,s.heap.IsCell c v
 free:H X.env.locals=none
 freeC:∀x c,X.env.cells.lookup x=some c->H c=none
 pin:∀p∈X.pn++pins,s.heap.get? p.1=some p.2/\H p.1=none/\p.1≠X.env.locals/\p.1∉X.fs/\∀v,p.2.data≠.cell v
 hok:HOk X.prog X.w H s.heap
 len:σ.length=X.N.length
section
variable{X:Cx}{pins:List (Addr×Obj)}{σ:List (Option V)}{H H':Hp}{s:Shared}{h':Heap}
theorem Cx.Ok.nofr(ok:X.Ok){b:Addr}{o:Obj}(e:X.base.get? b=some o):b∉X.fs:=λhb=>by
 have:=(ok.funs.mem hb).1
 rw[e]at this;cases this
theorem Inv.bs(I:Inv X pins σ H s):∀b o,X.base.get? b=some o->s.heap.get? b=some o/\H b=none:=λb o e=>
 ⟨I.base.keep b o (I.ok.bs b o e).1 (I.ok.bs b o e).2 (I.ok.nofr e) (I.ok.noex b o e),I.base.free b o (I.ok.bs b o e).1 (I.ok.bs b o e).2 (I.ok.noex b o e)⟩
theorem Inv.bk(I:Inv X pins σ H s):∀b o,X.base.get? b=some o->s.heap.get? b=some o:=λb o e=>(I.bs b o e).1
theorem Inv.mod(I:Inv X pins σ H s):Mod X.K X.mg X.base:=I.ok.mod
theorem Inv.kIn(I:Inv X pins σ H s):X.K.In s.heap:=I.ok.mod.kin.keeps I.bk
theorem Inv.lt(I:Inv X pins σ H s):X.env.locals<s.heap.objs.size:=let⟨_,hn,_⟩:=I.loc;hn.lt
theorem Inv.sz(I:Inv X pins σ H s):X.s₀.heap.objs.size<=s.heap.objs.size:=van I.ok.above (vdr I.lt)
theorem Inv.nofs(I:Inv X pins σ H s){a:Addr}(h:s.heap.objs.size<=a):a∉X.fs:=λhb=>by
 obtain⟨_,o,ho,_⟩:=I.ok.funs.mem hb
 exact absurd (vae (vam ho) (van I.sz h)) (vct _)
theorem Inv.cne(I:Inv X pins σ H s):∀x c,X.env.cells.lookup x=some c->c≠X.env.locals:=λx c e z=>by
 obtain⟨v,o,ho,hd⟩:=I.cell x c e
 obtain⟨m,⟨o',es,ep,ho',hd',_⟩,_⟩:=I.loc
 rw[z,ho']at ho;cases ho;rw[hd']at hd;cases hd
theorem Inv.funs(I:Inv X pins σ H s):s.heap.FunFrames X.base X.outer:=by
 have all:∀(l:List Env),(∀b∈frs l,b∈X.fs)->X.s₀.heap.FunFrames X.base l->s.heap.FunFrames X.base l:=by
  intro l
  induction l with
  |nil=>intro _ _;trivial
  |cons env r ih=>
   intro hs hl
   obtain⟨hk,⟨L,o,hf,hn,ho,hd⟩,hr⟩:=hl
   have hL:L∈X.fs:=hs L (by unfold frs;rw[vcc,hf];exact vap)
   obtain⟨sl,e⟩:=I.base.slot L o ho (I.ok.frf L hL) hL λz=>I.ok.exfs L z hL
   exact⟨hk,⟨L,_,hf,hn,e,hd⟩,ih (λb hb=>hs b (by unfold frs;rw[vcc,hf];exact vak _ hb)) hr⟩
 exact all X.outer (λ_ hb=>hb) I.ok.funs
theorem Inv.stack(I:Inv X pins σ H s):s.heap.FunFrames X.base X.stack:=by
 rcases I.ok.stk with e|⟨e,hf⟩
 .rw[e];exact I.funs
 .rw[e]
  obtain⟨m,hn,_⟩:=I.loc
  refine .cons (by rw[I.ok.kind];decide) hf hn ?_ I.funs
  exact Heap.get?_none_of_le (van I.ok.bsz I.ok.above)
theorem Inv.stkSub(I:Inv X pins σ H s):∀b∈frs X.stack,b∈X.env.locals::X.fs:=λb hb=>by
 rcases I.ok.stk with e|⟨e,hf⟩
 .rw[e]at hb;exact vak _ hb
 .rw[e]at hb
  unfold frs at hb
  rw[vcc,hf]at hb
  exact hb
theorem Inv.stkFree(I:Inv X pins σ H s):∀b∈frs X.stack,H b=none:=λb hb=>by
 rcases vaw.mp (I.stkSub b hb)with e|hb
 .rw[e];exact I.free
 .obtain⟨_,o,ho,_⟩:=I.ok.funs.mem hb
  exact I.base.free b o ho (I.ok.frf b hb) λz=>I.ok.exfs b z hb
theorem Inv.step{g':Array GenState}{t':Nat}{d':Drawn}{ch:List Addr}(I:Inv X pins σ H s)
 (hch:∀b∈ch,(b∈X.ex\/X.s₀.heap.objs.size<=b)/\b≠X.env.locals/\(∀x c,X.env.cells.lookup x=some c->c≠b)/\∀p∈X.pn++pins,p.1≠b)
 (keep:∀b o,b≠X.env.locals->b∉X.fs->b∉ch->s.heap.get? b=some o->H b=none->h'.get? b=some o)
 (slot:∀b o,b≠X.env.locals->b∈X.fs->b∉ch->s.heap.get? b=some o->H b=none->∃sl,h'.get? b=some {o with slots:=sl}) (free:∀b o,b∉ch->s.heap.get? b=some o->H b=none->H' b=none)
 (there:∀b o,b∉ch->s.heap.get? b=some o->∃o',h'.get? b=some o')
 (tups:∀b xs,H b=some (.tup xs)->H' b=some (.tup xs)) (frzs:∀b o u,H b=some (.frz o u)->H' b=some (.frz o u)) (tbls:∀b ps,H b=some (.tbl ps)->∃more,H' b=some (.tbl (ps++more)))
 (ns:∀m,s.heap.Ns X.env.locals m->h'.Ns X.env.locals m) (hok:HOk X.prog X.w H' h') (hg:AllBare g') :
 Inv X pins σ H' {s with heap:=h',gens:=g',drawn:=d',toks:=t'}:=by
 have neL:∀b o,X.s₀.heap.get? b=some o->b≠X.env.locals:=λb o e=>vay (vae (vam e) I.ok.above)
 have neC:∀b o,X.s₀.heap.get? b=some o->b∉X.ex->b∉ch:=λb o e hx hb=>by
  rcases(hch b hb).1 with z|z
  .exact hx z
  .exact absurd (vae (vam e) z) (vct _)
 have cellK:∀x c,X.env.cells.lookup x=some c->∀v,s.heap.IsCell c v->h'.IsCell c v:=λx c e v hq0=>by
  obtain⟨o,ho,hd⟩:=hq0
  have nch:c∉ch:=λz=>(hch c z).2.2.1 x c e rfl
  by_cases hc:c∈X.fs
  .obtain⟨sl,q⟩:=slot c o (I.cne x c e) hc nch ho (I.freeC x c e)
   exact⟨_,q,hd⟩
  .exact⟨o,keep c o (I.cne x c e) hc nch ho (I.freeC x c e),hd⟩
 refine⟨I.ok,I.os,hg,⟨λb o e n hb hx=>?_,λb o e n hb hx=>?_,λb o e n hx=>?_,λb o e hx=>?_,λb xs e=>tups b xs (I.base.tups b xs e),λb o xs e=>frzs b o xs (I.base.frzs b o xs e),λb ps e=>?_⟩,?_,λx c e=>?_,?_,λx c e=>?_,λp hp=>?_,hok,I.len⟩
 .exact keep b o (neL b o e) hb (neC b o e hx) (I.base.keep b o e n hb hx) (I.base.free b o e n hx)
 .obtain⟨sl,e1⟩:=I.base.slot b o e n hb hx
  obtain⟨sl',e2⟩:=slot b _ (neL b o e) hb (neC b o e hx) e1 (I.base.free b o e n hx)
  exact⟨sl',e2⟩
 .obtain⟨o',e1⟩:=I.base.there b o e hx
  exact free b o' (neC b o e hx) e1 (I.base.free b o e n hx)
 .obtain⟨o',e1⟩:=I.base.there b o e hx
  exact there b o' (neC b o e hx) e1
 .obtain⟨m1,e1⟩:=I.base.tbls b ps e
  obtain⟨m2,e2⟩:=tbls b _ e1
  exact⟨m1++m2,by rw[e2,Array.append_assoc]⟩
 .obtain⟨m,hn,hl⟩:=I.loc
  refine⟨m,ns m hn,λi x v e1 e2 e3=>?_⟩
  obtain⟨u,r,l⟩:=hl i x v e1 e2 e3
  refine⟨u,r,?_⟩
  rcases l with l|⟨k,c,e,z⟩
  .exact .inl l
  .exact .inr ⟨k,c,e,cellK x c e _ z⟩
 .obtain⟨v,z⟩:=I.cell x c e
  exact⟨v,cellK x c e v z⟩
 .obtain⟨m,⟨o,_,_,ho,_⟩,_⟩:=I.loc
  exact free _ o (λz=>(hch _ z).2.1 rfl) ho I.free
 .obtain⟨v,o,ho,hd⟩:=I.cell x c e
  exact free c o (λz=>(hch c z).2.2.1 x c e rfl) ho (I.freeC x c e)
 .obtain⟨e,n,ne,nf,d⟩:=I.pin p hp
  have nch:p.1∉ch:=λz=>(hch p.1 z).2.2.2 p hp rfl
  exact⟨keep p.1 p.2 ne nf nch e n,free p.1 p.2 nch e n,ne,nf,d⟩
theorem Inv.un{t':Nat}(I:Inv X pins σ H s)(u:Un X.fs [] H H' s.heap h')(hok:HOk X.prog X.w H' h'):Inv X pins σ H' {s with heap:=h',toks:=t'}:=by
 obtain⟨m,⟨o,es,ep,ho,r⟩,_⟩:=id I.loc
 obtain⟨sl,hL⟩:=u.any ho I.free (by simp)
 exact I.step (g':=s.gens) (d':=s.drawn) (ch:=[]) (λ_ z=>nomatch z) (λb o _ hb _ e n=>u.keep b o e n hb (by simp)) (λb o _ hb _ e n=>u.slot b o e n hb (by simp)) (λb o _ e n=>u.free b o e n (by simp)) (λb o _ e=>u.there b o e (by simp)) u.tups u.frzs u.tbls (λm' hm=>by
  obtain⟨o',es',ep',ho',r'⟩:=hm
  rw[ho]at ho';cases ho'
  exact⟨_,es',ep',hL,r'⟩) hok I.bare
theorem Inv.call{g':Array GenState}{t':Nat}{d':Drawn}{ch:List Addr}(I:Inv X pins σ H s)(u:Un (frs X.stack) ch H H' s.heap h')(hok:HOk X.prog X.w H' h')(hg:AllBare g')
 (hch:∀b∈ch,(b∈X.ex\/X.s₀.heap.objs.size<=b)/\b≠X.env.locals/\(∀x c,X.env.cells.lookup x=some c->c≠b)/\∀p∈X.pn++pins,p.1≠b) :
 Inv X pins σ H' {s with heap:=h',gens:=g',drawn:=d',toks:=t'}:=by
 obtain⟨m,⟨o,es,ep,ho,r⟩,_⟩:=id I.loc
 obtain⟨sl,hL⟩:=u.any ho I.free λz=>(hch _ z).2.1 rfl
 exact I.step (ch:=ch) hch (λb o hL hb hc e n=>u.keep b o e n (λz=>(vaw.mp (I.stkSub b z)).elim hL hb) hc) (λb o _ _ hc e n=>u.any e n hc) (λb o hc e n=>u.free b o e n hc) (λb o hc e=>u.there b o e hc) u.tups u.frzs u.tbls (λm' hm=>by
  obtain⟨o',es',ep',ho',r'⟩:=hm
  rw[ho]at ho';cases ho'
  exact⟨_,es',ep',hL,r'⟩) hok hg
theorem Inv.turned{t':Nat}{it:Addr}(I:Inv X pins σ H s)(k:∀b o,b≠it->s.heap.get? b=some o->h'.get? b=some o)(hn:H it=none)(hL:it≠X.env.locals)
 (h1:it∈X.ex\/X.s₀.heap.objs.size<=it) (h2:∀x c,X.env.cells.lookup x=some c->c≠it) (h3:∀p∈X.pn++pins,p.1≠it):Inv X pins σ H {s with heap:=h',toks:=t'}:=by
 have nit:∀b u,H b=some u->b≠it:=λb u e z=>by rw[z,hn]at e;cases e
 refine I.step (g':=s.gens) (d':=s.drawn) (ch:=[it]) (λb hb=>?_) (λb o _ _ hc e _=>k b o (λz=>hc (by simp[z])) e) (λb o _ _ hc e _=>⟨o.slots,k b o (λz=>hc (by simp[z])) e⟩) (λ_ _ _ _ n=>n)
  (λb o hc e=>⟨o,k b o (λz=>hc (by simp[z])) e⟩) (λ_ _ e=>e) (λ_ _ _ e=>e) (λb ps e=>⟨#[],by rw[e];simp⟩) (λm hm=>?_) (λb u e=>?_) I.bare
 .have e:b=it:=by simpa using hb
  subst e
  exact⟨h1,hL,h2,h3⟩
 .obtain⟨o,es,ep,ho,r⟩:=hm
  exact⟨o,es,ep,k _ o (vbz hL) ho,r⟩
 .refine(I.hok b u e).stay (λc v hc q=>k c v ?_ q) (λ_ q=>q) λ_ _ q=>q
  rcases hc with z|z
  .rw[z];exact nit b u e
  .exact nit c _ z
theorem Inv.tok(I:Inv X pins σ H s)(t:Nat):Inv X pins σ H {s with toks:=t}:=I.un (h':=s.heap) (t':=t) Un.refl I.hok
theorem Inv.kept{t':Nat}(I:Inv X pins σ H s)(k:∀b u,s.heap.get? b=some u->h'.get? b=some u):Inv X pins σ H {s with heap:=h',toks:=t'}:=I.un (Un.kept k) (I.hok.kept k)
theorem Inv.laid{a:Addr}{o:HO}{t':Nat}(I:Inv X pins σ H s)(k:∀b u,s.heap.get? b=some u->h'.get? b=some u)(hp:s.heap.objs.size<=a)(new:ObjOk X.prog X.w (upd H a o) h' a o) :
 Inv X pins σ (upd H a o) {s with heap:=h',toks:=t'}:=I.un (Un.laid k hp (I.hok.fresh hp)) (I.hok.laid k hp new)
theorem Inv.write{x e:Addr}{o:HO}{t':Nat}(I:Inv X pins σ H s)(mu:Mut (H x))(he:e=x\/H e=some (.own x))(k:∀b u,b≠e->s.heap.get? b=some u->h'.get? b=some u)(heo:∃u,h'.get? e=some u)
 (new:ObjOk X.prog X.w (upd H x o) h' x o):Inv X pins σ (upd H x o) {s with heap:=h',toks:=t'}:=I.un (Un.write mu he k heo) (I.hok.write mu he k heo new)
theorem Inv.pins_of{pins':List (Addr×Obj)}(I:Inv X pins σ H s)(h:∀p∈pins',s.heap.get? p.1=some p.2/\H p.1=none/\p.1≠X.env.locals/\p.1∉X.fs/\∀v,p.2.data≠.cell v):Inv X pins' σ H s:=
 ⟨I.ok,I.os,I.bare,I.base,I.loc,I.cell,I.free,I.freeC,λp hp=>(vbl.mp hp).elim (λz=>I.pin p (List.mem_append_left _ z)) (h p),I.hok,I.len⟩
theorem zf0{N:List Str}(hN:N.Nodup){i j:Nat}{x:Str}(a:N[i]?=some x)(b:N[j]?=some x):i=j:=by
 obtain⟨h1,e1⟩:=vas.mp a
 obtain⟨h2,e2⟩:=vas.mp b
 exact(List.getElem_inj hN).mp (e1.trans e2.symm)
theorem zg0{M:Model}{A:Around}{E:Value->Shared->Prop}{i:Nat}{x:Str}{v:V}{u:Value}{Q:Unit->Shared->Prop}(I:Inv X pins σ H s)(hN:X.N.Nodup)(hi:X.N[i]?=some x)(hx:Loc X.env.scope x)(r:RelV v u)
 (h:∀s',Inv X pins (σ.set i (some v)) H s'->(∃a,Heap.SameBut a s.heap s'.heap/\(a=X.env.locals\/X.env.cells.lookup x=some a))->Q () s') (hf:X.fn x=true\/X.env.scope.names.lookup x=some .local:=by first|exact .inl rfl|exact .inr rfl|assumption):wpAny M A (storeName X.env x u) Q E s:=by
 obtain⟨m,hn,hl⟩:=id I.loc
 have hcls:(X.env.scope.kind == .class|| (X.env.scope.kind == .module&&X.env.locals != X.env.globals))=false:=by rw[I.ok.kind];rfl
 have hiσ:i<σ.length:=by rw[I.len];exact(vas.mp hi).1
 have cne:=I.cne
 have tracked:∀{a:Addr}{h':Heap},(∃o,s.heap.get? a=some o/\H a=none)->Heap.SameBut a s.heap h'->HOk X.prog X.w H h':=λ{a h'} ha hs b ob e=>by
  obtain⟨_,_,hfree⟩:=ha
  refine(I.hok b ob e).stay (λc w' hc q=>(hs.2 c ?_).trans q) (λ_ q=>q) λ_ _ q=>q
  rintro rfl
  rcases hc with rfl|hc
  .rw[hfree]at e;cases e
  .rw[hfree]at hc;cases hc
 rcases hx with hk|hk
 .refine wpAny_storeName_local hk hn (λh' hn' hs=>?_) hcls
  obtain⟨oL,_,_,hoL,_⟩:=id hn
  refine h _ ⟨I.ok,I.os,I.bare,⟨λb o e n hb hx=>?_,λb o e n hb hx=>?_,I.base.free,λb o e hx=>?_,I.base.tups,I.base.frzs,I.base.tbls⟩,⟨_,hn',λj y v' e1 e2 e3=>?_⟩,λy c e=>?_,I.free,I.freeC,λp hp=>?_,tracked ⟨oL,hoL,I.free⟩ hs,by simpa using I.len⟩ ⟨_,hs,.inl rfl⟩
  .exact(hs.2 b (vay (vae (vam e) I.ok.above))).trans (I.base.keep b o e n hb hx)
  .obtain⟨sl,e1⟩:=I.base.slot b o e n hb hx
   exact⟨sl,(hs.2 b (vay (vae (vam e) I.ok.above))).trans e1⟩
  .obtain⟨o',e1⟩:=I.base.there b o e hx
   exact⟨o',(hs.2 b (vay (vae (vam e) I.ok.above))).trans e1⟩
  .by_cases hj:j=i
   .subst hj
    rw[hi]at e1;cases e1
    rw[vbi hiσ]at e2
    cases e2
    exact⟨u,r,.inl ⟨hk,by simp⟩⟩
   .rw[vci (vbz hj)]at e2
    obtain⟨u',r',q⟩:=hl j y v' e1 e2 e3
    refine⟨u',r',?_⟩
    rcases q with⟨k,e⟩|⟨k,c,e,z⟩
    .refine .inl ⟨k,?_⟩
     have:y≠x:=λe=>hj (zf0 hN e1 (e▸hi))
     simp[this,e]
    .exact .inr ⟨k,c,e,z.sameBut hs (cne y c e)⟩
  .obtain⟨w',z⟩:=I.cell y c e
   exact⟨w',z.sameBut hs (cne y c e)⟩
  .obtain⟨e,n,ne,nf,d⟩:=I.pin p hp
   exact⟨(hs.2 p.1 ne).trans e,n,ne,nf,d⟩
 .have hfn:X.fn x=true:=by
   rcases hf with z|z
   .exact z
   .rw[z]at hk;cases hk
  obtain⟨c,hc⟩:=I.ok.has x (.inl hk)
  obtain⟨w',z⟩:=I.cell x c hc
  refine wpAny_storeName_cell I.ok.kind hk hc z (λh' hc' hs=>?_)
  obtain⟨oc,hoc,hocd⟩:=id z
  refine h {s with heap:=h'} ⟨I.ok,I.os,I.bare,⟨λb o e n hb hx=>?_,λb o e n hb hx=>?_,I.base.free,λb o e hx=>?_,I.base.tups,I.base.frzs,I.base.tbls⟩,⟨m,hn.sameBut hs (vbz (cne x c hc)),λj y v' e1 e2 e3=>?_⟩,λy c' e=>?_,I.free,I.freeC,λp hp=>?_,tracked ⟨oc,hoc,I.freeC x c hc⟩ hs,by simpa using I.len⟩ ⟨c,hs,.inr hc⟩
  .exact(hs.2 b (vay (vae (vam e) (I.ok.cab x c hfn hc)))).trans (I.base.keep b o e n hb hx)
  .obtain⟨sl,e1⟩:=I.base.slot b o e n hb hx
   exact⟨sl,(hs.2 b (vay (vae (vam e) (I.ok.cab x c hfn hc)))).trans e1⟩
  .obtain⟨o',e1⟩:=I.base.there b o e hx
   exact⟨o',(hs.2 b (vay (vae (vam e) (I.ok.cab x c hfn hc)))).trans e1⟩
  .by_cases hj:j=i
   .subst hj
    rw[hi]at e1;cases e1
    rw[vbi hiσ]at e2
    cases e2
    exact⟨u,r,.inr ⟨.inl hk,c,hc,hc'⟩⟩
   .rw[vci (vbz hj)]at e2
    obtain⟨u',r',q⟩:=hl j y v' e1 e2 e3
    refine⟨u',r',?_⟩
    rcases q with q|⟨k,c',e,z'⟩
    .exact .inl q
    .refine .inr ⟨k,c',e,z'.sameBut hs ?_⟩
     rintro rfl
     exact hj (zf0 hN e1 (I.ok.inj _ _ _ e hc▸hi))
  .by_cases hcc:c'=c
   .subst hcc;exact⟨_,hc'⟩
   .obtain⟨w2,z2⟩:=I.cell y c' e
    exact⟨w2,z2.sameBut hs hcc⟩
  .obtain⟨e,n,ne,nf,d⟩:=I.pin p hp
   refine⟨(hs.2 p.1 ?_).trans e,n,ne,nf,d⟩
   intro q
   rw[q,hoc]at e
   have q':oc=p.2:=vb9 e
   exact d w' (by rw[<-q'];exact hocd)
theorem zdx{M:Model}{A:Around}{E:Value->Shared->Prop}{i:Nat}{x:Str}{v:V}{u:Value}{Q:Unit->Shared->Prop}(I:Inv X pins σ H s)(hN:X.N.Nodup)(hi:X.N[i]?=some x)(hx:Loc X.env.scope x)(r:RelV v u)
 (h:∀s',Inv X pins (σ.set i (some v)) H s'->Q () s') (hf:X.fn x=true\/X.env.scope.names.lookup x=some .local:=by first|exact .inl rfl|exact .inr rfl|assumption):wpAny M A (storeName X.env x u) Q E s:=
 zg0 I hN hi hx r (λs' I' _=>h s' I') hf
theorem Inv.call'{s':Shared}{ch:List Addr}(I:Inv X pins σ H s)(ho:s'.os=s.os)(u:Un (frs X.stack) ch H H' s.heap s'.heap)(hok:HOk X.prog X.w H' s'.heap)(hg:AllBare s'.gens)
 (hch:∀b∈ch,(b∈X.ex\/X.s₀.heap.objs.size<=b)/\b≠X.env.locals/\(∀x c,X.env.cells.lookup x=some c->c≠b)/\∀p∈X.pn++pins,p.1≠b):Inv X pins σ H' s':=by
 obtain⟨h',g',d',t',o'⟩:=s'
 have e:o'=s.os:=ho
 subst e
 exact I.call (g':=g') (t':=t') (d':=d') u hok hg hch
end
noncomputable abbrev XK:=Value->Option Addr->Hp->Prop
noncomputable abbrev St:=List (Option V)
noncomputable abbrev VK:=V->Hp->Prop
noncomputable abbrev TE:=St->Hp->VK->Prop
noncomputable abbrev TT:=St->Hp->(Bool->Hp->Prop)->Prop
noncomputable abbrev TA:=St->Hp->(List V->Hp->Prop)->Prop
set_option genInjectivity false in
structure Ends where
 nx:St->Hp->Prop
 rt:VK
 bk:St->Hp->Prop:=λ_ _=>False
 ct:St->Hp->Prop:=λ_ _=>False
noncomputable abbrev TS:=Ends->St->Hp->Prop
noncomputable def EP(X:Cx)(pins:List (Addr×Obj))(σ:St)(Q:VK)(u:Value)(s':Shared):Prop:=∃v H',Inv X pins σ H' s'/\RelV v u/\Q v H'
noncomputable def TP(X:Cx)(pins:List (Addr×Obj))(σ:St)(Q:Bool->Hp->Prop)(b:Bool)(s':Shared):Prop:=∃H',Inv X pins σ H' s'/\Q b H'
noncomputable def AP(X:Cx)(pins:List (Addr×Obj))(σ:St)(Q:List V->Hp->Prop)(us:List Value)(s':Shared):Prop:=∃vs H',Inv X pins σ H' s'/\Vals vs us/\Q vs H'
theorem EP.el{X:Cx}{pins:List (Addr×Obj)}{σ:St}{Q:VK}{u:Value}{s':Shared}{P:Prop}(q:EP X pins σ Q u s')(k:∀v H',Inv X pins σ H' s'->RelV v u->Q v H'->P):P:=by
 obtain⟨v,H',a,b,c⟩:=q
 exact k v H' a b c
theorem TP.el{X:Cx}{pins:List (Addr×Obj)}{σ:St}{Q:Bool->Hp->Prop}{b:Bool}{s':Shared}{P:Prop}(q:TP X pins σ Q b s')(k:∀H',Inv X pins σ H' s'->Q b H'->P):P:=by
 obtain⟨H',a,c⟩:=q
 exact k H' a c
theorem AP.el{X:Cx}{pins:List (Addr×Obj)}{σ:St}{Q:List V->Hp->Prop}{us:List Value}{s':Shared}{P:Prop}(q:AP X pins σ Q us s')(k:∀vs H',Inv X pins σ H' s'->Vals vs us->Q vs H'->P):P:=by
 obtain⟨v,H',a,b,c⟩:=q
 exact k v H' a b c
noncomputable def SP(X:Cx)(pins:List (Addr×Obj))(D:Ends)(f:Flow)(s':Shared):Prop:=
 match f with
 |.next=>∃σ' H',Inv X pins σ' H' s'/\D.nx σ' H'
 |.brk=>∃σ' H',Inv X pins σ' H' s'/\D.bk σ' H'
 |.cont=>∃σ' H',Inv X pins σ' H' s'/\D.ct σ' H'
 |.ret u=>∃v σ' H',Inv X pins σ' H' s'/\RelV v u/\D.rt v H'
noncomputable def PE(X:Cx)(e:Expr)(t:TE):Prop:=
 ∀(pins:List (Addr×Obj))(s:Shared)(σ:St)(H:Hp)(Q:VK),Inv X pins σ H s->t σ H Q->wpAny (model X.prog X.w) X.A (eval e X.env) (EP X pins σ Q) X.xe s
noncomputable def PT(X:Cx)(e:Expr)(t:TT):Prop:=
 ∀(pins:List (Addr×Obj))(s:Shared)(σ:St)(H:Hp)(Q:Bool->Hp->Prop),Inv X pins σ H s->t σ H Q->wpAny (model X.prog X.w) X.A (isTrue e X.env (eval e X.env)) (TP X pins σ Q) X.xe s
noncomputable def PW(X:Cx)(e:Expr)(t:TT):Prop:=
 ∀(whole:Sem Value)(pins:List (Addr×Obj))(s:Shared)(σ:St)(H:Hp)(Q:Bool->Hp->Prop),Inv X pins σ H s->t σ H Q->wpAny (model X.prog X.w) X.A (isTrue e X.env whole) (TP X pins σ Q) X.xe s
theorem PW.pt{X:Cx}{e:Expr}{t:TT}(h:PW X e t):PT X e t:=h _
noncomputable def PA(X:Cx)(es:List Expr)(t:TA):Prop:=
 ∀(pos:Pos)(pins:List (Addr×Obj))(s:Shared)(σ:St)(H:Hp)(Q:List V->Hp->Prop),Inv X pins σ H s->t σ H Q->wpAny (model X.prog X.w) X.A (spliced (backTo pos (starEach es X.env))) (AP X pins σ Q) X.xe s
noncomputable def PS(X:Cx)(st:Stmt)(t:TS):Prop:=
 ∀(pins:List (Addr×Obj))(s:Shared)(σ:St)(H:Hp)(D:Ends),Inv X pins σ H s->t D σ H->wpAny (model X.prog X.w) X.A (exec st X.env) (SP X pins D) X.xe s
noncomputable def PSs(X:Cx)(st:List Stmt)(t:TS):Prop:=
 ∀(pins:List (Addr×Obj))(s:Shared)(σ:St)(H:Hp)(D:Ends),Inv X pins σ H s->t D σ H->wpAny (model X.prog X.w) X.A (execs st X.env) (SP X pins D) X.xe s
theorem thn{α:Type}{t:Sem α}{Q Q':α->Shared->Prop}{M:Model}{A:Around}{E:Value->Shared->Prop}{s:Shared}(h:wpAny M A t Q E s)(hQ:∀a s,Q a s->Q' a s):wpAny M A t Q' E s:=vbp h hQ λ_ _ x=>x
section
variable{X:Cx}
noncomputable def tVar(i:Nat):TE:=λσ H Q=>∃v,σ[i]?=some (some v)/\Q v H
noncomputable def tC(v:V):TE:=λ_ H Q=>Q v H
theorem zi8{i:Nat}{x:Str}{pos:Pos}(hN:X.N[i]?=some x)(hv:Vis X.env.scope x)(hd:(x==("__debug__" : Str))=false:=by decide)(hcd:(x==("__classdict__" : Str))=false:=by decide):PE X (.Name x pos) (tVar i):=by
 intro pins s σ H Q I h
 obtain⟨v,e,h⟩:=h
 obtain⟨m,hn,hl⟩:=I.loc
 obtain⟨u,r,l⟩:=hl i x v hN e hv
 have fin:EP X pins σ Q u s:=⟨v,H,I,r,h⟩
 rcases l with⟨hk,hm⟩|⟨hk,c,hc,hcell⟩
 .exact wpAny_Name (wpAny_loadName_local I.ok.kind hk hn hm fin) hd
 .rcases hk with hk|hk
  .exact wpAny_Name (wpAny_loadName_cell I.ok.kind hk hc hcell fin) hd
  .exact wpAny_Name (wpAny_loadName_free I.ok.kind hk hc hcell fin hcd) hd
theorem zqj{i j pos}:PE X (.Constant (.int i) j pos) (tC (.int i)):=λ_ _ _ H _ I h=>wpAny_Constant_int ⟨.int i,H,I.tok _,⟨_,rfl⟩,h⟩
theorem pe_bl{b j pos}:PE X (.Constant (.bool b) j pos) (tC (.bl b)):=λ_ _ _ H _ I h=>Constant_bool ⟨.bl b,H,I,rfl,h⟩
theorem zuc{j pos}:PE X (.Constant .none j pos) (tC .non):=λ_ _ _ H _ I h=>Constant_none ⟨.non,H,I,rfl,h⟩
theorem zk4{x j pos}:PE X (.Constant (.str x) j pos) (tC (.str x)):=λ_ _ _ H _ I h=>Calls.Constant_str ⟨.str x,H,I.tok _,⟨_,rfl⟩,h⟩
noncomputable def Gl(X:Cx)(x:Str):Prop:=X.env.kindOf x=some .globalImplicit
theorem zbu{E:Value->Shared->Prop}{pins:List (Addr×Obj)}{s:Shared}{σ:St}{H:Hp}{x:Str}{u:Value}{pos:Pos}{Q:Value->Shared->Prop}(I:Inv X pins σ H s)(hg:Gl X x)(hm:X.mg x=some u)(h:Q u s)
 (hd:(x==("__debug__" : Str))=false:=by decide):wpAny (model X.prog X.w) X.A (eval (.Name x pos) X.env) Q E s:=
 Calls.Name_function_global I.ok.kind hg (Calls.loadGlobal_global (by rw[I.ok.glob];exact I.mod.glob.keeps I.bk) hm h) hd
theorem ze3{E:Value->Shared->Prop}{pins:List (Addr×Obj)}{s:Shared}{σ:St}{H:Hp}{x:Str}{u:Value}{pos:Pos}{Q:Value->Shared->Prop}(I:Inv X pins σ H s)(hg:Gl X x)(hm:X.mg x=none)(hv:bootBuiltins x=some u)(h:Q u s)
 (hn:x≠"__name__":=by decide) (hd:(x==("__debug__" : Str))=false:=by decide):wpAny (model X.prog X.w) X.A (eval (.Name x pos) X.env) Q E s:=by
 obtain⟨mb,h1,h2⟩:=I.mod.blt
 exact Calls.Name_function_global I.ok.kind hg (Calls.loadGlobal_builtin (by rw[I.ok.glob];exact I.mod.glob.keeps I.bk) hm (by rw[I.ok.blt];exact h1.keeps I.bk) ((h2 x hn).trans hv) h) hd
theorem zk5{x:Str}{v:V}{u:Value}{pos:Pos}(hg:Gl X x)(hm:X.mg x=some u)(r:RelV v u)(hd:(x==("__debug__" : Str))=false:=by decide):PE X (.Name x pos) (tC v):=
 λ_ _ _ H _ I h=>zbu I hg hm ⟨v,H,I,r,h⟩ hd
theorem zk6{x:Str}{v:V}{u:Value}{pos:Pos}(hg:Gl X x)(hm:X.mg x=none)(hv:bootBuiltins x=some u)(r:RelV v u)(hn:x≠"__name__":=by decide)(hd:(x==("__debug__" : Str))=false:=by decide):PE X (.Name x pos) (tC v):=
 λ_ _ _ H _ I h=>ze3 I hg hm hv ⟨v,H,I,r,h⟩ hn hd
variable{a b:Expr}{ta tb:TE}{pos:Pos}
noncomputable def tB(t:TE):TT:=λσ H Q=>t σ H λx H1=>∃c,x=.bl c/\Q c H1
theorem zqk{e:Expr}{t:TE}(h:PE X e t)(he:∀whole,isTrue e X.env whole=(do let v <-whole;standAt e.pos;holding [v] (truthy v)):=by intro _;rfl):PT X e (tB t):=by
 intro pins s σ H Q I hw
 refine isTrue_plain (thn (h pins s σ H _ I hw) λv s1 z9=>z9.el λx H1 I1 r1 q1=>?_) (he _)
 obtain⟨d,rfl,q⟩:=q1
 cases r1
 exact vb2 ⟨H1,I1,q⟩
variable{tA tB':TT}{rest:List Expr}
noncomputable def tAnd(t u:TT):TT:=λσ H Q=>t σ H λc H1=>if c=true then u σ H1 Q else Q false H1
noncomputable def tOr(t u:TT):TT:=λσ H Q=>t σ H λc H1=>if c=true then Q true H1 else u σ H1 Q
noncomputable def tNot(t:TT):TT:=λσ H Q=>t σ H λc H1=>Q (!c) H1
theorem zrw(ha:PT X a tA):PW X (.BoolOp .And [a] pos) tA:=by
 intro wh pins s σ H Q I h
 refine isTrue_and (thn (ha pins s σ H Q I h) λc s1 e=>?_)
 cases c with
 |true=>exact isTrue_and_nil e
 |false=>exact e
theorem zql(ha:PT X a tA):PW X (.BoolOp .Or [a] pos) tA:=by
 intro wh pins s σ H Q I h
 refine isTrue_or (thn (ha pins s σ H Q I h) λc s1 e=>?_)
 cases c with
 |false=>exact isTrue_or_nil e
 |true=>exact e
theorem zud(ha:PT X a tA)(hb:PW X (.BoolOp .And (b::rest) pos) tB'):PW X (.BoolOp .And (a::b::rest) pos) (tAnd tA tB'):=by
 intro wh pins s σ H Q I h
 refine isTrue_and (thn (ha pins s σ H _ I h) λc s1 z9=>z9.el λH1 I1 q1=>?_)
 cases c with
 |true=>exact hb wh pins s1 σ H1 Q I1 q1
 |false=>exact⟨H1,I1,q1⟩
theorem pw_or(ha:PT X a tA)(hb:PW X (.BoolOp .Or (b::rest) pos) tB'):PW X (.BoolOp .Or (a::b::rest) pos) (tOr tA tB'):=by
 intro wh pins s σ H Q I h
 refine isTrue_or (thn (ha pins s σ H _ I h) λc s1 z9=>z9.el λH1 I1 q1=>?_)
 cases c with
 |true=>exact⟨H1,I1,q1⟩
 |false=>exact hb wh pins s1 σ H1 Q I1 q1
theorem zk7(ha:PT X a tA):PT X (.UnaryOp .Not a pos) (tNot tA):=by
 intro pins s σ H Q I h
 exact isTrue_not (ha pins s σ H (λc H1=>Q (!c) H1) I h)
noncomputable def tAndV(ta tb:TE):TE:=λσ H Q=>ta σ H λx H1=>∃c,x=.bl c/\if c=true then tb σ H1 Q else Q (.bl false) H1
noncomputable def tOrV(ta tb:TE):TE:=λσ H Q=>ta σ H λx H1=>∃c,x=.bl c/\if c=true then Q (.bl true) H1 else tb σ H1 Q
noncomputable def tNotV(ta:TE):TE:=λσ H Q=>ta σ H λx H1=>∃c,x=.bl c/\Q (.bl (!c)) H1
theorem zue{op}{t:TE}(h:PE X a t):PE X (.BoolOp op [a] pos) t:=λpins s σ H Q I hw=>BoolOp_one (h pins s σ H Q I hw)
theorem zuf(ha:PE X a ta)(hb:PE X (.BoolOp .And (b::rest) pos) tb):PE X (.BoolOp .And (a::b::rest) pos) (tAndV ta tb):=by
 intro pins s σ H Q I h
 refine BoolOp_and (thn (ha pins s σ H _ I h) λv s1 z9=>z9.el λx H1 I1 r1 q1=>?_)
 obtain⟨c,rfl,q1⟩:=q1
 cases r1
 refine vb2 ?_
 cases c with
 |true=>exact hb pins s1 σ H1 Q I1 q1
 |false=>exact⟨.bl false,H1,I1,rfl,q1⟩
theorem pe_or(ha:PE X a ta)(hb:PE X (.BoolOp .Or (b::rest) pos) tb):PE X (.BoolOp .Or (a::b::rest) pos) (tOrV ta tb):=by
 intro pins s σ H Q I h
 refine BoolOp_or (thn (ha pins s σ H _ I h) λv s1 z9=>z9.el λx H1 I1 r1 q1=>?_)
 obtain⟨c,rfl,q1⟩:=q1
 cases r1
 refine vb2 ?_
 cases c with
 |false=>exact hb pins s1 σ H1 Q I1 q1
 |true=>exact⟨.bl true,H1,I1,rfl,q1⟩
theorem zug(ha:PE X a ta):PE X (.UnaryOp .Not a pos) (tNotV ta):=by
 intro pins s σ H Q I h
 refine UnaryOp_ (thn (ha pins s σ H _ I h) λv s1 z9=>z9.el λx H1 I1 r1 q1=>?_)
 obtain⟨c,rfl,q1⟩:=q1
 cases r1
 exact not_of (vb2 ⟨.bl (!c),H1,I1,rfl,q1⟩)
noncomputable def tIf(t:TT)(ta tb:TE):TE:=λσ H Q=>t σ H λc H1=>if c=true then ta σ H1 Q else tb σ H1 Q
theorem zok{c:Expr}(hc:PT X c tA)(ha:PE X a ta)(hb:PE X b tb):PE X (.IfExp c a b pos) (tIf tA ta tb):=by
 intro pins s σ H Q I h
 refine wpAny_IfExp (thn (hc pins s σ H _ I h) λd s1 z9=>z9.el λH1 I1 q1=>?_)
 cases d with
 |true=>exact ha pins s1 σ H1 Q I1 q1
 |false=>exact hb pins s1 σ H1 Q I1 q1
end
noncomputable def SqL(K:vga)(H:Hp)(a:Addr)(xs:List V):Prop:=
 Rd H a (.lst xs)\/
  ∃(o:Obj) (its:Array Value) (n:Nat),K.lookup a=some o/\o.cls=.type "list"/\o.dict=none/\o.data=.seq its n/\its.size<=sizeLine/\Vals xs its.toList
noncomputable def SqT(K:vga)(H:Hp)(a:Addr)(xs:List V):Prop:=
 Rd H a (.tup xs)\/
  ∃(o:Obj) (its:Array Value) (n:Nat),K.lookup a=some o/\o.cls=.type "tuple"/\o.dict=none/\o.data=.seq its n/\its.size<=sizeLine/\Vals xs its.toList
noncomputable def absV:Value->Option V
 |.none=>some .non
 |.bool b=>some (.bl b)
 |.int i _=>some (.int i)
 |.str x _=>some (.str x)
 |.bytes b _=>some (.byt b)
 |.float b _=>some (.flt b)
 |.ref a=>some (.ref a)
 |.type n=>some (.ty n)
 |_=>none
theorem RelV.abs{x:V}{u:Value}(r:RelV x u):absV u=some x:=by
 cases x with
 |non=>cases r;rfl
 |bl _=>cases r;rfl
 |int _=>obtain⟨t,rfl⟩:=r;rfl
 |str _=>obtain⟨t,rfl⟩:=r;rfl
 |byt _=>obtain⟨t,rfl⟩:=r;rfl
 |flt _=>obtain⟨t,rfl⟩:=r;rfl
 |ref _=>cases r;rfl
 |ty _=>cases r;rfl
theorem RelV.inj{x y:V}{u:Value}(r:RelV x u)(q:RelV y u):x=y:=vb9 (r.abs.symm.trans q.abs)
theorem Vals.inj:∀{xs ys:List V} {us:List Value},Vals xs us->Vals ys us->xs=ys
 |_,_,_,.nil,.nil=>rfl
 |_,_,_,.cons r t,.cons r' t'=>by rw[r.inj r',Vals.inj t t']
section
variable{X:Cx}{pins:List (Addr×Obj)}{σ:St}{H:Hp}{s:Shared}{a:Addr}{xs ys:List V}
theorem SqL.of{K:vga}(h:H a=some (.lst xs)):SqL K H a xs:=.inl (.inl h)
theorem SqT.of{K:vga}(h:H a=some (.tup xs)):SqT K H a xs:=.inl (.inl h)
theorem Inv.list(I:Inv X pins σ H s)(h:SqL X.K H a xs):∃its:List Value,Vals xs its/\PlainL s.heap a its.toArray/\xs.length<=sizeLine:=by
 rcases h with h|⟨o,its,n,hk,hc,hd,hs,hz,r⟩
 .obtain⟨z,its,n,r,e⟩:=h.ok I.hok
  exact⟨its,r,⟨_,n,e,rfl,rfl,rfl⟩,z⟩
 .refine⟨its.toList,r,⟨o,n,I.kIn a o hk,hc,hd,by simpa using hs⟩,?_⟩
  have e:=r.length
  simp only[vc7]at e
  omega
theorem Inv.tupleD(I:Inv X pins σ H s)(h:SqT X.K H a xs):∃its:List Value,Vals xs its/\zbf s.heap a its.toArray/\xs.length<=sizeLine:=by
 rcases h with h|⟨o,its,n,hk,hc,hd,hs,hz,r⟩
 .obtain⟨z,its,r,p⟩:=h.ok I.hok
  exact⟨its,r,p,z⟩
 .refine⟨its.toList,r,⟨o,I.kIn a o hk,hc,⟨n,by simpa using hs⟩,hd⟩,?_⟩
  have e:=r.length
  simp only[vc7]at e
  omega
theorem Inv.tuple(I:Inv X pins σ H s)(h:SqT X.K H a xs):∃its:List Value,Vals xs its/\IsTup s.heap a its.toArray/\xs.length<=sizeLine:=by
 obtain⟨its,r,p,z⟩:=I.tupleD h
 exact⟨its,r,p.tup,z⟩
theorem Inv.list_inj(I:Inv X pins σ H s)(h:SqL X.K H a xs)(h':SqL X.K H a ys):xs=ys:=by
 obtain⟨its,r,⟨o,n,e,_,_,d⟩,_⟩:=I.list h
 obtain⟨its',r',⟨o',n',e',_,_,d'⟩,_⟩:=I.list h'
 rw[e]at e';cases e'
 rw[d]at d'
 injection d' with d1 _
 have:its=its':=by simpa using vdn Array.toList d1
 subst this
 exact r.inj r'
theorem Inv.tuple_inj(I:Inv X pins σ H s)(h:SqT X.K H a xs)(h':SqT X.K H a ys):xs=ys:=by
 obtain⟨its,r,⟨o,e,_,n,d⟩,_⟩:=I.tuple h
 obtain⟨its',r',⟨o',e',_,n',d'⟩,_⟩:=I.tuple h'
 rw[e]at e';cases e'
 rw[d]at d'
 injection d' with d1 _
 have:its=its':=by simpa using vdn Array.toList d1
 subst this
 exact r.inj r'
end
noncomputable abbrev Cx.wish(X:Cx)(E:Value->Shared->Prop):Cx:={X with xe:=E}
noncomputable abbrev Cx.nox(X:Cx):Cx:=X.wish λ_ _=>False
theorem Cx.Ok.wish{X:Cx}(ok:X.Ok)(E:Value->Shared->Prop):(X.wish E).Ok:=
 ⟨ok.mod,ok.kind,ok.glob,ok.blt,ok.above,ok.inj,ok.has,ok.cab,ok.hd,ok.frames,ok.stk,ok.exf,ok.bs,ok.bsz,ok.noex,ok.exfs,ok.funs,ok.frf⟩
theorem Cx.Ok.unwish{X:Cx}{E:Value->Shared->Prop}(ok:(X.wish E).Ok):X.Ok:=
 ⟨ok.mod,ok.kind,ok.glob,ok.blt,ok.above,ok.inj,ok.has,ok.cab,ok.hd,ok.frames,ok.stk,ok.exf,ok.bs,ok.bsz,ok.noex,ok.exfs,ok.funs,ok.frf⟩
section
variable{X:Cx}{pins:List (Addr×Obj)}{σ:St}{H:Hp}{s:Shared}{E:Value->Shared->Prop}
theorem Inv.wish(I:Inv X pins σ H s)(E:Value->Shared->Prop):Inv (X.wish E) pins σ H s:=⟨I.ok.wish E,I.os,I.bare,I.base,I.loc,I.cell,I.free,I.freeC,I.pin,I.hok,I.len⟩
theorem Inv.unwish(I:Inv (X.wish E) pins σ H s):Inv X pins σ H s:=⟨I.ok.unwish,I.os,I.bare,I.base,I.loc,I.cell,I.free,I.freeC,I.pin,I.hok,I.len⟩
theorem SP.unwish{D:Ends}{f:Flow}{s':Shared}(h:SP (X.wish E) pins D f s'):SP X pins D f s':=by
 cases f with
 |next=>obtain⟨σ',H',I,q⟩:=h;exact⟨σ',H',I.unwish,q⟩
 |brk=>obtain⟨σ',H',I,q⟩:=h;exact⟨σ',H',I.unwish,q⟩
 |cont=>obtain⟨σ',H',I,q⟩:=h;exact⟨σ',H',I.unwish,q⟩
 |ret u=>obtain⟨v,σ',H',I,r,q⟩:=h;exact⟨v,σ',H',I.unwish,r,q⟩
theorem PE.nox{e:Expr}{t:TE}(h:PE X.nox e t):PE X e t:=λpins s σ H Q I hw=>
 vbp (h pins s σ H Q (I.wish _) hw) (λ_ _ ⟨v,H',I',r,q⟩=>⟨v,H',I'.unwish,r,q⟩) λ_ _ z=>False.elim z
theorem PT.nox{e:Expr}{t:TT}(h:PT X.nox e t):PT X e t:=λpins s σ H Q I hw=>
 vbp (h pins s σ H Q (I.wish _) hw) (λ_ _ ⟨H',I',q⟩=>⟨H',I'.unwish,q⟩) λ_ _ z=>False.elim z
theorem PSs.nox{st:List Stmt}{t:TS}(h:PSs X.nox st t):PSs X st t:=λpins s σ H D I hw=>
 vbp (h pins s σ H D (I.wish _) hw) (λ_ _ q=>q.unwish) λ_ _ z=>False.elim z
end
section
variable{X:Cx}{st:Stmt}{rest:List Stmt}{t u:TS}{e:Expr}{te:TE}{pos:Pos}
noncomputable def tNext:TS:=λD σ H=>D.nx σ H
noncomputable def tSeq(t u:TS):TS:=λD σ H=>t {D with nx:=u D} σ H
theorem zii:PSs X [] tNext:=λ_ _ σ H _ I h=>vdf ⟨σ,H,I,h⟩
theorem zcg(h1:PS X st t)(h2:PSs X rest u):PSs X (st::rest) (tSeq t u):=by
 intro pins s σ H D I h
 refine wpAny_execs_cons (thn (h1 pins s σ H {D with nx:=u D} I h) λf s1 q=>?_)
 cases f with
 |next=>
  obtain⟨σ',H',I',q⟩:=q
  exact h2 pins s1 σ' H' D I' q
 |ret v=>exact q
 |brk=>exact q
 |cont=>exact q
theorem zf1(h1:PS X st t):PSs X [st] t:=by
 intro pins s σ H D I h
 refine wpAny_execs_cons (thn (h1 pins s σ H D I h) λf s1 q=>?_)
 cases f with
 |next=>exact vdf q
 |ret v=>exact q
 |brk=>exact q
 |cont=>exact q
noncomputable def zuh:TS:=λD σ H=>D.bk σ H
noncomputable def tCont:TS:=λD σ H=>D.ct σ H
theorem zrx:PS X (.Pass pos) tNext:=λ_ _ σ H _ I h=>wpAny_Pass ⟨σ,H,I,h⟩
theorem zol:PS X (.Break pos) zuh:=λ_ _ σ H _ I h=>wpAny_Break ⟨σ,H,I,h⟩
theorem zij:PS X (.Continue pos) tCont:=λ_ _ σ H _ I h=>wpAny_Continue ⟨σ,H,I,h⟩
theorem Inv.quiet{pins:List (Addr×Obj)}{σ:St}{H:Hp}{s:Shared}(I:Inv X pins σ H s):interactive X.env=false:=by simp[interactive,I.ok.kind]
noncomputable def tDrop(te:TE):TS:=λD σ H=>te σ H λ_ H1=>D.nx σ H1
theorem zk8(he:PE X e te)(hs:swapsWith e none pos.line X.env=pure false:=by rfl):PS X (.Expr e pos) (tDrop te):=by
 intro pins s σ H D I h
 exact wpAny_Expr_any (thn (he pins s σ H _ I h) λv s1 z9=>z9.el λx H1 I1 r1 q1=>⟨σ,H1,I1,q1⟩) I.quiet hs
noncomputable def tRet(te:TE):TS:=λD σ H=>te σ H D.rt
theorem zg1(he:PE X e te):PS X (.Return (some e) pos) (tRet te):=by
 intro pins s σ H D I h
 exact wpAny_Return_some (thn (he pins s σ H _ I h) λv s1 z9=>z9.el λx H1 I1 r1 q1=>⟨x,σ,H1,I1,r1,q1⟩)
noncomputable def tRetN:TS:=λD _ H=>D.rt .non H
theorem zry:PS X (.Return none pos) tRetN:=λ_ _ σ H _ I h=>wpAny_Return_none ⟨.non,σ,H,I,rfl,h⟩
noncomputable def tIfS(c:TT)(t u:TS):TS:=λD σ H=>c σ H λb H1=>if b=true then t D σ H1 else u D σ H1
theorem ps_if{c:Expr}{a b:List Stmt}{tc:TT}(hc:PT X c tc)(ha:PSs X a t)(hb:PSs X b u):PS X (.If c a b pos) (tIfS tc t u):=by
 intro pins s σ H D I h
 refine wpAny_If (thn (hc pins s σ H _ I h) λd s1 z9=>z9.el λH1 I1 q1=>?_)
 cases d with
 |true=>exact ha pins s1 σ H1 D I1 q1
 |false=>exact hb pins s1 σ H1 D I1 q1
noncomputable def zui:TS:=λ_ _ _=>False
theorem zom:PS X st zui:=λ_ _ _ _ _ _ h=>h.elim
end
noncomputable abbrev TG:=V->St->Hp->(St->Hp->Prop)->Prop
noncomputable abbrev TGs:=List V->St->Hp->(St->Hp->Prop)->Prop
noncomputable def PG(X:Cx)(target:Expr)(t:TG):Prop:=
 ∀(pins:List (Addr×Obj))(s:Shared)(σ:St)(H:Hp)(v:V)(u:Value)(Q:St->Hp->Prop),Inv X pins σ H s->RelV v u->t v σ H Q->
  wpAny (model X.prog X.w) X.A (assign target X.env u) (λ_ s'=>∃σ' H',Inv X pins σ' H' s'/\Q σ' H') X.xe s
noncomputable def PGs(X:Cx)(ts:List Expr)(t:TGs):Prop:=
 ∀(pins:List (Addr×Obj))(s:Shared)(σ:St)(H:Hp)(vs:List V)(us:List Value)(Q:St->Hp->Prop),Inv X pins σ H s->Vals vs us->t vs σ H Q->
  wpAny (model X.prog X.w) X.A (assignInOrder ((assignEach ts X.env).map (·.2)) us) (λ_ s'=>∃σ' H',Inv X pins σ' H' s'/\Q σ' H') X.xe s
noncomputable abbrev TSet:=V->V->V->Hp->(Hp->Prop)->Prop
noncomputable def PSet(X:Cx)(t:TSet):Prop:=
 ∀(pins:List (Addr×Obj))(s:Shared)(σ:St)(H:Hp)(o i v:V)(ov iv u:Value)(Q:Hp->Prop),Inv X pins σ H s->RelV o ov->RelV i iv->RelV v u->t o i v H Q->
  wpAny (model X.prog X.w) X.A (setItem ov iv u) (λ_ s'=>∃H',Inv X pins σ H' s'/\Q H') X.xe s
noncomputable abbrev TIp:=V->V->Hp->VK->Prop
noncomputable def PIp(X:Cx)(op:Operator)(t:TIp):Prop:=
 ∀(pins:List (Addr×Obj))(s:Shared)(σ:St)(H:Hp)(x y:V)(v u:Value)(Q:VK),Inv X pins σ H s->RelV x v->RelV y u->t x y H Q->
  wpAny (model X.prog X.w) X.A (inplaceOp op v u) (EP X pins σ Q) X.xe s
section
variable{X:Cx}{pos:Pos}
noncomputable def gName(i:Nat):TG:=λv σ H Q=>Q (σ.set i (some v)) H
theorem zk9{i:Nat}{x:Str}(hN:X.N.Nodup)(hi:X.N[i]?=some x)(hx:Loc X.env.scope x)(hf:X.fn x=true\/X.env.scope.names.lookup x=some .local:=by first|exact .inl rfl|exact .inr rfl|assumption):PG X (.Name x pos) (gName i):=by
 intro pins s σ H v u Q I r h
 exact wpAny_assign_Name (zdx I hN hi hx r (λs' I'=>⟨_,H,I',h⟩) hf)
noncomputable def gNil:TGs:=λvs σ H Q=>vs=[]/\Q σ H
noncomputable def gCons(t:TG)(u:TGs):TGs:=λvs σ H Q=>∃v r,vs=v::r/\t v σ H λσ' H'=>u r σ' H' Q
theorem zrz:PGs X [] gNil:=by
 intro pins s σ H vs us Q I r h
 obtain⟨e,h⟩:=h
 subst e
 cases r
 exact assignInOrder_nil ⟨σ,H,I,h⟩
theorem zon{e:Expr}{es:List Expr}{t:TG}{u:TGs}(h1:PG X e t)(h2:PGs X es u)
 (hs:(assignEach (e::es) X.env).map (·.2)=assign e X.env:: (assignEach es X.env).map (·.2):=by rfl):PGs X (e::es) (gCons t u):=by
 intro pins s σ H vs us Q I r h
 obtain⟨v,vr,e1,h⟩:=h
 subst e1
 cases r with
 |cons r rr=>
  rw[hs]
  refine assignInOrder_cons (thn (h1 pins s σ H _ _ _ I r h) λ_ s1 hq0=>?_)
  obtain⟨σ1,H1,I1,q1⟩:=hq0
  exact h2 pins s1 σ1 H1 _ _ Q I1 rr q1
noncomputable def gTup(K:vga)(n:Nat)(t:TGs):TG:=λv σ H Q=>∃a xs,v=.ref a/\SqT K H a xs/\xs.length=n/\t xs σ H Q
theorem zuj{es:List Expr}{k:Nat}{t:TGs}{n:Nat}(hc:X.calm=true)(h:PGs X es t)
 (hn:(assignEach es X.env).length=n:=by rfl) (hst:(assignEach es X.env).findIdx? (·.1)=none:=by rfl):PG X (.Tuple es k pos) (gTup X.K n t):=by
 intro pins s σ H v u Q I r hw
 obtain⟨a,xs,e1,hq,hl,hw⟩:=hw
 subst e1
 cases r
 obtain⟨its,rv,ht,hz⟩:=I.tuple hq
 refine assign_Tuple_tuple (I.ok.hd hc) ht (by simp[hn,<-hl,rv.length]) hst λh' hx=>?_
 have I1:Inv X pins σ H {s with heap:=h'}:=I.kept (t':=s.toks) λb o e=>hx b o (vay (vam e)) e
 exact h pins _ σ H xs _ Q I1 (by simpa using rv) hw
noncomputable def gSub(to ti:TE)(t:TSet):TG:=λv σ H Q=>to σ H λo H1=>ti σ H1 λi H2=>t o i v H2 λH3=>Q σ H3
theorem zuk{o i:Expr}{to ti:TE}{t:TSet}(ho:PE X o to)(hi:PE X i ti)(hs:PSet X t)
 (ha:∀v,assign (.Subscript o i pos) X.env v=(do
   let ov <-holding [v] (eval o X.env)
   let iv <-holding [v,ov] (eval i X.env)
   standAt pos
   holding [v,ov,iv] (setItem ov iv v)
   release [v,ov,iv] []):=by intro _;rfl):PG X (.Subscript o i pos) (gSub to ti t):=by
 intro pins s σ H v u Q I r h
 rw[ha]
 refine vab (vb0 (thn (ho pins s σ H _ I h) λov s1 z9=>z9.el λx H1 I1 r1 q1=>?_))
 refine vab (vb0 (thn (hi pins s1 σ H1 _ I1 q1) λiv s2 z9=>z9.el λy H2 I2 r2 q2=>?_))
 refine vab (vbu (vab (vb0 (thn (hs pins s2 σ H2 x y v ov iv u _ I2 r1 r2 r q2) λ_ s3 hq0=>?_))))
 obtain⟨H3,I3,q3⟩:=hq0
 exact wpAny_release ⟨σ,H3,I3,q3⟩
noncomputable def tAsg(te:TE)(g:TG):TS:=λD σ H=>te σ H λx H1=>g x σ H1 D.nx
theorem zqm{tg e:Expr}{te:TE}{g:TG}(he:PE X e te)(hg:PG X tg g)(hs:swapsWithSole [tg] e pos.line X.env=pure false:=by rfl)(hw:swappedStores [tg] e X.env=pure none:=by rfl)
 (h1:(assignEach [tg] X.env).map (·.2)=[assign tg X.env]:=by rfl):PS X (.Assign [tg] e pos) (tAsg te g):=by
 intro pins s σ H D I h
 refine wpAny_Assign_stores (thn (he pins s σ H _ I h) λv s1 z9=>z9.el λx H1 I1 r1 q1=>?_) hs hw
 rw[h1]
 exact thn (hg pins s1 σ H1 x v _ I1 r1 q1) λ_ s2 q=>q
theorem zqn{i:Nat}{x:Str}{e:Expr}{te:TE}{pos':Pos}(hN:X.N.Nodup)(hi:X.N[i]?=some x)(hx:Loc X.env.scope x)(he:PE X e te)(hs:swapsWith e (some (.Name x pos')) pos.line X.env=pure false:=by rfl)(hf:X.fn x=true\/X.env.scope.names.lookup x=some .local:=by first|exact .inl rfl|exact .inr rfl|assumption) :
 PS X (.Assign [.Name x pos'] e pos) (tAsg te (gName i)):=by
 intro pins s σ H D I h
 refine wpAny_Assign_Name (thn (he pins s σ H _ I h) λv s1 z9=>z9.el λy H1 I1 r1 q1=>?_) hs
 exact zdx I1 hN hi hx r1 (λs2 I2=>⟨_,H1,I2,q1⟩) hf
noncomputable def tAug(i:Nat)(te:TE)(ti:TIp):TS:=λD σ H=>∃x,σ[i]?=some (some x)/\te σ H λy H1=>ti x y H1 λz H2=>D.nx (σ.set i (some z)) H2
theorem zul{i:Nat}{x:Str}{e:Expr}{te:TE}{op:Operator}{ti:TIp}{pos':Pos}(hN:X.N.Nodup)(hi:X.N[i]?=some x)(hx:Loc X.env.scope x)(he:PE X e te)(ho:PIp X op ti)(hf:X.fn x=true\/X.env.scope.names.lookup x=some .local:=by first|exact .inl rfl|exact .inr rfl|assumption) :
 PS X (.AugAssign (.Name x pos') op e pos) (tAug i te ti):=by
 intro pins s σ H D I h
 obtain⟨v,e1,h⟩:=h
 obtain⟨m,hn,hl⟩:=I.loc
 have vis:Vis X.env.scope x:=by rcases hx with k|k;exact .inl k;exact .inr (.inl k)
 obtain⟨u,r,l⟩:=hl i x v hi e1 vis
 refine wpAny_AugAssign_Name ?_
 have go:wpAny (model X.prog X.w) X.A (eval e X.env) (λw s₂=>wpAny (model X.prog X.w) X.A (inplaceOp op u w) (λr s₃=>wpAny (model X.prog X.w) X.A (storeName X.env x r) (λ_=>SP X pins D .next) X.xe s₃) X.xe s₂) X.xe s:=by
  refine thn (he pins s σ H _ I h) λw s1 z9=>z9.el λy H1 I1 r1 q1=>?_
  refine thn (ho pins s1 σ H1 v y u w _ I1 r r1 q1) λz s2 z9=>z9.el λzv H2 I2 r2 q2=>?_
  exact zdx I2 hN hi hx r2 (λs3 I3=>⟨_,H2,I3,q2⟩) hf
 rcases l with⟨hk,hm⟩|⟨hk,c,hc,hcell⟩
 .exact wpAny_loadName_local I.ok.kind hk hn hm go
 .rcases hk with hk|hk
  .exact wpAny_loadName_cell I.ok.kind hk hc hcell go
  .rcases hx with k|k
   .have:X.env.scope.names.lookup x=some .free:=hk
    rw[k]at this;cases this
   .have:X.env.scope.names.lookup x=some .free:=hk
    rw[k]at this;cases this
noncomputable def ipI(f:Int->Int->Int):TIp:=λx y H Q=>∃i j,x=.int i/\y=.int j/\Q (.int (f i j)) H
theorem zum:PIp X .Add (ipI λi j=>i+j):=by
 intro pins s σ H x y v u Q I r1 r2 h
 obtain⟨i,j,e1,e2,q⟩:=h
 subst e1;subst e2
 obtain⟨t,rfl⟩:=r1
 obtain⟨t',rfl⟩:=r2
 exact iadd_int ⟨.int _,H,I.tok _,⟨_,rfl⟩,q⟩
theorem zun:PIp X .Sub (ipI λi j=>i-j):=by
 intro pins s σ H x y v u Q I r1 r2 h
 obtain⟨i,j,e1,e2,q⟩:=h
 subst e1;subst e2
 obtain⟨t,rfl⟩:=r1
 obtain⟨t',rfl⟩:=r2
 exact isub_int ⟨.int _,H,I.tok _,⟨_,rfl⟩,q⟩
end
section
variable{X:Cx}{pos:Pos}
noncomputable def zuo(c:TT)(tb:TS):TS:=λD σ H=>∃W:Nat->St->Hp->Prop,(∃m,W m σ H)/\∀m σ H,W m σ H->
 c σ H λb H1=>if b=true then ∃N:St->Hp->Prop,(∀σ' H',N σ' H'->∃m',m'<m/\W m' σ' H')/\tb {D with nx:=N,ct:=N,bk:=D.nx} σ H1 else D.nx σ H1
theorem zoo{c:Expr}{body:List Stmt}{tc:TT}{tb:TS}(hp:PassesOwn (model X.prog X.w) X.A X.env X.xe)(hc:PT X c tc)(hb:PSs X body tb):PS X (.While c body [] pos) (zuo tc tb):=by
 intro pins s σ H D I h
 obtain⟨W,⟨m0,w0⟩,turn⟩:=h
 refine wpAny_While (codeAny_whileLoop (λn s'=>∃σ' H',Inv X pins σ' H' s'/\W n σ' H') ?_ m0 ⟨σ,H,I,w0⟩)
 rintro n s1 ⟨σ1,H1,I1,w1⟩
 refine vc2 hp (thn (hc pins s1 σ1 H1 _ I1 (turn n σ1 H1 w1)) λb s2 z9=>z9.el λH2 I2 q2=>?_)
 cases b with
 |true=>
  obtain⟨N,hN,q2⟩:=q2
  rw[if_pos rfl]
  refine vc2 hp (thn (hb pins s2 σ1 H2 _ I2 q2) λf s3 q3=>?_)
  cases f with
  |next=>
   obtain⟨σ3,H3,I3,n3⟩:=q3
   obtain⟨m',hm,w3⟩:=hN σ3 H3 n3
   exact⟨m',hm,σ3,H3,I3,w3⟩
  |cont=>
   obtain⟨σ3,H3,I3,n3⟩:=q3
   obtain⟨m',hm,w3⟩:=hN σ3 H3 n3
   exact⟨m',hm,σ3,H3,I3,w3⟩
  |brk=>exact q3
  |ret v=>exact q3
 |false=>
  rw[if_neg va3]
  exact vdf ⟨σ1,H2,I2,q2⟩
end
set_option genInjectivity false in
structure It where
 go:Nat->Hp->Prop
 yld:Nat->Hp->V->Hp->Prop
 stop:Nat->Hp->Prop
noncomputable def FpOk(X:Cx)(pins:List (Addr×Obj))(H:Hp)(b:Addr):Prop:=
 H b=none/\b≠X.env.locals/\b∉X.fs/\(b∈X.ex\/X.s₀.heap.objs.size<=b)/\(∀x c,X.env.cells.lookup x=some c->c≠b)/\∀p∈X.pn++pins,p.1≠b
theorem Inv.fpOk{X:Cx}{pins:List (Addr×Obj)}{σ:St}{H H':Hp}{s:Shared}{b:Addr}(I:Inv X pins σ H s)(hb:s.heap.objs.size<=b)(hn:H' b=none):FpOk X pins H' b:=by
 refine⟨hn,va8 (vae I.lt hb),I.nofs hb,.inr (van I.sz hb),λx c e z=>?_,λp hp z=>?_⟩
 .obtain⟨v,q⟩:=I.cell x c e
  exact absurd (vae q.lt (by rw[z];exact hb)) (vct _)
 .exact absurd (vae (vam (I.pin p hp).1) (by rw[z];exact hb)) (vct _)
structure Turn(P:Program)(w:World)(K:vga)(tg:Expr)(J:It)(fp:List Addr)(it:Addr)(tn:Nat->Heap->Prop):Prop where
 mem:it∈fp
 obj:∀i h,tn i h->∀b∈fp,∃o,h.get? b=some o/\∀v,o.data≠.cell v
 keep:∀i h h',tn i h->(∀b∈fp,∀o,h.get? b=some o->h'.get? b=some o)->tn i h'
 item:∀(X:Cx),X.prog=P->X.w=w->X.K=K->X.calm=true->∀(i:Nat)(pins:List (Addr×Obj))(s:Shared)(σ:St)(H:Hp)(E:Value->Shared->Prop),Inv X pins σ H s->(∀b∈fp,FpOk X pins H b)->tn i s.heap->J.go i H->
  wpAny (model P w) X.A (pyNext (.ref it)) (λr s1=>∃u,r=some u/\
   wpAny (model P w) X.A (letOwnedTupleGo tg (.ref it) u) (λ_ s2=>∃x H',Inv X pins σ H' s2/\RelV x u/\J.yld i H x H'/\tn (i+1) s2.heap/\∀b∈fp,H' b=none) E s1) E s
 done:∀(X:Cx),X.prog=P->X.w=w->X.K=K->X.calm=true->∀(i:Nat)(pins:List (Addr×Obj))(s:Shared)(σ:St)(H:Hp)(E:Value->Shared->Prop),Inv X pins σ H s->(∀b∈fp,FpOk X pins H b)->tn i s.heap->J.stop i H->
  wpAny (model P w) X.A (pyNext (.ref it)) (λr s1=>r=none/\Inv X pins σ H s1) E s
 self:∀(A:Around)(i:Nat)(s:Shared)(Q:Value->Shared->Prop)(E:Value->Shared->Prop),tn i s.heap->Q (.ref it) s->wpAny (model P w) A (pyIter (.ref it)) Q E s
noncomputable abbrev TI:=St->Hp->(It->Hp->Prop)->Prop
noncomputable def PIE(X:Cx)(pins:List (Addr×Obj))(σ:St)(tg:Expr)(R:It->Hp->Prop)(itv:Value)(s2:Shared):Prop:=
 ∃(it:Addr) (fp:List Addr) (tn:Nat->Heap->Prop) (J:It) (H':Hp),itv=.ref it/\Inv X pins σ H' s2/\Turn X.prog X.w X.K tg J fp it tn/\tn 0 s2.heap/\(∀b∈fp,FpOk X pins H' b)/\R J H'
noncomputable def PI(X:Cx)(tg iter:Expr)(wi:TI):Prop:=
 ∀(pins:List (Addr×Obj))(s:Shared)(σ:St)(H:Hp)(R:It->Hp->Prop),Inv X pins σ H s->wi σ H R->
  wpAny (model X.prog X.w) X.A (eval iter X.env) (λv s1=>wpAny (model X.prog X.w) X.A (pyIter v) (PIE X pins σ tg R) X.xe s1) X.xe s
theorem go_of{M:Model}{A:Around}{E:Value->Shared->Prop}{s:Shared}{tg:Expr}{it:Addr}{u:Value}{o:Obj}{n:String}{vs:Array Value}{Q:Unit->Shared->Prop}(ho:s.heap.get? it=some o)(hc:o.cls=.type n)(hd:o.data=.fields vs)
 (hn:["enumerate","zip","dict_itemiterator","dict_reverseitemiterator","odict_iterator","itertools.zip_longest","itertools.pairwise"].contains n=false) (hQ:Q () s):wpAny M A (letOwnedTupleGo tg (.ref it) u) Q E s:=by
 unfold letOwnedTupleGo
 cases tg<;>first
  |exact vag hQ
  |(cases u<;>first
     |exact vag hQ
     |(refine vab (wpAny_load ho ?_)
       rw[hc,hd]
       show wpAny M A (if(["enumerate","zip","dict_itemiterator","dict_reverseitemiterator","odict_iterator","itertools.zip_longest","itertools.pairwise"].contains n&&vs[0]? == some (rawInt _))=true then _ else _) Q E s
       rw[if_neg (by intro h;rw[hn,vdb]at h;cases h)]
       exact vag hQ))
noncomputable def Itl(K:vga)(a:Addr):It:=
 ⟨λi H=>∃xs x,SqL K H a xs/\xs[i]?=some x,λi H x H'=>H'=H/\∀xs,SqL K H a xs->xs[i]?=some x,λi H=>∃xs,SqL K H a xs/\xs.length<=i⟩
noncomputable def Itt(K:vga)(a:Addr):It:=
 ⟨λi H=>∃xs x,SqT K H a xs/\xs[i]?=some x,λi H x H'=>H'=H/\∀xs,SqT K H a xs->xs[i]?=some x,λi H=>∃xs,SqT K H a xs/\xs.length<=i⟩
noncomputable def Itr(lo:Int)(n:Nat):It:=⟨λi _=>i<n,λi H x H'=>H'=H/\x=.int (lo+i),λi _=>n<=i⟩
theorem zla{P:Program}{w:World}{K:vga}{tg:Expr}(a it:Addr):Turn P w K tg (Itl K a) [it] it (λi h=>h.IsListIter it a i)where
 mem:=by simp
 obj:=λi h st b hb=>by
  have e:b=it:=by simpa using hb
  subst e
  obtain⟨o,e,c,d⟩:=st
  exact⟨o,e,λv z=>by rw[d]at z;cases z⟩
 keep:=λi h h' st k=>st.at λo e=>k it (by simp) o e
 item:=by
  intro X hP hw hK hc i pins s σ H E I hf st hg
  subst hP hw hK
  obtain⟨xs,x,hq,hx⟩:=hg
  obtain⟨its,rv,p,hz⟩:=I.list hq
  obtain⟨u,hu,ru⟩:=rv.get hx
  obtain⟨f0,f1,f2,f3,f4,f5⟩:=hf it (by simp)
  refine wpAny_pyNext_list_item st p.isList (x:=u) (by simpa using hu) λh' st' sb=>?_
  have I1:Inv X pins σ H {s with heap:=h'}:=I.turned (t':=s.toks) (λb o hb e=>(sb.2 b hb).trans e) f0 f1 f3 f4 f5
  obtain⟨o,e,c,d⟩:=id st'
  exact⟨u,rfl,go_of (s:={s with heap:=h'}) e c d (by decide) ⟨x,H,I1,ru,⟨rfl,λys hy=>by rw[I.list_inj hy hq];exact hx⟩,st',λb hb=>(hf b hb).1⟩⟩
 done:=by
  intro X hP hw hK hc i pins s σ H E I hf st hg
  subst hP hw hK
  obtain⟨xs,hq,hx⟩:=hg
  obtain⟨its,rv,p,hz⟩:=I.list hq
  obtain⟨f0,f1,f2,f3,f4,f5⟩:=hf it (by simp)
  have hl:=rv.length
  exact wpAny_pyNext_list_end (I.ok.hd hc) st p.isList (by simp;omega) λh' eb=>⟨rfl,I.turned (t':=s.toks) (λb o hb e=>eb b o hb e) f0 f1 f3 f4 f5⟩
 self:=λ_ _ _ _ _ st h=>wpAny_pyIter_listiter st h
theorem zkb{P:Program}{w:World}{K:vga}{tg:Expr}(a it:Addr):Turn P w K tg (Itt K a) [it] it (λi h=>h.IsTupleIter it a i)where
 mem:=by simp
 obj:=λi h st b hb=>by
  have e:b=it:=by simpa using hb
  subst e
  obtain⟨o,e,c,d⟩:=st
  exact⟨o,e,λv z=>by rw[d]at z;cases z⟩
 keep:=λi h h' st k=>st.at λo e=>k it (by simp) o e
 item:=by
  intro X hP hw hK hc i pins s σ H E I hf st hg
  subst hP hw hK
  obtain⟨xs,x,hq,hx⟩:=hg
  obtain⟨its,rv,p,hz⟩:=I.tuple hq
  obtain⟨u,hu,ru⟩:=rv.get hx
  obtain⟨f0,f1,f2,f3,f4,f5⟩:=hf it (by simp)
  refine wpAny_pyNext_tuple_item st (show s.heap.IsTuple a its.toArray from p) (x:=u) (by simpa using hu) λh' st' sb=>?_
  have I1:Inv X pins σ H {s with heap:=h'}:=I.turned (t':=s.toks) (λb o hb e=>(sb.2 b hb).trans e) f0 f1 f3 f4 f5
  obtain⟨o,e,c,d⟩:=id st'
  exact⟨u,rfl,go_of (s:={s with heap:=h'}) e c d (by decide) ⟨x,H,I1,ru,⟨rfl,λys hy=>by rw[I.tuple_inj hy hq];exact hx⟩,st',λb hb=>(hf b hb).1⟩⟩
 done:=by
  intro X hP hw hK hc i pins s σ H E I hf st hg
  subst hP hw hK
  obtain⟨xs,hq,hx⟩:=hg
  obtain⟨its,rv,p,hz⟩:=I.tuple hq
  obtain⟨f0,f1,f2,f3,f4,f5⟩:=hf it (by simp)
  have hl:=rv.length
  exact wpAny_pyNext_tuple_end (I.ok.hd hc) st (show s.heap.IsTuple a its.toArray from p) (by simp;omega) λh' eb=>⟨rfl,I.turned (t':=s.toks) (λb o hb e=>eb b o hb e) f0 f1 f3 f4 f5⟩
 self:=λ_ _ _ _ _ st h=>wpAny_pyIter_tupleiter st h
theorem zkc{P:Program}{w:World}{K:vga}{tg:Expr}(it:Addr)(lo:Int)(n:Nat):Turn P w K tg (Itr lo n) [it] it (λi h=>IsRangeIter h it (lo+ (i:Nat)*1) ((n:Int)- (i:Nat)) 1)where
 mem:=by simp
 obj:=λi h st b hb=>by
  have e:b=it:=by simpa using hb
  subst e
  exact⟨_,st,λv z=>by
   have z':Data.fields _=Data.cell v:=z
   cases z'⟩
 keep:=λi h h' st k=>k it (by simp) _ st
 item:=by
  intro X hP hw hK hc i pins s σ H E I hf st hg
  subst hP hw hK
  obtain⟨f0,f1,f2,f3,f4,f5⟩:=hf it (by simp)
  have W:=Walks.range (prog:=X.prog) (w:=X.w) (I.ok.hd hc) it lo 1 n
  refine W.item i s _ _ hg st λv h' tk hv st' kk=>?_
  obtain⟨t,rfl⟩:=hv
  have I1:Inv X pins σ H {s with heap:=h',toks:=tk}:=I.turned (λb o hb e=>kk b o (by simpa using hb) e) f0 f1 f3 f4 f5
  refine⟨_,rfl,go_of (s:={s with heap:=h',toks:=tk}) (n:="range_iterator") st' rfl rfl (by decide) ⟨.int (lo+i),H,I1,⟨t,?_⟩,⟨rfl,rfl⟩,st',λb hb=>(hf b hb).1⟩⟩
  rw[Int.mul_one]
 done:=by
  intro X hP hw hK hc i pins s σ H E I hf st hg
  subst hP hw hK
  obtain⟨f0,f1,f2,f3,f4,f5⟩:=hf it (by simp)
  exact wpAny_pyNext_range_end (I.ok.hd hc) st (by have:n<=i:=hg;omega) λh' eb=>⟨rfl,I.turned (t':=s.toks) (λb o hb e=>eb b o hb e) f0 f1 f3 f4 f5⟩
 self:=λ_ _ _ _ _ st h=>wpAny_pyIter_rangeiter st h
section
variable{X:Cx}{tg:Expr}
noncomputable def iList(K:vga)(tl:TE):TI:=λσ H R=>tl σ H λx H1=>∃a,x=.ref a/\(∃xs,SqL K H1 a xs)/\R (Itl K a) H1
noncomputable def iTup(K:vga)(tl:TE):TI:=λσ H R=>tl σ H λx H1=>∃a,x=.ref a/\(∃xs,SqT K H1 a xs)/\R (Itt K a) H1
theorem zlb{l:Expr}{tl:TE}(hl:PE X l tl):PI X tg l (iList X.K tl):=by
 intro pins s σ H R I h
 refine thn (hl pins s σ H _ I h) λv s1 z9=>z9.el λx H1 I1 r1 q1=>?_
 obtain⟨a,e,⟨xs,hq⟩,q⟩:=q1
 subst e
 cases r1
 obtain⟨its,rv,p,hz⟩:=I1.list hq
 refine vc3 p.isList ?_
 refine⟨s1.heap.objs.size,[s1.heap.objs.size],_,_,H1,rfl,I1.kept (t':=s1.toks) λb o e=>vac _ e,zla a _,⟨_,vaz _ rfl,rfl,rfl⟩,λb hb=>?_,q⟩
 have e:b=s1.heap.objs.size:=by simpa using hb
 subst e
 exact I1.fpOk (vad _) (I1.hok.fresh (vad _))
theorem zup{l:Expr}{tl:TE}(hl:PE X l tl):PI X tg l (iTup X.K tl):=by
 intro pins s σ H R I h
 refine thn (hl pins s σ H _ I h) λv s1 z9=>z9.el λx H1 I1 r1 q1=>?_
 obtain⟨a,e,⟨xs,hq⟩,q⟩:=q1
 subst e
 cases r1
 obtain⟨its,rv,p,hz⟩:=I1.tuple hq
 refine vcq (show s1.heap.IsTuple a its.toArray from p) ?_
 refine⟨s1.heap.objs.size,[s1.heap.objs.size],_,_,H1,rfl,I1.kept (t':=s1.toks) λb o e=>vac _ e,zkb a _,⟨_,vaz _ rfl,rfl,rfl⟩,λb hb=>?_,q⟩
 have e:b=s1.heap.objs.size:=by simpa using hb
 subst e
 exact I1.fpOk (vad _) (I1.hok.fresh (vad _))
theorem zop{pins:List (Addr×Obj)}{σ:St}{H:Hp}{s:Shared}{R:It->Hp->Prop}{E:Value->Shared->Prop}{lo hi:Int}{t u v:Tok}{tk:Nat}(I:Inv X pins σ H s)(h1:-(2 ^ 62)<=lo)(h2:lo<2 ^ 62)(h3:-(2 ^ 62)<=hi)(h4:hi<2 ^ 62)
 (q:R (Itr lo (hi-lo).toNat) H):wpAny (model X.prog X.w) X.A (pyIter (.ref s.heap.objs.size)) (PIE X pins σ tg R) E {s with heap:=s.heap.push {cls:=.type "range",data:=.fields #[.int lo t,.int hi u,.int 1 v]},toks:=tk}:=by
 refine wpAny_pyIter_range (IsRange.new ..) (small_one h1 h2 h3 h4) ?_
 have I1:Inv X pins σ H {s with heap:=s.heap.push {cls:=.type "range",data:=.fields #[.int lo t,.int hi u,.int 1 v]},toks:=tk}:=I.kept λb o e=>vac _ e
 refine⟨(s.heap.push {cls:=.type "range",data:=.fields #[.int lo t,.int hi u,.int 1 v]}).objs.size,[(s.heap.push {cls:=.type "range",data:=.fields #[.int lo t,.int hi u,.int 1 v]}).objs.size],_,_,H,rfl,
  I1.kept (t':=tk) λb o e=>vac _ e,zkc _ lo (hi-lo).toNat,?_,λb hb=>?_,q⟩
 .have e1:lo+ ((0:Nat):Int)*1=lo:=by simp
  have e2:(((hi-lo).toNat:Nat):Int)- ((0:Nat):Int)=Builtin.Range.rangeSize lo hi 1:=by rw[rangeSize_one];split<;>omega
  show IsRangeIter _ _ (lo+ ((0:Nat):Int)*1) ((((hi-lo).toNat:Nat):Int)- ((0:Nat):Int)) 1
  rw[e1,e2]
  exact vaz _ rfl
 .have e:b=(s.heap.push {cls:=.type "range",data:=.fields #[.int lo t,.int hi u,.int 1 v]}).objs.size:=by simpa using hb
  subst e
  exact I1.fpOk (vad _) (I1.hok.fresh (vad _))
noncomputable def iRng1(ta:TA):TI:=λσ H R=>ta σ H λvs H1=>∃j:Int,vs=[.int j]/\-(2 ^ 62)<=j/\j<2 ^ 62/\R (Itr 0 j.toNat) H1
theorem zlc{a:Expr}{ta:TA}{p pos:Pos}(hg:Gl X "range")(hm:X.mg "range" = none)(ha:PA X [a] ta)(hs:starEach [a] X.env=[(false,eval a X.env)]:=by rfl):PI X tg (.Call (.Name "range" p) [a] [] pos) (iRng1 ta):=by
 intro pins s σ H R I h
 refine Call_ (ze3 I hg hm boot_range (vcu (thn (ha pos pins s σ H _ I h) λus s1 z9=>z9.el λvs H1 I1 r1 q1=>?_) hs rfl))
 obtain⟨j,e,q1,q2,q⟩:=q1
 subst e
 cases r1 with
 |cons r rr=>
  cases rr
  obtain⟨t,rfl⟩:=r
  exact call_range_1 (zop I1 (by omega) (by omega) q1 q2 (by simpa using q))
noncomputable def tFor(wi:TI)(g:TG)(tb:TS):TS:=λD σ H=>wi σ H λJ H1=>∃W:Nat->Nat->St->Hp->Prop,(∃m,W 0 m σ H1)/\∀i m σ H,W i m σ H->
 (J.stop i H/\D.nx σ H)\/(J.go i H/\∃N:St->Hp->Prop,(∀σ' H',N σ' H'->∃m',m'<m/\W (i+1) m' σ' H')/\∀x H',J.yld i H x H'->g x σ H' λσ2 H2=>tb {D with nx:=N,ct:=N,bk:=D.nx} σ2 H2)
noncomputable def zg2(fp:List Addr)(h:Heap):List (Addr×Obj):=fp.filterMap λb=>(h.get? b).map λo=>(b,o)
theorem zb0{fp:List Addr}{h:Heap}{b:Addr}{o:Obj}(hb:b∈fp)(e:h.get? b=some o):(b,o)∈zg2 fp h:=List.mem_filterMap.mpr ⟨b,hb,by rw[e];rfl⟩
theorem zld{fp:List Addr}{h:Heap}{p:Addr×Obj}(hp:p∈zg2 fp h):p.1∈fp/\h.get? p.1=some p.2:=by
 obtain⟨b,hb,e⟩:=List.mem_filterMap.mp hp
 cases q:h.get? b with
 |none=>rw[q]at e;cases e
 |some o=>
  rw[q]at e
  have e':(b,o)=p:=vb9 e
  subst e'
  exact⟨hb,q⟩
theorem Inv.pinned{pins:List (Addr×Obj)}{σ:St}{H:Hp}{s:Shared}{fp:List Addr}(I:Inv X pins σ H s)(hf:∀b∈fp,FpOk X pins H b)(ho:∀b∈fp,∃o,s.heap.get? b=some o/\∀v,o.data≠.cell v):Inv X (pins++zg2 fp s.heap) σ H s:=
 I.pins_of λp hp=>(vbl.mp hp).elim (λz=>I.pin p (vbf _ z)) λz=>by
  obtain⟨hb,e⟩:=zld z
  obtain⟨f0,f1,f2,_⟩:=hf p.1 hb
  obtain⟨o,e',d⟩:=ho p.1 hb
  rw[e]at e';cases e'
  exact⟨e,f0,f1,f2,d⟩
theorem Inv.unpinned{pins pl:List (Addr×Obj)}{σ:St}{H:Hp}{s:Shared}(I:Inv X (pins++pl) σ H s):Inv X pins σ H s:=I.pins_of λp hp=>I.pin p (vbf _ (List.mem_append_left _ hp))
theorem zuq{iter:Expr}{body:List Stmt}{wi:TI}{g:TG}{tb:TS}{pos:Pos}(hp:PassesOwn (model X.prog X.w) X.A X.env X.xe)(hc:X.calm=true)(hi:PI X tg iter wi)(hg:PG X tg g)(hb:PSs X body tb)
 (hs:∀x,foldedSetIterable iter X.env x=pure x:=by intro _;rfl):PS X (.For tg iter body [] pos) (tFor wi g tb):=by
 intro pins s σ H D I h
 refine wpAny_For (thn (hi pins s σ H _ I h) λv s1 h1=>thn h1 λitv s2 h2=>?_) hs
 obtain⟨it,fp,tn,J,H2,e,I2,T,st2,f2,W,⟨m0,w0⟩,turn⟩:=h2
 subst e
 have stat:∀{H':Hp},(∀b∈fp,H' b=none)->∀b∈fp,FpOk X pins H' b:=λhn b hb=>⟨hn b hb,(f2 b hb).2⟩
 refine codeAny_forLoop_any (λn s'=>∃i σ' H',Inv X pins σ' H' s'/\tn i s'.heap/\(∀b∈fp,H' b=none)/\W i n σ' H') ?_ m0 ⟨0,σ,H2,I2,st2,λb hb=>(f2 b hb).1,w0⟩
 rintro n s3 ⟨i,σ3,H3,I3,st3,fr3,w3⟩
 rcases turn i n σ3 H3 w3 with⟨stop,qn⟩|⟨go,N,hN,step⟩
 .refine vc2 hp (thn (T.done X rfl rfl rfl hc i pins s3 σ3 H3 X.xe I3 (stat fr3) st3 stop) λr s4 hq0=>?_)
  obtain⟨hr,I4⟩:=hq0
  subst hr
  exact vdf ⟨σ3,H3,I4,qn⟩
 .refine vc2 hp (thn (T.item X rfl rfl rfl hc i pins s3 σ3 H3 X.xe I3 (stat fr3) st3 go) λr s4 hq0=>?_)
  obtain⟨u,hr,h4⟩:=hq0
  subst hr
  refine vc2 hp (thn h4 λ_ s5 hq0=>?_)
  obtain⟨x,H5,I5,r5,y5,st5,fr5⟩:=hq0
  have I5':=I5.pinned (stat fr5) (T.obj _ _ st5)
  refine vc2 hp (thn (hg _ s5 σ3 H5 x u _ I5' r5 (step x H5 y5)) λ_ s6 hq0=>?_)
  obtain⟨σ6,H6,I6,q6⟩:=hq0
  refine vc2 hp (thn (hb _ s6 σ6 H6 _ I6 q6) λf s7 q7=>?_)
  have again:∀{σ7:St}{H7:Hp},Inv X (pins++zg2 fp s5.heap) σ7 H7 s7->N σ7 H7->∃m,m<n/\∃i σ' H',Inv X pins σ' H' s7/\tn i s7.heap/\(∀b∈fp,H' b=none)/\W i m σ' H':=λ{σ7 H7} I7 n7=>by
   obtain⟨m',hm,w7⟩:=hN σ7 H7 n7
   refine⟨m',hm,i+1,σ7,H7,I7.unpinned,T.keep _ _ _ st5 λb hb o e=>(I7.pin (b,o) (vbf _ (vbf _ (zb0 hb e)))).1,λb hb=>?_,w7⟩
   obtain⟨o,e,d⟩:=T.obj _ _ st5 b hb
   exact(I7.pin (b,o) (vbf _ (vbf _ (zb0 hb e)))).2.1
  cases f with
  |next=>obtain⟨σ7,H7,I7,n7⟩:=q7;exact again I7 n7
  |cont=>obtain⟨σ7,H7,I7,n7⟩:=q7;exact again I7 n7
  |brk=>obtain⟨σ7,H7,I7,q7⟩:=q7;exact⟨σ7,H7,I7.unpinned,q7⟩
  |ret v=>obtain⟨x7,σ7,H7,I7,r7,q7⟩:=q7;exact⟨x7,σ7,H7,I7.unpinned,r7,q7⟩
end
noncomputable abbrev R2:=V->V->Hp->VK->Prop
noncomputable def OpR(X:Cx)(f:Value->Value->Sem Value)(r:R2):Prop:=
 ∀(pins:List (Addr×Obj))(s:Shared)(σ:St)(H:Hp)(x y:V)(v u:Value)(Q:VK),Inv X pins σ H s->RelV x v->RelV y u->r x y H Q->
  wpAny (model X.prog X.w) X.A (f v u) (EP X pins σ Q) X.xe s
noncomputable def UnR(X:Cx)(f:Value->Sem Value)(r:V->Hp->VK->Prop):Prop:=
 ∀(pins:List (Addr×Obj))(s:Shared)(σ:St)(H:Hp)(x:V)(v:Value)(Q:VK),Inv X pins σ H s->RelV x v->r x H Q->
  wpAny (model X.prog X.w) X.A (f v) (EP X pins σ Q) X.xe s
noncomputable def CallR(X:Cx)(f:Value)(r:List V->Hp->VK->Prop):Prop:=
 ∀(pins:List (Addr×Obj))(s:Shared)(σ:St)(H:Hp)(xs:List V)(us:List Value)(Q:VK),Inv X pins σ H s->Vals xs us->r xs H Q->
  wpAny (model X.prog X.w) X.A (call f us) (EP X pins σ Q) X.xe s
noncomputable def TruR(X:Cx)(r:V->Hp->(Bool->Hp->Prop)->Prop):Prop:=
 ∀(pins:List (Addr×Obj))(s:Shared)(σ:St)(H:Hp)(x:V)(v:Value)(Q:Bool->Hp->Prop),Inv X pins σ H s->RelV x v->r x H Q->
  wpAny (model X.prog X.w) X.A (truthy v) (TP X pins σ Q) X.xe s
noncomputable def tOp(r:R2)(ta tb:TE):TE:=λσ H Q=>ta σ H λx H1=>tb σ H1 λy H2=>r x y H2 Q
noncomputable def tUn(r:V->Hp->VK->Prop)(ta:TE):TE:=λσ H Q=>ta σ H λx H1=>r x H1 Q
noncomputable def rI(C:Int->Int->Prop)(g:Int->Int->V):R2:=λx y H Q=>∃i j,x=.int i/\y=.int j/\C i j/\Q (g i j) H
noncomputable def rI0(g:Int->Int->V):R2:=λx y H Q=>∃i j,x=.int i/\y=.int j/\Q (g i j) H
noncomputable def rU(g:Int->V):V->Hp->VK->Prop:=λx H Q=>∃i,x=.int i/\Q (g i) H
section
variable{X:Cx}{a b c:Expr}{ta tb tc:TE}{pos:Pos}
theorem binT(ha:PE X a ta)(hb:PE X b tb){pins:List (Addr×Obj)}{s:Shared}{σ:St}{H:Hp}{R:V->V->Hp->Prop}(I:Inv X pins σ H s)
 (h:ta σ H λx H1=>tb σ H1 λy H2=>R x y H2) {Q:Value->Shared->Prop} {f:Value->Value->Sem Value}
 (hf:∀v u s2 x y H2,Inv X pins σ H2 s2->RelV x v->RelV y u->R x y H2->wpAny (model X.prog X.w) X.A (f v u) Q X.xe s2) :
 wpAny (model X.prog X.w) X.A (eval a X.env) (λv s₁=>wpAny (model X.prog X.w) X.A (eval b X.env) (λu s₂=>wpAny (model X.prog X.w) X.A (f v u) Q X.xe s₂) X.xe s₁) X.xe s:=by
 refine thn (ha pins s σ H _ I h) λv s1 z9=>z9.el λx H1 I1 r1 q1=>?_
 refine thn (hb pins s1 σ H1 _ I1 q1) λu s2 z9=>z9.el λy H2 I2 r2 q2=>?_
 exact hf v u s2 x y H2 I2 r1 r2 q2
theorem pe_op{op:Operator}{r:R2}(ho:OpR X (binaryOp op) r)(ha:PE X a ta)(hb:PE X b tb):PE X (.BinOp a op b pos) (tOp r ta tb):=by
 intro pins s σ H Q I h
 exact wpAny_BinOp (binT ha hb I h λv u s2 x y H2 I2 rx ry q=>ho pins s2 σ H2 x y v u Q I2 rx ry q)
theorem pe_un{op:UnaryOp}{r:V->Hp->VK->Prop}(ho:UnR X (unaryOp op) r)(ha:PE X a ta):PE X (.UnaryOp op a pos) (tUn r ta):=by
 intro pins s σ H Q I h
 exact UnaryOp_ (thn (ha pins s σ H _ I h) λv s1 z9=>z9.el λx H1 I1 r1 q1=>ho pins s1 σ H1 x v Q I1 r1 q1)
theorem opI{f:Value->Value->Sem Value}{C:Int->Int->Prop}{g:Int->Int->Int}
 (rule:∀(i j:Int)(t u:Tok)(s:Shared)(Q:Value->Shared->Prop)(E:Value->Shared->Prop),C i j->Q (.int (g i j) s.toks) {s with toks:=s.toks+1}->wpAny (model X.prog X.w) X.A (f (.int i t) (.int j u)) Q E s) :
 OpR X f (rI C λi j=>.int (g i j)):=by
 intro pins s σ H x y v u Q I rx ry h
 obtain⟨i,j,rfl,rfl,hc,q⟩:=h
 obtain⟨t,rfl⟩:=rx
 obtain⟨t',rfl⟩:=ry
 exact rule i j t t' s _ _ hc ⟨.int (g i j),H,I.tok _,⟨_,rfl⟩,q⟩
theorem opI0{f:Value->Value->Sem Value}{g:Int->Int->Int}
 (rule:∀(i j:Int)(t u:Tok)(s:Shared)(Q:Value->Shared->Prop)(E:Value->Shared->Prop),Q (.int (g i j) s.toks) {s with toks:=s.toks+1}->wpAny (model X.prog X.w) X.A (f (.int i t) (.int j u)) Q E s) :
 OpR X f (rI0 λi j=>.int (g i j)):=by
 intro pins s σ H x y v u Q I rx ry h
 obtain⟨i,j,rfl,rfl,q⟩:=h
 obtain⟨t,rfl⟩:=rx
 obtain⟨t',rfl⟩:=ry
 exact rule i j t t' s _ _ ⟨.int (g i j),H,I.tok _,⟨_,rfl⟩,q⟩
theorem opB0{f:Value->Value->Sem Value}{g:Int->Int->Bool}
 (rule:∀(i j:Int)(t u:Tok)(s:Shared)(Q:Value->Shared->Prop)(E:Value->Shared->Prop),Q (.bool (g i j)) s->wpAny (model X.prog X.w) X.A (f (.int i t) (.int j u)) Q E s) :
 OpR X f (rI0 λi j=>.bl (g i j)):=by
 intro pins s σ H x y v u Q I rx ry h
 obtain⟨i,j,rfl,rfl,q⟩:=h
 obtain⟨t,rfl⟩:=rx
 obtain⟨t',rfl⟩:=ry
 exact rule i j t t' s _ _ ⟨.bl (g i j),H,I,rfl,q⟩
noncomputable def CDiv(i j:Int):Prop:=0<j/\j<1073741824
noncomputable def CPow(i j:Int):Prop:=0<=j/\j<=1000000/\i.natAbs<2 ^ 64
noncomputable def CMul(i j:Int):Prop:=(-(2 ^ 64)<i/\i<2 ^ 64)\/(-(2 ^ 64)<j/\j<2 ^ 64)
theorem CMul.ok{i j:Int}(h:CMul i j):IntMulOk i j:=by
 rcases h with⟨h1,h2⟩|⟨h1,h2⟩
 .exact .of_left (intBits_le_64 h1 h2)
 .exact .of_right (intBits_le_64 h1 h2)
theorem zur:OpR X (binaryOp .Add) (rI0 λi j=>.int (i+j)):=opI0 λ_ _ _ _ _ _ _ q=>add_int q
theorem zus:OpR X (binaryOp .Sub) (rI0 λi j=>.int (i-j)):=opI0 λ_ _ _ _ _ _ _ q=>sub_int q
theorem zut:OpR X (binaryOp .Mult) (rI CMul λi j=>.int (i*j)):=opI λ_ _ _ _ _ _ _ hc q=>mul_int q hc.ok
theorem zr0:OpR X (binaryOp .FloorDiv) (rI CDiv λi j=>.int (i/j)):=opI λi j _ _ _ _ _ hc q=>by
 have h1:(0:Int)<j:=hc.1
 have h2:j<1073741824:=hc.2
 exact floordiv_int (by omega) (by rw[Int.fdiv_eq_ediv_of_nonneg i (by omega)];exact q) (.inl (PyProof.noPylong_small (by omega)))
theorem zuu:OpR X (binaryOp .Mod) (rI (λ_ j=>0<j) λi j=>.int (i % j)):=opI λi j _ _ _ _ _ hc q=>by
 have h1:(0:Int)<j:=hc
 exact mod_int' (by omega) (by rw[Int.fmod_eq_emod_of_nonneg i (by omega)];exact q)
theorem zuv:OpR X (binaryOp .Pow) (rI CPow λi j=>.int (i ^ j.toNat)):=opI λ_ _ _ _ _ _ _ hc q=>pow_int_small hc.1 hc.2.1 hc.2.2 q
theorem zr1:OpR X (inplaceOp .Mult) (rI CMul λi j=>.int (i*j)):=opI λ_ _ _ _ _ _ _ hc q=>imul_int q hc.ok
theorem zoq:OpR X (inplaceOp .FloorDiv) (rI CDiv λi j=>.int (i/j)):=opI λi j _ _ _ _ _ hc q=>by
 have h1:(0:Int)<j:=hc.1
 have h2:j<1073741824:=hc.2
 exact ifloordiv_int (by omega) (by rw[Int.fdiv_eq_ediv_of_nonneg i (by omega)];exact q) (.inl (PyProof.noPylong_small (by omega)))
theorem unI{f:Value->Sem Value}{g:Int->Int}
 (rule:∀(i:Int)(t:Tok)(s:Shared)(Q:Value->Shared->Prop)(E:Value->Shared->Prop),Q (.int (g i) s.toks) {s with toks:=s.toks+1}->wpAny (model X.prog X.w) X.A (f (.int i t)) Q E s) :
 UnR X f (rU λi=>.int (g i)):=by
 intro pins s σ H x v Q I rx h
 obtain⟨i,rfl,q⟩:=h
 obtain⟨t,rfl⟩:=rx
 exact rule i t s _ _ ⟨.int (g i),H,I.tok _,⟨_,rfl⟩,q⟩
theorem zuw:UnR X (unaryOp .USub) (rU λi=>.int (-i)):=unI λ_ _ _ _ _ q=>neg_int q
end
noncomputable def scal:V->V->Bool
 |.non,.non=>true|.non,.int _=>true|.int _,.non=>true|.non,.bl _=>true|.bl _,.non=>true|.non,.str _=>true|.str _,.non=>true
 |.int _,.int _=>true|.bl _,.bl _=>true|.str _,.str _=>true|.byt _,.byt _=>true
 |.int _,.str _=>true|.str _,.int _=>true|.bl _,.str _=>true|.str _,.bl _=>true
 |_,_=>false
noncomputable def rEq:R2:=λx y H Q=>scal x y=true/\Q (.bl (decide (x=y))) H
noncomputable def rNe:R2:=λx y H Q=>scal x y=true/\Q (.bl (!decide (x=y))) H
theorem zle{i j:Int}:decide (V.int i=V.int j)=(i==j):=by
 rw[vdv]
 simp
theorem zqo{i j:Bool}:decide (V.bl i=V.bl j)=(i==j):=by
 rw[vdv]
 simp
theorem zlf{i j:Str}:decide (V.str i=V.str j)=(i==j):=by
 rw[vdv]
 simp
theorem zlg{i j:Array UInt8}:decide (V.byt i=V.byt j)=(i.toList==j.toList):=by
 rw[vdv]
 cases i
 cases j
 simp
section
variable{X:Cx}{a b c:Expr}{ta tb tc:TE}{pos:Pos}
theorem zar{pins:List (Addr×Obj)}{σ:St}{H:Hp}{s:Shared}{Q:VK}{k k':Bool}(I:Inv X pins σ H s)(q:Q (.bl k) H)(e:k=k'):EP X pins σ Q (.bool k') s:=by
 subst e
 exact⟨.bl k,H,I,rfl,q⟩
theorem op_eq:OpR X (compareOp .Eq) rEq:=by
 intro pins s σ H x y v u Q I rx ry h
 obtain⟨hs,q⟩:=h
 cases x with
 |non=>
  cases rx
  cases y with
  |non=>cases ry;exact PySem.EqNone.eq_none_none (zar I q (by simp))
  |bl j=>cases ry;exact PySem.EqNone.eq_none_bool (zar I q (by simp))
  |int j=>obtain⟨t',rfl⟩:=ry;exact PySem.EqNone.eq_none_int (zar I q (by simp))
  |str j=>obtain⟨t',rfl⟩:=ry;exact PySem.EqNone.eq_none_str (zar I q (by simp))
  |_=>exact absurd (show false=true from hs) va3
 |bl i=>
  cases rx
  cases y with
  |non=>cases ry;exact PySem.EqNone.eq_bool_none (zar I q (by simp))
  |bl j=>cases ry;exact eq_bool (zar I q zqo)
  |str j=>obtain⟨t',rfl⟩:=ry;exact PySem.EqMixed.eq_bool_str (zar I q (by simp))
  |_=>exact absurd (show false=true from hs) va3
 |int i=>
  obtain⟨t,rfl⟩:=rx
  cases y with
  |non=>cases ry;exact PySem.EqNone.eq_int_none (zar I q (by simp))
  |int j=>obtain⟨t',rfl⟩:=ry;exact eq_int (zar I q zle)
  |str j=>obtain⟨t',rfl⟩:=ry;exact PySem.EqMixed.eq_int_str (zar I q (by simp))
  |_=>exact absurd (show false=true from hs) va3
 |str i=>
  obtain⟨t,rfl⟩:=rx
  cases y with
  |non=>cases ry;exact PySem.EqNone.eq_str_none (zar I q (by simp))
  |bl j=>cases ry;exact PySem.EqMixed.eq_str_bool (zar I q (by simp))
  |int j=>obtain⟨t',rfl⟩:=ry;exact PySem.EqMixed.eq_str_int (zar I q (by simp))
  |str j=>obtain⟨t',rfl⟩:=ry;exact eq_str (zar I q zlf)
  |_=>exact absurd (show false=true from hs) va3
 |byt i=>
  obtain⟨t,rfl⟩:=rx
  cases y with
  |byt j=>obtain⟨t',rfl⟩:=ry;exact PySem.W.eq_bytes (zar I q zlg)
  |_=>exact absurd (show false=true from hs) va3
 |_=>cases y<;>exact absurd (show false=true from hs) va3
theorem op_ne:OpR X (compareOp .NotEq) rNe:=by
 intro pins s σ H x y v u Q I rx ry h
 obtain⟨hs,q⟩:=h
 cases x with
 |non=>
  cases rx
  cases y with
  |non=>cases ry;exact PySem.EqNone.ne_none_none (zar I q (by simp))
  |bl j=>cases ry;exact PySem.EqNone.ne_none_bool (zar I q (by simp))
  |int j=>obtain⟨t',rfl⟩:=ry;exact PySem.EqNone.ne_none_int (zar I q (by simp))
  |str j=>obtain⟨t',rfl⟩:=ry;exact PySem.EqNone.ne_none_str (zar I q (by simp))
  |_=>exact absurd (show false=true from hs) va3
 |bl i=>
  cases rx
  cases y with
  |non=>cases ry;exact PySem.EqNone.ne_bool_none (zar I q (by simp))
  |bl j=>cases ry;exact ne_bool (zar I q (vdn not zqo))
  |str j=>obtain⟨t',rfl⟩:=ry;exact PySem.EqMixed.ne_bool_str (zar I q (by simp))
  |_=>exact absurd (show false=true from hs) va3
 |int i=>
  obtain⟨t,rfl⟩:=rx
  cases y with
  |non=>cases ry;exact PySem.EqNone.ne_int_none (zar I q (by simp))
  |int j=>obtain⟨t',rfl⟩:=ry;exact ne_int (zar I q (vdn not zle))
  |str j=>obtain⟨t',rfl⟩:=ry;exact PySem.EqMixed.ne_int_str (zar I q (by simp))
  |_=>exact absurd (show false=true from hs) va3
 |str i=>
  obtain⟨t,rfl⟩:=rx
  cases y with
  |non=>cases ry;exact PySem.EqNone.ne_str_none (zar I q (by simp))
  |bl j=>cases ry;exact PySem.EqMixed.ne_str_bool (zar I q (by simp))
  |int j=>obtain⟨t',rfl⟩:=ry;exact PySem.EqMixed.ne_str_int (zar I q (by simp))
  |str j=>obtain⟨t',rfl⟩:=ry;exact ne_str (zar I q (vdn not zlf))
  |_=>exact absurd (show false=true from hs) va3
 |byt i=>
  obtain⟨t,rfl⟩:=rx
  cases y with
  |byt j=>obtain⟨t',rfl⟩:=ry;exact PySem.W.ne_bytes (zar I q (vdn not zlg))
  |_=>exact absurd (show false=true from hs) va3
 |_=>cases y<;>exact absurd (show false=true from hs) va3
theorem op_lt:OpR X (compareOp .Lt) (rI0 λi j=>.bl (decide (i<j))):=opB0 λ_ _ _ _ _ _ _ q=>lt_int q
theorem op_le:OpR X (compareOp .LtE) (rI0 λi j=>.bl (decide (i<=j))):=opB0 λ_ _ _ _ _ _ _ q=>le_int q
theorem op_gt:OpR X (compareOp .Gt) (rI0 λi j=>.bl (decide (j<i))):=opB0 λ_ _ _ _ _ _ _ q=>gt_int q
theorem op_ge:OpR X (compareOp .GtE) (rI0 λi j=>.bl (decide (j<=i))):=opB0 λ_ _ _ _ _ _ _ q=>ge_int q
theorem zux:OpR X (compareOp .Is) (λx y H Q=>y=.non/\Q (.bl (decide (x=.non))) H):=by
 intro pins s σ H x y v u Q I rx ry h
 obtain⟨rfl,q⟩:=h
 cases ry
 refine is_none_gen (zar I q ?_)
 cases x<;>first
  |(cases rx;rfl)
  |(obtain⟨t,rfl⟩:=rx;rfl)
theorem zr2:OpR X (compareOp .IsNot) (λx y H Q=>y=.non/\Q (.bl (!decide (x=.non))) H):=by
 intro pins s σ H x y v u Q I rx ry h
 obtain⟨rfl,q⟩:=h
 cases ry
 refine isnot_none_gen (zar I q ?_)
 cases x<;>first
  |(cases rx;rfl)
  |(obtain⟨t,rfl⟩:=rx;rfl)
theorem OpR.or{f:Value->Value->Sem Value}{r r':R2}(h:OpR X f r)(h':OpR X f r'):OpR X f (λx y H Q=>r x y H Q\/r' x y H Q):=by
 intro pins s σ H x y v u Q I rx ry q
 rcases q with q|q
 .exact h pins s σ H x y v u Q I rx ry q
 .exact h' pins s σ H x y v u Q I rx ry q
theorem zlh{op:CmpOp}{r:R2}(ho:OpR X (compareOp op) r)(ha:PE X a ta)(hb:PE X b tb)(hm:behindInMarks op b=false):PE X (.Compare a [op] [b] pos) (tOp r ta tb):=by
 intro pins s σ H Q I h
 exact wpAny_Compare1 (binT ha hb I h λv u s2 x y H2 I2 rx ry q=>ho pins s2 σ H2 x y v u Q I2 rx ry q) hm
noncomputable def tTest(t:TE):TT:=λσ H Q=>t σ H λx H'=>∃k,x=.bl k/\Q k H'
theorem zli{op:CmpOp}{r:R2}(ho:OpR X (compareOp op) r)(ha:PE X a ta)(hb:PE X b tb)(hm:behindInMarks op b=false):PT X (.Compare a [op] [b] pos) (tTest (tOp r ta tb)):=by
 intro pins s σ H Q I h
 refine wpAny_isTrue_Compare1 (thn (ha pins s σ H _ I h) λv s1 z9=>z9.el λx H1 I1 r1 q1=>thn (hb pins s1 σ H1 _ I1 q1) λu s2 z9=>z9.el λy H2 I2 r2 q2=>
  thn (ho pins s2 σ H2 x y v u _ I2 r1 r2 q2) λc s3 z9=>z9.el λz H3 I3 r3 ⟨k,e,q3⟩=>?_) hm
 subst e
 cases r3
 exact vb2 ⟨H3,I3,q3⟩
noncomputable def zlj(r r':R2)(ta tb tc:TE):TE:=λσ H Q=>ta σ H λx H1=>tb σ H1 λy H2=>r x y H2 λz H3=>∃k,z=.bl k/\
 (if k=true then tc σ H3 λw' H4=>r' y w' H4 Q else Q (.bl false) H3)
theorem zor{op op':CmpOp}{r r':R2}(ho:OpR X (compareOp op) r)(ho':OpR X (compareOp op') r')(ha:PE X a ta)(hb:PE X b tb)(hc:PE X c tc)
 (hm:lastMarks [op,op'] [b,c]=false:=by with_unfolding_all rfl):PE X (.Compare a [op,op'] [b,c] pos) (zlj r r' ta tb tc):=by
 intro pins s σ H Q I h
 refine Compare_chain (thn (ha pins s σ H _ I h) λv s1 z9=>z9.el λx H1 I1 r1 q1=>chain_link (thn (hb pins s1 σ H1 _ I1 q1) λu s2 z9=>z9.el λy H2 I2 r2 q2=>
  thn (ho pins s2 σ H2 x y v u _ I2 r1 r2 q2) λd s3 z9=>z9.el λz H3 I3 r3 ⟨k,e,q3⟩=>?_)) hm
 subst e
 cases r3
 refine vb2 ?_
 cases k with
 |false=>exact ite_ff ⟨.bl false,H3,I3,rfl,q3⟩
 |true=>exact ite_tt (chain_last (thn (hc pins s3 σ H3 _ I3 q3) λw' s4 z9=>z9.el λz' H4 I4 r4 q4=>ho' pins s4 σ H4 y z' u w' Q I4 r2 r4 q4))
theorem zos{op op':CmpOp}{r r':R2}(ho:OpR X (compareOp op) r)(ho':OpR X (compareOp op') r')(ha:PE X a ta)(hb:PE X b tb)(hc:PE X c tc)
 (hm:lastMarks [op,op'] [b,c]=false:=by with_unfolding_all rfl):PT X (.Compare a [op,op'] [b,c] pos) (tTest (zlj r r' ta tb tc)):=by
 intro pins s σ H Q I h
 refine isTrue_chain (thn (ha pins s σ H _ I h) λv s1 z9=>z9.el λx H1 I1 r1 q1=>test_link (thn (hb pins s1 σ H1 _ I1 q1) λu s2 z9=>z9.el λy H2 I2 r2 q2=>
  thn (ho pins s2 σ H2 x y v u _ I2 r1 r2 q2) λd s3 z9=>z9.el λz H3 I3 r3 ⟨k,e,q3⟩=>?_)) hm
 subst e
 cases r3
 refine vb2 ?_
 cases k with
 |false=>
  obtain⟨k',e',q'⟩:=q3
  cases e'
  exact ite_ff ⟨H3,I3,q'⟩
 |true=>
  refine ite_tt (test_last (thn (hc pins s3 σ H3 _ I3 q3) λw' s4 z9=>z9.el λz' H4 I4 r4 q4=>thn (ho' pins s4 σ H4 y z' u w' _ I4 r2 r4 q4) λd' s5 z9=>z9.el λz2 H5 I5 r5 hq0=>?_))
  obtain⟨k2,e2,q5⟩:=hq0
  subst e2
  cases r5
  exact vb2 ⟨H5,I5,q5⟩
noncomputable def TruV(K:vga)(x:V)(H:Hp)(k:Bool):Prop:=
 match x with
 |.non=>k=false
 |.bl b=>k=b
 |.int i=>k=(i != 0)
 |.str y=>y.length<=sizeLine/\k=((y.length:Int) != 0)
 |.byt y=>y.size<=sizeLine/\k=((y.size:Int) != 0)
 |.ref p=>(∃xs,SqL K H p xs/\k=!xs.isEmpty)\/(∃xs,SqT K H p xs/\k=!xs.isEmpty)\/∃kvs,H p=some (.dK kvs)/\k=!kvs.isEmpty
 |_=>False
theorem zkd{κ:Type}{kvs:List (κ×V)}{vs:List (κ×Value)}(r:KV kvs vs):(!vs.isEmpty)=!kvs.isEmpty:=by
 cases r<;>rfl
theorem ze4{xs:List V}{its:List Value}(r:Vals xs its):(!its.toArray.isEmpty)=!xs.isEmpty:=by
 cases r<;>simp
theorem zg3:(sizeLine:Nat)<2 ^ 63:=by rw[vem];decide
theorem zuy:TruR X (λx H Q=>∃k,TruV X.K x H k/\Q k H):=by
 intro pins s σ H x v Q I rx h
 obtain⟨k,e,q⟩:=h
 have hl:=zg3
 have hs:sizeLine=16777216:=vem
 cases x with
 |non=>
  cases rx
  have e':k=false:=e
  subst e'
  exact truthy_none ⟨H,I,q⟩
 |bl b=>
  cases rx
  have e':k=b:=e
  subst e'
  exact vb2 ⟨H,I,q⟩
 |int i=>
  obtain⟨t,rfl⟩:=rx
  have e':k=(i != 0):=e
  subst e'
  exact PySem.P.truthy_int ⟨H,I,q⟩
 |str y=>
  obtain⟨t,rfl⟩:=rx
  obtain⟨hy,e'⟩:y.length<=sizeLine/\k=((y.length:Int) != 0):=e
  subst e'
  exact PySem.P.truthy_str (by omega) ⟨H,I.tok _,q⟩
 |byt y=>
  obtain⟨t,rfl⟩:=rx
  obtain⟨hy,e'⟩:y.size<=sizeLine/\k=((y.size:Int) != 0):=e
  subst e'
  exact PySem.W.truthy_bytes (by omega) ⟨H,I.tok _,q⟩
 |ref p=>
  cases rx
  have e':(∃xs,SqL X.K H p xs/\k=!xs.isEmpty)\/(∃xs,SqT X.K H p xs/\k=!xs.isEmpty)\/∃kvs,H p=some (.dK kvs)/\k=!kvs.isEmpty:=e
  rcases e' with⟨xs,hx,e'⟩|⟨xs,hx,e'⟩|⟨kvs,hx,e'⟩
  .subst e'
   obtain⟨its,r,pl,hz⟩:=I.list hx
   have hlen:=r.length
   exact wpAny_truthy_list pl.isList (by simp only[vah];omega) ⟨H,I.tok _,by rw[ze4 r];exact q⟩
  .subst e'
   obtain⟨its,r,pl,hz⟩:=I.tuple hx
   have hlen:=r.length
   exact truthy_tuple pl (by simp only[vah];omega) ⟨H,I.tok _,by rw[ze4 r];exact q⟩
  .subst e'
   obtain⟨hz,hS,vs,r,m⟩:kvs.length<=sizeLine/\(p==sysModules)=false/\∃vs,KV kvs vs/\s.heap.DictOf (zay X.prog X.w) p vs:=I.hok p _ hx
   have hlen:kvs.length=vs.length:=Paired.length r
   exact wpAny_truthy_dict hS m (by omega) ⟨H,I.tok _,by rw[zkd r];exact q⟩
 |_=>exact(show False from e).elim
theorem zot(ha:PE X a ta)(he:∀whole,isTrue a X.env whole=(do let v <-whole;standAt a.pos;holding [v] (truthy v))) :
 PT X a (λσ H Q=>ta σ H λx H'=>∃k,TruV X.K x H' k/\Q k H'):=by
 intro pins s σ H Q I h
 exact isTrue_plain (thn (ha pins s σ H _ I h) λv s1 z9=>z9.el λx H1 I1 r1 q1=>zuy pins s1 σ H1 x v Q I1 r1 q1) (he _)
theorem vals1{x:V}{us:List Value}(r:Vals [x] us):∃u,us=[u]/\RelV x u:=by
 cases r with
 |cons r1 r2=>cases r2;exact⟨_,rfl,r1⟩
theorem vals2{x y:V}{us:List Value}(r:Vals [x,y] us):∃u w',us=[u,w']/\RelV x u/\RelV y w':=by
 cases r with
 |cons r1 r2=>
  cases r2 with
  |cons r3 r4=>cases r4;exact⟨_,_,rfl,r1,r3⟩
theorem zou:CallR X (.builtin "abs") (λxs H Q=>∃i,xs=[.int i]/\Q (.int (if i<0 then -i else i)) H):=by
 intro pins s σ H xs us Q I r h
 obtain⟨i,rfl,q⟩:=h
 obtain⟨u,rfl,t,rfl⟩:=vals1 r
 exact call_abs_int λu tk=>⟨.int (if i<0 then -i else i),H,I.tok _,⟨_,rfl⟩,q⟩
theorem zlk(hc:X.calm=true):CallR X (.builtin "min") (λxs H Q=>∃i j,xs=[.int i,.int j]/\Q (.int (if j<i then j else i)) H):=by
 intro pins s σ H xs us Q I r h
 obtain⟨i,j,rfl,q⟩:=h
 obtain⟨u,w',rfl,⟨t,rfl⟩,⟨t',rfl⟩⟩:=vals2 r
 refine min_two_ints (I.ok.hd hc) λh' tk k=>⟨_,H,I.kept k,?_,q⟩
 by_cases hj:j<i
 .rw[if_pos hj,if_pos hj];exact⟨_,rfl⟩
 .rw[if_neg hj,if_neg hj];exact⟨_,rfl⟩
theorem zll:CallR X (.type "int") (λxs H Q=>(∃i,xs=[.int i]/\Q (.int i) H)\/∃k,xs=[.bl k]/\Q (.int (if k then 1 else 0)) H):=by
 intro pins s σ H xs us Q I r h
 rcases h with⟨i,rfl,q⟩|⟨k,rfl,q⟩
 .obtain⟨u,rfl,t,rfl⟩:=vals1 r
  exact call_int_int ⟨.int i,H,I,⟨_,rfl⟩,q⟩
 .obtain⟨u,rfl,r1⟩:=vals1 r
  cases r1
  exact call_int_bool ⟨.int (if k then 1 else 0),H,I.tok _,⟨_,rfl⟩,q⟩
theorem zg4:CallR X (.type "str") (λxs H Q=>∃i,xs=[.int i]/\i.natAbs.log2<1920/\Q (.str (toString i)) H):=by
 intro pins s σ H xs us Q I r h
 obtain⟨i,rfl,hz,q⟩:=h
 obtain⟨u,rfl,t,rfl⟩:=vals1 r
 exact PySem.P.str_of_int hz ⟨.str _,H,I.tok _,⟨_,rfl⟩,q⟩
end
structure ObjM(h:Heap)(x dx C:Addr)(mA:Str->Option Value):Prop where
 obj:h.get? x=some (PySem.W.instObj C dx)
 ns:h.Ns1 dx mA
 ne:dx≠x
theorem zd7{h:Heap}{dx:Addr}{mA:Str->Option Value}(n:h.Ns1 dx mA):∃od,h.get? dx=some od/\∀name,PySem.W.lookIn name od=some (mA name):=by
 obtain⟨o,es,ep,ho,hd,hk,_,hm⟩:=n
 refine⟨o,ho,λname=>?_⟩
 have e:=hm name
 unfold nsFind findBy at e
 rw[<-Array.find?_toList]at e
 unfold PySem.W.lookIn
 rw[hd]
 dsimp only
 split
 .rename_i y q
  rw[q]at e
  exact vdn some e
 .rename_i q
  rw[q]at e
  have a:es.toList.any (·.refKey)=false:=by
   rw[List.any_eq_false]
   intro y hy
   obtain⟨z,t,hkey⟩:=hk y (Array.mem_toList_iff.mp hy)
   simp[DictEntry.refKey,hkey]
  have a':¬es.toList.any (·.refKey)=true:=by rw[a];exact va3
  rw[if_neg a']
  exact vdn some e
theorem ObjM.look{h:Heap}{x dx C:Addr}{mA:Str->Option Value}(I:ObjM h x dx C mA):∃od,PySem.W.InstAt h x (PySem.W.instObj C dx) C (some od)/\∀name,PySem.W.lookIn name od=some (mA name):=
 let⟨od,ho,hl⟩:=zd7 I.ns
 ⟨od,⟨I.obj,rfl,rfl,ho⟩,hl⟩
noncomputable def putF(f:Str)(v:V):List (Str×V)->List (Str×V)
 |[]=>[(f,v)]
 |(g,x)::r=>if g=f then(g,v)::r else(g,x)::putF f v r
theorem zd8(f g:Str)(v:V):∀fs:List (Str×V),(putF f v fs).lookup g=if g=f then some v else fs.lookup g
 |[]=>by
  show List.lookup g [(f,v)]=_
  by_cases h:g=f
  .have hb:(g==f)=true:=vcr.mpr h
   simp only[List.lookup,hb,if_pos h]
  .have hb:(g==f)=false:=vc6.mpr h
   simp only[List.lookup,hb,if_neg h]
 |(k,x)::r=>by
  have ih:=zd8 f g v r
  rw[show putF f v ((k,x)::r)=(if k=f then(k,v)::r else(k,x)::putF f v r)from rfl]
  by_cases hk:k=f
  .rw[if_pos hk]
   by_cases h:g=k
   .have hb:(g==k)=true:=vcr.mpr h
    simp only[List.lookup,hb,if_pos (h.trans hk)]
   .have hb:(g==k)=false:=vc6.mpr h
    simp only[List.lookup,hb,if_neg (λe:g=f=>h (e.trans hk.symm))]
  .rw[if_neg hk]
   by_cases h:g=k
   .have hb:(g==k)=true:=vcr.mpr h
    simp only[List.lookup,hb,if_neg (λe:g=f=>hk (h.symm.trans e))]
   .have hb:(g==k)=false:=vc6.mpr h
    simp only[List.lookup,hb]
    exact ih
theorem zd9(f:Str)(v:V):∀fs:List (Str×V),f∈(putF f v fs).map (·.1)/\∀g,g∈fs.map (·.1)->g∈(putF f v fs).map (·.1)
 |[]=>⟨by simp[putF],λg h=>by simp at h⟩
 |(k,x)::r=>by
  obtain⟨i1,i2⟩:=zd9 f v r
  rw[show putF f v ((k,x)::r)=(if k=f then(k,v)::r else(k,x)::putF f v r)from rfl]
  by_cases hk:k=f
  .rw[if_pos hk]
   subst hk
   exact⟨by simp,λg h=>by simpa using h⟩
  .rw[if_neg hk]
   refine⟨?_,λg h=>?_⟩
   .rw[va0]
    exact vak _ i1
   .rw[va0]at h ⊢
    rcases vaw.mp h with e|e
    .exact vaw.mpr (.inl e)
    .exact vak _ (i2 g e)
theorem zea(f:Str)(v:V):∀fs:List (Str×V),(putF f v fs).length<=fs.length+1
 |[]=>by simp[putF]
 |(k,x)::r=>by
  have ih:=zea f v r
  rw[show putF f v ((k,x)::r)=(if k=f then(k,v)::r else(k,x)::putF f v r)from rfl]
  by_cases hk:k=f
  .rw[if_pos hk,vai,vai];omega
  .rw[if_neg hk,vai,vai];omega
theorem RelO.some_of{v:V}{o:Option Value}(r:RelO (some v) o):∃u,o=some u/\RelV v u:=by
 cases o with
 |none=>exact(show False from r).elim
 |some u=>exact⟨u,rfl,r⟩
section
variable{P:Program}{w:World}{H H':Hp}{h h':Heap}{a C dx:Addr}{fs fs':List (Str×V)}
theorem zr3(hok:HOk P w H h)(e:H a=some (.ins C dx fs)):∃mA,ObjM h a dx C mA/\(∀f,RelO (fs.lookup f) (mA f))/\PySem.Within mA (fs.map (·.1))/\fs.length<=1000/\H dx=some (.own a):=by
 obtain⟨d,z,ne,ob,mA,n,r,q⟩:=(show ObjOk P w H h a (.ins C dx fs)from hok a _ e)
 exact⟨mA,⟨ob,n,ne⟩,r,q,z,d⟩
end
structure Cls(K:vga)(C:Addr):Prop where
 pg:PySem.W.plainGet K C Str.empty=true
 hd:PySem.W.hasDictIn K C=true
 po:PySem.W.plainOver K C=true
 sa:PySem.W.findIn K (.ref C) "__setattr__" = some (some (.builtin "object.__setattr__"))
theorem Cls.get{K:vga}{C:Addr}(c:Cls K C)(f:Str):PySem.W.plainGet K C f=true:=c.pg
noncomputable def zqp(K:vga)(C:Addr)(f:Str):Prop:=PySem.W.findIn K (.ref C) f=some none
section
variable{X:Cx}{pins:List (Addr×Obj)}{σ:St}{H:Hp}{s:Shared}{A:Around}{E:Value->Shared->Prop}{Q:Value->Shared->Prop}{c:Value}{b:Bool}
inductive TyOf(K:vga)(H:Hp):V->Value->Prop where
 |non:TyOf K H .non (.type "NoneType")
 |bl (x:Bool):TyOf K H (.bl x) (.type "bool")
 |int (i:Int):TyOf K H (.int i) (.type "int")
 |str (x:Str):TyOf K H (.str x) (.type "str")
 |flt (x:UInt64):TyOf K H (.flt x) (.type "float")
 |lst {a:Addr} {xs:List V} (e:H a=some (.lst xs)):TyOf K H (.ref a) (.type "list")
 |frz {a:Addr} {o:Obj} {xs:List V} (e:H a=some (.frz o (.lst xs))):TyOf K H (.ref a) (.type "list")
 |tup {a:Addr} {xs:List V} (e:H a=some (.tup xs)):TyOf K H (.ref a) (.type "tuple")
 |dK {a:Addr} {kvs:List (Key×V)} (e:H a=some (.dK kvs)):TyOf K H (.ref a) (.type "dict")
 |dT {a:Addr} {kvs:List (List Key×V)} (e:H a=some (.dT kvs)):TyOf K H (.ref a) (.type "dict")
 |ins {a C dx:Addr} {fs:List (Str×V)} (e:H a=some (.ins C dx fs)) (cl:Cls K C) (ha:PySem.W.findIn K (.ref C) "__class__" = some (some (.builtin "object.__class__")))
   (hn:PySem.W.specialIn K (.builtin "object.__class__") "__get__" = some (some (.builtin "getset_descriptor.__get__"))) (htk:PySem.W.takesIn K (.builtin "object.__class__")=some true)
   (hm:PySem.W.mroIn K C (.type "object")=some true):TyOf K H (.ref a) (.ref C)
theorem zlm{x:V}{u t:Value}(I:Inv X pins σ H s)(rx:RelV x u)(ty:TyOf X.K H x t)(e:PySem.W.kitOne X.K t c=some b)(h:∀tk,Q (.bool b) {s with toks:=tk}) :
 wpAny (model X.prog X.w) A (call (.builtin "isinstance") [u,c]) Q E s:=by
 cases ty with
 |non=>cases(show u=Value.none from rx);exact vbq PySem.W.kitx_none I.kIn True.intro e (λz=>nomatch z) h
 |bl y=>cases(show u=Value.bool y from rx);exact vbq PySem.W.kitx_bool I.kIn True.intro e (λz=>nomatch z) h
 |int i=>obtain⟨t,q⟩:=(show ∃t,u=Value.int i t from rx);cases q;exact vbq PySem.W.kitx_int I.kIn True.intro e (λz=>nomatch z) h
 |str y=>obtain⟨t,q⟩:=(show ∃t,u=Value.str y t from rx);cases q;exact vbq PySem.W.kitx_str I.kIn True.intro e (λz=>nomatch z) h
 |flt y=>obtain⟨t,q⟩:=(show ∃t,u=Value.float y t from rx);cases q;exact vbq PySem.W.kitx_float I.kIn True.intro e (λz=>nomatch z) h
 | @lst a xs ea=>
  cases(show u=Value.ref a from rx)
  obtain⟨_,_,n,_,h1⟩:=(show ObjOk X.prog X.w H s.heap a (.lst xs)from I.hok a _ ea)
  exact vbq PySem.W.kitx_list I.kIn ⟨_,h1,rfl⟩ e (λz=>nomatch z) h
 | @frz a ob xs ea=>
  cases(show u=Value.ref a from rx)
  obtain⟨_,_,_,n,_,h1⟩:=(show ObjOk X.prog X.w H s.heap a (.frz ob (.lst xs))from I.hok a _ ea)
  exact vbq PySem.W.kitx_list I.kIn ⟨_,h1,rfl⟩ e (λz=>nomatch z) h
 | @tup a xs ea=>
  cases(show u=Value.ref a from rx)
  obtain⟨_,_,_,p⟩:=(show ObjOk X.prog X.w H s.heap a (.tup xs)from I.hok a _ ea)
  obtain⟨o,h1,h2,_⟩:=p
  exact vbq PySem.W.kitx_tuple I.kIn ⟨o,h1,h2⟩ e (λz=>nomatch z) h
 | @dK a kvs ea=>
  cases(show u=Value.ref a from rx)
  obtain⟨_,_,vs,_,p⟩:=(show ObjOk X.prog X.w H s.heap a (.dK kvs)from I.hok a _ ea)
  obtain⟨o,es,ep,h1,h2,_⟩:=p
  exact vbq PySem.W.kitx_dict I.kIn ⟨o,h1,h2.1⟩ e (λz=>nomatch z) h
 | @dT a kvs ea=>
  cases(show u=Value.ref a from rx)
  obtain⟨_,_,xs,_,o,es,ep,h1,h2,_⟩:=(show ObjOk X.prog X.w H s.heap a (.dT kvs)from I.hok a _ ea)
  exact vbq PySem.W.kitx_dict I.kIn ⟨o,h1,h2.1⟩ e (λz=>nomatch z) h
 | @ins a C dx fs ea cl ha hn htk hm=>
  cases(show u=Value.ref a from rx)
  obtain⟨mA,O,_⟩:=zr3 I.hok ea
  obtain⟨od,J,_⟩:=O.look
  exact vbq (PySem.W.kitx_own (cl.get _) cl.hd ha hn htk hm) I.kIn J e (λz=>nomatch z) h
end
structure Room(k:Nat)(A:Around):Prop where
 hd:A.handled=none
 dp:A.depth+3*k+5<recursionLimit
 un:A.units+16*k+200<cLine
theorem Room.deeper{k:Nat}{A:Around}(r:Room (k+1) A)(env:Env):Room k (A.deeper env):=
 ⟨r.hd,by have:=r.dp;show A.depth+1+3*k+5<_;omega,by have:=r.un;show A.units+3+16*k+200<_;omega⟩
theorem zke{A:Around}{C:Addr}{us:List Value}{kw:List (Str×Value)}:(A.under (.builtin "type.__call__" ⟨.ref C::us,kw⟩)).depth=A.depth+1:=by
 first|rfl|simp[Around.under,Code.weight,Code.isCreation,Code.isGuard,Code.isCaller,Code.frames,Code.isFrame,guardIds]
theorem zkf{A:Around}{C:Addr}{us:List Value}{kw:List (Str×Value)}:(A.under (.builtin "type.__call__" ⟨.ref C::us,kw⟩)).units=A.units+1:=by
 first|rfl|simp[Around.under,Code.cUnits,Code.frames,Code.isFrame]
theorem Room.depth{k:Nat}{A:Around}(r:Room k A):A.depth<recursionLimit:=by have:=r.dp;omega
theorem Room.units{k:Nat}{A:Around}(r:Room k A):A.units+64<cLine:=by have:=r.un;omega
noncomputable def tNil:TA:=λ_ H Q=>Q [] H
noncomputable def tCons(ta:TE)(tr:TA):TA:=λσ H Q=>ta σ H λx H1=>tr σ H1 λxs H2=>Q (x::xs) H2
section
variable{X:Cx}{e:Expr}{es:List Expr}{te:TE}{t:TA}{pos:Pos}
theorem zb6:PA X [] tNil:=λ_ _ _ _ H Q I h=>Calls.spliced_nil ⟨[],H,I,.nil,h⟩
theorem zbc(ha:PE X e te)(hr:PA X es t)(hs:starEach (e::es) X.env=(false,eval e X.env)::starEach es X.env:=by rfl):PA X (e::es) (tCons te t):=by
 intro pos pins s σ H Q I h
 rw[hs]
 show wpAny _ _ (spliced ((false,eval e X.env)::backTo pos (starEach es X.env))) _ _ s
 refine Calls.spliced_cons (thn (ha pins s σ H _ I h) λu s1 z9=>z9.el λx H1 I1 r1 q1=>?_)
 exact thn (hr pos pins s1 σ H1 _ I1 q1) λus s2 z9=>z9.el λxs H2 I2 r2 q2=>⟨x::xs,H2,I2,.cons r1 r2,q2⟩
noncomputable def tTup(t:TA):TE:=λσ H Q=>t σ H λxs H1=>xs.length<=sizeLine/\∀p,H1 p=none->Q (.ref p) (upd H1 p (.tup xs))
noncomputable def tLst(t:TA):TE:=λσ H Q=>t σ H λxs H1=>xs.length<=sizeLine/\∀p,H1 p=none->Q (.ref p) (upd H1 p (.lst xs))
theorem zuz{x1}(h:PA X es t):PE X (.Tuple es x1 pos) (tTup t):=by
 intro pins s σ H Q I hq
 refine wpAny_Tuple_spliced (thn (h pos pins s σ H _ I hq) λus s1 z9=>z9.el λxs H1 I1 r ⟨z,q⟩=>⟨by rw[<-r.length];exact z,?_⟩)
 have hf:H1 s1.heap.objs.size=none:=I1.hok.fresh (vad _)
 refine⟨.ref s1.heap.objs.size,upd H1 s1.heap.objs.size (.tup xs),I1.laid (t':=s1.toks) (λb u e=>vac _ e) (vad _) ?_,rfl,q _ hf⟩
 exact⟨z,us,r,zbf.new _ _⟩
theorem zln(h:PA X es t):PE X (.List es pos) (tLst t):=by
 intro pins s σ H Q I hq
 refine wpAny_List_spliced (thn (h pos pins s σ H _ I hq) λus s1 z9=>z9.el λxs H1 I1 r ⟨z,q⟩=>⟨by rw[<-r.length];exact z,?_⟩)
 have hf:H1 s1.heap.objs.size=none:=I1.hok.fresh (vad _)
 refine⟨.ref s1.heap.objs.size,upd H1 s1.heap.objs.size (.lst xs),I1.laid (t':=s1.toks) (λb u e=>vac _ e) (vad _) ?_,rfl,q _ hf⟩
 exact⟨z,us,0,r,vaz _ rfl⟩
end
noncomputable abbrev Sp:=List V->Hp->VK->XK->Prop
noncomputable abbrev CXT:=List Env->Hp->Shared->XK->Value->Shared->Prop
structure Env0(P:Program)(w:World)(K:vga)(mg:Str->Option Value)(base:Heap)(A:Around)(outer:List Env)(s:Shared)(H:Hp):Prop where
 frames:A.frames=some outer
 mod:Mod K mg base
 bs:∀b o,base.get? b=some o->s.heap.get? b=some o/\H b=none
 bsz:base.objs.size<=s.heap.objs.size
 funs:s.heap.FunFrames base outer
 frf:∀b∈frs outer,H b=none
 hok:HOk P w H s.heap
 bare:AllBare s.gens
noncomputable def CE(outer:List Env)(P:Program)(w:World)(H:Hp)(s:Shared)(Q:VK)(u:Value)(s':Shared):Prop:=
 ∃v H',s'.os=s.os/\AllBare s'.gens/\Un (frs outer) [] H H' s.heap s'.heap/\HOk P w H' s'.heap/\RelV v u/\Q v H'
noncomputable def CR(CX:CXT)(outer:List Env)(P:Program)(w:World)(H:Hp)(s:Shared)(Q:VK)(E:XK)(r:Result)(s':Shared):Prop:=
 match r with
 |.ok (.ret u)=>CE outer P w H s Q u s'
 |.ok _=>False
 |.error e=>CX outer H s E e s'
structure FnOk(P:Program)(w:World)(K:vga)(mg:Str->Option Value)(base:Heap)(CX:CXT)(k:Nat)(f:Addr)(fd:FuncData)(ps:List Str)(sp:Sp):Prop where
 len:∀vs H Q E,sp vs H Q E->vs.length=ps.length
 run:∀(A:Around)(outer:List Env)(s:Shared)(H:Hp)(args:Args)(us:List Value)(vs:List V)(Q:VK)(E:XK),Room k A->Env0 P w K mg base A outer s H->BindsTo s fd args (ps.zip us)->Vals vs us->sp vs H Q E->
  codeAny (model P w) A (.call (.ref f) args) (CR CX outer P w H s Q E) s
theorem Env0.make{P:Program}{w:World}{K:vga}{mg:Str->Option Value}{base:Heap}{A:Around}{outer:List Env}{s:Shared}{H:Hp}(e:Env0 P w K mg base A outer s H)(C:Addr)(us:List Value)(kw:List (Str×Value)) :
 Env0 P w K mg base (A.under (.builtin "type.__call__" ⟨.ref C::us,kw⟩)) outer s H:=⟨by first|exact e.frames|(simpa[Around.under,Code.envs,Code.isFrame,pushEnvs]using e.frames),e.mod,e.bs,e.bsz,e.funs,e.frf,e.hok,e.bare⟩
section
variable{X:Cx}{pins:List (Addr×Obj)}{σ:St}{H:Hp}{s s':Shared}
theorem Inv.env0(I:Inv X pins σ H s):Env0 X.prog X.w X.K X.mg X.base X.A X.stack s H:=
 ⟨I.ok.frames,I.ok.mod,I.bs,van I.ok.bsz I.sz,I.stack,I.stkFree,I.hok,I.bare⟩
theorem Inv.after{Q:VK}{u:Value}(I:Inv X pins σ H s)(h:CE X.stack X.prog X.w H s Q u s'):EP X pins σ Q u s':=by
 obtain⟨v,H',os,bare,un,hok,r,q⟩:=h
 obtain⟨hh,g,d,t,os'⟩:=s'
 obtain rfl:os'=s.os:=os
 exact⟨v,H',I.call (h':=hh) (g':=g) (d':=d) (t':=t) (ch:=[]) un hok bare (λb z=>absurd z (by simp)),r,q⟩
end
noncomputable def tCall(sp:Sp)(dvs:List V)(E:XK)(t:TA):TE:=λσ H Q=>t σ H λvs H1=>sp (vs++dvs) H1 Q E
noncomputable def Binds(K:vga)(fd:FuncData)(ps:List Str)(ds:List Value):Prop:=
 ∀(s:Shared)(us:List Value),K.In s.heap->(us++ds).length=ps.length->BindsTo s fd ⟨us,[]⟩ (ps.zip (us++ds))
theorem Binds.all{K:vga}{fd:FuncData}{ps:List Str}(h:∀us:List Value,us.length=ps.length->bindArgs fd ⟨us,[]⟩=pure (ps.zip us)):Binds K fd ps []:=λs us _ hl=>by
 rw[vbc]at hl ⊢
 exact .of_eq (h us hl)
noncomputable def ze5(CX:CXT)(X:Cx)(E:XK):Prop:=∀(pins:List (Addr×Obj)) (σ:St) (H:Hp) (s:Shared) (e:Value) (s':Shared),Inv X pins σ H s->CX X.stack H s E e s'->X.xe e s'
section
variable{X:Cx}{CX:CXT}{k:Nat}{f C:Addr}{fd:FuncData}{ps:List Str}{sp:Sp}{dvs:List V}{ds:List Value}{E:XK}{x m:Str}{p pos apos:Pos}{e o:Expr}{es:List Expr}{ta:TE}{t:TA}
theorem zqq{pins:List (Addr×Obj)}{σ:St}{H:Hp}{s:Shared}{Q:VK}{us:List Value}{vs:List V}(F:FnOk X.prog X.w X.K X.mg X.base CX k f fd ps sp)(hr:Room k X.A)(hb:Binds X.K fd ps ds)(hd:Vals dvs ds)(hx:ze5 CX X E)
 (I:Inv X pins σ H s) (r:Vals vs us) (h:sp (vs++dvs) H Q E):wpAny (model X.prog X.w) X.A (call (.ref f) us) (EP X pins σ Q) X.xe s:=by
 have r2:Vals (vs++dvs) (us++ds):=r.append hd
 have hl:(us++ds).length=ps.length:=by rw[<-r2.length];exact F.len _ _ _ _ h
 refine vds (vdt (F.run X.A X.stack s H ⟨us,[]⟩ (us++ds) (vs++dvs) Q E hr I.env0 (hb s us I.kIn hl) r2 h) λr s' hq=>?_)
 cases r with
 |error e=>exact hx pins σ H s e s' I hq
 |ok fl=>
  cases fl with
  |ret u=>exact I.after hq
  |next=>exact False.elim hq
  |brk=>exact False.elim hq
  |cont=>exact False.elim hq
theorem zf2(F:FnOk X.prog X.w X.K X.mg X.base CX k f fd ps sp)(hr:Room k X.A)(hg:Gl X x)(hm:X.mg x=some (.ref f))(hk:PySem.W.keepIn X.K (.ref f)=true)(hb:Binds X.K fd ps ds)(hd:Vals dvs ds)(hx:ze5 CX X E)
 (ha:PA X (e::es) t) (hdb:(x==("__debug__" : Str))=false:=by decide) (he:starEach (e::es) X.env=(false,eval e X.env)::starEach es X.env:=by rfl) (hpl:(backTo pos (starEach es X.env)).any (·.1)=false:=by rfl) :
 PE X (.Call (.Name x p) (e::es) [] pos) (tCall sp dvs E t):=by
 intro pins s σ H Q I h
 refine vch (zbu I hg hm ?_ hdb)
 refine vdw (h₀:=X.base) I.ok.mod.kin hk (thn (ha pos pins s σ H _ I h) λus s1 z9=>z9.el λvs H1 I1 r q=>⟨I1.kIn,?_⟩) he hpl
 exact zqq F hr hb hd hx I1 r q
theorem zov(F:FnOk X.prog X.w X.K X.mg X.base CX k f fd ps sp)(hr:Room k X.A)(hg:Gl X x)(hm:X.mg x=some (.ref f))(hk:PySem.W.keepIn X.K (.ref f)=true)(hb:Binds X.K fd ps ds)(hd:Vals dvs ds)(hx:ze5 CX X E)
 (hdb:(x==("__debug__" : Str))=false:=by decide):PE X (.Call (.Name x p) [] [] pos) (tCall sp dvs E tNil):=by
 intro pins s σ H Q I h
 refine vch (zbu I hg hm ?_ hdb)
 exact PySem.W.callWith_K0 I.kIn hk (zqq (us:=[]) F hr hb hd hx I .nil h)
end
structure FnScope(N P:List Str)(sc:Scope):Prop where
 kind:sc.kind=.function
 co:sc.isCoroutine=false
 gen:sc.isGenerator=false
 nd:N.Nodup
 pre:N.take P.length=P
 par:∀x∈P,sc.names.lookup x=some .local\/sc.names.lookup x=some .cell
 nofree:∀y∈sc.names,y.2≠.free
theorem zg5{kindOf:Str->Option NameKind}{x:Str}:∀{binds:List (Str×Value)} {m:Str->Option Value},(∀v,(x,v)∉binds)->bindL kindOf binds m x=m x
 |[],_,_=>rfl
 |(n,v)::r,m,h=>by
  unfold bindL
  rw[zg5 λw hw=>h w (vak _ hw)]
  split
  .have:x≠n:=by rintro rfl;exact h v vap
   simp[this]
  .rfl
theorem zg6{kindOf:Str->Option NameKind}{x:Str}:∀{binds:List (Str×Value)} {m:Str->Option Value},(∀v,(x,v)∉binds)->bindC kindOf binds m x=m x
 |[],_,_=>rfl
 |(n,v)::r,m,h=>by
  unfold bindC
  rw[zg6 λw hw=>h w (vak _ hw)]
  split
  .rfl
  .have:x≠n:=by rintro rfl;exact h v vap
   simp[this]
theorem zg7{kindOf:Str->Option NameKind}{x:Str}{v:Value}:∀{P:List Str} {vs:List Value} {i:Nat} {m:Str->Option Value},P.Nodup->P[i]?=some x->vs[i]?=some v->kindOf x=some .local->
 bindL kindOf (P.zip vs) m x=some v
 |[],_,_,_,_,h,_,_=>by simp at h
 |_::_,[],_,_,_,_,h,_=>by simp at h
 |p::P,w::vs,0,m,nd,h1,h2,hk=>by
  simp at h1 h2;subst h1;subst h2
  show bindL kindOf ((p,w)::P.zip vs) m p=_
  unfold bindL
  rw[zg5 λv hv=>(vdx.mp nd).1 (vcv hv).1,if_pos hk]
  simp
 |p::P,w::vs,i+1,m,nd,h1,h2,hk=>by
  show bindL kindOf ((p,w)::P.zip vs) m x=_
  unfold bindL
  exact zg7 (i:=i) (vdx.mp nd).2 (by simpa using h1) (by simpa using h2) hk
theorem zg8{kindOf:Str->Option NameKind}{x:Str}{v:Value}:∀{P:List Str} {vs:List Value} {i:Nat} {m:Str->Option Value},P.Nodup->P[i]?=some x->vs[i]?=some v->kindOf x≠some .local->
 bindC kindOf (P.zip vs) m x=some v
 |[],_,_,_,_,h,_,_=>by simp at h
 |_::_,[],_,_,_,_,h,_=>by simp at h
 |p::P,w::vs,0,m,nd,h1,h2,hk=>by
  simp at h1 h2;subst h1;subst h2
  show bindC kindOf ((p,w)::P.zip vs) m p=_
  unfold bindC
  rw[zg6 λv hv=>(vdx.mp nd).1 (vcv hv).1,if_neg hk]
  simp
 |p::P,w::vs,i+1,m,nd,h1,h2,hk=>by
  show bindC kindOf ((p,w)::P.zip vs) m x=_
  unfold bindC
  exact zg8 (i:=i) (vdx.mp nd).2 (by simpa using h1) (by simpa using h2) hk
noncomputable def start(N:List Str)(vs:List V):St:=vs.map some++vgc (N.length-vs.length) none
noncomputable def cxOf(CX:CXT)(P:Program)(w:World)(K:vga)(mg:Str->Option Value)(base:Heap)(N:List Str)(qual:Str)(scope:Scope)(f:Addr)(cd:Value)(A:Around)(outer:List Env)(s:Shared)(H:Hp)(E:XK):Cx where
 prog:=P
 w:=w
 K:=K
 mg:=mg
 base:=base
 A:=A.deeper (envOfC qual scope s.heap.objs.size f cd)
 N:=N
 s₀:=s
 H₀:=H
 env:=envOfC qual scope s.heap.objs.size f cd
 outer:=outer
 stack:=envOfC qual scope s.heap.objs.size f cd::outer
 ex:=[]
 calm:=true
 fn:=λ_=>true
 pn:=[]
 xe:=λe s'=>wpAny (model P w) (A.deeper (envOfC qual scope s.heap.objs.size f cd)) (leaving (envOfC qual scope s.heap.objs.size f cd) e) (λ_ s''=>CX outer H s E e s'') (λe' s''=>CX outer H s E e' s'') s'
theorem zi9{sc:Scope}{n:Nat}{x:Str}(h:sc.names.lookup x=some .cell):∃c,(cellsFrom n sc.names []).lookup x=some c:=by
 have q:=PySem.W.cellsFrom_some sc.names n [] (.inl h)
 exact Option.isSome_iff_exists.mp q
theorem zg9{CX:CXT}{P:Program}{w:World}{K:vga}{mg:Str->Option Value}{base:Heap}{N ps:List Str}{qual:Str}{scope:Scope}{f:Addr}{cd:Value}{A:Around}{outer:List Env}{s s1:Shared}{H:Hp}{E:XK}{us:List Value}{vs:List V}
 (S:FnScope N ps scope) (hd:A.handled=none) (e0:Env0 P w K mg base A outer s H) (hl:vs.length=ps.length) (r:Vals vs us)
 (x:InCallC s s.heap.objs.size (bindL (envOfC qual scope s.heap.objs.size f cd).kindOf (ps.zip us) λ_=>none) (cellsFrom (s.heap.objs.size+1) scope.names []) (bindC (envOfC qual scope s.heap.objs.size f cd).kindOf (ps.zip us) λ_=>none) s1) :
 Inv (cxOf CX P w K mg base N qual scope f cd A outer s H E) [] (start N vs) H s1:=by
 have hpl:ps.length<=N.length:=by have:=vdn List.length S.pre;rw[vd9]at this;omega
 obtain⟨h1,tk,rfl,hk⟩:=x.done
 have noA:∀b:Addr,b∉(cxOf CX P w K mg base N qual scope f cd A outer s H E).ex:=λb z=>absurd (show b∈([]:List Addr)from z) (by simp)
 refine⟨⟨e0.mod,S.kind,rfl,rfl,vad _,λy z c h1 h2=>?_,λy hy=>?_,λy c _ h=>?_,λ_=>hd,Around.frames_deeper e0.frames,.inr ⟨rfl,rfl⟩,λb z=>absurd z (noA b),e0.bs,e0.bsz,λb _ _=>noA b,λb z=>absurd z (noA b),e0.funs,e0.frf⟩,
  rfl,e0.bare,Un.kept hk,⟨_,x.toInCall.ns,λi y v h1 h2 h3=>?_⟩,λy c h=>⟨_,x.cell y c h⟩,e0.hok.fresh (vad _),λy c h=>?_,λp hp=>absurd (show p∈([]:List (Addr×Obj))from hp) (by simp),e0.hok.kept hk,?_⟩
 .exact name_of_addr x.apart (vc8 h1) (vc8 h2)
 .have hy:scope.names.lookup y=some .cell\/scope.names.lookup y=some .free:=hy
  rcases hy with hy|hy
  .exact zi9 hy
  .exact absurd rfl (S.nofree _ (vc8 hy))
 .exact vdr (x.above y c (vc8 h))
 .have hi:i<vs.length:=by
   unfold start at h2
   by_cases hi:i<vs.length
   .exact hi
   .rw[va4 (by simpa using hi)]at h2
    rw[vc9]at h2
    split at h2<;>cases h2
  have ha:vs[i]?=some v:=by
   unfold start at h2
   rw[vby (by simpa using hi),vbr]at h2
   cases e:vs[i]? with
   |none=>rw[e]at h2;cases h2
   |some a=>rw[e]at h2;cases h2;rfl
  obtain⟨u,hu,rv⟩:=r.get ha
  have hp:ps[i]?=some y:=by
   rw[<-S.pre,List.getElem?_take_of_lt (by omega)];exact h1
  have ndP:ps.Nodup:=by rw[<-S.pre];exact S.nd.sublist (List.take_sublist _ _)
  refine⟨u,rv,?_⟩
  rcases S.par y (vcs hp)with k|k
  .exact .inl ⟨k,zg7 ndP hp hu k⟩
  .obtain⟨c,e⟩:=zi9 (n:=s.heap.objs.size+1) k
   refine .inr ⟨.inl k,c,e,?_⟩
   have q:=x.cell y c e
   rw[zg8 ndP hp hu (by show scope.names.lookup y≠_;rw[k];decide)]at q
   exact q
 .exact e0.hok.fresh (vdr (x.above y c (vc8 h)))
 .unfold start
  show _=N.length
  rw[vaj,vaf,List.length_replicate]
  omega
theorem fn_of{CX:CXT}{P:Program}{w:World}{K:vga}{mg:Str->Option Value}{base:Heap}{k:Nat}{f:Addr}{name qual:Str}{params:Arguments}{body:List Stmt}{scope:Scope}{dV kV doc pm cdv ct oc:Value}{an od:Option Addr}
 {osl:Array (Option Value)} {N ps:List Str} {sp:Sp} (lk:K.lookup f=some ⟨oc,od,.func (PySem.W.fnOf name qual params body scope dV kV doc pm an cdv ct),osl⟩) (hcd:PySem.W.codeIn K cdv qual=true) (S:FnScope N ps scope)
 (len:∀vs H Q E,sp vs H Q E->vs.length=ps.length)
 (hbody:∀(A:Around)(outer:List Env)(s:Shared)(H:Hp)(vs:List V)(Q:VK)(E:XK),Room k (A.deeper (envOfC qual scope s.heap.objs.size f cdv))->sp vs H Q E->
   ∃t,PSs (cxOf CX P w K mg base N qual scope f cdv A outer s H E) body t/\t {nx:=λ_ H'=>Q .non H',rt:=Q} (start N vs) H) :
 FnOk P w K mg base CX (k+1) f (PySem.W.fnOf name qual params body scope dV kV doc pm an cdv ct) ps sp:=by
 refine⟨len,λA outer s H args us vs Q E hr e0 hb r hsp=>?_⟩
 have hl:=len _ _ _ _ hsp
 have KX:K.In s.heap:=e0.mod.kin.keeps λb o e=>(e0.bs b o e).1
 have lim:s.heap.NoLimit:=e0.mod.nolimit.keeps λb o e=>(e0.bs b o e).1
 have hkind:∀y∈ps.zip us,scope.names.lookup y.1=some .local\/(scope.names.lookup y.1=some .cell/\((cellsFrom (s.heap.objs.size+1) scope.names []).lookup y.1).isSome=true):=λhq0 hy=>by
  obtain⟨n,v⟩:=hq0
  rcases S.par n (vcv hy).1 with q|q
  .exact .inl q
  .exact .inr ⟨q,PySem.W.cellsFrom_some _ _ _ (.inl q)⟩
 refine codeAny_call_function hr.depth (KX _ _ lk) rfl S.co S.gen rfl (PySem.W.codeRec_of KX hcd) (hb _ _ _ _ ?_)
 refine wpAny_newFunctionEnv_cells S.kind hkind λenv he s1 x=>?_
 subst he
 refine⟨lim.keeps x.toInCall.keep,codeAny_func ?_⟩
 obtain⟨t,ht,hq⟩:=hbody A outer s H vs Q E (hr.deeper _) hsp
 have I:Inv (cxOf CX P w K mg base N qual scope f cdv A outer s H E) [] (start N vs) H s1:=zg9 S hr.hd e0 hl r x
 refine vbp (ht [] s1 (start N vs) H _ I hq) (λfl s' hs=>?_) λe s' hs=>hs
 have fin:∀{σ':St}{H':Hp}{v:V}{u:Value},Inv (cxOf CX P w K mg base N qual scope f cdv A outer s H E) [] σ' H' s'->RelV v u->Q v H'->CE outer P w H s Q u s':=
  λ{σ' H' v u} J rv q=>⟨v,H',J.os,J.bare,J.base,J.hok,rv,q⟩
 cases fl with
 |ret u=>
  obtain⟨v,σ',H',J,rv,q⟩:=hs
  exact fin J rv q
 |next=>
  obtain⟨σ',H',J,q⟩:=hs
  exact fin (v:=V.non) (u:=Value.none) J rfl q
 |brk=>
  obtain⟨_,_,_,q⟩:=hs
  exact False.elim q
 |cont=>
  obtain⟨_,_,_,q⟩:=hs
  exact False.elim q
section
variable{X:Cx}{x:Str}{p pos:Pos}{e:Expr}{es:List Expr}{t:TA}{id T:String}{r:List V->Hp->VK->Prop}
noncomputable def tCB(r:List V->Hp->VK->Prop)(t:TA):TE:=λσ H Q=>t σ H λvs H1=>r vs H1 Q
theorem zf3(hc:CallR X (.builtin id) r)(hg:Gl X x)(hm:X.mg x=none)(hv:bootBuiltins x=some (.builtin id))(ha:PA X (e::es) t)(hn:x≠"__name__":=by decide)(hdb:(x==("__debug__" : Str))=false:=by decide)
 (he:starEach (e::es) X.env=(false,eval e X.env)::starEach es X.env:=by rfl) (hpl:(backTo pos (starEach es X.env)).any (·.1)=false:=by rfl):PE X (.Call (.Name x p) (e::es) [] pos) (tCB r t):=by
 intro pins s σ H Q I h
 refine vch (ze3 I hg hm hv ?_ hn hdb)
 exact PyProof.Rows.callWith_builtin1 (thn (ha pos pins s σ H _ I h) λus s1 z9=>z9.el λvs H1 I1 r1 q1=>hc pins s1 σ H1 vs us Q I1 r1 q1) he hpl
theorem zlo(hc:CallR X (.type T) r)(hg:Gl X x)(hm:X.mg x=none)(hv:bootBuiltins x=some (.type T))(ha:PA X (e::es) t)(hn:x≠"__name__":=by decide)(hdb:(x==("__debug__" : Str))=false:=by decide)
 (he:starEach (e::es) X.env=(false,eval e X.env)::starEach es X.env:=by rfl) (hpl:(backTo pos (starEach es X.env)).any (·.1)=false:=by rfl):PE X (.Call (.Name x p) (e::es) [] pos) (tCB r t):=by
 intro pins s σ H Q I h
 refine vch (ze3 I hg hm hv ?_ hn hdb)
 exact vcu (thn (ha pos pins s σ H _ I h) λus s1 z9=>z9.el λvs H1 I1 r1 q1=>hc pins s1 σ H1 vs us Q I1 r1 q1) he hpl
end
end L2
namespace HT
open PySem PyProof.Rows
section
variable{prog:Program}{w:World}{A:Around}{E:Value->Shared->Prop}{s:Shared}
theorem cat_tup{t b:Addr}{vs ws:List Value}{Q:Value->Shared->Prop}(ht:IsTup s.heap t vs.toArray)(hb:IsTup s.heap b ws.toArray)(hv:vs≠[])
 (h1:ws=[]->Q (.ref t) s) (h2:ws≠[]->Q (.ref s.heap.objs.size) {s with heap:=s.heap.push {cls:=.type "tuple",data:=.seq (vs++ws).toArray}})
 (hsz:vs.length+ws.length<=sizeLine):wpAny (model prog w) A (binaryOp .Add (.ref t) (.ref b)) Q E s:=by
 obtain⟨⟨cls,dd,data,sl⟩,ho,hc,n,hd⟩:=id ht
 obtain⟨⟨cls2,dd2,data2,sl2⟩,ho2,hc2,n2,hd2⟩:=id hb
 simp only at hc hd hc2 hd2
 subst hc hd hc2 hd2
 have e:vs.toArray++ws.toArray=(vs++ws).toArray:=by simp
 by_cases hw:ws=[]
 .exact concat_meets ⟨_,ho,rfl⟩ ⟨_,ho2,rfl⟩ noFill_tuple_add seq_tuple_add PySem.F.slot_tuple_add PySem.F.entry_tuple_add (PySem.F.args_tuple_add_2 _ _)
   (tuple_addW1 t b vs.toArray ws.toArray n n2 dd dd2 sl sl2 (by simpa using hv) (by simp[hw])) ⟨ho,ho2,h1 hw⟩
 .refine concat_meets ⟨_,ho,rfl⟩ ⟨_,ho2,rfl⟩ noFill_tuple_add seq_tuple_add PySem.F.slot_tuple_add PySem.F.entry_tuple_add (PySem.F.args_tuple_add_2 _ _)
   (tuple_addW2 t b vs.toArray ws.toArray n n2 dd dd2 sl sl2 (by simpa using hv) (by simpa using hw) (by rw[vah,vah];exact hsz)) ⟨ho,ho2,?_⟩
  rw[e]
  exact h2 hw
noncomputable def sIx(n d:Nat):Option Int->Nat
 |none=>d
 |some v=>if v<0 then(v+ (n:Int)).toNat else min v.toNat n
theorem sIx_none(n d:Nat):sIx n d none=d:=rfl
theorem sIx_nat(n d k:Nat):sIx n d (some (k:Int))=min k n:=by
 show(if(k:Int)<0 then((k:Int)+ (n:Int)).toNat else min (k:Int).toNat n)=min k n
 rw[if_neg (by omega),vck]
theorem zu0(n d:Nat)(hd:d<=n)(o:Option Int):sIx n d o<=n:=by
 cases o with
 |none=>exact hd
 |some v=>
  show(if v<0 then(v+ (n:Int)).toNat else min v.toNat n)<=n
  by_cases hv:v<0
  .rw[if_pos hv];omega
  .rw[if_neg hv];exact Nat.min_le_right _ _
theorem zlp(v:Int)(n d:Nat):(if v<0 then max (v+ (n:Int)) 0 else min v (n:Int))=((sIx n d (some v):Nat):Int):=by
 show(if v<0 then max (v+ (n:Int)) 0 else min v (n:Int))=(((if v<0 then(v+ (n:Int)).toNat else min v.toNat n):Nat):Int)
 by_cases hv:v<0
 .simp only[if_pos hv];omega
 .simp only[if_neg hv];omega
theorem zkg(lo hi:Option Int)(n:Nat):Builtin.Slice.sliceAdjust lo hi 1 (n:Int)=(((sIx n 0 lo:Nat):Int),((sIx n n hi:Nat):Int)):=by
 have h1:¬((1:Int)<0):=by omega
 unfold Builtin.Slice.sliceAdjust
 simp only[h1,vbo]
 refine Prod.ext ?_ ?_
 .cases lo with
  |none=>rfl
  |some v=>exact zlp v n 0
 .cases hi with
  |none=>rfl
  |some v=>exact zlp v n n
theorem zkh(i j:Nat):Builtin.Slice.slicePlaces (i:Int) (j:Int) 1=j-i:=by
 unfold Builtin.Slice.slicePlaces
 have h1:(1:Int)>0:=by omega
 simp only[h1,vbj,Int.ediv_one]
 split<;>omega
theorem zbk{v:Value}{o:Option Int}{Q:Option Int->Shared->Prop}(p:IsPart v o)(h:Q o s):wpAny (model prog w) A (Builtin.Slice.slicePartIndex v) Q E s:=by
 cases p with
 |none=>exact slicePart_none h
 |int i t=>exact slicePart_int h
theorem zbs{sl:Addr}{vl vu:Value}{lo hi:Option Int}{n:Nat}{Q:Int×Int×Nat->Shared->Prop}(hs:s.heap.IsSliceOf sl vl vu .none)(pl:IsPart vl lo)(pu:IsPart vu hi)
 (h:Q (((sIx n 0 lo:Nat):Int),1,sIx n n hi-sIx n 0 lo) s):wpAny (model prog w) A (Builtin.Slice.sliceApplied (.ref sl) (pure (n:Int))) Q E s:=by
 obtain⟨os,hos,hcs,hds⟩:=id hs
 unfold Builtin.Slice.sliceApplied Builtin.Slice.sliceFields
 refine vab (vab (vbn hos hds (x:=vl) rfl (vab (vbn hos hds (x:=vu) rfl (vab (vbn hos hds (x:=.none) rfl (vag ?_)))))))
 refine vab (slicePart_none ?_)
 show wpAny _ _ (if((1:Int)==0)=true then _ else _) _ _ s
 rw[if_neg (by decide)]
 refine vab (zbk pl (vab (zbk pu (vab (vag ?_)))))
 show wpAny _ _ (match Builtin.Slice.sliceAdjust lo hi 1 (n:Int)with|(lo,hi)=>pure (lo,(1:Int),Builtin.Slice.slicePlaces lo hi 1)) _ _ s
 rw[zkg lo hi n]
 show wpAny _ _ (pure (((sIx n 0 lo:Nat):Int),(1:Int),Builtin.Slice.slicePlaces ((sIx n 0 lo:Nat):Int) ((sIx n n hi:Nat):Int) 1)) _ _ s
 rw[zkh]
 exact vag h
theorem zow(xs:Array Value)(i k:Nat):((List.range k).filterMap λ(m:Nat)=>xs[((i:Int)+ (m:Int)*1).toNat]?).toArray=((xs.toList.drop i).take k).toArray:=by
 have e:(λ(m:Nat)=>xs[((i:Int)+ (m:Int)*1).toNat]?)=λm=>xs[i+m]?:=by
  funext m
  have:((i:Int)+ (m:Int)*1).toNat=i+m:=by omega
  rw[this]
 rw[e]
 have:=pick_run xs i k
 rw[List.filterMap_map]at this
 have e2:((λx=>xs[x]?)∘λx=>i+x)=λm=>xs[i+m]?:=rfl
 rw[e2]at this
 rw[this]
theorem getItem_tuple_cut{t sl:Addr}{items:Array Value}{vl vu:Value}{lo hi:Option Int}{Q:Value->Shared->Prop}(ht:IsTup s.heap t items)(hs:s.heap.IsSliceOf sl vl vu .none)(pl:IsPart vl lo)(pu:IsPart vu hi)
 (hw:¬(sIx items.size 0 lo=0/\sIx items.size items.size hi=items.size))
 (h:Q (.ref s.heap.objs.size) {s with heap:=s.heap.push {cls:=.type "tuple",data:=.seq ((items.toList.drop (sIx items.size 0 lo)).take (sIx items.size items.size hi-sIx items.size 0 lo)).toArray}})
 (hsz:items.size<=sizeLine):wpAny (model prog w) A (getItem (.ref t) (.ref sl)) Q E s:=by
 have htake:sizeOk (.seq ((items.toList.drop (sIx items.size 0 lo)).take (sIx items.size items.size hi-sIx items.size 0 lo)).toArray):=by
  show((items.toList.drop (sIx items.size 0 lo)).take (sIx items.size items.size hi-sIx items.size 0 lo)).toArray.size<=sizeLine
  rw[vah,vd9,vdo,vc7]
  omega
 have hj:sIx items.size items.size hi<=items.size:=zu0 _ _ (vad _) hi
 obtain⟨os,hos,hcs,hds⟩:=id hs
 have hTs:s.TypeIs (.ref sl) "slice":=⟨os,hos,hcs⟩
 unfold getItem
 try with_reducible refine vb0 ?_
 first|refine vab (vag ?_)|skip
 refine vab (wpAny_sequenceKey ht.typeIs (by decide) ?_)
 refine vab (vb3 (name:=Str.ofString "__getitem__") ht.typeIs va7
  (vcz va7 ht.typeIs entry_tuple_getitem ?_ (args_tuple_getitem _ _)))
 show wpAny _ _ (Builtin.Tuple.tupleItemsOf (.ref t) >>= _) _ _ s
 refine vab (tupleItemsOf_ ht ?_)
 refine vab (veh hTs ?_)
 rw[if_pos (by decide)]
 refine vab (zbs hs pl pu ?_)
 have hno:¬((((sIx items.size 0 lo:Nat):Int)==0&& (1:Int)==1&& (sIx items.size items.size hi-sIx items.size 0 lo)==items.size)=true):=by
  intro q
  rw[vaa,vaa]at q
  have q1:((sIx items.size 0 lo:Nat):Int)=0:=eq_of_beq q.1.1
  have q2:sIx items.size items.size hi-sIx items.size 0 lo=items.size:=eq_of_beq q.2
  exact hw ⟨by omega,by omega⟩
 show wpAny _ _ (if(((sIx items.size 0 lo:Nat):Int)==0&& (1:Int)==1&& (sIx items.size items.size hi-sIx items.size 0 lo)==items.size)=true then _ else _) _ _ s
 rw[if_neg hno,zow]
 first
  |exact vab (m:=Builtin.Tuple.tupleExact _) (vbs (vag ⟨_,rfl,vag h⟩) htake)
  |exact vab (m:=Builtin.Tuple.tupleExact _) (vbs (vab (vag (vag ⟨_,rfl,vag h⟩))) htake)
  |exact vab (vab (m:=Builtin.Tuple.tupleExact _) (vbs (vag (vag ⟨_,rfl,vag h⟩)) htake))
  |exact vab (vab (m:=Builtin.Tuple.tupleExact _) (vbs (vag ⟨_,rfl,vag h⟩) htake))
end
end HT
namespace L2
open PySem PySem.Spec PyProof.Rows
noncomputable abbrev TO:=St->Hp->(Option Int->Hp->Prop)->Prop
noncomputable def PO(X:Cx)(e:Option Expr)(t:TO):Prop:=
 ∀(pins:List (Addr×Obj))(s:Shared)(σ:St)(H:Hp)(Q:Option Int->Hp->Prop),Inv X pins σ H s->t σ H Q->
  wpAny (model X.prog X.w) X.A (evalPart e X.env) (λu s'=>∃o H',Inv X pins σ H' s'/\IsPart u o/\Q o H') X.xe s
noncomputable def zr4:TO:=λ_ H Q=>Q none H
noncomputable def tPart(t:TE):TO:=λσ H Q=>t σ H λx H1=>∃i,x=.int i/\Q (some i) H1
section
variable{X:Cx}{e:Expr}{te:TE}{lo hi:Option Expr}{tl th:TO}{pos p2:Pos}
theorem zr5:PO X none zr4:=by
 intro pins s σ H Q I h
 rw[evalPart_none]
 exact vag ⟨none,H,I,.none,h⟩
theorem zr6(h:PE X e te):PO X (some e) (tPart te):=by
 intro pins s σ H Q I hw
 rw[evalPart_some]
 refine thn (h pins s σ H _ I hw) λu s1 z9=>z9.el λx H1 I1 r1 q1=>?_
 obtain⟨i,rfl,q⟩:=q1
 obtain⟨t,rfl⟩:=r1
 exact⟨some i,H1,I1,.int i t,q⟩
noncomputable def SlR(X:Cx)(r:V->Option Int->Option Int->Hp->VK->Prop):Prop:=
 ∀(pins:List (Addr×Obj))(s:Shared)(σ:St)(H:Hp)(x:V)(v vl vu:Value)(lo hi:Option Int)(sl:Addr)(Q:VK),Inv X pins σ H s->RelV x v->s.heap.IsSliceOf sl vl vu .none->IsPart vl lo->IsPart vu hi->r x lo hi H Q->
  ∃T id,typeLookup (.type T) "__getitem__" = pure (some (.builtin id))/\s.TypeIs v T/\wpAny (model X.prog X.w) X.A (getItem v (.ref sl)) (EP X pins σ Q) X.xe s
theorem SlR.or{r r':V->Option Int->Option Int->Hp->VK->Prop}(h:SlR X r)(h':SlR X r'):SlR X (λx lo hi H Q=>r x lo hi H Q\/r' x lo hi H Q):=by
 intro pins s σ H x v vl vu lo hi sl Q I rx hs pl pu q
 rcases q with q|q
 .exact h pins s σ H x v vl vu lo hi sl Q I rx hs pl pu q
 .exact h' pins s σ H x v vl vu lo hi sl Q I rx hs pl pu q
noncomputable def tSl(r:V->Option Int->Option Int->Hp->VK->Prop)(te:TE)(tl th:TO):TE:=λσ H Q=>te σ H λx H1=>tl σ H1 λl H2=>th σ H2 λu H3=>r x l u H3 Q
theorem zox{r:V->Option Int->Option Int->Hp->VK->Prop}(hr:SlR X r)(he:PE X e te)(hl:PO X lo tl)(hu:PO X hi th):PE X (.Subscript e (.Slice lo hi none p2) pos) (tSl r te tl th):=by
 intro pins s σ H Q I h
 refine Subscript_ (thn (he pins s σ H _ I h) λv s1 z9=>z9.el λx H1 I1 r1 q1=>?_)
 refine wpAny_Slice (thn (hl pins s1 σ H1 _ I1 q1) λvl s2 ⟨l,H2,I2,pl,q2⟩=>thn (hu pins s2 σ H2 _ I2 q2) λvu s3 hq0=>?_)
 obtain⟨u,H3,I3,pu,q3⟩:=hq0
 rw[evalPart_none]
 refine vag ?_
 have I4:Inv X pins σ H3 {s3 with heap:=s3.heap.push {cls:=.type "slice",data:=.fields #[vl,vu,.none]}}:=I3.kept (t':=s3.toks) λb ob q=>vac _ q
 obtain⟨T,id,hT,ht,hg⟩:=hr pins {s3 with heap:=s3.heap.push {cls:=.type "slice",data:=.fields #[vl,vu,.none]}} σ H3 x v vl vu l u s3.heap.objs.size Q I4 r1 (Heap.IsSliceOf.new ..) pl pu q3
 show wpAny (model X.prog X.w) X.A (subscriptTail e (.Slice lo hi none p2) v (.ref s3.heap.objs.size)) (EP X pins σ Q) X.xe {s3 with heap:=s3.heap.push {cls:=.type "slice",data:=.fields #[vl,vu,.none]}}
 exact tail_any (ops:=[.ref s3.heap.objs.size,v]) ht hT hg (by with_unfolding_all rfl)
noncomputable def cutV(xs:List V)(lo hi:Option Int):List V:=(xs.drop (HT.sIx xs.length 0 lo)).take (HT.sIx xs.length xs.length hi-HT.sIx xs.length 0 lo)
theorem zeb(xs:List V)(lo hi:Option Int):(cutV xs lo hi).length<=xs.length:=by
 unfold cutV
 rw[vd9,vdo]
 omega
noncomputable def rSlT(K:vga):V->Option Int->Option Int->Hp->VK->Prop:=λx lo hi H Q=>∃a xs,x=.ref a/\SqT K H a xs/\
 ¬(HT.sIx xs.length 0 lo=0/\HT.sIx xs.length xs.length hi=xs.length)/\∀p,H p=none->Q (.ref p) (upd H p (.tup (cutV xs lo hi)))
theorem zu1:SlR X (rSlT X.K):=by
 intro pins s σ H x v vl vu lo hi sl Q I rx hs pl pu h
 obtain⟨a,xs,rfl,hx,hw,q⟩:=h
 cases rx
 obtain⟨its,r,ht,hz⟩:=I.tuple hx
 have hlen:its.toArray.size=xs.length:=by rw[vah];exact r.length.symm
 refine⟨"tuple",_,va7.lookup,ht.typeIs,?_⟩
 refine HT.getItem_tuple_cut ht hs pl pu (by rw[hlen];exact hw) ?_ (by rw[hlen];exact hz)
 rw[hlen]
 refine⟨.ref s.heap.objs.size,_,I.laid (t':=s.toks) (o:=.tup (cutV xs lo hi)) (λb ob q=>vac _ q) (vad _) ?_,rfl,q _ (I.hok.fresh (vad _))⟩
 exact⟨van (zeb xs lo hi) hz,_,(r.drop (HT.sIx xs.length 0 lo)).take (HT.sIx xs.length xs.length hi-HT.sIx xs.length 0 lo),zbf.new _ _⟩
noncomputable def rCatT(K:vga):R2:=λx y H Q=>∃a b xs ys,x=.ref a/\y=.ref b/\SqT K H a xs/\SqT K H b ys/\xs≠[]/\xs.length+ys.length<=sizeLine/\
 (ys=[]->Q (.ref a) H)/\(ys≠[]->∀p,H p=none->Q (.ref p) (upd H p (.tup (xs++ys))))
theorem Vals.nil_iff{xs:List V}{us:List Value}(r:Vals xs us):us=[]↔xs=[]:=by
 cases r with
 |nil=>simp
 |cons _ _=>simp
theorem zr7:OpR X (binaryOp .Add) (rCatT X.K):=by
 intro pins s σ H x y v u Q I rx ry h
 obtain⟨a,b,xs,ys,rfl,rfl,ha,hb,hx,hz,q1,q2⟩:=h
 cases rx
 cases ry
 obtain⟨its,r1,p1,_⟩:=I.tuple ha
 obtain⟨its2,r2,p2,_⟩:=I.tuple hb
 refine HT.cat_tup p1 p2 (λz=>hx (r1.nil_iff.mp z)) (λz=>⟨.ref a,H,I,rfl,q1 (r2.nil_iff.mp z)⟩) (λz=>?_) (by rw[<-r1.length,<-r2.length];exact hz)
 refine⟨.ref s.heap.objs.size,_,I.laid (t':=s.toks) (o:=.tup (xs++ys)) (λb ob q=>vac _ q) (vad _) ?_,rfl,q2 (λw=>z (r2.nil_iff.mpr w)) _ (I.hok.fresh (vad _))⟩
 exact⟨by rw[vaj];exact hz,_,r1.append r2,zbf.new _ _⟩
end
noncomputable def ixN(n:Nat)(i:Int):Option Nat:=if 0<=i then(if i<n then some i.toNat else none)else if -(n:Int)<=i then some (i+n).toNat else none
noncomputable def atI{α:Type}(xs:List α)(i:Int):Option α:=(ixN xs.length i).bind λj=>xs[j]?
theorem zlq{n:Nat}{i:Int}{j:Nat}(h:ixN n i=some j):seqIndex? i n=some j/\j<n/\-(n:Int)<=i/\i<n:=by
 unfold ixN at h
 by_cases h0:0<=i
 .rw[if_pos h0]at h
  by_cases h1:i<n
  .rw[if_pos h1]at h
   have e:i.toNat=j:=vb9 h
   exact⟨by rw[seqIndex_of h0 h1,e],by omega,by omega,h1⟩
  .rw[if_neg h1]at h;cases h
 .rw[if_neg h0]at h
  by_cases h1:-(n:Int)<=i
  .rw[if_pos h1]at h
   have e:(i+n).toNat=j:=vb9 h
   exact⟨by rw[seqIndex_neg (by omega) h1,e],by omega,h1,by omega⟩
  .rw[if_neg h1]at h;cases h
theorem zlr{α:Type}{xs:List α}{i:Int}{v:α}(h:atI xs i=some v):∃j,seqIndex? i xs.length=some j/\xs[j]?=some v/\j<xs.length/\-(xs.length:Int)<=i/\i<xs.length:=by
 unfold atI at h
 cases e:ixN xs.length i with
 |none=>rw[e]at h;cases h
 |some j=>
  rw[e]at h
  obtain⟨h1,h2,h3,h4⟩:=zlq e
  exact⟨j,h1,h,h2,h3,h4⟩
theorem zbd{α:Type}{xs:List α}{j:Nat}{v:α}(h:xs[j]?=some v):atI xs (j:Int)=some v:=by
 have hj:j<xs.length:=(vas.mp h).1
 have e:ixN xs.length (j:Int)=some j:=by
  unfold ixN
  rw[if_pos (by omega),if_pos (by omega)];simp
 unfold atI;rw[e];exact h
theorem zoy{α:Type}(xs:List α)(v:α):atI (xs++[v]) (-1)=some v:=by
 have hl:(xs++[v]).length=xs.length+1:=by simp
 have e:ixN (xs++[v]).length (-1)=some xs.length:=by
  unfold ixN
  rw[hl,if_neg (by decide),if_pos (by omega)]
  congr 1
  omega
 unfold atI
 rw[e]
 show(xs++[v])[xs.length]?=some v
 simp
noncomputable def zf4(b:Expr):Prop:=∀o i,subscripted b false o i=operate [o,i] (getItem o i)
noncomputable def IxR(X:Cx)(r:R2):Prop:=
 ∀(value slice:Expr)(pins:List (Addr×Obj))(s:Shared)(σ:St)(H:Hp)(x y:V)(v u:Value)(Q:VK),Inv X pins σ H s->RelV x v->RelV y u->r x y H Q->
  subscripted slice false v u=operate [v,u] (getItem v u)->wpAny (model X.prog X.w) X.A (subscriptTail value slice v u) (EP X pins σ Q) X.xe s
noncomputable def MtR(X:Cx)(id:String)(r:V->List V->Hp->VK->Prop):Prop:=
 ∀(pins:List (Addr×Obj))(s:Shared)(σ:St)(H:Hp)(x:V)(xs:List V)(v:Value)(us:List Value)(Q:VK),Inv X pins σ H s->RelV x v->Vals xs us->r x xs H Q->
  wpAny (model X.prog X.w) X.A (call (.builtin id) (v::us)) (EP X pins σ Q) X.xe s
section
variable{X:Cx}{a b:Expr}{ta tb:TE}{pos:Pos}
theorem IxR.or{r r':R2}(h:IxR X r)(h':IxR X r'):IxR X (λx y H Q=>r x y H Q\/r' x y H Q):=by
 intro value slice pins s σ H x y v u Q I rx ry q hs
 rcases q with q|q
 .exact h value slice pins s σ H x y v u Q I rx ry q hs
 .exact h' value slice pins s σ H x y v u Q I rx ry q hs
theorem pe_ix{r:R2}(hr:IxR X r)(ha:PE X a ta)(hb:PE X b tb)(hs:zf4 b):PE X (.Subscript a b pos) (tOp r ta tb):=by
 intro pins s σ H Q I h
 exact Subscript_ (binT ha hb I h λv u s2 x y H2 I2 rx ry q=>hr a b pins s2 σ H2 x y v u Q I2 rx ry q (hs _ _))
noncomputable def rIxL(K:vga):R2:=λx y H Q=>∃p xs i v,x=.ref p/\y=.int i/\SqL K H p xs/\atI xs i=some v/\Q v H
noncomputable def rIxT(K:vga):R2:=λx y H Q=>∃p xs i v,x=.ref p/\y=.int i/\SqT K H p xs/\atI xs i=some v/\Q v H
theorem zls:IxR X (rIxL X.K):=by
 intro value slice pins s σ H x y v u Q I rx ry h hs
 obtain⟨p,xs,i,z,rfl,rfl,hq,he,q⟩:=h
 cases rx
 obtain⟨t,rfl⟩:=ry
 obtain⟨its,r,pl,hz⟩:=I.list hq
 obtain⟨j,h1,h2,h3,h4,h5⟩:=zlr he
 obtain⟨w,ew,rw'⟩:=r.get h2
 have hl:=r.length
 have hn:=zg3
 have fin:EP X pins σ Q w s:=⟨z,H,I,rw',q⟩
 by_cases h0:0<=i
 .have hj:i.toNat=j:=by
   rw[seqIndex_of h0 h5]at h1
   exact vb9 h1
  exact item_listR pl.isList h0 (by omega) (by rw[hj];simpa using ew) fin hs
 .have hj:(i+ (its.toArray.size:Int)).toNat=j:=by
   rw[seqIndex_neg (by omega) h4]at h1
   rw[vah,<-hl]
   exact vb9 h1
  exact subscriptTail_builtinR (x:=w) pl.isList.typeIs slot_list_getitem.lookup
   (wpAny_getItem_list_neg (Q:=λr s'=>r=w/\EP X pins σ Q r s') pl.isList (by omega) (by rw[vah]<;>omega) (by omega) (by rw[hj];simpa using ew) ⟨rfl,fin⟩) hs
theorem zu2:IxR X (rIxT X.K):=by
 intro value slice pins s σ H x y v u Q I rx ry h hs
 obtain⟨p,xs,i,z,rfl,rfl,hq,he,q⟩:=h
 cases rx
 obtain⟨t,rfl⟩:=ry
 obtain⟨its,r,pl,hz⟩:=I.tuple hq
 obtain⟨j,h1,h2,h3,h4,h5⟩:=zlr he
 obtain⟨w,ew,rw'⟩:=r.get h2
 have hl:=r.length
 have hn:=zg3
 have fin:EP X pins σ Q w s:=⟨z,H,I,rw',q⟩
 exact subscriptTail_builtinR (x:=w) pl.typeIs slot_tuple_getitem.lookup
  (getItem_tuple (j:=j) (Q:=λr s'=>r=w/\EP X pins σ Q r s') pl (by omega) (by omega) (by rw[vah,<-hl];exact h1) (by simpa using ew) ⟨rfl,fin⟩) hs
theorem zki(its:List Value)(n j:Nat)(u:Value):Obj.mapSeq (·.setIfInBounds j u) {cls:=.type "list",data:=.seq its.toArray n} ={cls:=.type "list",data:=.seq (its.set j u).toArray n}:=by
 simp[Obj.mapSeq]
theorem Inv.lst{pins:List (Addr×Obj)}{σ:St}{H:Hp}{s:Shared}{p:Addr}{xs:List V}(I:Inv X pins σ H s)(h:H p=some (.lst xs)) :
 ∃(its:List Value) (n:Nat),Vals xs its/\s.heap.get? p=some {cls:=.type "list",data:=.seq its.toArray n}/\xs.length<=sizeLine:=by
 obtain⟨z,its,n,r,e⟩:=I.hok p _ h
 exact⟨its,n,r,e,z⟩
theorem Inv.lstUpd{pins:List (Addr×Obj)}{σ:St}{H:Hp}{s:Shared}{p:Addr}{xs ys:List V}{its its':List Value}{n n':Nat}{f:Obj->Obj}(I:Inv X pins σ H s)(h:H p=some (.lst xs))
 (ho:s.heap.get? p=some {cls:=.type "list",data:=.seq its.toArray n}) (hf:f {cls:=.type "list",data:=.seq its.toArray n} ={cls:=.type "list",data:=.seq its'.toArray n'}) (r:Vals ys its') (hz:ys.length<=sizeLine) (t:Nat) :
 Inv X pins σ (upd H p (.lst ys)) {s with heap:=s.heap.update p f,toks:=t}:=by
 have e:(s.heap.update p f).get? p=some {cls:=.type "list",data:=.seq its'.toArray n'}:=by
  rw[vcn f ho (by rw[hf]<;>rfl),hf]
 refine I.write (x:=p) (e:=p) (by rw[h];trivial) (.inl rfl) (λb u hb q=>(vb8 _ _ (vbz hb)).trans q) ⟨_,e⟩ ?_
 exact⟨hz,its',n',r,e⟩
noncomputable def rSetL:V->V->V->Hp->(Hp->Prop)->Prop:=λo i v H Q=>∃p xs k j,o=.ref p/\i=.int k/\H p=some (.lst xs)/\ixN xs.length k=some j/\Q (upd H p (.lst (xs.set j v)))
theorem zoz:PSet X rSetL:=by
 intro pins s σ H o i v ov iv u Q I ro ri rv h
 obtain⟨p,xs,k,j,rfl,rfl,hp,hj,q⟩:=h
 cases ro
 obtain⟨t,rfl⟩:=ri
 obtain⟨its,n,r,ho,hz⟩:=I.lst hp
 obtain⟨h1,h2,h3,h4⟩:=zlq hj
 have hl:=r.length
 have hn:=zg3
 have I':Inv X pins σ (upd H p (.lst (xs.set j v))) {s with heap:=s.heap.update p (Obj.mapSeq (·.setIfInBounds j u))}:=
  I.lstUpd hp ho (zki its n j u) (r.set rv j) (by rw[vdg];exact hz) s.toks
 by_cases h0:0<=k
 .have hk:k.toNat=j:=by
   rw[seqIndex_of h0 h4]at h1
   exact vb9 h1
  exact PySem.W.ki_setAt ho h0 (by omega) (by rw[vah,<-hl];exact h4) (by rw[hk];exact⟨_,I',q⟩)
 .have hk:(k+ (its.toArray.size:Int)).toNat=j:=by
   rw[seqIndex_neg (by omega) h3]at h1
   rw[vah,<-hl]
   exact vb9 h1
  exact PySem.W.ki_setBack ho (by omega) (by rw[vah,<-hl];exact h3) (by omega) (by rw[hk];exact⟨_,I',q⟩)
theorem zha(lo hi:Option Int)(n:Nat):(sliceBounds lo hi none n).1=((HT.sIx n 0 lo:Nat):Int)/\(sliceBounds lo hi none n).2.1=((HT.sIx n n hi:Nat):Int)/\(sliceBounds lo hi none n).2.2=1:=by
 refine⟨?_,?_,rfl⟩
 .cases lo with
  |none=>simp[sliceBounds,HT.sIx]
  |some i=>
   simp only[sliceBounds,HT.sIx,Option.getD_none,show(1:Int)>0 by decide,vbj]
   by_cases h:i<0
   .simp only[h,vbj]<;>omega
   .simp only[h,vbo]<;>omega
 .cases hi with
  |none=>simp[sliceBounds,HT.sIx]
  |some i=>
   simp only[sliceBounds,HT.sIx,Option.getD_none,show(1:Int)>0 by decide,vbj]
   by_cases h:i<0
   .simp only[h,vbj]<;>omega
   .simp only[h,vbo]<;>omega
theorem zf5(its:List Value)(lo hi:Option Int):slicePick its.toArray lo hi none=((its.drop (HT.sIx its.length 0 lo)).take (HT.sIx its.length its.length hi-HT.sIx its.length 0 lo)).toArray:=by
 obtain⟨h1,h2,h3⟩:=zha lo hi its.toArray.size
 unfold slicePick
 rw[h1,h2,h3]
 simp only[sliceRange_one,pick_run,vah]<;>rfl
noncomputable def rSlL(K:vga):V->Option Int->Option Int->Hp->VK->Prop:=λx lo hi H Q=>∃a xs,x=.ref a/\SqL K H a xs/\∀p,H p=none->Q (.ref p) (upd H p (.lst (cutV xs lo hi)))
theorem zr8:SlR X (rSlL X.K):=by
 intro pins s σ H x v vl vu lo hi sl Q I rx hs pl pu h
 obtain⟨a,xs,rfl,hx,q⟩:=h
 cases rx
 obtain⟨its,r,ht,hz⟩:=I.list hx
 have hlen:=r.length
 refine⟨"list",_,slot_list_getitem.lookup,ht.isList.typeIs,?_⟩
 refine wpAny_getItem_list_slice ht.isList hs pl pu .none (by simp) ?_ (by rw[vah]<;>omega)
 rw[zf5,<-hlen]
 refine⟨.ref s.heap.objs.size,_,I.laid (t':=s.toks) (o:=.lst (cutV xs lo hi)) (λb ob q=>vac _ q) (vad _) ?_,rfl,q _ (I.hok.fresh (vad _))⟩
 exact⟨van (zeb xs lo hi) hz,_,0,(r.drop (HT.sIx xs.length 0 lo)).take (HT.sIx xs.length xs.length hi-HT.sIx xs.length 0 lo),vaz _ rfl⟩
theorem zhb:CallR X (.builtin "len") (λxs H Q=>∃p ys,xs=[.ref p]/\(SqL X.K H p ys\/SqT X.K H p ys)/\Q (.int ys.length) H):=by
 intro pins s σ H xs us Q I r h
 obtain⟨p,ys,rfl,hq,q⟩:=h
 obtain⟨u,rfl,rx⟩:=vals1 r
 cases rx
 have hn:=zg3
 rcases hq with hq|hq
 .obtain⟨its,r',pl,hz⟩:=I.list hq
  have hlen:=r'.length
  exact Calls.call_len_list pl.isList (by simp only[vah]<;>omega) ⟨.int ys.length,H,I.tok _,⟨s.toks+1,by rw[vah,hlen]⟩,q⟩
 .obtain⟨its,r',pl,hz⟩:=I.tuple hq
  have hlen:=r'.length
  exact len_tuple pl (by simp only[vah]<;>omega) ⟨.int ys.length,H,I.tok _,⟨s.toks+1,by rw[vah,hlen]⟩,q⟩
theorem zhc:CallR X (.type "list") (λxs H Q=>∃p ys,xs=[.ref p]/\(SqL X.K H p ys\/SqT X.K H p ys)/\∀l,H l=none->Q (.ref l) (upd H l (.lst ys))):=by
 intro pins s σ H xs us Q I r h
 obtain⟨p,ys,rfl,hq,q⟩:=h
 obtain⟨u,rfl,rx⟩:=vals1 r
 cases rx
 have fin:∀(its:List Value),Vals ys its->ys.length<=sizeLine->∀(h':Heap)(c':Nat),(∀b o',s.heap.get? b=some o'->h'.get? b=some o')->
  h'.get? s.heap.objs.size=some {cls:=.type "list",dict:=none,data:=.seq its.toArray c',slots:=#[]}->EP X pins σ Q (.ref s.heap.objs.size) {s with heap:=h'}:=λits r' hz h' c' kp e=>
  ⟨.ref s.heap.objs.size,_,I.laid (t':=s.toks) kp (vad _) (show ObjOk X.prog X.w _ h' _ (.lst ys)from⟨hz,its,c',r',e⟩),rfl,q _ (I.hok.fresh (vad _))⟩
 rcases hq with hq|hq
 .obtain⟨its,r',pl,hz⟩:=I.list hq
  have hlen:=r'.length
  obtain⟨o,ho,hc,n,hd⟩:=pl.isList
  exact call_list_seq p (.inl rfl) ho hc hd (λh' c' kp e=>fin its r' hz h' c' kp e) (by simp only[vah]<;>omega)
 .obtain⟨its,r',pl,hz⟩:=I.tuple hq
  have hlen:=r'.length
  obtain⟨o,ho,hc,n,hd⟩:=pl
  exact call_list_seq p (.inr rfl) ho hc hd (λh' c' kp e=>fin its r' hz h' c' kp e) (by simp only[vah]<;>omega)
theorem zf6:CallR X (.type "tuple") (λxs H Q=>∃p ys,xs=[.ref p]/\((SqL X.K H p ys/\∀l,H l=none->Q (.ref l) (upd H l (.tup ys)))\/(SqT X.K H p ys/\Q (.ref p) H))):=by
 intro pins s σ H xs us Q I r h
 obtain⟨p,ys,rfl,h⟩:=h
 obtain⟨u,rfl,rx⟩:=vals1 r
 cases rx
 rcases h with⟨hq,q⟩|⟨hq,q⟩
 .obtain⟨its,r',pl,hz⟩:=I.list hq
  have hlen:=r'.length
  refine call_tuple_list pl.isList (λh' kp=>?_) (by simp only[vah]<;>omega)
  have I1:Inv X pins σ H {s with heap:=h'}:=I.kept (t':=s.toks) kp
  have I2:Inv X pins σ (upd H h'.objs.size (.tup ys)) {s with heap:=h'.push {cls:=.type "tuple",data:=.seq its.toArray}}:=
   I1.laid (t':=s.toks) (λb o e=>vac _ e) (vad _) (show ObjOk X.prog X.w _ _ _ (.tup ys)from⟨hz,its,r',zbf.new _ _⟩)
  exact⟨.ref h'.objs.size,_,I2,rfl,q _ (I1.hok.fresh (vad _))⟩
 .obtain⟨its,r',pl,hz⟩:=I.tuple hq
  exact call_tuple_same pl ⟨.ref p,H,I,rfl,q⟩
noncomputable def tyV(K:vga)(T:String)(x:V)(H:Hp):Prop:=match x with
 |.str _=>T = "str"
 |.int _=>T = "int"
 |.ref p=>(T = "list"/\∃xs,SqL K H p xs)\/(T = "tuple"/\∃xs,SqT K H p xs)\/
  (T = "dict"/\((∃kvs,H p=some (.dK kvs))\/∃kvs,H p=some (.dT kvs)))\/(T = "set"/\∃S n,H p=some (.set S n))
 |_=>False
theorem zu3{pins:List (Addr×Obj)}{σ:St}{H:Hp}{s:Shared}{T:String}{x:V}{v:Value}(I:Inv X pins σ H s)(r:RelV x v)(ty:tyV X.K T x H) :
 s.TypeIs v T/\∀a,v=.ref a->∃ob,s.heap.get? a=some ob/\ob.dict=none:=by
 cases x with
 |str z=>
  obtain⟨t,rfl⟩:=r
  cases(show T = "str"from ty)
  exact⟨typeIs_str s z t,λ_ e=>nomatch e⟩
 |int i=>
  obtain⟨t,rfl⟩:=r
  cases(show T = "int"from ty)
  exact⟨typeIs_int s i t,λ_ e=>nomatch e⟩
 |ref p=>
  cases r
  rcases ty with⟨rfl,xs,hq⟩|⟨rfl,xs,hq⟩|⟨rfl,hk⟩|⟨rfl,S,n,hk⟩
  .obtain⟨its,_,pl,_⟩:=I.list hq
   refine⟨pl.isList.typeIs,λa e=>?_⟩
   cases e
   obtain⟨o,n,e,c,hd,_⟩:=pl
   exact⟨o,e,hd⟩
  .obtain⟨its,_,⟨o,h1,h2,_,h3⟩,_⟩:=I.tupleD hq
   refine⟨⟨o,h1,h2⟩,λa e=>?_⟩
   cases e
   exact⟨o,h1,h3⟩
  .have z:∃o,s.heap.get? p=some o/\o.ExactDict:=by
    rcases hk with⟨kvs,hk⟩|⟨kvs,hk⟩
    .obtain⟨_,_,_,_,o,_,_,e,ex,_⟩:=I.hok p _ hk
     exact⟨o,e,ex⟩
    .obtain⟨_,_,_,_,o,_,_,e,ex,_⟩:=I.hok p _ hk
     exact⟨o,e,ex⟩
   obtain⟨o,e,ex⟩:=z
   refine⟨⟨o,e,ex.1⟩,λa e2=>?_⟩
   cases e2
   exact⟨o,e,ex.2.1⟩
  .obtain⟨o,_,_,_,e,ex,_⟩:=I.hok p _ hk
   refine⟨⟨o,e,ex.1⟩,λa e2=>?_⟩
   cases e2
   exact⟨o,e,ex.2.1⟩
 |_=>exact False.elim ty
noncomputable def tBM(K:vga)(T:String)(r:V->List V->Hp->VK->Prop)(to:TE)(t:TA):TE:=λσ H Q=>to σ H λx H1=>tyV K T x H1/\t σ H1 λxs H2=>r x xs H2 Q
variable{o e:Expr}{es:List Expr}{to:TE}{t:TA}{name:Str}{apos cpos:Pos}{T id:String}{r:V->List V->Hp->VK->Prop}
theorem pe_bm(pa:PlainAttrs T)(slot:Slot T name id)(hty:typeOf (.builtin id)=pure (.type "method_descriptor"))(hm:MtR X id r)(ho:PE X o to)(ha:PA X (e::es) t)
 (hbase:attributeBase o name X.env (eval o X.env)=eval o X.env:=by rfl)
 (hfew:((backTo cpos (starEach (e::es) X.env)).all (λx=>!x.1)&& (backToKw cpos (keywordEach [] X.env)).all (λx=>x.1.isSome)
   && decide ((e::es).length+ ([]:List Keyword).length+ (if([]:List Keyword).isEmpty then 0 else 1)<30))=true:=by rfl)
 (hline:(apos.endLine==cpos.line)=true:=by rfl) (hs:starEach (e::es) X.env=(false,eval e X.env)::starEach es X.env:=by rfl) (hplain:(backTo cpos (starEach es X.env)).any (·.1)=false:=by rfl) :
 PE X (.Call (.Attribute o name apos) (e::es) [] cpos) (tBM X.K T r to t):=by
 intro pins s σ H Q I h
 refine wpAny_Call_method_late hbase hfew hline rfl (thn (ho pins s σ H _ I h) λv s1 z9=>z9.el λx H1 I1 r1 hq0=>?_)
 obtain⟨ty,q1⟩:=hq0
 obtain⟨h1,h2⟩:=zu3 I1 r1 ty
 refine⟨T,id,pa,slot,hty,h1,h2,?_⟩
 have hA:=ha cpos pins s1 σ H1 _ I1 q1
 rw[hs]at hA ⊢
 refine Calls.callWith_builtin (by show(false|| (backTo cpos (starEach es X.env)).any (·.1))=false;rw[hplain]<;>rfl) (Calls.evalArgs_plain ?_)
 exact thn hA λus s2 z9=>z9.el λvs H2 I2 r2 q2=>hm pins s2 σ H2 x vs v us Q I2 r1 r2 q2
/- xs.append(e),list.index on a module's tuple .. are MtR facts of 06m -/
end
noncomputable def MtM(X:Cx)(id:String)(r:V->List V->Hp->VK->Prop):Prop:=
 ∀(pins:List (Addr×Obj))(s:Shared)(σ:St)(H:Hp)(x:V)(xs:List V)(v:Value)(us:List Value)(Q:VK),Inv X pins σ H s->RelV x v->Vals xs us->r x xs H Q->
  wpAny (model X.prog X.w) X.A (call (.builtin id) (v::us)) (EP X pins σ Q) X.xe s
theorem Vals.one:∀{x:V} {us:List Value},Vals [x] us->∃u,us=[u]/\RelV x u
 |_,_,.cons r .nil=>⟨_,rfl,r⟩
theorem Vals.reverse{xs:List V}{us:List Value}(h:Vals xs us):Vals xs.reverse us.reverse:=by
 induction h with
 |nil=>exact .nil
 |cons r t ih=>rw[vdl,vdl];exact Vals.append ih (.cons r .nil)
theorem Vals.rep{xs:List V}{us:List Value}(h:Vals xs us):∀k:Nat,Vals (vgc k xs).flatten (vgc k us).flatten
 |0=>.nil
 |k+1=>by
  rw[vbe,vbe,vcl,vcl]
  exact Vals.append h (Vals.rep h k)
theorem zhd(its:List Value):∀(k:Nat) (acc:List Value),
 List.foldl (λx1 x2=>x1++x2) acc.toArray (vgc k its.toArray)=(acc++(vgc k its).flatten).toArray
 |0,acc=>by simp
 |k+1,acc=>by
  have e:acc.toArray++its.toArray=(acc++its).toArray:=by simp
  have e2:(acc++its)++(vgc k its).flatten=acc++(vgc (k+1) its).flatten:=by
   rw[vbe,vcl,List.append_assoc]
  rw[<-e2,<-zhd its k (acc++its),<-e,vbe,List.foldl_cons]
section
variable{X:Cx}{pins:List (Addr×Obj)}{σ:St}{H:Hp}{s:Shared}{l b:Addr}{xs ys zs:List V}
theorem Inv.lset{its its':List Value}{n:Nat}{f:Array Value->Array Value}{t':Nat}(I:Inv X pins σ H s)(hH:H l=some (.lst xs))
 (e:s.heap.get? l=some {cls:=.type "list",data:=.seq its.toArray n}) (hf:f its.toArray=its'.toArray) (hv:Vals ys its') (hz:ys.length<=sizeLine) :
 Inv X pins σ (upd H l (.lst ys)) {s with heap:=s.heap.update l (Obj.mapSeq f),toks:=t'}:=by
 have q:=PySem.IsL.update e f
 rw[hf]at q
 refine I.write (x:=l) (e:=l) (by rw[hH];exact trivial) (.inl rfl) (λb' u hb hu=>(vb8 s.heap (Obj.mapSeq f) (vbz hb)).trans hu) ⟨_,q⟩ ?_
 exact⟨hz,its',_,hv,q⟩
theorem Inv.lnew{its:List Value}{t':Nat}(I:Inv X pins σ H s)(hv:Vals ys its)(hz:ys.length<=sizeLine) :
 Inv X pins σ (upd H s.heap.objs.size (.lst ys)) {s with heap:=s.heap.push {cls:=.type "list",data:=.seq its.toArray},toks:=t'}:=
 I.laid (λ_ _ q=>vac _ q) (vad _) ⟨hz,its,0,hv,vaz _ rfl⟩
theorem Inv.fresh(I:Inv X pins σ H s):H s.heap.objs.size=none:=I.hok.fresh (vad _)
theorem Inv.lstM(I:Inv X pins σ H s)(hH:H l=some (.lst xs)):xs.length<=sizeLine/\∃(its:List Value) (n:Nat),Vals xs its/\xs.length=its.length/\s.heap.get? l=some {cls:=.type "list",data:=.seq its.toArray n}:=by
 obtain⟨z,its,n,r,e⟩:=I.hok l _ hH
 exact⟨z,its,n,r,r.length,e⟩
theorem zja{n:Nat}(h:n<=sizeLine):Builtin.List.listTooLong n=false:=by
 unfold Builtin.List.listTooLong
 exact vbw (by omega)
end
section
variable{X:Cx}
noncomputable def zr9:V->List V->Hp->VK->Prop:=λx vs H Q=>∃l xs y,x=.ref l/\vs=[y]/\H l=some (.lst xs)/\xs.length<sizeLine/\Q .non (upd H l (.lst (xs++[y])))
theorem zhe:MtM X "list.append" zr9:=by
 intro pins s σ H x vs v us Q I rx rv h
 obtain⟨l,xs,y,rfl,rfl,hH,hz,q⟩:=h
 cases rx
 obtain⟨u,rfl,ru⟩:=rv.one
 obtain⟨z,its,n,r,hl,e⟩:=I.lstM hH
 refine vdu F.slot_list_append ⟨_,e,rfl⟩ F.entry_list_append (F.args_list_append_2 _ _) (PySem.list_append l its.toArray n u (by rw[vah];omega)) ⟨e,?_⟩
 refine⟨.non,_,I.lset (its':=its++[u]) hH e (by simp) (r.append (.cons ru .nil)) ?_,rfl,q⟩
 rw[vaj,vbt]
 omega
noncomputable def zsa:V->List V->Hp->VK->Prop:=λx vs H Q=>∃l b xs zs,x=.ref l/\vs=[.ref b]/\H l=some (.lst xs)/\H b=some (.lst zs)/\xs.length+zs.length<=sizeLine/\Q .non (upd H l (.lst (xs++zs)))
theorem zu4:MtM X "list.extend" zsa:=by
 intro pins s σ H x vs v us Q I rx rv h
 obtain⟨l,b,xs,zs,rfl,rfl,hH,hB,hz,q⟩:=h
 cases rx
 obtain⟨u,rfl,ru⟩:=rv.one
 cases ru
 obtain⟨z,its,n,r,hl,e⟩:=I.lstM hH
 obtain⟨z2,its2,n2,r2,hl2,e2⟩:=I.lstM hB
 have hsz:its.toArray.size+its2.toArray.size<=sizeLine:=by rw[vah,vah];omega
 have hlong:¬(!its.toArray.isEmpty&&Builtin.List.listTooLong (its.toArray.size+its2.toArray.size))=true:=by
  rw[zja hsz,vek]
  exact va3
 refine vdu F.slot_list_extend ⟨_,e,rfl⟩ F.entry_list_extend (F.args_list_extend_2 _ _)
  (AutoSeq1.list_extend_list_list_0 l its.toArray n b its2.toArray n2 hlong (by rw[vah];omega) (by omega)) ⟨e,e2,?_⟩
 refine⟨.non,_,I.lset (its':=its++its2) hH e (by simp) (r.append r2) ?_,rfl,q⟩
 rw[vaj]
 omega
noncomputable def rCat:R2:=λx y H Q=>∃l b xs zs,x=.ref l/\y=.ref b/\H l=some (.lst xs)/\H b=some (.lst zs)/\xs.length+zs.length<=sizeLine/\∀p,H p=none->Q (.ref p) (upd H p (.lst (xs++zs)))
theorem zlu:OpR X (binaryOp .Add) rCat:=by
 intro pins s σ H x y v u Q I rx ry h
 obtain⟨l,b,xs,zs,rfl,rfl,hH,hB,hz,q⟩:=h
 cases rx
 cases ry
 obtain⟨z,its,n,r,hl,e⟩:=I.lstM hH
 obtain⟨z2,its2,n2,r2,hl2,e2⟩:=I.lstM hB
 refine PySem.P.add_list e e2 ?_ (by rw[vah,vah];omega)
 have ea:its.toArray++its2.toArray=(its++its2).toArray:=by simp
 rw[ea]
 exact⟨.ref _,_,I.lnew (t':=s.toks) (r.append r2) (by rw[vaj];omega),rfl,q _ I.fresh⟩
theorem zlv{α:Type}(xs:List α)(k:Nat):(vgc k xs).flatten.length=k*xs.length:=by
 induction k with
 |zero=>simp
 |succ k ih=>rw[vbe,vcl,vaj,ih,Nat.succ_mul,Nat.add_comm]
end
end L2
namespace Att
open PySem PySem.W PySem.Calls PyProof.Rows
theorem zec{P:Params}{h:Heap}:∀(ns:List Int) (vs:List Value),WellAll P h vs (ns.map WData.int)->IntsAre vs ns:=by
 intro ns
 induction ns with
 |nil=>
  intro vs w
  rw[vdh]at w
  cases w
  exact .nil
 |cons n ns ih=>
  intro vs w
  rw[va0]at w
  cases w with
  |cons a b=>
   cases a
   exact .cons _ _ (ih _ b)
theorem zlw{l:OpenLaw}{n:Nat}(hn:l.most=some n){P:Params}{h:Heap}{args:List WData}{vals:List Value}
 (hpre:l.row.toRowW.claim.pre args=true) (hwl:WellAll P h vals args) :
 ∃a vs ns,vals=[Value.ref a]/\args=[WData.list (ns.map WData.int)]/\h.get? a=some {cls:=.type "list",data:=.seq vs.toArray}/\IntsAre vs ns/\ns.length<=n:=by
 have hsh:WShape.hasAll [] args [.list .int]=true:=(pre_splitW hpre).1
 have hc:l.pre.holds [] {args:=args}=true:=(pre_splitW hpre).2
 obtain⟨d,r,rfl,h1,h2⟩:=hasAllW_cons hsh
 obtain rfl:=hasAllW_nil h2
 obtain⟨xs,rfl,h3⟩:=hasW_list h1
 obtain⟨ns,rfl⟩:=items_int h3
 have hlen:ns.length<=n:=by
  unfold OpenLaw.pre at hc
  have h4:(WTm.not (.lt (.lit (.int (n:Int))) (.len (.arg 0)))).holds [] {args:=[.list (ns.map .int)]}=true:=by
   have h4:=(holds_andW hc).1
   rw[hn]at h4
   exact h4
  have h5:=condW_of h4 (w_not (w_lt w_lit (w_len_list (w_arg rfl))))
  rw[vaf]at h5
  refine Nat.le_of_not_lt λq=>?_
  have q':(n:Int)< ((ns.length:Nat):Int):=by omega
  first
   |(rw[decide_eq_true q']at h5;exact absurd h5 (by decide))
   |(simp at h5;omega)
 cases hwl with
 |cons w1 w2=>
  cases w2
  cases w1 with
  |list ho hall=>exact⟨_,_,ns,rfl,rfl,ho,zec ns _ hall,hlen⟩
theorem zlx(l:OpenLaw)(args:List WData):l.row.toRowW.claim.post args (.bool true) args=true:=
 postW_of (r:=l.row.toRowW) (X:=(true==true))
  (show WShape.has [] (.bool true) .bool=true by first|rfl|decide|simp[WShape.has,WShape.arms,WShape.armsAll])
  (show(WTm.eq .res (.lit (.bool true))).value [] {args:=args,res:=some (.bool true),after:=args}=some (.bool (true==true))from w_eq_bool (w_res rfl) w_lit) rfl
theorem attach_call{l:OpenLaw}{n:Nat}{q:Program}{loose:List Str}{XP:(Str->Option Value)->Heap->Prop}{YP:World->Heap->Prop}{d:DefRec}
 (hn:l.most=some n) (hdf:d.params.defaults=[])
 (call:∀(w:World)(s₀ s₁:Shared)(mg mb:Str->Option Value)(fa:Addr)(o:Obj)(pm cd doc:Value)(a:Addr)(vs:List Value)(ns:List Int),
   Ground q loose [] XP w s₀ mg mb s₁.heap->YP w s₁.heap->
   s₁.heap.get? fa=some o->o.data=.func (docDef d.name d.params d.body d.scope pm cd doc)->s₁.heap.CodeRec cd d.name->mg d.name=some (.ref fa)->
   s₁.heap.get? a=some {cls:=.type "list",data:=.seq vs.toArray}->IntsAre vs ns->ns.length<=n->s₁.gens = #[]->
   codeAny (model l.prog w) callerA (.call (.ref fa) ⟨[.ref a],[]⟩) (λr s'=>r=.ok (.ret (.bool true))/\OldK s₁.heap s'.heap/\s'.os=s₁.os/\AllBare s'.gens) s₁) :
 WalkO q loose XP YP l.row.toRowW d [] (λf vs=>PySem.call f vs):=by
 intro w s₀ s₁ mg mb G Y fa o pm cd doc dV kV ho hd hcd hD hmg hg args vals as hpre hlay hrd hwl hlo
 obtain rfl:dV=.none:=Dflts.none hD hdf
 obtain rfl:kV=.none:=Dflts.noKw hD
 obtain⟨a,vs,ns,rfl,rfl,hobj,hints,hlen⟩:=zlw hn hpre hwl
 refine enter_call (vdt (call w s₀ s₁ mg mb fa o pm cd doc a vs ns G Y ho (fd_plain hd) hcd hmg hobj hints hlen hg) λr s' hq=>?_)
 obtain⟨rfl,h2,h3,h4⟩:=hq
 exact⟨.inl ⟨.bool true,.bool true,[],rfl,λ_=>rfl,.bool true,zlx l _,λ_=>⟨List.Pairwise.nil,λ_ hm=>(nomatch hm)⟩⟩,h2,h3,h4⟩
end Att
namespace L2
open PySem PySem.Spec PyProof.Rows
theorem zhf:∀{vs:List Value} {ns:List Int},IntsAre vs ns->Vals (ns.map V.int) vs
 |_,_,.nil=>.nil
 |_,_,.cons n t h=>.cons ⟨t,rfl⟩ (zhf h)
noncomputable def Only(H:Hp):Prop:=∀b,H b=none\/∃o xs,H b=some (.frz o (.lst xs))
theorem zo0{P:Program}{w:World}{K:vga}{mg mb:Str->Option Value}{CX:CXT}{k:Nat}{fa a:Addr}{fd:FuncData}{x:Str}{sp:Sp}{s₁:Shared}{vs:List Value}{ns:List Int}
 (KX:K.In s₁.heap) (hns:s₁.heap.Ns mainGlobals mg) (hb:s₁.heap.Ns builtinsNs mb) (hbb:∀x:Str,x≠"__name__"->mb x=bootBuiltins x) (hlim:s₁.heap.NoLimit) (hg:s₁.gens = #[])
 (ha:s₁.heap.get? a=some {cls:=.type "list",data:=.seq vs.toArray}) (hi:IntsAre vs ns) (hl:ns.length<=sizeLine) (hr:Room k callerA)
 (F:∀base:Heap,K.In base->base.Ns mainGlobals mg->FnOk P w K mg base CX k fa fd [x] sp) (hbind:∀(s:Shared)(u:Value),BindsTo s fd ⟨[u],[]⟩ [(x,u)])
 (hsp:∀H:Hp,Only H->SqL K H a (ns.map V.int)->sp [.ref a] H (λv _=>v=.bl true) λ_ _ _=>False)
 (hCX:∀H e s',CX [] H s₁ (λ_ _ _=>False) e s'->False) :
 codeAny (model P w) callerA (.call (.ref fa) ⟨[.ref a],[]⟩) (λr s'=>r=.ok (.ret (.bool true))/\OldK s₁.heap s'.heap/\s'.os=s₁.os/\AllBare s'.gens) s₁:=by
 have rv:=zhf hi
 have lenV:=hi.length
 have core:∀H:Hp,Only H->SqL K H a (ns.map V.int)->HOk P w H s₁.heap->(∀b,H b≠none->b=a)->(H a≠none->K.lookup a=none)->
  codeAny (model P w) callerA (.call (.ref fa) ⟨[.ref a],[]⟩) (λr s'=>r=.ok (.ret (.bool true))/\OldK s₁.heap s'.heap/\s'.os=s₁.os/\AllBare s'.gens) s₁:=by
  intro H hO hS hok hA hK
  have base_of:∀{b:Addr}{o:Obj},s₁.heap.get? b=some o->H b=none->(hidT s₁.heap H).get? b=some o:=λe n=>zoj e n
  have noA:∀{b:Addr}{o:Obj}{es:Array DictEntry}{ep:Nat},s₁.heap.get? b=some o->o.data=.dict es ep->H b=none:=λ{b o es ep} e d=>by
   cases q:H b with
   |none=>rfl
   |some u=>
    have e':b=a:=hA b (by rw[q];simp)
    subst e'
    rw[ha]at e;cases e
    have d':Data.seq vs.toArray _=Data.dict es ep:=d
    cases d'
  have nsK:∀{b:Addr}{m:Str->Option Value},s₁.heap.Ns b m->(hidT s₁.heap H).Ns b m:=λ{b m}⟨o,es,ep,e,d,r⟩=>⟨o,es,ep,base_of e (noA e d),d,r⟩
  have hKb:K.In (hidT s₁.heap H):=λb o e=>base_of (KX b o e) (by
   cases q:H b with
   |none=>rfl
   |some u=>
    have e':b=a:=hA b (by rw[q];simp)
    subst e'
    rw[hK (by rw[q];simp)]at e;cases e)
  have hM:Mod K mg (hidT s₁.heap H):=⟨hKb,nsK hns,⟨mb,nsK hb,hbb⟩,let⟨mc,h1,h2⟩:=hlim;⟨mc,nsK h1,h2⟩⟩
  have e0:Env0 P w K mg (hidT s₁.heap H) callerA [] s₁ H:=⟨rfl,hM,λb o e=>zrv e,Nat.le_of_eq (zk3 _ _),trivial,λb hb=>absurd (show b∈([]:List Addr)from hb) (by simp),hok,.of_eq hg⟩
  refine vdt ((F _ hKb (nsK hns)).run callerA [] s₁ H ⟨[.ref a],[]⟩ [.ref a] [.ref a] _ _ hr e0 (hbind s₁ (.ref a)) (.cons rfl .nil) (hsp H hO hS)) λr s' h=>?_
  cases r with
  |error e=>exact(hCX H e s' h).elim
  |ok fl=>
   cases fl with
   |next=>exact False.elim h
   |brk=>exact False.elim h
   |cont=>exact False.elim h
   |ret u=>
    obtain⟨v,H',os,bare,un,hok',r',q⟩:=h
    have q':v=.bl true:=q
    subst q'
    obtain rfl:u=Value.bool true:=r'
    refine⟨rfl,OldK.of_keep λb o e=>?_,os,bare⟩
    cases q:H b with
    |none=>exact un.keep b o e q (by intro z;exact absurd (show b∈([]:List Addr)from z) (by simp)) (by simp)
    |some u=>
     rcases hO b with z|⟨ob,xs,z⟩
     .rw[q]at z;cases z
     .have z2:=un.frzs b ob _ z
      obtain⟨e1,_⟩:=hok b _ z
      obtain⟨e2,_⟩:=hok' b _ z2
      rw[e]at e1;cases e1
      exact e2
 cases hk:K.lookup a with
 |some o=>
  have e:=KX a o hk
  rw[ha]at e
  cases e
  refine core (λ_=>none) (λ_=>.inl rfl) (.inr ⟨_,vs.toArray,_,hk,rfl,rfl,rfl,by rw[vah,lenV];exact hl,by simpa using rv⟩) (λb u z=>by have z':(none:Option HO)=some u:=z;cases z') (λb z=>absurd rfl z) λz=>absurd rfl z
 |none=>
  refine core (λb=>if b=a then some (.frz {cls:=.type "list",data:=.seq vs.toArray} (.lst (ns.map V.int)))else none) (λb=>?_) (.inl (.inr ⟨{cls:=.type "list",data:=.seq vs.toArray},if_pos rfl⟩)) (λb u z=>?_) (λb z=>?_) λ_=>hk
  .by_cases hb:b=a
   .exact .inr ⟨_,_,if_pos hb⟩
   .exact .inl (if_neg hb)
  .by_cases hb:b=a
   .have z':=(if_pos hb).symm.trans z
    cases z'
    subst hb
    exact⟨ha,by rw[vaf];exact hl,vs,_,rv,ha⟩
   .have z':=(if_neg hb).symm.trans z
    cases z'
  .by_cases hb:b=a
   .exact hb
   .exact absurd (if_neg hb) z
theorem zsb{l:PySem.W.OpenLaw}{n k:Nat}{q:Program}{loose:List Str}{XP:(Str->Option Value)->Heap->Prop}{YP:World->Heap->Prop}{d:DefRec}{K:Params->vga}{CX:World->CXT}{sp:World->Sp}{x:Str}
 (hn:l.most=some n) (hn2:n<=sizeLine) (hdf:d.params.defaults=[]) (hr:Room k callerA)
 (hY:∀(w:World)(h:Heap),YP w h->(K w.params).In h)
 (F:∀(w:World)(mg:Str->Option Value)(fa:Addr)(h:Heap),(K w.params).In h->h.Ns mainGlobals mg->mg d.name=some (.ref fa)->
   ∃fd:FuncData,(∀(s:Shared)(u:Value),BindsTo s fd ⟨[u],[]⟩ [(x,u)])/\
    ∀base:Heap,(K w.params).In base->base.Ns mainGlobals mg->FnOk l.prog w (K w.params) mg base (CX w) k fa fd [x] (sp w))
 (hsp:∀(w:World)(H:Hp)(a:Addr)(ns:List Int),ns.length<=n->Only H->SqL (K w.params) H a (ns.map V.int)->sp w [.ref a] H (λv _=>v=.bl true) λ_ _ _=>False)
 (hCX:∀(w:World)(H:Hp)(s:Shared)(e:Value)(s':Shared),CX w [] H s (λ_ _ _=>False) e s'->False) :
 PySem.W.WalkO q loose XP YP l.row.toRowW d [] (λf vs=>PySem.call f vs):=by
 refine Att.attach_call hn hdf λw s₀ s₁ mg mb fa o pm cd doc a vs ns G Y ho hd hcd hmg hobj hints hlen hg=>?_
 have KX:=hY w _ Y
 obtain⟨fd,hb,hF⟩:=F w mg fa _ KX G.T.g hmg
 exact zo0 KX G.T.g G.T.b G.T.builtins G.T.nolimit hg hobj hints (van hlen hn2) hr hF hb (λH hO hS=>hsp w H a ns hlen hO hS) λH e s'=>hCX w H s₁ e s'
noncomputable def zsc(s:Stmt):Arguments:=match s with
 |.FunctionDef _ a _ _ _ _ _ _ _ _=>a
 |_=>{posonlyargs:=[],args:=[],vararg:=none,kwonlyargs:=[],kw_defaults:=[],kwarg:=none,defaults:=[]}
noncomputable def zc1(s:Stmt):List Stmt:=match s with
 |.FunctionDef _ _ b _ _ _ _ _ _ _=>b
 |_=>[]
noncomputable def zal(s:Stmt):Scope:=match s with
 |.FunctionDef _ _ _ _ _ _ sc _ _ _=>sc
 |_=>{kind:=.function,names:=[],isGenerator:=false,isCoroutine:=false}
noncomputable abbrev CX0:CXT:=λ_ _ _ _ _ _=>False
noncomputable abbrev E0:XK:=λ_ _ _=>False
theorem pass0{X:Cx}:ze5 CX0 X E0:=λ_ _ _ _ _ _ _ h=>h.elim
theorem zed{n:Nat}(h:n<=1000):n<sizeLine:=va6 h (by decide)
theorem iteF{A B:Prop}(h:B):if false=true then A else B:=by
 rw[if_neg va3]
 exact h
theorem iteT{A B:Prop}(h:A):if true=true then A else B:=by
 rw[if_pos rfl]
 exact h
noncomputable def zbv(cells:List (Str×Addr)):List (Str×NameKind)->List (Str×Addr)->List (Str×Addr)
 |[],cs=>cs
 |(n,k)::r,cs=>zbv cells r (if k == .free then(match cells.lookup n with|some c=>(n,c)::cs|none=>cs)else cs)
theorem zch(hf:∀y∈scope.names,y.2=.free->∃c,env.cells.lookup y.1=some c):closureFor scope env=pure (zbv env.cells scope.names []):=by
 have go:∀(l:List (Str×NameKind))(cs:List (Str×Addr)),(∀y∈l,y.2=.free->∃c,env.cells.lookup y.1=some c)->
  (forIn l cs λ(x:Str×NameKind)(r:List (Str×Addr))=>(match x with
    |(name,kind)=>if(kind==NameKind.free)=true then(do let a <-cellOf env name;pure (ForInStep.yield ((name,a)::r)))else pure (ForInStep.yield r):Sem (ForInStep (List (Str×Addr)))))=(pure (zbv env.cells l cs):Sem (List (Str×Addr))):=by
  intro l
  induction l with
  |nil=>intro cs _;rfl
  |cons x r ih=>
   intro cs h
   obtain⟨n,k⟩:=x
   rw[vdy]
   by_cases hk:(k==NameKind.free)=true
   .have hk':k=.free:=by simpa using hk
    obtain⟨c,hc⟩:=h (n,k) vap hk'
    have hc':env.cells.lookup n=some c:=hc
    simp only[hk,vbj,cellOf,hc',zbv]
    exact ih _ λy hy=>h y (vak _ hy)
   .have hk':(k==NameKind.free)=false:=by simpa using hk
    simp only[hk',vaq,vbo,zbv]
    exact ih _ λy hy=>h y (vak _ hy)
 have e:=go scope.names [] hf
 unfold closureFor
 refine Eq.trans (vdn (λt=>t >>= λcs=>pure cs) e) ?_
 rfl
theorem ze6{cells:List (Str×Addr)}:∀(l:List (Str×NameKind)) (cs:List (Str×Addr)),(∀x c,cs.lookup x=some c->cells.lookup x=some c)->∀x c,(zbv cells l cs).lookup x=some c->cells.lookup x=some c
 |[],cs,h=>h
 |(n,k)::r,cs,h=>ze6 r _ λx c e=>by
  by_cases hk:(k==NameKind.free)=true
  .simp only[hk,vbj]at e
   cases hc:cells.lookup n with
   |none=>rw[hc]at e;exact h x c e
   |some d=>
    rw[hc]at e
    simp only[va2]at e
    by_cases hx:(x==n)=true
    .simp only[hx]at e
     cases e
     rw[show x=n by simpa using hx];exact hc
    .have hx':(x==n)=false:=by simpa using hx
     simp only[hx']at e
     exact h x c e
  .have hk':(k==NameKind.free)=false:=by simpa using hk
   simp only[hk',vaq,vbo]at e
   exact h x c e
theorem zee{cells:List (Str×Addr)}{x:Str}{c:Addr}(hc:cells.lookup x=some c):∀(l:List (Str×NameKind)) (cs:List (Str×Addr)),cs.lookup x=some c->(zbv cells l cs).lookup x=some c
 |[],cs,h=>h
 |(n,k)::r,cs,h=>zee hc r _ (by
  by_cases hk:(k==NameKind.free)=true
  .simp only[hk,vbj]
   cases hn:cells.lookup n with
   |none=>exact h
   |some d=>
    simp only[va2]
    by_cases hx:(x==n)=true
    .have:x=n:=by simpa using hx
     subst this
     rw[hc]at hn;cases hn
     simp
    .have hx':(x==n)=false:=by simpa using hx
     simp only[hx'];exact h
  .have hk':(k==NameKind.free)=false:=by simpa using hk
   simp only[hk',vaq,vbo]
   exact h)
theorem zc2{cells:List (Str×Addr)}{x:Str}{c:Addr}(hc:cells.lookup x=some c):∀(l:List (Str×NameKind)) (cs:List (Str×Addr)),(x,NameKind.free)∈l->(zbv cells l cs).lookup x=some c
 |[],cs,h=>by cases h
 |(n,k)::r,cs,h=>by
  rcases vaw.mp h with e|e
  .cases e
   refine zee hc r _ ?_
   rw[hc]
   simp[va2]
  .exact zc2 hc r _ e
noncomputable abbrev Cx.comp(X:Cx)(N:List Str)(scope:Scope)(C:Addr)(s₀:Shared)(H₀:Hp)(ex:List Addr):Cx:=
 {X with N:=N,s₀:=s₀,H₀:=H₀,env:=compEnvC scope (zbv X.env.cells scope.names []) C X.env,outer:=X.stack,stack:=X.stack,ex:=ex,fn:=λ_=>false,pn:=[],xe:=λ_ _=>False}
structure CompScope(X:Cx)(ow fr:List Str)(ix:List Nat)(scope:Scope):Prop where
 kind:scope.kind=.function
 nocell:∀y∈scope.names,y.2≠.cell
 names:∀y∈scope.names,y.2=.local->scope.names.lookup y.1=some .local
 own:∀x∈ow,scope.names.lookup x=some .local
 free:∀y∈scope.names,y.2=.free->X.env.kindOf y.1=some .cell\/X.env.kindOf y.1=some .free
 at_:∀(k:Nat)(x:Str),fr[k]?=some x->∃j,ix[k]?=some j/\X.N[j]?=some x/\scope.names.lookup x=some .free
 len:ix.length=fr.length
noncomputable def cσ(ow fr:List Str)(ix:List Nat)(σ:St):St:=ow.map (λ_=>none)++ix.map λj=>(σ[j]?).join
theorem ze7{x:Str}{k:NameKind}:∀{l:List (Str×NameKind)},l.lookup x=some k->(x,k)∈l
 |[],h=>by cases h
 |(n,j)::r,h=>by
  simp only[va2]at h
  by_cases hx:(x==n)=true
  .simp only[hx]at h
   cases h
   rw[show x=n by simpa using hx];exact vap
  .have hx':(x==n)=false:=by simpa using hx
   simp only[hx']at h
   exact vak _ (ze7 h)
theorem zbw{env:Env}:∀{l:List (Str×NameKind)} {x:Str} {k:NameKind},
 (l.map λ(n,k)=>if(k==NameKind.free&&env.scope.kind == .function&&env.kindOf n==some .cell)then(n,NameKind.cell)else(n,k)).lookup x=some k->k≠.local->(∀y∈l,y.2≠.cell)->k=.cell\/k=.free->(x,NameKind.free)∈l
 |[],x,k,h,_,_,_=>by cases h
 |(n,j)::r,x,k,h,hk,hc,hh=>by
  have ih:=@zbw env r x k
  rw[va0]at h
  by_cases hc':(j==NameKind.free&&env.scope.kind == .function&&env.kindOf n==some .cell)=true
  .simp only[hc',vbj,va2]at h
   have hj:j=.free:=by
    simp only[vaa,vcr]at hc'
    exact hc'.1.1
   by_cases hx:(x==n)=true
   .rw[show x=n by simpa using hx,hj];exact vap
   .have hx':(x==n)=false:=by simpa using hx
    simp only[hx']at h
    exact vak _ (ih h hk (λy hy=>hc y (vak _ hy)) hh)
  .have hcf:(j==NameKind.free&&env.scope.kind == .function&&env.kindOf n==some .cell)=false:=by simpa using hc'
   simp only[hcf,vaq,vbo,va2]at h
   by_cases hx:(x==n)=true
   .simp only[hx]at h
    cases h
    rcases hh with z|z
    .exact absurd z (hc _ vap)
    .rw[show x=n by simpa using hx,z];exact vap
   .have hx':(x==n)=false:=by simpa using hx
    simp only[hx']at h
    exact vak _ (ih h hk (λy hy=>hc y (vak _ hy)) hh)
theorem zbh{env:Env}(hkf:env.scope.kind=.function):∀{l:List (Str×NameKind)} {x:Str},l.lookup x=some .free->
 (l.map λ(n,k)=>if(k==NameKind.free&&env.scope.kind == .function&&env.kindOf n==some .cell)then(n,NameKind.cell)else(n,k)).lookup x=some (if env.kindOf x=some .cell then .cell else .free)
 |[],x,h=>by cases h
 |(n,j)::r,x,h=>by
  have ih:=@zbh env hkf r x
  rw[va0]
  simp only[va2]at h
  by_cases hx:(x==n)=true
  .simp only[hx]at h
   cases h
   have e:x=n:=by simpa using hx
   subst e
   by_cases hq:env.kindOf x=some .cell
   .simp[hkf,hq,va2]
   .simp[hq,va2]
  .have hx':(x==n)=false:=by simpa using hx
   simp only[hx']at h
   by_cases hc':(j==NameKind.free&&env.scope.kind == .function&&env.kindOf n==some .cell)=true
   .simp only[hc',vbj,va2,hx'];exact ih h
   .have hcf:(j==NameKind.free&&env.scope.kind == .function&&env.kindOf n==some .cell)=false:=by simpa using hc'
    simp only[hcf,vaq,vbo,va2,hx'];exact ih h
section
variable{X:Cx}{pins:List (Addr×Obj)}{σ:St}{H:Hp}{s:Shared}{ow fr:List Str}{ix:List Nat}{scope:Scope}{fp:List Addr}
theorem zo1(S:CompScope X ow fr ix scope)(I:Inv X pins σ H s)(hfp:∀b∈fp,FpOk X pins H b)(hlt:∀b∈fp,b<s.heap.objs.size){h':Heap}{tk:Nat}{m:Str->Option Value}(hn:h'.Ns s.heap.objs.size m)(hk:∀b o,s.heap.get? b=some o->h'.get? b=some o) :
 Inv (X.comp (ow++fr) scope s.heap.objs.size s H fp) [] (cσ ow fr ix σ) H {s with heap:=h',toks:=tk}:=by
 have sub:=ze6 (cells:=X.env.cells) scope.names [] (λx c e=>by cases e)
 have kf:=I.ok.kind
 have ncell:∀x c,X.env.cells.lookup x=some c->c≠s.heap.objs.size:=λx c e z=>by
  obtain⟨v,q⟩:=I.cell x c e
  exact absurd q.lt (by rw[z];exact vct _)
 have hasC:∀x,(x,NameKind.free)∈scope.names->∃c,(zbv X.env.cells scope.names []).lookup x=some c/\X.env.cells.lookup x=some c:=λx hx=>by
  obtain⟨c,hc⟩:=I.ok.has x (S.free _ hx rfl)
  exact⟨c,zc2 hc _ _ hx,hc⟩
 refine⟨⟨I.ok.mod,?_,I.ok.glob,I.ok.blt,vad _,λx y c a b=>I.ok.inj x y c (sub x c a) (sub y c b),λx hx=>?_,λx c e=>?_,I.ok.hd,I.ok.frames,.inl rfl,λb hb=>?_,λb o e=>?_,?_,λb o e hb=>?_,λb hb hz=>?_,I.stack,λb hb=>I.stkFree b hb⟩,
  rfl,I.bare,Un.kept hk,⟨m,hn,λi x v e1 e2 e3=>?_⟩,λx c e=>?_,I.hok.fresh (vad _),λx c e=>I.freeC x c (sub x c e),λp hp=>?_,I.hok.kept hk,?_⟩
 .exact S.kind
 .have hx':(relabel scope X.env).names.lookup x=some .cell\/(relabel scope X.env).names.lookup x=some .free:=hx
  have hm:(x,NameKind.free)∈scope.names:=by
   rcases hx' with z|z
   .exact zbw (env:=X.env) z (by decide) S.nocell (.inl rfl)
   .exact zbw (env:=X.env) z (by decide) S.nocell (.inr rfl)
  obtain⟨c,hc,_⟩:=hasC x hm
  exact⟨c,hc⟩
 .cases e
 .obtain⟨f0,f1,f2,f3,f4,f5⟩:=hfp b hb
  refine⟨λz=>?_,λx c e=>f4 x c (sub x c e)⟩
  have q:=hlt b hb
  rw[z]at q
  exact absurd q (vct _)
 .exact⟨(I.bs b o e).1,(I.bs b o e).2⟩
 .exact van I.ok.bsz I.sz
 .obtain⟨f0,f1,f2,f3,f4,f5⟩:=hfp b hb
  rcases f3 with z|z
  .exact I.ok.noex b o e z
  .exact absurd (vae (vam (I.ok.bs b o e).1) z) (vct _)
 .obtain⟨f0,f1,f2,f3,f4,f5⟩:=hfp b hb
  rcases vaw.mp (I.stkSub b hz)with z|z
  .exact f1 z
  .exact f2 z
 .have hlen:ow.length<=i:=by
   by_cases hi:i<ow.length
   .unfold cσ at e2
    rw[vby (by simpa using hi),vbr]at e2
    cases q:ow[i]? with
    |none=>rw[q]at e2;cases e2
    |some y=>rw[q]at e2;cases e2
   .omega
  have e1':fr[i-ow.length]?=some x:=by
   have e1:(ow++fr)[i]?=some x:=e1
   rw[va4 hlen]at e1
   exact e1
  have e2':(ix.map λj=>(σ[j]?).join)[i-ow.length]?=some (some v):=by
   unfold cσ at e2
   rw[va4 (by simpa using hlen)]at e2
   simpa using e2
  obtain⟨j,hj,hN,hl⟩:=S.at_ _ _ e1'
  rw[vbr,hj]at e2'
  have e2'':(σ[j]?).join=some v:=vb9 e2'
  have hσ:σ[j]?=some (some v):=by
   cases q:σ[j]? with
   |none=>rw[q]at e2'';cases e2''
   |some o=>rw[q]at e2'';cases o with
    |none=>cases e2''
    |some w=>cases e2'';rfl
  obtain⟨m0,hm0,hl0⟩:=I.loc
  have hmem:=ze7 hl
  have hkf:=S.free _ hmem rfl
  have hvis:Vis X.env.scope x:=hkf.elim (λz=>.inr (.inl z)) λz=>.inr (.inr z)
  obtain⟨u,ru,lk⟩:=hl0 j x v hN hσ hvis
  refine⟨u,ru,.inr ?_⟩
  have hcell:∃c,X.env.cells.lookup x=some c/\s.heap.IsCell c (some u):=by
   rcases lk with⟨z,_⟩|⟨_,c,e,z⟩
   .rcases hkf with q|q
    .rw[show X.env.kindOf x=some .local from z]at q;cases q
    .rw[show X.env.kindOf x=some .local from z]at q;cases q
   .exact⟨c,e,z⟩
  obtain⟨c,hc,o,ho,hd⟩:=hcell
  refine⟨?_,c,zc2 hc _ _ hmem,o,hk _ _ ho,hd⟩
  show(relabel scope X.env).names.lookup x=some .cell\/(relabel scope X.env).names.lookup x=some .free
  have q:=zbh (env:=X.env) kf hl
  by_cases z:X.env.kindOf x=some .cell
  .rw[if_pos z]at q;exact .inl q
  .rw[if_neg z]at q;exact .inr q
 .obtain⟨v,q⟩:=I.cell x c (sub x c e)
  obtain⟨o,ho,hd⟩:=q
  exact⟨v,o,hk _ _ ho,hd⟩
 .cases(show p∈([]:List (Addr×Obj))from hp)
 .show(cσ ow fr ix σ).length=(ow++fr).length
  unfold cσ
  rw[vaj,vaf,vaf,vaj,S.len]
end
theorem zly{α:Type}{M:Model}{t:Sem α}{Q:α->Shared->Prop}(h:wpAny M A t Q (λ_ _=>False) s):wpAny M A t Q E s:=vbp h (λ_ _ q=>q) λ_ _ z=>z.elim
noncomputable abbrev noX:Value->Shared->Prop:=λ_ _=>False
noncomputable abbrev zlz(ifs:List Expr)(env:Env):Sem Bool:=forIn ifs true λc r=>if r=true then do let ok <-isTrue c env (eval c env);pure (ForInStep.yield ok)else pure (ForInStep.yield r)
theorem zb5{prog:Program}{w:World}{A:Around}{R:Result->Shared->Prop}{s:Shared}{elt target iter:Expr}{ifs:List Expr}{scope:Scope}{pos:Pos}{it acc:Value}{env:Env}(I:Nat->Shared->Prop)
 (turn:∀n s,I n s->wpAny (model prog w) A (pyNext it) (λr s₁=>match r with
   |none=>R (.ok .next) s₁
   |some v=>wpAny (model prog w) A (letOwnedTupleGo target it v) (λ_ s₀=>wpAny (model prog w) A (assign target env v) (λ_ s₂=>
    wpAny (model prog w) A (zlz ifs env) (λok s₃=>
     if ok=true then wpAny (model prog w) A (eval elt env) (λx s₄=>
      wpAny (model prog w) A (call (.builtin "list.append") [acc,x]) (λ_ s₅=>∃m,m<n/\I m s₅) noX s₄) noX s₃
     else ∃m,m<n/\I m s₃) noX s₂) noX s₀) noX s₁) noX s)
 (n:Nat) (h:I n s) :
 codeAny (model prog w) A (.compLoop (.ListComp elt [⟨target,iter,ifs,0⟩] scope pos) 0 it acc env) R s:=by
 refine codeAny_loop rfl I (λn s hI=>?_) n h
 show wpAny _ A ((compTurn (.ListComp elt [⟨target,iter,ifs,0⟩] scope pos) 0 it acc env).onRaise (λx=>do noteFrame x env;theTreesLotGoes x)) _ _ s
 refine wpAny_noted (zly ?_)
 rw[compTurn_list]
 refine vab (vbu (vab (vbp (turn n s hI) (λr s₁ h₁=>?_) λ_ _ h'=>h')))
 cases r with
 |none=>exact vag h₁
 |some v=>
  refine vab (vbp h₁ (λ_ s₀ h₀=>?_) λ_ _ h'=>h')
  refine vab (vbp h₀ (λ_ s₂ h₂=>vab (vbp h₂ (λok s₃ h₃=>?_) λ_ _ h'=>h')) λ_ _ h'=>h')
  cases ok with
  |true=>
   simp only[vbj]at h₃ ⊢
   exact vab (vab (vbp h₃ (λx s₄ h₄=>vab (vbp h₄ (λ_ s₅ h₅=>vag (vag ⟨rfl,h₅⟩)) λ_ _ h'=>h')) λ_ _ h'=>h'))
  |false=>
   simp only[vaq,vbo]at h₃ ⊢
   exact vag ⟨rfl,h₃⟩
noncomputable def PTs(X:Cx)(ifs:List Expr)(t:TT):Prop:=
 ∀(pins:List (Addr×Obj))(s:Shared)(σ:St)(H:Hp)(Q:Bool->Hp->Prop),Inv X pins σ H s->t σ H Q->wpAny (model X.prog X.w) X.A (zlz ifs X.env) (TP X pins σ Q) X.xe s
noncomputable def tYes:TT:=λ_ H Q=>Q true H
theorem zsd:PTs X [] tYes:=λpins s σ H Q I h=>wpAny_tests_nil ⟨H,I,h⟩
theorem zse(h:PT X c t):PTs X [c] t:=λpins s σ H Q I q=>wpAny_tests_one (h pins s σ H Q I q)
noncomputable def tLC(K:vga)(f:St->St)(wi:TI)(g:TG)(tc:TT)(te:TE):TE:=λσ H Q=>wi σ H λJ H1=>∀D,H1 D=none->K.lookup D=none->
 ∃W:Nat->Nat->St->Hp->List V->Prop,(∃m,W 0 m (f σ) (upd H1 D (.lst [])) [])/\∀i m σ' H' ys,W i m σ' H' ys->H' D=some (.lst ys)/\
  ((J.stop i H'/\Q (.ref D) H')\/(J.go i H'/\∀x H2,J.yld i H' x H2->g x σ' H2 λσ2 H3=>tc σ2 H3 λb H4=>
    if b=true then te σ2 H4 λy H5=>H5 D=some (.lst ys)/\ys.length<sizeLine/\∃m',m'<m/\W (i+1) m' σ2 (upd H5 D (.lst (ys++[y]))) (ys++[y])
    else ∃m',m'<m/\W (i+1) m' σ2 H4 ys))
section
variable{X:Cx}{ow fr:List Str}{ix:List Nat}{scope:Scope}{tg iter elt:Expr}{ifs:List Expr}{pos:Pos}{wi:TI}{g:TG}{tc:TT}{te:TE}
theorem ze8{pins:List (Addr×Obj)}{s:Shared}{σ:St}{Q:VK}{RR:Value->Addr->Result->Shared->Prop}(S:CompScope X ow fr ix scope)(hc:X.calm=true)
 (hg:∀C s₀ H₀ ex,PG (X.comp (ow++fr) scope C s₀ H₀ ex) tg g) (ht:∀C s₀ H₀ ex,PTs (X.comp (ow++fr) scope C s₀ H₀ ex) ifs tc) (he:∀C s₀ H₀ ex,PE (X.comp (ow++fr) scope C s₀ H₀ ex) elt te)
 {itv:Value} {E:Value->Shared->Prop}
 (h:PIE X pins σ tg (λJ H1=>∀D,H1 D=none->X.K.lookup D=none->
   ∃W:Nat->Nat->St->Hp->List V->Prop,(∃m,W 0 m (cσ ow fr ix σ) (upd H1 D (.lst [])) [])/\∀i m σ' H' ys,W i m σ' H' ys->H' D=some (.lst ys)/\
    ((J.stop i H'/\Q (.ref D) H')\/(J.go i H'/\∀x H2,J.yld i H' x H2->g x σ' H2 λσ2 H3=>tc σ2 H3 λb H4=>
      if b=true then te σ2 H4 λy H5=>H5 D=some (.lst ys)/\ys.length<sizeLine/\∃m',m'<m/\W (i+1) m' σ2 (upd H5 D (.lst (ys++[y]))) (ys++[y])
      else ∃m',m'<m/\W (i+1) m' σ2 H4 ys))) itv s)
 (fin:∀D C H' s' m,FpOk X pins H' C->s'.heap.Ns C m->(∀h'',Heap.SameBut C s'.heap h''->Inv X pins σ H' {s' with heap:=h''})->Q (.ref D) H'->RR (.ref D) C (.ok .next) s') :
 wpAny (model X.prog X.w) X.A (newList []) (λacc s₃=>wpAny (model X.prog X.w) X.A (newFunctionEnv scope X.env.globals (zbv X.env.cells scope.names []) [] X.env.qual none .none (some X.env)) (λcenv s₄=>
  codeAny (model X.prog X.w) X.A (.compStart (.ListComp elt [⟨tg,iter,ifs,0⟩] scope pos) 0 itv acc {cenv with scope:=relabel scope X.env}) (RR acc cenv.locals) s₄) E s₃) E s:=by
 obtain⟨it,fp,tn,J,H1,e,I1,T,st1,f1,hq⟩:=h
 subst e
 have hD:H1 s.heap.objs.size=none:=I1.hok.fresh (vad _)
 have hKD:X.K.lookup s.heap.objs.size=none:=by
  cases e:X.K.lookup s.heap.objs.size with
  |none=>rfl
  |some o=>exact absurd (vam (I1.kIn _ _ e)) (vct _)
 obtain⟨W,⟨m0,w0⟩,turn⟩:=hq _ hD hKD
 have I3:Inv X pins σ (upd H1 s.heap.objs.size (.lst [])) {s with heap:=s.heap.push {cls:=.type "list",dict:=none,data:=.seq ([]:List Value).toArray}}:=
  I1.laid (t':=s.toks) (o:=.lst []) (λb u q=>vac _ q) (vad _) ⟨vbv _,[],0,.nil,vaz _ rfl⟩
 have hlt1:∀b∈fp,b<s.heap.objs.size:=λb hb=>by
  obtain⟨o,ho,_⟩:=T.obj _ _ st1 b hb
  exact vam ho
 have f3:∀b∈fp,FpOk X pins (upd H1 s.heap.objs.size (.lst [])) b:=λb hb=>⟨by rw[zaf (vay (hlt1 b hb))];exact(f1 b hb).1,(f1 b hb).2⟩
 refine vbs (wpAny_newFunctionEnv S.nocell (by intro y hy;simp at hy) (λh₁ hns hsb=>?_) S.kind)
 dsimp only at hns hsb ⊢
 generalize hS3:({s with heap:=s.heap.push {cls:=.type "list",dict:=none,data:=.seq ([]:List Value).toArray}}:Shared)=s3 at I3
 have hh3:s3.heap=s.heap.push {cls:=.type "list",dict:=none,data:=.seq ([]:List Value).toArray}:=by rw[<-hS3]
 rw[<-hh3]at hns hsb ⊢
 have hk:∀b o,s3.heap.get? b=some o->h₁.get? b=some o:=λb o e=>hsb.extBut b o (vay (vam e)) (vac _ e)
 have hlt3:∀b∈fp,b<s3.heap.objs.size:=λb hb=>by rw[hh3,vca];exact vd2 (hlt1 b hb)
 have J3:=zo1 S I3 f3 hlt3 (tk:=s.toks) hns hk
 have st3:tn 0 h₁:=T.keep _ _ _ st1 λb hb o e=>hk b o (by rw[hh3];exact vac _ e)
 have ex3:∀b∈fp,(X.comp (ow++fr) scope s3.heap.objs.size s3 (upd H1 s.heap.objs.size (.lst [])) fp).Ok->∀{H':Hp},H' b=none->FpOk (X.comp (ow++fr) scope s3.heap.objs.size s3 (upd H1 s.heap.objs.size (.lst [])) fp) [] H' b:=λb hb ok H' hn=>
  ⟨hn,(ok.exf b hb).1,ok.exfs b hb,.inl hb,(ok.exf b hb).2,λp hp=>by cases(show p∈([]:List (Addr×Obj))from hp)⟩
 have back:∀{σ':St}{H':Hp}{s':Shared},Inv (X.comp (ow++fr) scope s3.heap.objs.size s3 (upd H1 s.heap.objs.size (.lst [])) fp) [] σ' H' s'->∀h'',Heap.SameBut s3.heap.objs.size s'.heap h''->Inv X pins σ H' {s' with heap:=h''}:=λ{σ' H' s'} I' h'' hs=>by
  have neC:∀b o,s3.heap.get? b=some o->b≠s3.heap.objs.size:=λb o e=>vay (vam e)
  have un:Un (frs X.stack) fp (upd H1 s.heap.objs.size (.lst [])) H' s3.heap h'':=
   ⟨λb o e n hb hx=>(hs.2 b (neC b o e)).trans (I'.base.keep b o e n hb hx),λb o e n hb hx=>by
    obtain⟨sl,q⟩:=I'.base.slot b o e n hb hx
    exact⟨sl,(hs.2 b (neC b o e)).trans q⟩,I'.base.free,λb o e hx=>by
    obtain⟨o',q⟩:=I'.base.there b o e hx
    exact⟨o',(hs.2 b (neC b o e)).trans q⟩,I'.base.tups,I'.base.frzs,I'.base.tbls⟩
  have hok:HOk X.prog X.w H' h'':=λb ob e=>by
   refine(I'.hok b ob e).stay (λc w' hcc q=>(hs.2 c ?_).trans q) (λ_ q=>q) λ_ _ q=>q
   rintro rfl
   have hfree:=I'.free
   rcases hcc with rfl|hcc
   .rw[show H' s3.heap.objs.size=none from hfree]at e;cases e
   .rw[show H' s3.heap.objs.size=none from hfree]at hcc;cases hcc
  have hos:s'.os=s3.os:=I'.os
  exact I3.call' (s':={s' with heap:=h''}) (ch:=fp) hos un hok I'.bare λb hb=>by
   obtain⟨_,a1,a2,a3,a4,a5⟩:=f1 b hb
   exact⟨a3,a1,a4,a5⟩
 have loop:∀s4:Shared,Inv (X.comp (ow++fr) scope s3.heap.objs.size s3 (upd H1 s.heap.objs.size (.lst [])) fp) [] (cσ ow fr ix σ) (upd H1 s.heap.objs.size (.lst [])) s4->tn 0 s4.heap->
  codeAny (model X.prog X.w) X.A (.compLoop (.ListComp elt [⟨tg,iter,ifs,0⟩] scope pos) 0 (.ref it) (.ref s.heap.objs.size) (X.comp (ow++fr) scope s3.heap.objs.size s3 (upd H1 s.heap.objs.size (.lst [])) fp).env)
   (RR (.ref s.heap.objs.size) s3.heap.objs.size) s4:=by
  intro s4 I4 st4
  refine zb5 (λn s'=>∃i σ' H' ys,Inv (X.comp (ow++fr) scope s3.heap.objs.size s3 (upd H1 s.heap.objs.size (.lst [])) fp) [] σ' H' s'/\tn i s'.heap/\(∀b∈fp,H' b=none)/\W i n σ' H' ys) ?_ m0 ⟨0,_,_,[],I4,st4,λb hb=>(f3 b hb).1,w0⟩
  rintro n s5 ⟨i,σ5,H5,ys,I5,st5,fr5,w5⟩
  obtain⟨hDl,alt⟩:=turn i n σ5 H5 ys w5
  rcases alt with⟨stop,q⟩|⟨go,step⟩
  .refine thn (T.done (X.comp (ow++fr) scope s3.heap.objs.size s3 (upd H1 s.heap.objs.size (.lst [])) fp) rfl rfl rfl hc i [] s5 σ5 H5 noX I5 (λb hb=>ex3 b hb I5.ok (fr5 b hb)) st5 stop) λr s6 hq0=>?_
   obtain⟨hr,I6⟩:=hq0
   subst hr
   obtain⟨m6,hn6,_⟩:=I6.loc
   exact fin _ _ H5 s6 m6 (I3.fpOk (vad _) I6.free) hn6 (back I6) q
  .refine thn (T.item (X.comp (ow++fr) scope s3.heap.objs.size s3 (upd H1 s.heap.objs.size (.lst [])) fp) rfl rfl rfl hc i [] s5 σ5 H5 noX I5 (λb hb=>ex3 b hb I5.ok (fr5 b hb)) st5 go) λr s6 hq0=>?_
   obtain⟨u,hr,h6⟩:=hq0
   subst hr
   refine thn h6 λ_ s7 hq0=>?_
   obtain⟨x,H7,I7,r7,y7,st7,fr7⟩:=hq0
   have I7':=I7.pinned (λb hb=>ex3 b hb I7.ok (fr7 b hb)) (T.obj _ _ st7)
   have again:∀{σ8:St}{H8:Hp}{s8:Shared}{zs:List V}{m':Nat},Inv (X.comp (ow++fr) scope s3.heap.objs.size s3 (upd H1 s.heap.objs.size (.lst [])) fp) ([]++zg2 fp s7.heap) σ8 H8 s8->m'<n->W (i+1) m' σ8 H8 zs->
    ∃m,m<n/\∃i σ' H' ys,Inv (X.comp (ow++fr) scope s3.heap.objs.size s3 (upd H1 s.heap.objs.size (.lst [])) fp) [] σ' H' s8/\tn i s8.heap/\(∀b∈fp,H' b=none)/\W i m σ' H' ys:=λ{σ8 H8 s8 zs m'} I8 hm w8=>by
    refine⟨m',hm,i+1,σ8,H8,zs,I8.unpinned,T.keep _ _ _ st7 λb hb o e=>(I8.pin (b,o) (vbf _ (vbf _ (zb0 hb e)))).1,λb hb=>?_,w8⟩
    obtain⟨o,e,d⟩:=T.obj _ _ st7 b hb
    exact(I8.pin (b,o) (vbf _ (vbf _ (zb0 hb e)))).2.1
   refine thn (hg _ _ _ _ _ s7 σ5 H7 x u _ I7' r7 (step x H7 y7)) λ_ s8 hq0=>?_
   obtain⟨σ8,H8,I8,q8⟩:=hq0
   refine thn (ht _ _ _ _ _ s8 σ8 H8 _ I8 q8) λok s9 z9=>z9.el λH9 I9 q9=>?_
   cases ok with
   |false=>
    simp only[vaq,vbo]at q9 ⊢
    obtain⟨m',hm,w9⟩:=q9
    exact again I9 hm w9
   |true=>
    simp only[vbj]at q9 ⊢
    refine thn (he _ _ _ _ _ s9 σ8 H9 _ I9 q9) λy s10 hq0=>?_
    obtain⟨vy,H10,I10,ry,hD10,hz,m',hm,w10⟩:=hq0
    refine thn (zhe _ s10 σ8 H10 (.ref s.heap.objs.size) [vy] (.ref s.heap.objs.size) [y] (λv H'=>H'=upd H10 s.heap.objs.size (.lst (ys++[vy]))) I10 rfl (.cons ry .nil) ⟨_,ys,vy,rfl,rfl,hD10,hz,rfl⟩) λ_ s11 hq0=>?_
    obtain⟨v11,H11,I11,_,e11⟩:=hq0
    subst e11
    exact again I11 hm w10
 have J3':Inv (X.comp (ow++fr) scope s3.heap.objs.size s3 (upd H1 s.heap.objs.size (.lst [])) fp) [] (cσ ow fr ix σ) (upd H1 s.heap.objs.size (.lst [])) {s with heap:=h₁,toks:=s.toks}:=by
  rw[<-hS3]at J3 ⊢
  exact J3
 exact codeAny_compStart_list (loop _ J3' st3) (T.self _ 0 _ _ _ st3 (loop _ J3' st3))
theorem pe_lc(S:CompScope X ow fr ix scope)(hc:X.calm=true)(hi:PI X tg iter wi)
 (hg:∀C s₀ H₀ ex,PG (X.comp (ow++fr) scope C s₀ H₀ ex) tg g) (ht:∀C s₀ H₀ ex,PTs (X.comp (ow++fr) scope C s₀ H₀ ex) ifs tc) (he:∀C s₀ H₀ ex,PE (X.comp (ow++fr) scope C s₀ H₀ ex) elt te)
 (hs:∀x,foldedSetIterable iter X.env x=pure x:=by intro _;rfl):PE X (.ListComp elt [⟨tg,iter,ifs,0⟩] scope pos) (tLC X.K (cσ ow fr ix) wi g tc te):=by
 intro pins s σ H Q I h
 rw[eval_ListComp]
 refine wpAny_comprehension_free (use:=none) rfl hs (zch λy hy e=>I.ok.has _ (S.free y hy e)) S.kind S.names (thn (hi pins s σ H _ I h) λv s1 h1=>thn h1 λitv s2 h2=>?_)
 exact ze8 (RR:=λacc C=>compPost (model X.prog X.w) X.A X.xe none (EP X pins σ Q) acc C) S hc hg ht he h2 λD C H' s' m _ hn hI q=>⟨m,hn,λh'' hs''=>⟨.ref D,H',hI h'' hs'',rfl,q⟩⟩
theorem zo2{i:Nat}{y:Str}{py spos:Pos}(hN:X.N.Nodup)(hiy:X.N[i]?=some y)(hy:Loc X.env.scope y)(S:CompScope X ow fr ix scope)(hc:X.calm=true)(hi:PI X tg iter wi)
 (hg:∀C s₀ H₀ ex,PG (X.comp (ow++fr) scope C s₀ H₀ ex) tg g) (ht:∀C s₀ H₀ ex,PTs (X.comp (ow++fr) scope C s₀ H₀ ex) ifs tc) (he:∀C s₀ H₀ ex,PE (X.comp (ow++fr) scope C s₀ H₀ ex) elt te)
 (hsw:swapsWith (.ListComp elt [⟨tg,iter,ifs,0⟩] scope pos) (some (.Name y py)) spos.line X.env=pure true:=by rfl)
 (hf:X.fn y=true\/X.env.scope.names.lookup y=some .local:=by first|exact .inl rfl|exact .inr rfl|assumption)
 (hs:∀x,foldedSetIterable iter X.env x=pure x:=by intro _;rfl):PS X (.Assign [.Name y py] (.ListComp elt [⟨tg,iter,ifs,0⟩] scope pos) spos) (tAsg (tLC X.K (cσ ow fr ix) wi g tc te) (gName i)):=by
 intro pins s σ H D I h
 rw[exec_Assign_Name_used _ _ _ _ hsw]
 refine vab (vbu (vab ?_))
 show wpAny _ X.A (do let _ <-comprehension (.ListComp elt [⟨tg,iter,ifs,0⟩] scope pos) scope X.env _ (newList []) false (eval iter X.env) (some (assign (.Name y py) X.env))) _ _ s
 refine vab (vbp (wpAny_comprehension_free (use:=some (assign (.Name y py) X.env)) (Q:=λ_ s'=>SP X pins D .next s') rfl hs (zch λy hy e=>I.ok.has _ (S.free y hy e)) S.kind S.names
  (thn (hi pins s σ H _ I h) λv s1 h1=>thn h1 λitv s2 h2=>?_)) (λ_ s' hq=>vag (vag hq)) λ_ _ e=>e)
 refine ze8 (Q:=λx H1=>gName i x σ H1 D.nx) (RR:=λacc C=>compPost (model X.prog X.w) X.A X.xe (some (assign (.Name y py) X.env)) (λ_ s'=>SP X pins D .next s') acc C) S hc hg ht he h2 λd C H' s' m hC hn hI q=>?_
 show wpAny _ X.A (assign (.Name y py) X.env (.ref d)) _ _ _
 have I':Inv X pins σ H' s':=by
  have z:=hI s'.heap (.refl ..)
  exact z
 refine wpAny_assign_Name (zg0 I' hN hiy hy (v:=.ref d) rfl (λs'' I'' ⟨a,hsb,ha⟩=>?_) hf)
 obtain⟨c0,c1,c2,c3,c4,c5⟩:=hC
 have hCa:C≠a:=by
  rcases ha with rfl|ha
  .exact c1
  .exact λz=>c4 _ _ ha z.symm
 refine⟨m,hn.sameBut hsb hCa,λh'' hs''=>⟨_,H',I''.turned (t':=s''.toks) (it:=C) (λb o hb e=>(hs''.2 b hb).trans e) c0 c1 c3 c4 c5,q⟩⟩
end
end L2
set_option maxHeartbeats 4000000
namespace XL
open PySem PySem.W PySem.Spec PyProof.Rows
noncomputable def onlyVE:List Value->Bool
 |[.type a,.type b,.type c,.type d]=>a == "ValueError" && b == "Exception" && c == "BaseException" && d == "object"
 |.ref _::r=>onlyVE r
 |_=>false
theorem zef{n:String}(h:onlyVE (.type n::l)=true):Value.type n::l=[.type "ValueError",.type "Exception",.type "BaseException",.type "object"]:=by
 unfold onlyVE at h
 split at h
 .rename_i a b c d e
  cases e
  simp only[vaa,vcr]at h
  obtain⟨⟨⟨rfl,rfl⟩,rfl⟩,rfl⟩:=h
  rfl
 .rename_i e;cases e
 .cases h
theorem zhg(self:Value):∀{l:List Value},onlyVE l=true->refuseLoop self "__setattr__" l=pure ()
 |.ref c::r,e=>by rw[refuseLoop_ref];exact zhg self (by unfold onlyVE at e;exact e)
 |.type n::r,e=>by rw[zef e];exact PySem.F.store_ValueError.passes self
theorem zl0{T:String}(hT:([.type "ValueError",.type "Exception",.type "BaseException",.type "object"]:List Value).contains (.type T)=true):∀{l:List Value},onlyVE l=true->l.contains (.type T)=true
 |.ref c::r,e=>by rw[List.contains_cons,zl0 hT (l:=r) (by unfold onlyVE at e;exact e),veq]
 |.type n::r,e=>by rw[zef e];exact hT
structure ExcK(K:Frag)(C:Addr):Prop where
 ov:(clsIn K C).any (λcd=>onlyVE cd.mro)=true
 ga:findIn K (.ref C) "__getattribute__" = some (some (.builtin "BaseException.__getattribute__"))
 gt:findIn K (.ref C) "__getattr__" = some none
 sa:findIn K (.ref C) "__setattr__" = some (some (.builtin "object.__setattr__"))
 hd:hasDictIn K C=true
section
variable{prog:Program}{w:World}{A:Around}{E:Value->Shared->Prop}{s:Shared}{K:Frag}{x C:Addr}{ox:Obj}{od:Option Obj}{name:Str}{expr:Bool}
theorem zl1(k:ExcK K C)(X:K.In s.heap)(I:InstAt s.heap x ox C od){T:String}(hT:([.type "ValueError",.type "Exception",.type "BaseException",.type "object"]:List Value).contains (.type T)=true) :
 Looks (model prog w) s.heap (isInstance (.ref x) (.type T)) true:=by
 obtain⟨cd,hc,ho⟩:=any_some k.ov
 have ne:cd.mro.isEmpty=false:=by cases q:cd.mro with|nil=>rw[q]at ho;cases ho|cons _ _=>rfl
 exact I.type.andThen (looks_mroIn X (by unfold mroIn;rw[hc,vdp,if_neg (by rw[ne];decide),zl0 hT ho]))
theorem zl2{R:Result->Shared->Prop}{tk:Tok}{v:Value}(k:ExcK K C)(X:K.In s.heap)(I:InstAt s.heap x ox C od)(ha:findIn K (.ref C) name=some none)
 (h:∀b,wpAny (model prog w) A.in1 (Builtin.ObjectAttr.storeInOwnDict (.ref x) (.ref C) (.str name tk) name v b)
   (λfin s'=>match fin with|.done f=>R (.ok f) s'|.again c'=>c'.quiet=true/\codeAny (model prog w) A c' R s') (λe s'=>R (.error e) s') s) :
 codeAny (model prog w) A (.call (.builtin "object.__setattr__") ⟨[.ref x,.str name tk,v],[]⟩) R s:=by
 have SF:=PySem.F.store_object
 obtain⟨cd,hc,ho⟩:=any_some k.ov
 refine codeAny_call_builtin SF.slot.plain SF.entry (@check_slot (model prog w) _ _ s "object.__setattr__" "object" "__setattr__" (.ref x) [.str name tk,v] [] _ SF.kind SF.split (zl1 k X I (by decide +kernel)) (SF.args (.ref x) (.str name tk) v) ?_)
 have hm:Looks (model prog w) s.heap (mroOf (.ref C)) cd.mro:=(looks_clsIn X hc).andThen .now
 rw[osa_eq,refuse_eq]
 refine vab (vab (I.type.here (vab (hm.here ?_))))
 rw[zhg _ ho]
 refine vag (vab (I.type.here (vab ((looks_findIn X ha).here (vab ?_)))))
 exact vag (h _)
theorem exc_set0{v:Value}{vs:Array Value}{sl:Array (Option Value)}{Q:Unit->Shared->Prop}(k:ExcK K C)(X:K.In s.heap)(ho:s.heap.get? x=some ⟨.ref C,none,.fields vs,sl⟩)(ha:findIn K (.ref C) name=some none)
 (h:∀h' tk,h'.get? x=some ⟨.ref C,some s.heap.objs.size,.fields vs,sl⟩->h'.Ns1 s.heap.objs.size (λy=>if y=name then some v else none)->(∀b o,b≠x->s.heap.get? b=some o->h'.get? b=some o)->Q () {s with heap:=h',toks:=tk}) :
 wpAny (model prog w) A (setAttr (.ref x) name v) Q E s:=by
 have I:InstAt s.heap x ⟨.ref C,none,.fields vs,sl⟩ C none:=⟨ho,rfl,rfl,trivial⟩
 obtain⟨cd,hc,hd'⟩:=any_some k.hd
 refine set_plain X I k.sa (zl2 (s:={s with toks:=s.toks+1}) k X I ha λb=>?_)
 refine vab (vag (vab (vab (wpAny_loadPart ho (vab (Looks.here (s:={s with toks:=s.toks+1}) (looks_clsIn X hc) ?_))))))
 rw[hd']
 show wpAny (model prog w) A.in1 (do
  let d <-alloc {cls:=Value.type "dict",data:=Data.dict #[]}
  update x λo=>{cls:=o.cls,dict:=some d,data:=o.data,slots:=o.slots}
  dictMade (.ref C) x d) _ _ _
 have hx₁:(s.heap.push {cls:=.type "dict",data:=.dict #[]}).get? x=some ⟨.ref C,none,.fields vs,sl⟩:=vac _ ho
 have hxs:x≠s.heap.objs.size:=vay (vam ho)
 refine vab (wpAny_alloc ?_)
 refine vab (wpAny_update hx₁ ?_)
 refine vag (a:=some s.heap.objs.size) ?_
 dsimp only
 generalize hH:((s.heap.push {cls:=Value.type "dict",data:=Data.dict #[]}).update x λo=>{cls:=o.cls,dict:=some s.heap.objs.size,data:=o.data,slots:=o.slots})=H1
 have hgd:H1.get? s.heap.objs.size=some {cls:=.type "dict",data:=.dict #[]}:=by
  rw[<-hH];exact(Heap.get?_update_ne _ _ _ _ hxs.symm).trans (Heap.get?_push_at rfl rfl)
 have hgx:H1.get? x=some ⟨.ref C,some s.heap.objs.size,.fields vs,sl⟩:=by
  rw[<-hH];exact vcn _ hx₁ rfl
 have hgk:∀b o,b≠x->s.heap.get? b=some o->H1.get? b=some o:=λb o hb e=>by
  rw[<-hH];exact(Heap.get?_update_ne _ _ _ _ hb).trans (vac _ e)
 have hnd:H1.Ns s.heap.objs.size (λ_=>none):=⟨_,#[],_,hgd,rfl,λe he=>absurd he (by simp),λ_=>rfl⟩
 show wpAny _ _ (Builtin.ObjectAttr.storeInDict s.heap.objs.size (.str name s.toks) name v) _ _ _
 unfold Builtin.ObjectAttr.storeInDict Builtin.ObjectAttr.newKeyGuard
 refine vab (vag (vab (wpAny_nsSet1 (Heap.Ns1.of_empty hnd) λh' hn' hs=>?_)))
 obtain⟨oD,esD,epD,hoD,hdD,hcD⟩:=hn'.count (Within.cons name v Within.nil)
 refine vab (wpAny_lookBehind hoD (by rw[hdD];exact pastItsLine_dict (van hcD (by rw[vai,vdi,vem];omega))) ?_)
 refine vag ?_
 exact h h' _ ((hs.2 x hxs).trans hgx) hn' λb o hb e=>(hs.2 b (vay (vam e))).trans (hgk b o hb e)
theorem exc_set1{v:Value}{vs:Array Value}{sl:Array (Option Value)}{dx:Addr}{mA:Str->Option Value}{ns:List Str}{Q:Unit->Shared->Prop}(k:ExcK K C)(X:K.In s.heap)(ho:s.heap.get? x=some ⟨.ref C,some dx,.fields vs,sl⟩)
 (hn:s.heap.Ns1 dx mA) (hw:Within mA ns) (hz:ns.length<=1000) (ha:findIn K (.ref C) name=some none)
 (h:∀h' tk,h'.Ns1 dx (λy=>if y=name then some v else mA y)->Heap.SameBut dx s.heap h'->Q () {s with heap:=h',toks:=tk}) :
 wpAny (model prog w) A (setAttr (.ref x) name v) Q E s:=by
 obtain⟨od,hod,_⟩:=L2.zd7 hn
 have I:InstAt s.heap x ⟨.ref C,some dx,.fields vs,sl⟩ C (some od):=⟨ho,rfl,rfl,hod⟩
 obtain⟨cd,hc,hd'⟩:=any_some k.hd
 refine set_plain X I k.sa (zl2 (s:={s with toks:=s.toks+1}) k X I ha λb=>?_)
 refine vab (vag (vab (vab (wpAny_loadPart ho (vab (Looks.here (s:={s with toks:=s.toks+1}) (looks_clsIn X hc) ?_))))))
 rw[hd']
 refine vag (a:=some dx) ?_
 show wpAny _ _ (Builtin.ObjectAttr.storeInDict dx (.str name s.toks) name v) _ _ _
 unfold Builtin.ObjectAttr.storeInDict Builtin.ObjectAttr.newKeyGuard
 refine vab (vag (vab (wpAny_nsSet1 (s:={s with toks:=s.toks+1}) hn λh' hn' hs=>?_)))
 obtain⟨oD,esD,epD,hoD,hdD,hcD⟩:=hn'.count (Within.cons name v hw)
 refine vab (wpAny_lookBehind hoD (by rw[hdD];exact pastItsLine_dict (van hcD (by rw[vai,vem];omega))) ?_)
 exact vag (h h' _ hn' hs)
end
end XL
namespace XL
open PySem PySem.W PySem.Spec PyProof.Rows
noncomputable abbrev bmV:List Value:=[.type "ValueError",.type "Exception",.type "BaseException",.type "object"]
noncomputable abbrev excObj(C:Addr)(dx:Option Addr)(t:Addr):Obj:={cls:=.ref C,dict:=dx,data:=.fields #[.ref t,.none,.none,.none,.bool false,.none]}
noncomputable def excCls(K:Frag)(C:Addr):Bool:=match K.lookup C with
 |some ⟨.type "type",_,.cls cd,sl⟩=>(match cd.mro,sl.toList with
  |.ref C'::bm,[_,_,_,_,some (.builtin n),_]=>C'==C&&n == "ValueError.__new__" && !cd.hasDel&&tailIn K bmV bm
  |_,_=>false)
 |_=>false
theorem excCls_of{K:Frag}{C:Addr}(X:K.In h)(q:excCls K C=true) :
 ∃nm qn N bs bm hd sn sub ab col dd k0 k1 k2 k3 k5,h.get? C=some (excClassObj nm qn C N bs bm hd sn sub ab col dd k0 k1 k2 k3 k5 "ValueError.__new__")/\OwnTail h bmV bm:=by
 unfold excCls at q
 split at q
 .rename_i dd cd sl ho
  split at q
  .rename_i C' bm k0 k1 k2 k3 n k5 hm hs
   simp only[vaa,vcr,vd3]at q
   obtain⟨⟨⟨rfl,rfl⟩,hdel⟩,ht⟩:=q
   obtain⟨nm,bs,mro,ns,qn,hd,sn,sub,ab,col,del⟩:=cd
   dsimp only at hm hdel
   subst hm hdel
   have hsl:sl = #[k0,k1,k2,k3,some (.builtin "ValueError.__new__"),k5]:=by
    obtain⟨l⟩:=sl
    simp only at hs
    rw[hs]
   subst hsl
   exact⟨nm,qn,ns,bs,bm,hd,sn,sub,ab,col,dd,k0,k1,k2,k3,k5,X _ _ ho,tail_of_in X ht⟩
  .cases q
 .cases q
section
variable{prog:Program}{w:World}{A:Around}{s:Shared}{K:Frag}{C f:Addr}{rest:List Value}{R:Result->Shared->Prop}
theorem make_excI(X:K.In s.heap)(hc:excCls K C=true)(hi:findIn K (.ref C) "__init__" = some (some (.ref f)))(hf:typeIn K (.ref f)=some (.type "function"))(hz:rest.length<=sizeLine)
 (hq:codeAny (model prog w) (A.under (.builtin "type.__call__" ⟨.ref C::rest,[]⟩)) (.call (.ref f) ⟨.ref (s.heap.objs.size+1)::rest,[]⟩) (InitBack (s.heap.objs.size+1) R)
   {s with heap:=(s.heap.push {cls:=.type "tuple",data:=.seq rest.toArray}).push (excObj C none s.heap.objs.size)}) :
 codeAny (model prog w) A (.call (.ref C) ⟨rest,[]⟩) R s:=by
 obtain⟨h,g,d,t,os⟩:=s
 obtain⟨nm,qn,N,bs,bm,hdd,sn,sub,ab,col,dd,k0,k1,k2,k3,k5,hC,T⟩:=excCls_of X hc
 have F:=PySem.F.excBase_ValueError
 have f1:=tc_lookup
 have f2:=tc_bind (.ref C)
 have hT:(⟨h,g,d,t,os⟩:Shared).TypeIs (.ref C) "type":=⟨_,hC,rfl⟩
 refine codeAny_of_tree ?_
 show wpAny _ _ (callAny (.ref C) _) _ _ _
 repeat(any_goals (first|assumption|with_reducible refine vb4 hC ?_|wp_step))
 refine⟨rfl,?_⟩
 refine codeAny_call_builtin_at (vdz _ (by decide +kernel)) entry_typeCall (wpAny_check_type_call_sub hC ?_)
 repeat(first|with_reducible refine vb4 hC ?_|with_reducible refine wpAny_madeBy_exc hC ?_|wp_step)
 refine codeAny_call_builtin_code (vdz _ F.quiet) (wpAny_check_new_subT F T hC ?_)
 refine codeAny_exc_new_subT F T hC ?_ hz
 have kk:∀b o,h.get? b=some o->((h.push {cls:=.type "tuple",data:=.seq rest.toArray}).push (excObj C none h.objs.size)).get? b=some o:=λb o e=>vac _ (vac _ e)
 have i1:=(looks_findIn (M:=model prog w) X hi).keeps kk
 have b1:=(bind_fn (M:=model prog w) X (.ref (h.objs.size+1)) hf).keeps kk
 have hC1:=kk _ _ hC
 have hget:((h.push {cls:=.type "tuple",data:=.seq rest.toArray}).push (excObj C none h.objs.size)).get? (h.objs.size+1)=some (excObj C none h.objs.size):=by heap_get
 have hcC:(Value.ref C::bm).contains (.ref C)=true:=by simp
 show wpAny _ _ _ _ _ _
 unfold isInstance
 repeat(first|with_reducible refine vb4 hget ?_|(with_reducible refine vcm hC1 ?_;rw[hcC])|wp_step)
 have t1:Looks (model prog w) ((h.push {cls:=.type "tuple",data:=.seq rest.toArray}).push (excObj C none h.objs.size)) (typeOf (.ref (h.objs.size+1))) (.ref C):=(Looks.ld hget).andThen .now
 refine vcm (h:=(h.push {cls:=.type "tuple",data:=.seq rest.toArray}).push (excObj C none h.objs.size)) hC1 ?_
 rw[hcC]
 simp only[vd0,vaq,vbo]
 refine vab (vb0 ?_)
 unfold callSpecial? specialOf
 refine vab (vab (t1.at (i1.at (vb0 ?_))))
 refine vab (b1.at (vab (vds (vdt hq λr s' z=>?_))))
 rcases r with e|(v|_|_|_)<;>first|exact z|exact z.elim|skip
 obtain⟨e,z⟩:=z
 subst e
 exact vag (vag z)
theorem make_exc0{Q:Value->Shared->Prop}{E:Value->Shared->Prop}(X:K.In s.heap)(hc:excCls K C=true)(hi:findIn K (.ref C) "__init__" = some (some (.builtin "ValueError.__init__")))(hz:rest.length<=sizeLine)
 (hq:∀h' t,(∀b o,s.heap.get? b=some o->h'.get? b=some o)->h'.get? (s.heap.objs.size+1)=some (excObj C none t)->Q (.ref (s.heap.objs.size+1)) {s with heap:=h'}) :
 wpAny (model prog w) A (call (.ref C) rest) Q E s:=by
 refine vds ?_
 obtain⟨h,g,d,t,os⟩:=s
 obtain⟨nm,qn,N,bs,bm,hdd,sn,sub,ab,col,dd,k0,k1,k2,k3,k5,hC,T⟩:=excCls_of X hc
 have F:=PySem.F.excBase_ValueError
 have f1:=tc_lookup
 have f2:=tc_bind (.ref C)
 have hT:(⟨h,g,d,t,os⟩:Shared).TypeIs (.ref C) "type":=⟨_,hC,rfl⟩
 refine codeAny_of_tree ?_
 show wpAny _ _ (callAny (.ref C) _) _ _ _
 repeat(any_goals (first|assumption|with_reducible refine vb4 hC ?_|wp_step))
 refine⟨rfl,?_⟩
 refine codeAny_call_builtin_at (vdz _ (by decide +kernel)) entry_typeCall (wpAny_check_type_call_sub hC ?_)
 repeat(first|with_reducible refine vb4 hC ?_|with_reducible refine wpAny_madeBy_exc hC ?_|wp_step)
 refine codeAny_call_builtin_code (vdz _ F.quiet) (wpAny_check_new_subT F T hC ?_)
 refine codeAny_exc_new_subT F T hC ?_ hz
 have kk:∀b o,h.get? b=some o->((h.push {cls:=.type "tuple",data:=.seq rest.toArray}).push (excObj C none h.objs.size)).get? b=some o:=λb o e=>vac _ (vac _ e)
 have i1:=(looks_findIn (M:=model prog w) X hi).keeps kk
 have hC1:=kk _ _ hC
 have hget:((h.push {cls:=.type "tuple",data:=.seq rest.toArray}).push (excObj C none h.objs.size)).get? (h.objs.size+1)=some (excObj C none h.objs.size):=by heap_get
 have hcC:(Value.ref C::bm).contains (.ref C)=true:=by simp
 show wpAny _ _ _ _ _ _
 unfold isInstance
 repeat(first|with_reducible refine vb4 hget ?_|(with_reducible refine vcm hC1 ?_;rw[hcC])|wp_step)
 have t1:Looks (model prog w) ((h.push {cls:=.type "tuple",data:=.seq rest.toArray}).push (excObj C none h.objs.size)) (typeOf (.ref (h.objs.size+1))) (.ref C):=(Looks.ld hget).andThen .now
 refine vcm (h:=(h.push {cls:=.type "tuple",data:=.seq rest.toArray}).push (excObj C none h.objs.size)) hC1 ?_
 rw[hcC]
 simp only[vd0,vaq,vbo]
 refine vab (vb0 ?_)
 unfold callSpecial? specialOf
 refine vab (vab (t1.at (i1.at (vb0 ?_))))
 refine vab (vec (F.init.bind _) ?_)
 refine vab (vds (codeAny_call_builtin F.init.plain F.initEntry (wpAny_check_init_subT F (T.keeps kk) hC1 hget rfl ?_)))
 wp_walk
 refine hq _ (h.objs.size+2) (λb o hb=>?_) ?_
 .rw[vb8 _ _ (va8 (vd2 (vam hb)))]
  exact vac _ (kk b o hb)
 .rw[vcn _ (vac _ hget) rfl]
  simp only[vca]
  rfl
end
end XL
namespace XL
open PySem PySem.W PySem.Spec PyProof.Rows
structure ExcI(K:Frag)(C:Addr):Prop extends ExcK K C where
 ca:findIn K (.ref C) "__class__" = some (some (.builtin "object.__class__"))
 hn:specialIn K (.builtin "object.__class__") "__get__" = some (some (.builtin "getset_descriptor.__get__"))
 htk:takesIn K (.builtin "object.__class__")=some true
section
variable{prog:Program}{w:World}{A:Around}{E:Value->Shared->Prop}{s:Shared}{K:Frag}{x C:Addr}{ox:Obj}{od:Option Obj}{name:Str}{expr:Bool}
theorem ExcI.mro(k:ExcI K C):mroIn K C (.type "object")=some true:=by
 obtain⟨cd,hc,ho⟩:=any_some k.ov
 have ne:cd.mro.isEmpty=false:=by cases q:cd.mro with|nil=>rw[q]at ho;cases ho|cons _ _=>rfl
 unfold mroIn
 rw[hc,vdp,if_neg (by rw[ne];decide),zl0 (by decide +kernel) ho]
theorem zl3{Q:Option Value->Shared->Prop}(k:ExcI K C)(X:K.In s.heap)(I:InstAt s.heap x ox C od)(h:Q (some (.ref C)) {s with toks:=s.toks+1}):wpAny (model prog w) A (getAttr? (.ref x) "__class__") Q E s:=by
 have hf:findObj K C od "__class__" = some (.bind (.builtin "getset_descriptor.__get__") (.builtin "object.__class__")):=by
  obtain⟨cd,hc,_⟩:=any_some k.hd
  unfold findObj
  rw[hc,vdp,k.ca,vdp]
  simp only[k.hn,k.htk,vdp]
 have S:=zl1 (prog:=prog) (w:=w) k.toExcK X I (T:="BaseException") (by decide +kernel)
 obtain⟨h0,g,d,t,os⟩:=s
 have L0:=I.type (M:=model prog w)
 have L1:=looks_findIn (M:=model prog w) X k.ga
 have L2:=looks_findIn (M:=model prog w) X k.gt
 have L3:=looks_find (M:=model prog w) X I hf
 have hx1:(onTheHeap (Value.ref C)&&Value.builtin "BaseException.__getattribute__" == Value.builtin "object.__getattribute__")=false:=by
  rw[show(Value.builtin "BaseException.__getattribute__" == Value.builtin "object.__getattribute__")=false from by decide +kernel];rfl
 unfold getAttr?
 refine vab (wpAny_mkText ?_)
 unfold getAttrBy?
 refine vab (ven ?_)
 unfold getAttrBy
 refine vb0 (vab (L0.at (vab (L1.at ?_))))
 dsimp only
 rw[hx1]
 simp only[vaq,vbo]
 unfold getAttrByItsOwn hookBefore
 refine vab ?_
 rw[if_pos (show onTheHeap (Value.ref C)=true from rfl)]
 refine L2.at ?_
 refine vab (ven (vb0 ?_))
 unfold callGetattribute
 simp only[vdb,vaq,vbo]
 unfold boundAndCalled
 rw[PySem.F.excAttr_ValueError.ga.bind (.ref x)]
 refine vab (vag ?_)
 show wpAny (model prog w) A (call (.builtin "BaseException.__getattribute__") [.ref x,.str "__class__" t]) _ _ _
 have hk:builtinKind "BaseException.__getattribute__" = some .slot:=by decide +kernel
 have hsp:splitId "BaseException.__getattribute__" = some ("BaseException","__getattribute__"):=by decide +kernel
 refine vds (codeAny_call_builtin PySem.F.excAttr_ValueError.ga.plain PySem.F.entry_bexc_ga ?_)
 refine @check_slot (model prog w) _ _ ⟨h0,g,d,t+1,os⟩ "BaseException.__getattribute__" "BaseException" "__getattribute__" (.ref x) [.str "__class__" t] [] _ hk hsp S (PySem.F.args_bexc_ga _ _) ?_
 unfold Builtin.«object.__getattribute__»
 refine vab (vec (a:=(Value.ref x,[Value.str "__class__" t])) rfl ?_)
 dsimp only
 refine vab (vec (a:=("__class__" : Str)) rfl ?_)
 refine vab (L0.at (vab (L3.at ?_)))
 dsimp only
 show wpAny _ _ (holding [.builtin "object.__class__"] (call (.builtin "getset_descriptor.__get__") [.builtin "object.__class__",.ref x,.ref C]) >>= ret) _ _ _
 refine vab (vb0 (vds (class_get (s:=⟨h0,g,d,t+1,os⟩) (ox:=ox) (od:=od) X I k.mro ?_)))
 dsimp only
 refine vag ?_
 dsimp only
 exact handed_on rfl (vag h)
theorem kitx_exc(k:ExcI K C):KitX K (.ref x) (.ref C) (λh=>InstAt h x ox C od)where
 ty:=λ_ _ _ I=>I.type
 it:=λ_ _ X _=>by
  obtain⟨cdD,hcD,_⟩:=any_some k.hd
  unfold clsIn at hcD
  split at hcD
  .rename_i c' d' cd' sl' ho
   intro A' Q' E' s' kk q
   unfold isType loadHead
   exact vab (wpAny_loadPart (kk _ _ (X _ _ ho)) (vag q))
  .cases hcD
 ne:=λh tp dd its n sl X htp=>by
  obtain⟨cdD,hcD,_⟩:=any_some k.hd
  refine Bool.eq_false_iff.mpr λq=>?_
  have e:C=tp:=Value.ref.inj (vcr.mp q)
  subst e
  unfold clsIn at hcD
  split at hcD
  .rename_i c' d' cd' sl' ho
   have z:=(X _ _ ho).symm.trans htp
   cases z
  .cases hcD
 ca:=λX I q=>zl3 k X I q
end
end XL
namespace L2
open PySem PySem.Spec PyProof.Rows
noncomputable def excH(C:Addr)(dx:Option Addr)(a:Addr):HO:=.ext λh=>∃t,h.get? a=some (XL.excObj C dx t)
noncomputable def xdH(fs:List (Str×V))(dx:Addr):HO:=.ext λh=>∃mA,h.Ns1 dx mA/\(∀f,RelO (fs.lookup f) (mA f))/\PySem.Within mA (fs.map (·.1))/\fs.length<=1000
section
variable{P:Program}{w:World}{H:Hp}{h:Heap}{a C dx:Addr}{o:Option Addr}{t:Addr}{fs:List (Str×V)}
theorem zl4(e:h.get? a=some (XL.excObj C o t)):ObjOk P w H h a (excH C o a):=⟨⟨t,e⟩,⟨_,e⟩,λ_ _ ⟨t',q⟩ k=>⟨t',k _ q⟩⟩
theorem zik(ok:HOk P w H h)(e:H a=some (excH C o a)):∃t,h.get? a=some (XL.excObj C o t):=(ok a _ e).1
theorem zqr{mA:Str->Option Value}(n:h.Ns1 dx mA)(r:∀f,RelO (fs.lookup f) (mA f))(wi:PySem.Within mA (fs.map (·.1)))(l:fs.length<=1000):ObjOk P w H h dx (xdH fs dx):=by
 refine⟨⟨mA,n,r,wi,l⟩,let⟨o,_,_,e,_⟩:=n;⟨o,e⟩,?_⟩
 rintro h1 h2 ⟨m,n1,r1,w1,l1⟩ k
 exact⟨m,n1.at λo q=>k o q,r1,w1,l1⟩
theorem zqs(ok:HOk P w H h)(e:H dx=some (xdH fs dx)):∃mA,h.Ns1 dx mA/\(∀f,RelO (fs.lookup f) (mA f))/\PySem.Within mA (fs.map (·.1))/\fs.length<=1000:=(ok dx _ e).1
end
section
variable{X:Cx}{CX:CXT}{k:Nat}{f C:Addr}{fd:FuncData}{ps:List Str}{sp:Sp}{E:XK}{x:Str}{p pos:Pos}{e:Expr}{es:List Expr}{t:TA}
structure MkE(K:vga)(C:Addr):Prop where
 cls:XL.excCls K C=true
 init:PySem.W.findIn K (.ref C) "__init__" = some (some (.builtin "ValueError.__init__"))
 kp:PySem.W.keepIn K (.ref C)=true
structure MkI(K:vga)(C f:Addr):Prop where
 cls:XL.excCls K C=true
 init:PySem.W.findIn K (.ref C) "__init__" = some (some (.ref f))
 fn:PySem.W.isFn K (.ref f)=true
 kp:PySem.W.keepIn K (.ref C)=true
end
section
variable{X:Cx}{o e value:Expr}{f:Str}{pos pos':Pos}{ta tv:TE}
noncomputable def sXFld(K:vga)(ta tv:TE)(f:Str):TS:=λD σ H=>tv σ H λy H1=>ta σ H1 λx H2=>∃a C,x=.ref a/\XL.ExcK K C/\zqp K C f/\
 ((H2 a=some (excH C none a)/\∀dx,H2 dx=none->D.nx σ (upd (upd H2 dx (xdH [(f,y)] dx)) a (excH C (some dx) a)))\/
  ∃dx fs,H2 a=some (excH C (some dx) a)/\H2 dx=some (xdH fs dx)/\fs.length<1000/\D.nx σ (upd H2 dx (xdH (putF f y fs) dx)))
theorem zl5(ha:PE X o ta)(hv:PE X value tv)(hs:swapsWith value (some (.Attribute o f pos')) pos.line X.env=pure false):PS X (.Assign [.Attribute o f pos'] value pos) (sXFld X.K ta tv f):=by
 intro pins s σ H D I h
 refine plainObj_wpAny_Assign_Attribute (thn (hv pins s σ H _ I h) λu s1 z9=>z9.el λy H1 I1 ry q=>thn (ha pins s1 σ H1 _ I1 q) λov s2 z9=>z9.el λx H2 I2 rx ⟨a,C,ex,kk,n,alt⟩=>?_) hs
 subst ex
 obtain rfl:ov=Value.ref a:=rx
 rcases alt with⟨ea,q2⟩|⟨dx,fs,ea,ed,hl,q2⟩
 .obtain⟨t,ht⟩:=zik I2.hok ea
  refine XL.exc_set0 kk I2.kIn ht n λh' tk hx hn kp=>⟨σ,_,?_,q2 s2.heap.objs.size (I2.hok.fresh (vad _))⟩
  have hne:a≠s2.heap.objs.size:=vay (vam ht)
  have hself:(h'.update a λ_=>XL.excObj C none t).get? a=some (XL.excObj C none t):=vcn _ hx rfl
  have hother:∀b,b≠a->(h'.update a λ_=>XL.excObj C none t).get? b=h'.get? b:=λb hb=>Heap.get?_update_ne _ _ _ _ hb
  have hn1:(h'.update a λ_=>XL.excObj C none t).Ns1 s2.heap.objs.size (λg=>if g=f then some u else none):=hn.at λo q=>(hother _ (vbz hne)).trans q
  have I3:=I2.laid (h':=h'.update a λ_=>XL.excObj C none t) (t':=tk) (o:=xdH [(f,y)] s2.heap.objs.size) (λb q z=>by
   by_cases hb:b=a
   .subst hb;rw[ht]at z;cases z;exact hself
   .exact(hother b hb).trans (kp b q hb z)) (vad _) (zqr hn1 (λg=>by
    show RelO (List.lookup g [(f,y)]) (if g=f then some u else none)
    by_cases q:g=f
    .subst q;simp only[va2,beq_self_eq_true,vbj];exact ry
    .have q':(g==f)=false:=by simpa using q
     simp only[va2,q',List.lookup_nil,q,vbo];trivial) (λg hg=>by
    by_cases q:g=f
    .simp[q]
    .exact absurd (if_neg q) hg) (by simp))
  exact I3.write (h':=h') (t':=tk) (x:=a) (e:=a) (by rw[zaf hne,ea];exact True.intro) (.inl rfl) (λb q hb z=>(hother b hb).symm.trans z) ⟨_,hx⟩ (zl4 hx)
 .obtain⟨t,ht⟩:=zik I2.hok ea
  obtain⟨mA,n1,r1,w1,l1⟩:=zqs I2.hok ed
  refine XL.exc_set1 kk I2.kIn ht n1 w1 (by rw[vaf];exact l1) n λh' tk hn hs'=>⟨σ,_,?_,q2⟩
  refine I2.write (x:=dx) (e:=dx) (by rw[ed];exact True.intro) (.inl rfl) (λb q hb z=>(hs'.2 b hb).trans z) (let⟨o,_,_,e',_⟩:=hn;⟨o,e'⟩) (zqr hn (λg=>?_) (λg hg=>?_) ?_)
  .show RelO ((putF f y fs).lookup g) (if g=f then some u else mA g)
   rw[zd8]
   by_cases q:g=f
   .rw[if_pos q,if_pos q];exact ry
   .rw[if_neg q,if_neg q];exact r1 g
  .by_cases q:g=f
   .rw[q];exact(zd9 f y fs).1
   .refine(zd9 f y fs).2 g (w1 g λz=>hg ?_)
    show(if g=f then some u else mA g)=none
    rw[if_neg q];exact z
  .have:=zea f y fs;omega
noncomputable def tyVal:V->Option Value
 |.ty n=>some (.type n)
 |.ref a=>some (.ref a)
 |_=>none
end
mutual
inductive Rp(K:vga)(M:Addr->Prop)(H:Hp):V->PyData->Prop
 |non:Rp K M H .non .none
 |bl (b:Bool):Rp K M H (.bl b) (.bool b)
 |int (i:Int):Rp K M H (.int i) (.int i)
 |str (x:Str):Rp K M H (.str x) (.str x)
 |tup {a:Addr} {xs:List V} {ds:List PyData}:SqT K H a xs->¬M a->Rps K M H xs ds->Rp K M H (.ref a) (.tuple ds)
 |lst {a:Addr} {xs:List V} {ds:List PyData}:SqL K H a xs->¬M a->Rps K M H xs ds->Rp K M H (.ref a) (.list ds)
inductive Rps(K:vga)(M:Addr->Prop)(H:Hp):List V->List PyData->Prop
 |nil:Rps K M H [] []
 |cons {x:V} {d:PyData} {xs:List V} {ds:List PyData}:Rp K M H x d->Rps K M H xs ds->Rps K M H (x::xs) (d::ds)
end
section
variable{X:Cx}{pins:List (Addr×Obj)}{σ:St}{H:Hp}{s:Shared}{M:Addr->Prop}
mutual
theorem Rp.reads(I:Inv X pins σ H s):∀{x:V} {d:PyData} {u:Value},Rp X.K M H x d->RelV x u->∃as,Reads s.heap u d as
 |_,_,_,.non,r=>by cases r;exact⟨_,.none⟩
 |_,_,_,.bl b,r=>by cases r;exact⟨_,.bool b⟩
 |_,_,_,.int i,r=>by obtain⟨t,rfl⟩:=r;exact⟨_,.int i t⟩
 |_,_,_,.str x,r=>by obtain⟨t,rfl⟩:=r;exact⟨_,.str x t⟩
 |_,_,_,.tup h n rr,r=>by
  cases r
  obtain⟨its,rv,p,_⟩:=I.tuple h
  obtain⟨o,ho,hc,m,hd⟩:=p
  obtain⟨as,ra⟩:=Rps.reads I rr rv
  exact⟨_,.tuple ho hc hd (by simpa using ra)⟩
 |_,_,_,.lst h n rr,r=>by
  cases r
  obtain⟨its,rv,p,_⟩:=I.list h
  obtain⟨o,m,ho,hc,_,hd⟩:=p
  obtain⟨as,ra⟩:=Rps.reads I rr rv
  exact⟨_,.list ho hc hd (by simpa using ra)⟩
theorem Rps.reads(I:Inv X pins σ H s):∀{xs:List V} {ds:List PyData} {us:List Value},Rps X.K M H xs ds->Vals xs us->∃as,ReadsAll s.heap us ds as
 |_,_,_,.nil,.nil=>⟨_,.nil⟩
 |_,_,_,.cons r t,.cons q v=>by
  obtain⟨as,h1⟩:=Rp.reads I r q
  obtain⟨bs,h2⟩:=Rps.reads I t v
  exact⟨_,.cons h1 h2⟩
end
noncomputable def rEqD(K:vga):R2:=λx y H Q=>∃d e,Rp K (λ_=>False) H x d/\Rp K (λ_=>False) H y e/\SeqAt.shaped d=true/\SeqAt.shaped e=true/\Q (.bl (PyData.eqv d e)) H
noncomputable def rNeD(K:vga):R2:=λx y H Q=>∃d e,Rp K (λ_=>False) H x d/\Rp K (λ_=>False) H y e/\SeqAt.shaped d=true/\SeqAt.shaped e=true/\Q (.bl (!PyData.eqv d e)) H
theorem zu5(hu:X.A.units+64<cLine):OpR X (compareOp .Eq) (rEqD X.K):=by
 intro pins s σ H x y v u Q I rx ry h
 obtain⟨d,e,r1,r2,s1,s2,q⟩:=h
 obtain⟨as,ra⟩:=r1.reads I rx
 obtain⟨bs,rb⟩:=r2.reads I ry
 exact PyProof.Rows.eq_dataH ra rb s1 s2 hu ⟨.bl _,H,I,rfl,q⟩
theorem zu6(hu:X.A.units+64<cLine):OpR X (compareOp .NotEq) (rNeD X.K):=by
 intro pins s σ H x y v u Q I rx ry h
 obtain⟨d,e,r1,r2,s1,s2,q⟩:=h
 obtain⟨as,ra⟩:=r1.reads I rx
 obtain⟨bs,rb⟩:=r2.reads I ry
 exact PyProof.Rows.ne_dataH ra rb s1 s2 hu ⟨.bl _,H,I,rfl,q⟩
end
section
variable{prog:Program}{w:World}{A:Around}{E:Value->Shared->Prop}{s:Shared}
theorem ze9{I t:Addr}{k:Nat}{its:Array Value}{Q:Value->Shared->Prop}(hi:s.heap.IsTupleIter I t k)(ht:s.heap.IsTuple t its)(hy:its[k]?=some y)
 (q:∀g,g.IsTupleIter I t (k+1)->Heap.SameBut I s.heap g->Q y {s with heap:=g}):wpAny (model prog w) A (Builtin.SmallTypes.nextOf (.ref I)) Q E s:=by
 obtain⟨oi,e1,e2,e3⟩:=id hi
 obtain⟨ot,e4,_,kt,e5⟩:=ht
 unfold Builtin.SmallTypes.nextOf
 refine vab (vb3 (name:=Str.ofString "__next__") hi.typeIs vcx (vcz vcx hi.typeIs F.entry_tuple_iterator_next ?_ (F.args_tuple_iterator_next_1 _)))
 show wpAny _ _ (field (.ref I) 0 >>= _) _ _ s
 refine vab (vbn e1 e3 (x:=.ref t) rfl ?_)
 show wpAny _ _ (if(Value.ref t==Value.none)=true then _ else _) _ _ s
 rw[if_neg (show ¬((Value.ref t==Value.none)=true)from λz=>nomatch z)]
 show wpAny _ _ (field (.ref I) 1 >>= _) _ _ s
 refine vab (vbn e1 e3 (x:=.int k 0) rfl ?_)
 show wpAny _ _ (seqItems? (.ref t) >>= _) _ _ s
 refine vab (vc1 e4 e5 ?_)
 simp only[vck,hy]
 refine vab (vd7 e1 e3 (by simp) (vag ⟨y,rfl,vag (q _ ?_ (Heap.SameBut.update ..))⟩))
 refine⟨_,vcn _ e1 (Obj.isFreed_of_fields (Obj.data_mapFields e3 _)),(Obj.cls_mapFields ..).trans e2,?_⟩
 rw[Obj.data_mapFields e3]
 simp[rawInt]
theorem zeg{I t:Addr}{k:Nat}{its:Array Value}{Q:Value->Shared->Prop}(hA:A.handled=none)(hi:s.heap.IsTupleIter I t k)(ht:s.heap.IsTuple t its)(hy:its[k]?=none)
 (q:∀g e,Heap.ExtBut I s.heap g->(∃o,g.get? e=some o/\o.cls=.type "StopIteration")->E (.ref e) {s with heap:=g}):wpAny (model prog w) A (Builtin.SmallTypes.nextOf (.ref I)) Q E s:=by
 obtain⟨oi,e1,e2,e3⟩:=id hi
 obtain⟨ot,e4,_,kt,e5⟩:=ht
 unfold Builtin.SmallTypes.nextOf
 refine vab (vb3 (name:=Str.ofString "__next__") hi.typeIs vcx (vcz vcx hi.typeIs F.entry_tuple_iterator_next ?_ (F.args_tuple_iterator_next_1 _)))
 show wpAny _ _ (field (.ref I) 0 >>= _) _ _ s
 refine vab (vbn e1 e3 (x:=.ref t) rfl ?_)
 show wpAny _ _ (if(Value.ref t==Value.none)=true then _ else _) _ _ s
 rw[if_neg (show ¬((Value.ref t==Value.none)=true)from λz=>nomatch z)]
 show wpAny _ _ (field (.ref I) 1 >>= _) _ _ s
 refine vab (vbn e1 e3 (x:=.int k 0) rfl ?_)
 show wpAny _ _ (seqItems? (.ref t) >>= _) _ _ s
 refine vab (vc1 e4 e5 ?_)
 simp only[vck,hy]
 refine vab (ves (vab (vd7 e1 e3 (by simp) ?_)))
 show wpAny _ _ (newExc (.type "StopIteration") [] >>= _) _ _ _
 refine vab ?_
 simp only[newExc,newTuple]
 refine vab (vbs ?_ (by size_fits))
 refine vab (m:=firstArgMember _ _) (vec (a:=Value.none) (by first|rfl|(simp only[firstArgMember];rfl)) ?_)
 refine vbs ?_ (by size_fits)
 simp only[raiseNew]
 refine vab (wpAny_handled ?_)
 first|rw[show A.in1.handled=none from hA]|rw[hA]
 refine vab (vag (wpAny_throw ?_))
 exact q _ _ (((Heap.SameBut.update ..).extBut.push _).push _) ⟨_,vaz _ rfl,rfl⟩
end
theorem zjb{h h':Heap}{a:Addr}{its:Array Value}(x:h.IsTuple a its)(e:∀o,h.get? a=some o->h'.get? a=some o):h'.IsTuple a its:=let⟨o,ho,r⟩:=x;⟨o,e _ ho,r⟩
theorem zu7{prog:Program}{w:World}{A:Around}(hA:A.handled=none)(I t:Addr)(hne:t≠I)(its:Array Value) :
 Draws prog w A I [I,t] its.size (λi v=>its[i]?=some v) (λi h=>h.IsTupleIter I t i/\h.IsTuple t its)where
 live:=λ_ _ st=>let⟨o,ho,_⟩:=st.1;⟨o,ho⟩
 frame:=λ_ _ _ st hk=>⟨st.1.at λo e=>hk I (by simp) o e,zjb st.2 λo e=>hk t (by simp) o e⟩
 item:=λi s Q E hi st q=>ze9 st.1 st.2 (y:=its[i]) (by simp[hi]) λg a b=>q _ g s.toks (by simp[hi]) ⟨a,st.2.extBut b.extBut hne⟩ b
 done:=λs Q E st q=>zeg hA st.1 st.2 (by simp) q
theorem zil(l:Addr)(its:Array Value)(n:Nat)(dc:Option Addr)(sl:Array (Option Value)) :
 Meets (Builtin.«enumerate.__new__» ⟨[.type "enumerate",.ref l],[]⟩) (λ_ R s=>s.heap.get? l=some {cls:=.type "tuple",dict:=dc,data:=.seq its n,slots:=sl}/\
  R (.ok (.ret (.ref (s.heap.push {cls:=.type "tuple_iterator",data:=.fields #[.ref l,.int 0 0]}).objs.size)))
   {s with heap:=(s.heap.push {cls:=.type "tuple_iterator",data:=.fields #[.ref l,.int 0 0]}).push {cls:=.type "enumerate",data:=.fields #[.none,.bool false,.ref s.heap.objs.size,rawInt 0,.none,.none]}}):=
 .of_wp λprog w A R s h=>by
  obtain⟨hp,g,d,tk,os⟩:=s
  obtain⟨e,h⟩:=h
  have hsub:=sub_enumerate
  have hT:Heap.IsTuple (Shared.heap ⟨hp,g,d,tk,os⟩) l its:=⟨_,e,rfl,n,rfl⟩
  wp_walk using va9 e
  refine wpAny_stack_any λst=>vag ?_
  split
  .rename_i c _ _ _ _ _
   cases(c==Value.type "enumerate")<;> (wp_walk using va9 e,vcq hT;exact⟨_,rfl,h⟩)
  .wp_walk using va9 e,vcq hT
   exact⟨_,rfl,h⟩
theorem zkj{prog:Program}{w:World}{A:Around}{E:Value->Shared->Prop}{l:Addr}{its:Array Value}{Q:Value->Shared->Prop}(hL:s.heap.IsTuple l its)
 (h:∀g,IsEnum g (s.heap.objs.size+1) s.heap.objs.size 0 .none->g.IsTupleIter s.heap.objs.size l 0->g.objs.size=s.heap.objs.size+2->(∀b o,s.heap.get? b=some o->g.get? b=some o)->Q (.ref (s.heap.objs.size+1)) {s with heap:=g}) :
 wpAny (model prog w) A (call (.type "enumerate") [.ref l]) Q E s:=by
 obtain⟨⟨c,dc,dt,sl⟩,e1,e2,n,e3⟩:=hL
 replace e2:c=.type "tuple":=e2
 replace e3:dt=.seq its n:=e3
 subst e2 e3
 refine callType_new F.called_enumerate (by decide) (F.typeCall_enumerate_1 _) (F.newCall_enumerate_1 _) (λobj=>F.args_object_init_2 obj _) F.entry_enumerate_new (zil l its n dc sl) ⟨e1,?_⟩
 have hz:(s.heap.push {cls:=.type "tuple_iterator",data:=.fields #[.ref l,.int 0 0]}).objs.size=s.heap.objs.size+1:=vca ..
 show _/\_
 rw[hz]
 have he:IsEnum ((s.heap.push {cls:=.type "tuple_iterator",data:=.fields #[.ref l,.int 0 0]}).push {cls:=.type "enumerate",data:=.fields #[.none,.bool false,.ref s.heap.objs.size,rawInt 0,.none,.none]}) (s.heap.objs.size+1) s.heap.objs.size 0 .none:=by
  rw[<-hz]
  exact vaz _ rfl
 exact⟨⟨_,he,rfl⟩,h _ he ⟨_,vac _ (vaz _ rfl),rfl,rfl⟩ (by rw[vca,hz]) λb o x=>vac _ (vac _ x)⟩
noncomputable def IteT(K:vga)(a:Addr):It:=
 ⟨λi H=>∃xs x,SqT K H a xs/\xs[i]?=some x,λi H x H'=>∃T v,x=.ref T/\H T=none/\H'=upd H T (.tup [.int i,v])/\∀xs,SqT K H a xs->xs[i]?=some v,λi H=>∃xs,SqT K H a xs/\xs.length<=i⟩
theorem zkk{P:Program}{w:World}{K:vga}{elts:List Expr}{kx:Nat}{tp:Pos}(a e it:Addr)(hei:e≠it)(hae:a≠e)(hai:a≠it) :
 Turn P w K (.Tuple elts kx tp) (IteT K a) [e,it] e (λi h=>(∃old,IsEnum h e it i old)/\h.IsTupleIter it a i)where
 mem:=by simp
 obj:=λi h st b hb=>by
  obtain⟨⟨old,he⟩,o,ho,hc,hd⟩:=st
  rcases vaw.mp hb with rfl|hb
  .exact⟨_,he,λv z=>by
    have z':Data.fields _=Data.cell v:=z
    cases z'⟩
  .have e':b=it:=by simpa using hb
   subst e'
   exact⟨o,ho,λv z=>by rw[hd]at z;cases z⟩
 keep:=λi h h' st k=>by
  obtain⟨⟨old,he⟩,st⟩:=st
  exact⟨⟨old,k e (by simp) _ he⟩,st.at λo q=>k it (by simp) o q⟩
 item:=by
  intro X hP hw hK hc i pins s σ H E I hf st hg
  subst hP hw hK
  obtain⟨xs,x,hq,hx⟩:=hg
  obtain⟨⟨old,he⟩,st⟩:=st
  obtain⟨its,rv,p,hz⟩:=I.tuple hq
  obtain⟨u,hu,ru⟩:=rv.get hx
  have hd:X.A.in1.handled=none:=I.ok.hd hc
  have p:s.heap.IsTuple a its.toArray:=p
  refine wpAny_pyNext_enum_itemD (zu7 hd it a hai its.toArray) he ⟨st,p⟩ (by
   have:i<its.length:=by
    rw[<-rv.length]
    exact(vas.mp hx).1
   simpa using this) hei (by simp[hei,vbz hae]) λx' h1 tk hx' ho hit hT hsz hk=>?_
  obtain rfl:u=x':=by
   have:its[i]?=some x':=by simpa using hx'
   rw[hu]at this
   cases this;rfl
  refine⟨_,rfl,wpAny_letOwnedTupleGo_enum ho λh2 he2 hs2=>?_⟩
  have hTn:H s.heap.objs.size=none:=I.hok.fresh (vad _)
  have hTe:s.heap.objs.size≠e:=va8 (vam he)
  have hTi:s.heap.objs.size≠it:=by
   obtain⟨o,q,_⟩:=st
   exact va8 (vam q)
  have hs2:Heap.SameBut e h1 h2:=hs2
  have kk:∀b o,b≠e->b≠it->s.heap.get? b=some o->h2.get? b=some o:=λb o h1 h2 q=>(hs2.2 b h1).trans (hk b o h1 h2 q)
  have f0:=λb hb=>(hf b hb).1
  have nE:∀b o,H b=some o->b≠e/\b≠it:=λb o q=>⟨λz=>(by rw[z,f0 e (by simp)]at q;cases q),λz=>(by rw[z,f0 it (by simp)]at q;cases q)⟩
  have hT2:h2.get? s.heap.objs.size=some {cls:=.type "tuple",data:=.seq #[.int i tk,u]}:=(hs2.2 _ hTe).trans hT
  have I2:Inv X pins σ (upd H s.heap.objs.size (.tup [.int i,x])) {s with heap:=h2,gens:=s.gens,drawn:=s.drawn,toks:=tk+1}:=by
   refine I.step (ch:=[e,it]) (λb hb=>?_) (λb o _ _ hc e1 _=>kk b o (λz=>hc (by simp[z])) (λz=>hc (by simp[z])) e1) (λb o _ _ hc e1 _=>⟨o.slots,kk b o (λz=>hc (by simp[z])) (λz=>hc (by simp[z])) e1⟩)
    (λb o hc e1 n=>by rw[zaf (vay (vam e1))];exact n) (λb o hc e1=>⟨o,kk b o (λz=>hc (by simp[z])) (λz=>hc (by simp[z])) e1⟩)
    (λb ys q=>by rw[zaf (zag q hTn)];exact q) (λb o u q=>by rw[zaf (zag q hTn)];exact q) (λb ps q=>⟨#[],by rw[zaf (zag q hTn),q];simp⟩) (λm hm=>?_) (λb ob q=>?_) I.bare
   .obtain⟨_,a1,a2,a3,a4,a5⟩:=hf b hb
    exact⟨a3,a1,a4,a5⟩
   .obtain⟨o,es,ep,ho',r⟩:=hm
    exact⟨o,es,ep,kk _ o (vbz (hf e (by simp)).2.1) (vbz (hf it (by simp)).2.1) ho',r⟩
   .by_cases hb:b=s.heap.objs.size
    .subst hb
     rw[zai]at q;cases q
     exact⟨by show 2<=sizeLine;decide,[.int i tk,u],.cons ⟨_,rfl⟩ (.cons ru .nil),⟨_,hT2,rfl,⟨_,rfl⟩,rfl⟩⟩
    .rw[zaf hb]at q
     refine(I.hok b ob q).stay (λc v hc z=>kk c v ?_ ?_ z) (λc z=>by rw[zaf (zag z hTn)];exact z) λc ys z=>by rw[zaf (zag z hTn)];exact z
     .rcases hc with rfl|hc
      .exact(nE c ob q).1
      .exact(nE c _ hc).1
     .rcases hc with rfl|hc
      .exact(nE c ob q).2
      .exact(nE c _ hc).2
  refine⟨.ref s.heap.objs.size,_,I2,rfl,⟨_,x,rfl,hTn,rfl,λys hy=>by rw[I.tuple_inj hy hq];exact hx⟩,⟨⟨u,by simpa using he2⟩,hit.1.at λo q=>(hs2.2 it (vbz hei)).trans q⟩,λb hb=>?_⟩
  rw[zaf ?_]
  .exact f0 b hb
  .rcases vaw.mp hb with rfl|hb
   .exact vbz hTe
   .have e':b=it:=by simpa using hb
    subst e'
    exact vbz hTi
 done:=by
  intro X hP hw hK hc i pins s σ H E I hf st hg
  subst hP hw hK
  obtain⟨xs,hq,hx⟩:=hg
  obtain⟨⟨old,he⟩,st⟩:=st
  obtain⟨its,rv,p,hz⟩:=I.tuple hq
  obtain⟨f0,f1,f2,f3,f4,f5⟩:=hf it (by simp)
  have hl:=rv.length
  have hd:X.A.in1.handled=none:=I.ok.hd hc
  have p:s.heap.IsTuple a its.toArray:=p
  refine PySem.wpAny_pyNext_enum_endD (n:=0) (P:=λ_ _=>True) (St:=λ_ h=>h.IsTupleIter it a i/\h.IsTuple a its.toArray) (fp:=[it,a]) ⟨?_,?_,?_,?_⟩ he ⟨st,p⟩ λh' eb=>⟨rfl,I.turned (t':=s.toks) (λb o hb q=>eb b o hb q) f0 f1 f3 f4 f5⟩
  .exact λ_ _ st=>let⟨o,ho,_⟩:=st.1;⟨o,ho⟩
  .exact λ_ _ _ st hk=>⟨st.1.at λo e=>hk it (by simp) o e,zjb st.2 λo e=>hk a (by simp) o e⟩
  .exact λj s' Q' E' hj=>absurd hj (Nat.not_lt_zero _)
  .exact λs' Q' E' st' q'=>zeg hd st'.1 st'.2 (by simp;omega) q'
 self:=λ_ _ _ _ _ st h=>by
  obtain⟨⟨old,he⟩,_⟩:=st
  exact wpAny_pyIter_enum he h
section
variable{κ:Type}[DecidableEq κ]
noncomputable def valV(kvs:List (κ×V))(k:κ):Option V:=(kvs.find? λkv=>decide (kv.1=k)).map (·.2)
noncomputable def putK(kvs:List (κ×V))(k:κ)(v:V):List (κ×V):=
 if(kvs.any λkv=>decide (kv.1=k))=true then kvs.map (λkv=>if kv.1=k then(kv.1,v)else kv)else kvs++[(k,v)]
theorem zf7{p:κ×V}{r:List (κ×V)}{k:κ}(e:p.1=k):valV (p::r) k=some p.2:=by simp[valV,vco,e]
theorem zdy{p:κ×V}{r:List (κ×V)}{k:κ}(e:¬p.1=k):valV (p::r) k=valV r k:=by simp[valV,vco,e]
theorem zim(kvs:List (κ×V))(k:κ)(v:V):(putK kvs k v).length<=kvs.length+1:=by
 unfold putK
 split
 .rw[vaf];omega
 .rw[vaj,vai,vdi];omega
theorem KV.val{kvs:List (κ×V)}{vs:List (κ×Value)}(r:KV kvs vs)(k:κ):RelO (valV kvs k) (valueAt vs k):=by
 unfold KV at r
 induction r with
 |nil=>exact True.intro
 | @cons p q ps qs h t ih=>
  obtain⟨h1,h2⟩:=h
  by_cases e:p.1=k
  .have e':q.1=k:=h1.symm.trans e
   have b:valueAt (q::qs) k=some q.2:=by simp[valueAt,vco,e']
   rw[zf7 e,b];exact h2
  .have e':¬q.1=k:=λz=>e (h1.trans z)
   have b:valueAt (q::qs) k=valueAt qs k:=by simp[valueAt,vco,e']
   rw[zdy e,b];exact ih
theorem KV.any{kvs:List (κ×V)}{vs:List (κ×Value)}(r:KV kvs vs)(k:κ):(kvs.any λkv=>decide (kv.1=k))=vs.any λkv=>decide (kv.1=k):=by
 unfold KV at r
 induction r with
 |nil=>rfl
 |cons h t ih=>rw[veo,veo,ih,h.1]
theorem KV.repl{kvs:List (κ×V)}{vs:List (κ×Value)}(r:KV kvs vs)(k:κ){y:V}{u:Value}(ry:RelV y u) :
 KV (kvs.map λkv=>if kv.1=k then(kv.1,y)else kv) (vs.map λkv=>if kv.1=k then(kv.1,u)else kv):=by
 unfold KV at r ⊢
 induction r with
 |nil=>exact .nil
 | @cons p q ps qs h t ih=>
  rw[va0,va0]
  refine .cons ?_ ih
  obtain⟨h1,h2⟩:=h
  by_cases e:p.1=k
  .rw[if_pos e,if_pos (h1.symm.trans e)];exact⟨h1,ry⟩
  .rw[if_neg e,if_neg (λz=>e (h1.trans z))];exact⟨h1,h2⟩
theorem KV.put{kvs:List (κ×V)}{vs:List (κ×Value)}(r:KV kvs vs)(k:κ){y:V}{u:Value}(ry:RelV y u):KV (putK kvs k y) (stored vs k u):=by
 unfold putK stored
 rw[r.any k]
 by_cases e:(vs.any λkv=>decide (kv.1=k))=true
 .rw[if_pos e,if_pos e];exact r.repl k ry
 .rw[if_neg e,if_neg e];exact Paired.snoc r ⟨rfl,ry⟩
end
theorem kV_is{P:Program}{w:World}{k:Key}{u:Value}(r:RelV (kV k) u):(zay P w).is k u=true:=by
 cases k with
 |inl i=>obtain⟨t,e⟩:=(show ∃t,u=Value.int i t from r);subst e;exact zig P w i t
 |inr x=>obtain⟨t,e⟩:=(show ∃t,u=Value.str x t from r);subst e;exact zih P w x t
theorem zhh{P:Program}{w:World}:∀{ks:List Key} {us:List Value},Vals (ks.map kV) us->ItemsAre (zay P w) ks us
 |[],_,r=>by rw[vdh]at r;cases r;exact .nil
 |k::ks,_,r=>by
  rw[va0]at r
  cases r with
  |cons h t=>exact .cons (kV_is h) (zhh t)
noncomputable abbrev KT(H:Hp):List (List Key×V)->List (List Key×Addr×Value)->Prop:=Paired λp q=>p.1=q.1/\H q.2.1=some (.tup (p.1.map kV))/\RelV p.2 q.2.2
theorem KT.val{H:Hp}{kvs:List (List Key×V)}{xs:List (List Key×Addr×Value)}(r:KT H kvs xs)(k:List Key):RelO (valV kvs k) ((atKey xs k).map (·.2)):=by
 induction r with
 |nil=>exact True.intro
 | @cons p q ps qs h t ih=>
  obtain⟨h1,_,h2⟩:=h
  by_cases e:p.1=k
  .have e':q.1=k:=h1.symm.trans e
   have b:atKey (q::qs) k=some q.2:=by simp[atKey,vco,e']
   rw[zf7 e,b];exact h2
  .have e':¬q.1=k:=λz=>e (h1.trans z)
   have b:atKey (q::qs) k=atKey qs k:=by simp[atKey,vco,e']
   rw[zdy e,b];exact ih
section
variable{P:Program}{w:World}{H:Hp}{h:Heap}{a:Addr}
theorem rd_of{u:HO}(ok:HOk P w H h)(e:Rd H a u):ObjOk P w H h a u:=e.ok ok
theorem dk_rd{kvs:List (Key×V)}(ok:HOk P w H h)(e:Rd H a (.dK kvs)):kvs.length<=sizeLine/\(a==sysModules)=false/\∃vs,KV kvs vs/\h.DictOf (zay P w) a vs:=
 show ObjOk P w H h a (.dK kvs)from rd_of ok e
theorem dk_of{kvs:List (Key×V)}(ok:HOk P w H h)(e:H a=some (.dK kvs)):kvs.length<=sizeLine/\(a==sysModules)=false/\∃vs,KV kvs vs/\h.DictOf (zay P w) a vs:=dk_rd ok (.inl e)
theorem zqt{ks:List Key}(ok:HOk P w H h)(e:H a=some (.tup (ks.map kV))):(tupleKind (zay P w)).is h ks a:=by
 obtain⟨_,its,r,o,h1,h2,⟨n,h3⟩,_⟩:=(show ObjOk P w H h a (.tup (ks.map kV))from ok a _ e)
 exact⟨o,its.toArray,n,h1,h2,h3,by simpa using zhh r⟩
theorem dt_rd{kvs:List (List Key×V)}(ok:HOk P w H h)(e:Rd H a (.dT kvs)):kvs.length<=sizeLine/\(a==sysModules)=false/\
 ∃xs,KT H kvs xs/\h.DictOfH (tupleKind (zay P w)) a xs:=by
 obtain⟨z,y,xs,r,o,es,ep,h1,h2,h3,h4,h5⟩:=(show ObjOk P w H h a (.dT kvs)from rd_of ok e)
 refine⟨z,y,xs,r,o,es,ep,h1,h2,h3,h4,λx hx=>?_,h5⟩
 have all:∀{l:List (List Key×V)}{m:List (List Key×Addr×Value)},KT H l m->∀x∈m,(tupleKind (zay P w)).is h x.1 x.2.1:=by
  intro l m q
  induction q with
  |nil=>intro x hx;exact nomatch hx
  | @cons p q ps qs hq t ih=>
   intro x hx
   rcases vaw.mp hx with e|hx
   .subst e
    exact zqt ok (by rw[<-hq.1];exact hq.2.1)
   .exact ih x hx
 exact all r x hx
end
noncomputable def DGet(H:Hp)(a:Addr)(y:V)(r:Option V):Prop:=
 (∃kvs k,Rd H a (.dK kvs)/\y=kV k/\r=valV kvs k)\/∃kvs k b,Rd H a (.dT kvs)/\y=.ref b/\H b=some (.tup (k.map kV))/\r=valV kvs k
section
variable{X:Cx}{pins:List (Addr×Obj)}{σ:St}{H:Hp}{s:Shared}{a:Addr}{y v:V}{u r:Value}{o:Option V}{A:Around}{E:Value->Shared->Prop}
theorem Inv.big(I:Inv X pins σ H s):sysModules<s.heap.objs.size:=by
 have h:mainGlobals<s.heap.objs.size:=(I.mod.glob.keeps I.bk).lt
 exact ver (by decide) h
theorem zl6{Q:Value->Shared->Prop}(hu:A.units+1<cLine)(I:Inv X pins σ H s)(g:DGet H a y (some v))(ry:RelV y u)(h:∀w' s',Inv X pins σ H s'->RelV v w'->Q w' s') :
 wpAny (model X.prog X.w) A (getItem (.ref a) u) Q E s:=by
 rcases g with⟨kvs,k,e,ey,l⟩|⟨kvs,k,b,e,ey,eb,l⟩
 .subst ey
  obtain⟨z,hd,vs,rel,dd⟩:=dk_rd I.hok e
  obtain⟨w',hw,rw'⟩:=RelO.some_of (v:=v) (o:=valueAt vs k) (by rw[l];exact rel.val k)
  exact wpAny_getItem_of (kV_is ry) dd.mapOf hw (h w' _ (I.tok _) rw')
 .subst ey
  cases(show u=Value.ref b from ry)
  obtain⟨z,hd,xs,rel,dd⟩:=dt_rd I.hok e
  obtain⟨w',hw,rw'⟩:=RelO.some_of (v:=v) (o:=(atKey xs k).map (·.2)) (by rw[l];exact rel.val k)
  obtain⟨p,hp,hp2⟩:=Option.map_eq_some_iff.mp hw
  refine wpAny_getItem_heap (tupleKind_room_in1 hu) (zqt I.hok eb) dd hp ?_
  rw[hp2]
  exact h w' _ (I.tok _) rw'
theorem zsf{h':Heap}{t':Nat}{ob:HO}(I:Inv X pins σ H s)(mu:Mut (H a))(hs:Heap.SameBut a s.heap h')(he:∃q,h'.get? a=some q)(new:ObjOk X.prog X.w (upd H a ob) h' a ob) :
 Inv X pins σ (upd H a ob) {s with heap:=h',toks:=t'}:=
 I.write (x:=a) (e:=a) mu (.inl rfl) (λb q hb z=>(hs.2 b hb).trans z) he new
theorem zu8{P:Program}{w:World}{H':Hp}{h':Heap}{kvs:List (Key×V)}{vs:List (Key×Value)}(z:kvs.length<=sizeLine)(hd:(a==sysModules)=false)(rel:KV kvs vs)(dd:h'.DictOf (zay P w) a vs) :
 ObjOk P w H' h' a (.dK kvs):=⟨z,hd,vs,rel,dd⟩
end
theorem zin{X:Cx}{pins:List (Addr×Obj)}{σ:St}{H:Hp}{s:Shared}{a:Addr}{y:V}{o:Option V}(I:Inv X pins σ H s)(g:DGet H a y o):s.TypeIs (.ref a) "dict":=by
 rcases g with⟨kvs,k,e,_,_⟩|⟨kvs,k,b,e,_,_,_⟩
 .obtain⟨_,_,vs,_,dd⟩:=dk_rd I.hok e
  exact dd.typeIs
 .obtain⟨_,_,xs,_,dd⟩:=dt_rd I.hok e
  exact dd.typeIs
theorem zjc{P:Program}{w:World}{H:Hp}(h:Heap)(hb:sysModules<h.objs.size):ObjOk P w H (h.push {cls:=.type "dict",data:=.dict #[]}) h.objs.size (.dK []):=
 ⟨vbv _,vc6.mpr (vbz (vay hb)),[],.nil,Heap.DictOf.new h⟩
noncomputable def zu9:TE:=λ_ H Q=>∀p,H p=none->Q (.ref p) (upd H p (.dK []))
section
variable{X:Cx}{pos:Pos}
theorem zo3:PE X (.Dict [] [] pos) zu9:=λpins s σ H Q I h=>
 wpAny_Dict_empty ⟨.ref s.heap.objs.size,_,I.laid (a:=s.heap.objs.size) (o:=.dK []) (t':=s.toks) (λ_ _ q=>vac _ q) (vad _) (zjc s.heap I.big),rfl,h _ (I.hok.fresh (vad _))⟩
end
noncomputable def zjd:List (TE×TE)->St->Hp->(List (V×V)->Hp->Prop)->Prop
 |[],_,H,Q=>Q [] H
 |(tk,tv)::r,σ,H,Q=>tk σ H λx H1=>tv σ H1 λy H2=>zjd r σ H2 λps H3=>Q ((x,y)::ps) H3
noncomputable abbrev VV:List (V×V)->List (Value×Value)->Prop:=Paired λp q=>RelV p.1 q.1/\RelV p.2 q.2
noncomputable def PPs(X:Cx)(pos:Pos)(keys:List (Option Expr))(values:List Expr)(trs:List (TE×TE)):Prop:=
 ∀(pins:List (Addr×Obj))(s:Shared)(σ:St)(H:Hp)(Q:List (V×V)->Hp->Prop),Inv X pins σ H s->zjd trs σ H Q->
  wpAny (model X.prog X.w) X.A (evalPairs (pairTrees keys values X.env pos)) (λvs s'=>∃ps H',Inv X pins σ H' s'/\VV ps vs/\Q ps H') X.xe s
theorem zsg{X:Cx}{pos:Pos}:PPs X pos [] [] []:=λpins s σ H Q I h=>pairTrees_nil_walk ⟨[],H,I,.nil,h⟩
theorem zo4{X:Cx}{pos:Pos}{k v:Expr}{ks:List (Option Expr)}{vs:List Expr}{tk tv:TE}{trs:List (TE×TE)}(hk:PE X k tk)(hv:PE X v tv)(hr:PPs X pos ks vs trs) :
 PPs X pos (some k::ks) (v::vs) ((tk,tv)::trs):=λpins s σ H Q I h=>
 pairTrees_cons_walk (thn (hk pins s σ H _ I h) λu s1 z9=>z9.el λx H1 I1 rx q1=>thn (hv pins s1 σ H1 _ I1 q1) λw2 s2 z9=>z9.el λy H2 I2 ry q2=>
  thn (hr pins s2 σ H2 _ I2 q2) λws s3 ⟨ps,H3,I3,rel,q3⟩=>⟨(x,y)::ps,H3,I3,.cons ⟨rx,ry⟩ rel,q3⟩)
noncomputable def zdo(kvs more:List (Key×V)):List (Key×V):=more.foldl (λacc kv=>putK acc kv.1 kv.2) kvs
theorem KV.merge:∀{more:List (Key×V)} {rs:List (Key×Value)} {kvs:List (Key×V)} {vs:List (Key×Value)},KV more rs->KV kvs vs->KV (zdo kvs more) (merged vs rs):=by
 intro more rs kvs vs r
 unfold KV at r
 induction r generalizing kvs vs with
 |nil=>intro q;exact q
 | @cons p q ps qs h t ih=>
  intro r0
  have e:KV (putK kvs p.1 p.2) (stored vs q.1 q.2):=by
   have:=r0.put p.1 h.2
   rw[<-h.1];exact this
  exact ih e
theorem zci:∀(more kvs:List (Key×V)),(zdo kvs more).length<=kvs.length+more.length
 |[],kvs=>by show kvs.length<=kvs.length+0;omega
 |p::r,kvs=>by
  have h1:=zci r (putK kvs p.1 p.2)
  have h2:=zim kvs p.1 p.2
  show(zdo (putK kvs p.1 p.2) r).length<=_
  rw[vai];omega
theorem zfa{P:Program}{w:World}:∀{kvs:List (Key×V)} {ws:List (Value×Value)},VV (kvs.map λkv=>(kV kv.1,kv.2)) ws->∃rs,Carries (zay P w) ws rs/\KV kvs rs
 |[],_,r=>by rw[vdh]at r;cases r;exact⟨[],True.intro,.nil⟩
 |p::kvs,_,r=>by
  rw[va0]at r
  cases r with
  | @cons a b as bs h t=>
   obtain⟨rs,c,q⟩:=zfa (P:=P) (w:=w) t
   obtain⟨b1,b2⟩:=b
   exact⟨(p.1,b2)::rs,⟨kV_is h.1,rfl,c⟩,.cons ⟨rfl,h.2⟩ q⟩
noncomputable def tDisp(trs:List (TE×TE)):TE:=λσ H Q=>∀p,H p=none->zjd trs σ (upd H p (.dK [])) λps H2=>H2 p=some (.dK [])/\∃kvs:List (Key×V),ps=kvs.map (λkv=>(kV kv.1,kv.2))/\kvs.length<=15/\Q (.ref p) (upd H2 p (.dK (zdo [] kvs)))
theorem zsh{X:Cx}{pos:Pos}{keys:List (Option Expr)}{values:List Expr}{trs:List (TE×TE)}(h:PPs X pos keys values trs)(hall:keys.all (·.isSome)=true)(hl:keys.length=values.length)(h0:keys≠[])
 (h15:keys.length<=15):PE X (.Dict keys values pos) (tDisp trs):=by
 intro pins s σ H Q I q
 have hn:=I.hok.fresh (vad s.heap.objs.size)
 have I1:=I.laid (a:=s.heap.objs.size) (o:=.dK []) (h':=s.heap.push {cls:=.type "dict",data:=.dict #[]}) (t':=s.toks) (λ_ _ q=>vac _ q) (vad _) (zjc s.heap I.big)
 refine wpAny_Dict_walk (knd:=zay X.prog X.w) hall hl h0 h15 (thn (h pins _ σ _ _ I1 (q _ hn)) λws s2 hq0=>?_)
 obtain⟨ps,H2,I2,rel,e,kvs,ep,lk,q2⟩:=hq0
 subst ep
 obtain⟨rs,c,rk⟩:=zfa (P:=X.prog) (w:=X.w) rel
 obtain⟨z,hd,vs0,r0,dd⟩:=dk_of I2.hok e
 cases r0
 refine⟨rs,c,dd,λh' dd' hs=>⟨.ref s.heap.objs.size,_,?_,rfl,q2⟩⟩
 have hz:(zdo [] kvs).length<=sizeLine:=by
  have h1:=zci kvs []
  rw[vdi]at h1
  rw[vem];omega
 have he:∃q,h'.get? s.heap.objs.size=some q:=let⟨q,_,_,hq,_⟩:=dd';⟨q,hq⟩
 exact zsf I2 (by rw[e];exact True.intro) hs he (zu8 hz hd (rk.merge .nil) dd')
theorem zf8:fillsNumberSlot (.type "tuple") "mul" = pure false:=
 PySem.fillsNumberSlot_seq (id:="tuple.__mul__") (r:=some (.builtin "tuple.__rmul__")) vdq.lookup (by decide +kernel) F.slot_tuple_rmul.lookup (by decide +kernel)
theorem zl7:seqRepeat? (.type "tuple")=pure (some (.builtin "tuple.__mul__")):=by
 unfold seqRepeat?
 rw[PySem.seqSlot_of (T:="tuple") (name:="__mul__") (id:="tuple.__mul__") vdq.lookup (by decide +kernel),PySem.seqSlot_of (T:="tuple") (name:="__rmul__") (id:="tuple.__rmul__") F.slot_tuple_rmul.lookup (by decide +kernel)]
 rfl
theorem zo5(k:Int)(t:Tok)(l:Addr)(its:Array Value)(n:Nat)(dd:Option Addr)(sl:Array (Option Value)) :
 Meets (Builtin.«int.__rmul__» ⟨[.int k t,.ref l],[]⟩) (λ_ R s=>s.heap.get? l=some {cls:=.type "tuple",dict:=dd,data:=.seq its n,slots:=sl}/\R (.ok (.ret Value.notImplemented)) s):=
 .of_wp λprog w A R s h=>by
  obtain⟨hp,g,d,tk,os⟩:=s
  obtain⟨e,h⟩:=h
  wp_walk using va9 e
  exact⟨_,rfl,h⟩
theorem zo6(l:Addr)(its:Array Value)(n:Nat)(dd:Option Addr)(sl:Array (Option Value))(k:Int)(t:Tok)(h1:¬(decide (k < -(2 ^ 63))||decide (k>=2 ^ 63))=true)(h2:(its.isEmpty||k==1)=true) :
 Meets (Builtin.«tuple.__mul__» ⟨[.ref l,.int k t],[]⟩) (λ_ R s=>s.heap.get? l=some {cls:=.type "tuple",dict:=dd,data:=.seq its n,slots:=sl}/\R (.ok (.ret (.ref l))) s):=
 .of_wp λprog w A R s h=>by
  obtain⟨hp,g,d,tk,os⟩:=s
  obtain⟨e,h⟩:=h
  have f1:=AutoSeq1.idx_int
  wp_walk using va9 e
  refine wpAny_ite ?_
  rw[if_neg h1]
  wp_walk using va9 e
  exact⟨_,rfl,h⟩
theorem zo7(l:Addr)(its:Array Value)(n:Nat)(dd:Option Addr)(sl:Array (Option Value))(k:Int)(t:Tok)(h1:¬(decide (k < -(2 ^ 63))||decide (k>=2 ^ 63))=true)(h2:¬(its.isEmpty||k==1)=true)(h3:(decide (k<=0)||its.isEmpty)=true) :
 Meets (Builtin.«tuple.__mul__» ⟨[.ref l,.int k t],[]⟩) (λ_ R s=>s.heap.get? l=some {cls:=.type "tuple",dict:=dd,data:=.seq its n,slots:=sl}/\R (.ok (.ret (.ref s.heap.objs.size))) {s with heap:=s.heap.push {cls:=.type "tuple",data:=.seq #[]}}):=
 .of_wp λprog w A R s h=>by
  obtain⟨hp,g,d,tk,os⟩:=s
  obtain⟨e,h⟩:=h
  have f1:=AutoSeq1.idx_int
  wp_walk using va9 e
  refine wpAny_ite ?_
  rw[if_neg h1]
  wp_walk using va9 e
  exact⟨_,rfl,h⟩
theorem zo8(l:Addr)(its:Array Value)(n:Nat)(dd:Option Addr)(sl:Array (Option Value))(k:Int)(t:Tok)(h1:¬(decide (k < -(2 ^ 63))||decide (k>=2 ^ 63))=true)(h2:¬(its.isEmpty||k==1)=true)(h3:¬(decide (k<=0)||its.isEmpty)=true)
 (h4:¬(its.size*k> (2 ^ 63-1)/8)) (h5:¬Builtin.Tuple.tupleTooMany (its.size*k)=true) (h6:((vgc k.toNat its).foldl (· ++ ·) #[]).size<=sizeLine) :
 Meets (Builtin.«tuple.__mul__» ⟨[.ref l,.int k t],[]⟩) (λ_ R s=>s.heap.get? l=some {cls:=.type "tuple",dict:=dd,data:=.seq its n,slots:=sl}/\R (.ok (.ret (.ref s.heap.objs.size))) {s with heap:=s.heap.push {cls:=.type "tuple",data:=.seq ((vgc k.toNat its).foldl (· ++ ·) #[])}}):=
 .of_wp λprog w A R s h=>by
  obtain⟨hp,g,d,tk,os⟩:=s
  obtain⟨e,h⟩:=h
  have f1:=AutoSeq1.idx_int
  wp_walk using va9 e
  refine wpAny_ite ?_
  rw[if_neg h1]
  wp_walk using va9 e
  refine wpAny_ite ?_
  rw[if_neg h4]
  wp_walk using va9 e
  exact⟨_,rfl,h⟩
section
variable{X:Cx}
noncomputable def rRepT(K:vga):R2:=λx y H Q=>∃a k xs,x=.ref a/\y=.int k/\SqT K H a xs/\-(2 ^ 62)<=k/\k<2 ^ 62/\xs.length*k.toNat<=sizeLine/\
 ((xs.isEmpty||k==1)=true->Q (.ref a) H)/\((xs.isEmpty||k==1)=false->∀p,H p=none->Q (.ref p) (upd H p (.tup (vgc k.toNat xs).flatten)))
theorem zeh(r:Vals xs us):us.toArray.isEmpty=xs.isEmpty:=by
 cases r<;>rfl
theorem zsi:OpR X (binaryOp .Mult) (rRepT X.K):=by
 intro pins s σ H x y v u Q I rx ry h
 obtain⟨a,k,xs,rfl,rfl,ha,k1,k2,hz,q1,q2⟩:=h
 cases rx
 obtain⟨t,rfl⟩:=ry
 obtain⟨its,r,p,_⟩:=I.tuple ha
 obtain⟨⟨c,dd,dt,sl⟩,e1,e2,n,e3⟩:=p
 replace e2:c=.type "tuple":=e2
 replace e3:dt=.seq its.toArray n:=e3
 subst e2 e3
 have hl:xs.length=its.length:=r.length
 have h1:¬(decide (k < -(2 ^ 63))||decide (k>=2 ^ 63))=true:=by
  simp only[vcp,vat]
  omega
 refine wpAny_binaryOp_repeat_ref (T:="tuple") (U:="int") (by decide) ⟨_,e1,rfl⟩ (λs'=>typeIs_int s' k t) zf8 F.fills_int_mul F.slot_int_rmul zl7 F.slot_int_index.lookup
  (vdu F.slot_int_rmul (typeIs_int s k t) F.entry_int_rmul (F.args_int_rmul_2 _ _) (zo5 k t a its.toArray n dd sl) ⟨e1,rfl,⟨_,e1,rfl⟩,?_⟩)
 by_cases h2:(its.toArray.isEmpty||k==1)=true
 .refine vdu vdq ⟨_,e1,rfl⟩ F.entry_tuple_mul (F.args_tuple_mul_2 _ _) (zo6 a its.toArray n dd sl k t h1 h2) ⟨e1,?_⟩
  exact⟨.ref a,H,I,rfl,q1 (by rw[<-zeh r];exact h2)⟩
 .have q2:=q2 (by rw[<-zeh r];simpa using h2)
  by_cases h3:(decide (k<=0)||its.toArray.isEmpty)=true
  .have hk:k.toNat=0:=by
    have:its.toArray.isEmpty=false:=by
     cases q:its.toArray.isEmpty with
     |false=>rfl
     |true=>rw[q]at h2;exact absurd rfl h2
    rw[this,Bool.or_false,vat]at h3
    omega
   refine vdu vdq ⟨_,e1,rfl⟩ F.entry_tuple_mul (F.args_tuple_mul_2 _ _) (zo7 a its.toArray n dd sl k t h1 h2 h3) ⟨e1,?_⟩
   rw[hk]at q2
   exact⟨.ref s.heap.objs.size,_,I.laid (t':=s.toks) (o:=.tup []) (λb ob q=>vac _ q) (vad _) ⟨vbv _,[],.nil,zbf.new _ _⟩,rfl,q2 _ (I.hok.fresh (vad _))⟩
  .have hk:0<k:=by
    simp only[vcp,vat,not_or]at h3
    omega
   have hkn:((k.toNat:Nat):Int)=k:=Int.toNat_of_nonneg (by omega)
   have hmul:(its.toArray.size:Int)*k=((xs.length*k.toNat:Nat):Int):=by
    rw[vah,<-hl,Int.natCast_mul,hkn]
   have hsl:(sizeLine:Nat)=16777216:=rfl
   have fl:(vgc k.toNat its.toArray).foldl (· ++ ·) #[]=(vgc k.toNat its).flatten.toArray:=by
    have:=zhd its k.toNat []
    rw[vc4]at this
    exact this
   refine vdu vdq ⟨_,e1,rfl⟩ F.entry_tuple_mul (F.args_tuple_mul_2 _ _) (zo8 a its.toArray n dd sl k t h1 h2 h3 (by rw[hmul];omega) (by
    unfold Builtin.Tuple.tupleTooMany
    rw[hmul,vat]
    omega) (by rw[fl,vah,zlv,Nat.mul_comm,<-hl];exact hz)) ⟨e1,?_⟩
   rw[fl]
   exact⟨.ref s.heap.objs.size,_,I.laid (t':=s.toks) (o:=.tup (vgc k.toNat xs).flatten) (λb ob q=>vac _ q) (vad _) ⟨by rw[zlv,Nat.mul_comm];exact hz,_,r.rep k.toNat,zbf.new _ _⟩,rfl,q2 _ (I.hok.fresh (vad _))⟩
noncomputable def zqu(K:vga):R2:=λx y H Q=>∃a b ys,x=.ref a/\y=.ref b/\SqT K H a []/\SqT K H b ys/\Q (.ref b) H
theorem zo9:OpR X (binaryOp .Add) (zqu X.K):=by
 intro pins s σ H x y v u Q I rx ry h
 obtain⟨a,b,ys,rfl,rfl,ha,hb,q⟩:=h
 cases rx
 cases ry
 obtain⟨its,r1,p1,_⟩:=I.tuple ha
 obtain⟨its2,r2,p2,_⟩:=I.tuple hb
 cases r1
 obtain⟨⟨c,dd,dt,sl⟩,e1,e2,n,e3⟩:=p1
 obtain⟨⟨c2,dd2,dt2,sl2⟩,f1,f2,n2,f3⟩:=p2
 replace e2:c=.type "tuple":=e2
 replace e3:dt=.seq ([]:List Value).toArray n:=e3
 replace f2:c2=.type "tuple":=f2
 replace f3:dt2=.seq its2.toArray n2:=f3
 subst e2 e3 f2 f3
 exact concat_meets ⟨_,e1,rfl⟩ ⟨_,f1,rfl⟩ noFill_tuple_add seq_tuple_add PySem.F.slot_tuple_add PySem.F.entry_tuple_add (PySem.F.args_tuple_add_2 _ _) (tuple_addW0 a b ([]:List Value).toArray its2.toArray n n2 dd dd2 sl sl2 rfl) ⟨e1,f1,⟨.ref b,H,I,rfl,q⟩⟩
noncomputable def anyEq(ds:List PyData)(d:PyData):Bool:=ds.any λe=>PyData.eqv e d
noncomputable def rInD(K:vga)(neg:Bool):R2:=λx y H Q=>∃p xs ds d,y=.ref p/\(SqL K H p xs\/SqT K H p xs)/\Rps K (λ_=>False) H xs ds/\Rp K (λ_=>False) H x d/\ds.all SeqAt.shaped=true/\SeqAt.shaped d=true/\Q (.bl (if neg then !anyEq ds d else anyEq ds d)) H
theorem za8:∀{us:List Value} {ds:List PyData} {as:List Addr} {i:Nat} {u:Value},ReadsAll h us ds as->us[i]?=some u->∃d bs,ds[i]?=some d/\Reads h u d bs
 |_,_,_,i,u,.nil,e=>by simp at e
 |_,_,_,0,u,.cons r _,e=>by simp at e;subst e;exact⟨_,_,rfl,r⟩
 |_,_,_,i+1,u,.cons _ rs,e=>by
  obtain⟨d,bs,h1,h2⟩:=za8 rs (by simpa using e)
  exact⟨d,bs,by simpa using h1,h2⟩
open Classical in
noncomputable def eqOf(us:List Value)(ds:List PyData)(d:PyData)(u:Value):Bool:=decide (∃(i:Nat) (e:PyData),us[i]?=some u/\ds[i]?=some e/\PyData.eqv e d=true)
open Classical in
theorem zb1:eqOf us ds d u=true↔∃(i:Nat) (e:PyData),us[i]?=some u/\ds[i]?=some e/\PyData.eqv e d=true:=by
 unfold eqOf
 exact decide_eq_true_iff
theorem zdz{us:List Value}{ds:List PyData}{d:PyData}(hl:us.length=ds.length):us.any (eqOf us ds d)=anyEq ds d:=by
 cases q:anyEq ds d with
 |true=>
  unfold anyEq at q
  rw[List.any_eq_true]at q
  obtain⟨e,h1,h2⟩:=q
  obtain⟨i,hi,h3⟩:=List.mem_iff_getElem.mp h1
  rw[List.any_eq_true]
  refine⟨us[i]'(by omega),vcj _,?_⟩
  rw[zb1]
  exact⟨i,e,by simp,by rw[vao hi,h3],h2⟩
 |false=>
  unfold anyEq at q
  rw[List.any_eq_false]at q ⊢
  intro u hu z
  rw[zb1]at z
  obtain⟨i,e,h1,h2,h3⟩:=z
  exact q e (vcs h2) h3
theorem zbg:∀{us:List Value} {ds:List PyData} {as:List Addr},ReadsAll h us ds as->us.length=ds.length
 |_,_,_,.nil=>rfl
 |_,_,_,.cons _ r=>by rw[vai,vai,zbg r]
theorem zc3{as bs:List Addr}(hu:A.units+64<cLine)(ra:ReadsAll s.heap us ds as)(rb:Reads s.heap v d bs)(s1:ds.all SeqAt.shaped=true)(s2:SeqAt.shaped d=true) :
 ∀u∈us,SeqAt.EqAt A s u v (eqOf us ds d u):=by
 intro u hm
 have sh:∀(i:Nat)(e:PyData),ds[i]?=some e->SeqAt.shaped e=true:=λi e q=>vcb.mp s1 e (vcs q)
 cases q:eqOf us ds d u with
 |true=>
  rw[zb1]at q
  obtain⟨i,e,h1,h2,h3⟩:=q
  obtain⟨e',cs,h4,h5⟩:=za8 ra h1
  rw[h2]at h4;cases h4
  have:=SeqAt.eqAt_reads e d A s u v cs bs h5 rb (vde (sh i e h2)) (vde s2) (SeqAt.room_of_shaped (sh i e h2) hu)
  rw[h3]at this;exact this
 |false=>
  obtain⟨i,hi,h1⟩:=List.mem_iff_getElem.mp hm
  have h1:us[i]?=some u:=by rw[vao hi,h1]
  obtain⟨e,cs,h4,h5⟩:=za8 ra h1
  have h3:PyData.eqv e d=false:=by
   cases z:PyData.eqv e d with
   |false=>rfl
   |true=>
    rw[zb1.mpr ⟨i,e,h1,h4,z⟩]at q
    cases q
  have:=SeqAt.eqAt_reads e d A s u v cs bs h5 rb (vde (sh i e h4)) (vde s2) (SeqAt.room_of_shaped (sh i e h4) hu)
  rw[h3]at this;exact this
theorem zva(hu:X.A.in1.units+64<cLine):OpR X (compareOp .In) (rInD X.K false):=by
 intro pins s σ H x y v u Q I rx ry h
 obtain⟨p,xs,ds,d,rfl,hq,r1,r2,s1,s2,q⟩:=h
 cases ry
 obtain⟨bs,rb⟩:=r2.reads I rx
 rcases hq with hq|hq
 .obtain⟨its,r,pl,hz⟩:=I.list hq
  obtain⟨as,ra⟩:=r1.reads I r
  refine SeqAt.in_listAt (eqOf its ds d) pl.isList (λw hw=>zc3 hu ra rb s1 s2 w (by simpa using hw)) ⟨.bl _,H,I,rfl,?_⟩
  rw[show its.toArray.any (eqOf its ds d)=its.any (eqOf its ds d) by simp,zdz (zbg ra)]
  exact q
 .obtain⟨its,r,pl,hz⟩:=I.tuple hq
  obtain⟨as,ra⟩:=r1.reads I r
  refine SeqAt.in_tupleAt (eqOf its ds d) pl (λw hw=>zc3 hu ra rb s1 s2 w (by simpa using hw)) ⟨.bl _,H,I,rfl,?_⟩
  rw[show its.toArray.any (eqOf its ds d)=its.any (eqOf its ds d) by simp,zdz (zbg ra)]
  exact q
theorem zl8(hu:X.A.in1.units+64<cLine):OpR X (compareOp .NotIn) (rInD X.K true):=by
 intro pins s σ H x y v u Q I rx ry h
 obtain⟨p,xs,ds,d,rfl,hq,r1,r2,s1,s2,q⟩:=h
 cases ry
 obtain⟨bs,rb⟩:=r2.reads I rx
 rcases hq with hq|hq
 .obtain⟨its,r,pl,hz⟩:=I.list hq
  obtain⟨as,ra⟩:=r1.reads I r
  refine SeqAt.notIn_listAt (eqOf its ds d) pl.isList (λw hw=>zc3 hu ra rb s1 s2 w (by simpa using hw)) ⟨.bl _,H,I,rfl,?_⟩
  rw[show its.toArray.any (eqOf its ds d)=its.any (eqOf its ds d) by simp,zdz (zbg ra)]
  exact q
 .obtain⟨its,r,pl,hz⟩:=I.tuple hq
  obtain⟨as,ra⟩:=r1.reads I r
  refine SeqAt.notIn_tupleAt (eqOf its ds d) pl (λw hw=>zc3 hu ra rb s1 s2 w (by simpa using hw)) ⟨.bl _,H,I,rfl,?_⟩
  rw[show its.toArray.any (eqOf its ds d)=its.any (eqOf its ds d) by simp,zdz (zbg ra)]
  exact q
end
end L2
namespace HT
open PySem PySem.Spec PyProof.Rows
section
variable{prog:Program}{w:World}{A:Around}{E:Value->Shared->Prop}{s:Shared}
theorem getItem_tuple_whole{t sl:Addr}{items:Array Value}{lo hi:Option Int}{Q:Value->Shared->Prop}(ht:IsTup s.heap t items)(hs:s.heap.IsSliceOf sl vl vu .none)(pl:IsPart vl lo)(pu:IsPart vu hi)
 (hw:sIx items.size 0 lo=0/\sIx items.size items.size hi=items.size)
 (h:Q (.ref t) s):wpAny (model prog w) A (getItem (.ref t) (.ref sl)) Q E s:=by
 obtain⟨os,hos,hcs,hds⟩:=id hs
 have hTs:s.TypeIs (.ref sl) "slice":=⟨os,hos,hcs⟩
 unfold getItem
 try with_reducible refine vb0 ?_
 first|refine vab (vag ?_)|skip
 refine vab (wpAny_sequenceKey ht.typeIs (by decide) ?_)
 refine vab (vb3 (name:=Str.ofString "__getitem__") ht.typeIs va7
  (vcz va7 ht.typeIs entry_tuple_getitem ?_ (args_tuple_getitem _ _)))
 show wpAny _ _ (Builtin.Tuple.tupleItemsOf (.ref t) >>= _) _ _ s
 refine vab (tupleItemsOf_ ht ?_)
 refine vab (veh hTs ?_)
 rw[if_pos (by decide)]
 refine vab (zbs hs pl pu ?_)
 have hyes:((((sIx items.size 0 lo:Nat):Int)==0&& (1:Int)==1&& (sIx items.size items.size hi-sIx items.size 0 lo)==items.size)=true):=by
  rw[hw.1,hw.2];simp
 show wpAny _ _ (if(((sIx items.size 0 lo:Nat):Int)==0&& (1:Int)==1&& (sIx items.size items.size hi-sIx items.size 0 lo)==items.size)=true then _ else _) _ _ s
 rw[if_pos hyes]
 unfold Builtin.Tuple.tupleIsExact
 refine vab (vab (veh ht.typeIs (vag ?_)))
 rw[if_pos (by decide)]
 refine vab (ves ?_)
 exact vag ⟨_,rfl,vag h⟩
end
end HT
namespace L2
open PySem PySem.Spec PyProof.Rows
variable{X:Cx}
noncomputable def rSlW(K:vga):V->Option Int->Option Int->Hp->VK->Prop:=λx lo hi H Q=>∃a xs,x=.ref a/\SqT K H a xs/\
 (HT.sIx xs.length 0 lo=0/\HT.sIx xs.length xs.length hi=xs.length)/\Q (.ref a) H
theorem zsj:SlR X (rSlW X.K):=by
 intro pins s σ H x v vl vu lo hi sl Q I rx hs pl pu h
 obtain⟨a,xs,rfl,hx,hw,q⟩:=h
 cases rx
 obtain⟨its,r,ht,hz⟩:=I.tuple hx
 have hlen:its.toArray.size=xs.length:=by rw[vah];exact r.length.symm
 refine⟨"tuple",_,va7.lookup,ht.typeIs,?_⟩
 refine HT.getItem_tuple_whole ht hs pl pu (by rw[hlen];exact hw) ?_
 exact⟨.ref a,_,I,rfl,q⟩
noncomputable def rSlA(K:vga):V->Option Int->Option Int->Hp->VK->Prop:=λx lo hi H Q=>(rSlT K x lo hi H Q\/rSlW K x lo hi H Q)\/rSlL K x lo hi H Q
theorem zvb:SlR X (rSlA X.K):=(zu1.or zsj).or zr8
noncomputable def ZI(b:Bool)(h:Heap)(I l:Addr)(k:Nat):Prop:=match b with|true=>h.IsTupleIter I l k|false=>h.IsListIter I l k
noncomputable def ZS(b:Bool)(h:Heap)(l:Addr)(xs:Array Value):Prop:=match b with|true=>h.IsTuple l xs|false=>h.IsList l xs
noncomputable def zName(b:Bool):String:=match b with|true=>"tuple_iterator" |false=>"list_iterator"
noncomputable def zIt(b:Bool)(l:Addr):Obj:={cls:=.type (zName b),data:=.fields #[.ref l,.int 0 0]}
theorem ZI.ex{b:Bool}{I l c:Addr}{k:Nat}(x:ZI b h I l k)(s:Heap.ExtBut c h h')(n:I≠c):ZI b h' I l k:=by
 cases b
 .exact Heap.IsListIter.extBut x s n
 .exact Heap.IsTupleIter.extBut x s n
theorem ZS.ex{b:Bool}{l c:Addr}{xs:Array Value}(x:ZS b h l xs)(s:Heap.ExtBut c h h')(n:l≠c):ZS b h' l xs:=by
 cases b
 .exact Heap.IsList.extBut x s n
 .exact Heap.IsTuple.extBut x s n
theorem ZI.mv{b:Bool}{I l:Addr}{k:Nat}(x:ZI b h I l k)(e:∀o,h.get? I=some o->h'.get? I=some o):ZI b h' I l k:=by
 cases b
 .exact Heap.IsListIter.at x e
 .exact Heap.IsTupleIter.at x e
theorem ZI.ob{b:Bool}{I l:Addr}{k:Nat}(x:ZI b h I l k):∃o,h.get? I=some o/\∀v,o.data≠.cell v:=by
 cases b
 .obtain⟨o,h1,h2,h3⟩:=x;exact⟨o,h1,λv z=>by rw[h3]at z;cases z⟩
 .obtain⟨o,h1,h2,h3⟩:=x;exact⟨o,h1,λv z=>by rw[h3]at z;cases z⟩
theorem ZS.lt{b:Bool}{l:Addr}{xs:Array Value}(x:ZS b h l xs):l<h.objs.size:=by
 cases b<;> (obtain⟨o,h1,_⟩:=x;exact vam h1)
theorem ZS.push{b:Bool}{l:Addr}{xs:Array Value}(x:ZS b h l xs)(o:Obj):ZS b (h.push o) l xs:=by
 cases b
 .exact Heap.IsList.push x o
 .exact Heap.IsTuple.push x o
section
variable{prog:Program}{w:World}{A:Around}{E:Value->Shared->Prop}{s:Shared}
theorem zl9{b:Bool}{I l:Addr}{k:Nat}{xs:Array Value}{Q:Value->Shared->Prop}(hi:ZI b s.heap I l k)(hl:ZS b s.heap l xs)(hy:xs[k]?=some y)
 (q:∀g,ZI b g I l (k+1)->Heap.SameBut I s.heap g->Q y {s with heap:=g}):wpAny (model prog w) A (Builtin.SmallTypes.nextOf (.ref I)) Q E s:=by
 cases b
 .exact wpAny_nextOf_list_item hi hl hy q
 .exact ze9 hi hl hy q
theorem z_end{b:Bool}{I l:Addr}{k:Nat}{xs:Array Value}{Q:Value->Shared->Prop}(hA:A.handled=none)(hi:ZI b s.heap I l k)(hl:ZS b s.heap l xs)(hy:xs[k]?=none)
 (q:∀g e,Heap.ExtBut I s.heap g->(∃o,g.get? e=some o/\o.cls=.type "StopIteration")->E (.ref e) {s with heap:=g}):wpAny (model prog w) A (Builtin.SmallTypes.nextOf (.ref I)) Q E s:=by
 cases b
 .exact wpAny_nextOf_list_end hA hi hl hy q
 .exact zeg hA hi hl hy q
structure ZA(z TI TO i1 i2 l1 l2:Addr):Prop where
 a1:TI≠z/\TO≠z/\i1≠z/\i2≠z
 a2:TI≠TO/\TI≠i1/\TI≠i2/\TO≠i1/\TO≠i2/\i1≠i2
 a3:l1≠z/\l1≠TO/\l1≠i1/\l1≠i2
 a4:l2≠z/\l2≠TO/\l2≠i1/\l2≠i2
theorem zvc{n l1 l2:Nat}(h1:l1<n)(h2:l2<n):ZA (n+4) (n+2) (n+3) n (n+1) l1 l2:=by
 have e:∀{a b:Nat},(a<b\/b<a)->a≠b:=λh=>h.elim vay va8
 refine⟨⟨?_,?_,?_,?_⟩,⟨?_,?_,?_,?_,?_,?_⟩,⟨?_,?_,?_,?_⟩,?_,?_,?_,?_⟩<;>exact e (by omega)
theorem zsk{b c:Bool}{z TI TO i1 i2 l1 l2:Addr}{k:Nat}{xs ys:Array Value}{x y p q:Value}{Q:Value->Shared->Prop}(D:ZA z TI TO i1 i2 l1 l2)
 (hz:IsZip s.heap z TI TO .none) (hTI:IsPair s.heap TI (.ref i1) (.ref i2)) (hTO:IsPair s.heap TO p q)
 (h1:ZI b s.heap i1 l1 k) (h2:ZI c s.heap i2 l2 k) (hl1:ZS b s.heap l1 xs) (hl2:ZS c s.heap l2 ys) (hx:xs[k]?=some x) (hy:ys[k]?=some y)
 (hQ:∀h',IsZip h' z TI TO (rawInt s.heap.objs.size)->IsPair h' TO x y->ZI b h' i1 l1 (k+1)->ZI c h' i2 l2 (k+1)->IsPair h' s.heap.objs.size x y->h'.objs.size=s.heap.objs.size+1->
   (∀c o,c≠z->c≠TO->c≠i1->c≠i2->s.heap.get? c=some o->h'.get? c=some o)->Q (.ref s.heap.objs.size) {s with heap:=h'}) :
 wpAny (model prog w) A (Builtin.«zip.__next__» ⟨[.ref z],[]⟩) (λfin s'=>∃v,fin=.done (.ret v)/\Q v s') E s:=by
 obtain⟨⟨d1,d2,d3,d4⟩,⟨d5,d6,d7,d8,d9,d10⟩,⟨d11,d12,d13,d14⟩,d15,d16,d17,d18⟩:=D
 show wpAny _ _ (field (.ref z) 2 >>= _) _ _ _;refine vab (vbn hz rfl (x:=.bool false) rfl ?_)
 show wpAny _ _ (field (.ref z) 3 >>= _) _ _ _;refine vab (vbn hz rfl (x:=.ref TI) rfl (vab (vc1 hTI rfl ?_)))
 show wpAny _ _ (Builtin.SmallTypes.ownedTupleIsFree (.ref z) >>= _) _ _ _;refine vab ?_;unfold Builtin.SmallTypes.ownedTupleIsFree
 refine vab (vbn hz rfl (x:=.none) rfl (vag ?_));simp only[vbj]
 refine vab (ves (vab (vbn hz rfl (x:=.ref TO) rfl (vab (vc0 hz (by simp) λg1 z1 s1=>?_)))))
 replace z1:IsZip g1 z TI TO .ellipsis:=z1
 refine vab ?_;simp only[List.zipIdx_cons,List.zipIdx_nil,vdy,vdc]
 refine vab (vab (vep ?_));show wpAny _ _ (Builtin.SmallTypes.nextOf (.ref i1) >>= _) _ _ _
 refine vab (zl9 (h1.ex s1.extBut d3) (hl1.ex s1.extBut d11) hx λg2 y1 s2=>vag ?_)
 have t2:IsPair g2 TO p q:=s2.extBut _ _ d8 (s1.extBut _ _ d2 hTO)
 refine vab (vc1 t2 rfl (vab (wpAny_updateSeq_pair t2 λg3 t3 s3=>?_)))
 replace t3:IsPair g3 TO x q:=t3
 refine vab (wpAny_letGo (vag (vab (vab (vep ?_)))));show wpAny _ _ (Builtin.SmallTypes.nextOf (.ref i2) >>= _) _ _ _
 refine vab (zl9 (((h2.ex s1.extBut d4).ex s2.extBut (vbz d10)).ex s3.extBut (vbz d9)) (((hl2.ex s1.extBut d15).ex s2.extBut d17).ex s3.extBut d16) hy λg4 y2 s4=>vag ?_)
 have t4:IsPair g4 TO x q:=s4.extBut _ _ d9 t3
 refine vab (vc1 t4 rfl (vab (wpAny_updateSeq_pair t4 λg5 t5 s5=>?_)))
 replace t5:IsPair g5 TO x y:=t5
 refine vab (wpAny_letGo (vag (vag (vab (vc1 t5 rfl (vab (wpAny_newTuple ?_)))))))
 have hsz:g5.objs.size=s.heap.objs.size:=by rw[s5.1,s4.1,s3.1,s2.1,s1.1]
 have z5:IsZip g5 z TI TO .ellipsis:=s5.extBut _ _ (vbz d2) (s4.extBut _ _ (vbz d4) (s3.extBut _ _ (vbz d2) (s2.extBut _ _ (vbz d3) z1)))
 have k5:∀c o,c≠z->c≠TO->c≠i1->c≠i2->s.heap.get? c=some o->g5.get? c=some o:=λc o c1 c2 c3 c4 e=>s5.extBut _ _ c2 (s4.extBut _ _ c4 (s3.extBut _ _ c2 (s2.extBut _ _ c3 (s1.extBut _ _ c1 e))))
 have i15:ZI b g5 i1 l1 (k+1):=((y1.ex s3.extBut (vbz d8)).ex s4.extBut d10).ex s5.extBut (vbz d8)
 have i25:ZI c g5 i2 l2 (k+1):=y2.ex s5.extBut (vbz d9)
 have zlt:z<g5.objs.size:=vam z5
 show wpAny _ _ (Builtin.SmallTypes.ownedTupleHandOut (.ref z) (.ref g5.objs.size) >>= _) _ _ _;refine vab ?_;unfold Builtin.SmallTypes.ownedTupleHandOut
 have z6:IsZip (g5.push {cls:=.type "tuple",data:=.seq #[x,y]}) z TI TO .ellipsis:=vac _ z5
 refine vab (vc0 z6 (by simp) λg7 z7 s7=>?_)
 replace z7:IsZip g7 z TI TO (rawInt g5.objs.size):=z7
 refine vc0 z7 (by simp) λg8 z8 s8=>?_
 replace z8:IsZip g8 z TI TO (rawInt g5.objs.size):=z8
 have up:∀c o,c≠z->g5.get? c=some o->g8.get? c=some o:=λc o c1 e=>s8.extBut _ _ c1 (s7.extBut _ _ c1 (vac _ e))
 have p8:IsPair g8 g5.objs.size x y:=s8.extBut _ _ (va8 zlt) (s7.extBut _ _ (va8 zlt) (vaz _ rfl))
 have n8:g8.objs.size=g5.objs.size+1:=by rw[s8.1,s7.1,vca]
 rw[hsz]at z8 p8 n8
 refine vag ⟨_,rfl,?_⟩;show Q (.ref g5.objs.size) _;rw[hsz]
 exact hQ g8 z8 (up _ _ d2 t5) (i15.mv λo e=>up _ o d3 e) (i25.mv λo e=>up _ o d4 e) p8 n8 λc o c1 c2 c3 c4 e=>up c o c1 (k5 c o c1 c2 c3 c4 e)
theorem zvd{b c:Bool}{z TI TO i1 i2 l1 l2:Addr}{k:Nat}{xs ys:Array Value}{p q:Value}{Q:Fin->Shared->Prop}(hA:A.handled=none)(D:ZA z TI TO i1 i2 l1 l2)
 (hz:IsZip s.heap z TI TO .none) (hTI:IsPair s.heap TI (.ref i1) (.ref i2)) (hTO:IsPair s.heap TO p q)
 (h1:ZI b s.heap i1 l1 k) (h2:ZI c s.heap i2 l2 k) (hl1:ZS b s.heap l1 xs) (hl2:ZS c s.heap l2 ys) (he:xs[k]?=none\/ys[k]?=none)
 (hE:∀h' e,(∀c o,c≠z->c≠TO->c≠i1->c≠i2->s.heap.get? c=some o->h'.get? c=some o)->(∃o,h'.get? e=some o/\o.cls=.type "StopIteration")->E (.ref e) {s with heap:=h'}) :
 wpAny (model prog w) A (Builtin.«zip.__next__» ⟨[.ref z],[]⟩) Q E s:=by
 obtain⟨⟨d1,d2,d3,d4⟩,⟨d5,d6,d7,d8,d9,d10⟩,⟨d11,d12,d13,d14⟩,d15,d16,d17,d18⟩:=D
 show wpAny _ _ (field (.ref z) 2 >>= _) _ _ _;refine vab (vbn hz rfl (x:=.bool false) rfl ?_)
 show wpAny _ _ (field (.ref z) 3 >>= _) _ _ _;refine vab (vbn hz rfl (x:=.ref TI) rfl (vab (vc1 hTI rfl ?_)))
 show wpAny _ _ (Builtin.SmallTypes.ownedTupleIsFree (.ref z) >>= _) _ _ _;refine vab ?_;unfold Builtin.SmallTypes.ownedTupleIsFree
 refine vab (vbn hz rfl (x:=.none) rfl (vag ?_));simp only[vbj]
 refine vab (ves (vab (vbn hz rfl (x:=.ref TO) rfl (vab (vc0 hz (by simp) λg1 z1 s1=>?_)))))
 replace z1:IsZip g1 z TI TO .ellipsis:=z1
 refine vab ?_;simp only[List.zipIdx_cons,List.zipIdx_nil,vdy,vdc]
 refine vab (vab (vep ?_));show wpAny _ _ (Builtin.SmallTypes.nextOf (.ref i1) >>= _) _ _ _
 cases hx:xs[k]? with
 |none=>
  refine vab (z_end hA (h1.ex s1.extBut d3) (hl1.ex s1.extBut d11) hx λg2 e s2 hs=>?_)
  obtain⟨oe,hoe,hce⟩:=hs
  have z2:IsZip g2 z TI TO .ellipsis:=s2 _ _ (vbz d3) z1
  have nez:e≠z:=λx=>by subst x;rw[z2]at hoe;cases hoe;simp at hce
  exact vc0 z2 (by simp) λg3 _ s3=>hE g3 e (λc o c1 _ c3 _ x=>s3.extBut _ _ c1 (s2 _ _ c3 (s1.extBut _ _ c1 x))) ⟨oe,s3.extBut _ _ nez hoe,hce⟩
 |some x=>
  have hy:ys[k]?=none:=by rcases he with h|h;rw[hx]at h;cases h;exact h
  refine vab (zl9 (h1.ex s1.extBut d3) (hl1.ex s1.extBut d11) hx λg2 y1 s2=>vag ?_)
  have t2:IsPair g2 TO p q:=s2.extBut _ _ d8 (s1.extBut _ _ d2 hTO)
  refine vab (vc1 t2 rfl (vab (wpAny_updateSeq_pair t2 λg3 t3 s3=>?_)))
  refine vab (wpAny_letGo (vag (vab (vab (vep ?_)))));show wpAny _ _ (Builtin.SmallTypes.nextOf (.ref i2) >>= _) _ _ _
  refine vab (z_end hA (((h2.ex s1.extBut d4).ex s2.extBut (vbz d10)).ex s3.extBut (vbz d9)) (((hl2.ex s1.extBut d15).ex s2.extBut d17).ex s3.extBut d16) hy λg4 e s4 hs=>?_)
  obtain⟨oe,hoe,hce⟩:=hs
  have z4:IsZip g4 z TI TO .ellipsis:=s4 _ _ (vbz d4) (s3.extBut _ _ (vbz d2) (s2.extBut _ _ (vbz d3) z1))
  have nez:e≠z:=λx=>by subst x;rw[z4]at hoe;cases hoe;simp at hce
  exact vc0 z4 (by simp) λg5 _ s5=>hE g5 e (λc o c1 c2 c3 c4 x=>s5.extBut _ _ c1 (s4 _ _ c4 (s3.extBut _ _ c2 (s2.extBut _ _ c3 (s1.extBut _ _ c1 x))))) ⟨oe,s5.extBut _ _ nez hoe,hce⟩
theorem zsl{b c:Bool}{z TI TO i1 i2 l1 l2:Addr}{k:Nat}{xs ys:Array Value}{x y p q:Value}{Q:Option Value->Shared->Prop}(D:ZA z TI TO i1 i2 l1 l2)
 (hz:IsZip s.heap z TI TO .none) (hTI:IsPair s.heap TI (.ref i1) (.ref i2)) (hTO:IsPair s.heap TO p q)
 (h1:ZI b s.heap i1 l1 k) (h2:ZI c s.heap i2 l2 k) (hl1:ZS b s.heap l1 xs) (hl2:ZS c s.heap l2 ys) (hx:xs[k]?=some x) (hy:ys[k]?=some y)
 (hQ:∀h',IsZip h' z TI TO (rawInt s.heap.objs.size)->IsPair h' TO x y->ZI b h' i1 l1 (k+1)->ZI c h' i2 l2 (k+1)->IsPair h' s.heap.objs.size x y->h'.objs.size=s.heap.objs.size+1->
   (∀c o,c≠z->c≠TO->c≠i1->c≠i2->s.heap.get? c=some o->h'.get? c=some o)->Q (some (.ref s.heap.objs.size)) {s with heap:=h'}):wpAny (model prog w) A (pyNext (.ref z)) Q E s:=by
 have hT:s.TypeIs (.ref z) "zip":=⟨_,hz,rfl⟩
 unfold pyNext
 exact vab (ven (vb3 (name:=Str.ofString "__next__") hT ved (vcz ved hT F.entry_zip_next (zsk D hz hTI hTO h1 h2 hl1 hl2 hx hy λh' a1 a2 a3 a4 a5 a6 a7=>vag (hQ h' a1 a2 a3 a4 a5 a6 a7)) (F.args_zip_next_1 _))))
theorem zve{b c:Bool}{z TI TO i1 i2 l1 l2:Addr}{k:Nat}{xs ys:Array Value}{p q:Value}{Q:Option Value->Shared->Prop}(hA:A.in1.handled=none)(D:ZA z TI TO i1 i2 l1 l2)
 (hz:IsZip s.heap z TI TO .none) (hTI:IsPair s.heap TI (.ref i1) (.ref i2)) (hTO:IsPair s.heap TO p q)
 (h1:ZI b s.heap i1 l1 k) (h2:ZI c s.heap i2 l2 k) (hl1:ZS b s.heap l1 xs) (hl2:ZS c s.heap l2 ys) (he:xs[k]?=none\/ys[k]?=none)
 (hQ:∀h',(∀c o,c≠z->c≠TO->c≠i1->c≠i2->s.heap.get? c=some o->h'.get? c=some o)->Q none {s with heap:=h'}):wpAny (model prog w) A (pyNext (.ref z)) Q E s:=by
 have hT:s.TypeIs (.ref z) "zip":=⟨_,hz,rfl⟩
 unfold pyNext
 refine vab (ven (vb3 (name:=Str.ofString "__next__") hT ved (vcz ved hT F.entry_zip_next (zvd hA D hz hTI hTO h1 h2 hl1 hl2 he λh' e hk hs=>?_) (F.args_zip_next_1 _))))
 obtain⟨o,ho,hc⟩:=hs
 exact vab (wpAny_isInstance (T:="StopIteration") (b:=true) ⟨o,ho,hc⟩ isSubtype_stop (vag (hQ _ hk)))
noncomputable def zh1(h:Heap)(b:Bool)(l1:Addr):Heap:=h.push (zIt b l1)
noncomputable def zh2(h:Heap)(b c:Bool)(l1 l2:Addr):Heap:=(zh1 h b l1).push (zIt c l2)
noncomputable def zh3(h:Heap)(b c:Bool)(l1 l2:Addr):Heap:=(zh2 h b c l1 l2).push {cls:=.type "tuple",data:=.seq #[.ref h.objs.size,.ref (zh1 h b l1).objs.size]}
noncomputable def zh4(h:Heap)(b c:Bool)(l1 l2:Addr):Heap:=(zh3 h b c l1 l2).push {cls:=.type "tuple",data:=.seq #[.none,.none]}
noncomputable def zh5(h:Heap)(b c:Bool)(l1 l2:Addr):Heap:=(zh4 h b c l1 l2).push {cls:=.type "zip",data:=.fields #[.none,.bool false,.bool false,.ref (zh2 h b c l1 l2).objs.size,.ref (zh3 h b c l1 l2).objs.size]}
theorem zpa(b c:Bool)(l1 l2:Addr)(xs ys:Array Value):Meets (Builtin.«zip.__new__» ⟨[.type "zip",.ref l1,.ref l2],[]⟩) (λ_ R s=>ZS b s.heap l1 xs/\ZS c s.heap l2 ys/\
 R (.ok (.ret (.ref (zh4 s.heap b c l1 l2).objs.size))) {s with heap:=zh5 s.heap b c l1 l2}):=
 .of_wp λprog w A R s h=>by
  obtain⟨hp,g,d,tk,os⟩:=s;obtain⟨m1,m2,h⟩:=h
  have hsub:=sub_zip
  have e1:ZS b (Shared.heap ⟨hp,g,d,tk,os⟩) l1 xs:=m1
  have e2:ZS c (Shared.heap ⟨hp.push (zIt b l1),g,d,tk,os⟩) l2 ys:=m2.push _
  cases b<;>cases c
  .have q1:Heap.IsList (Shared.heap ⟨hp,g,d,tk,os⟩) l1 xs:=e1
   have q2:Heap.IsList (Shared.heap ⟨hp.push {cls:=.type "list_iterator",data:=.fields #[.ref l1,.int 0 0]},g,d,tk,os⟩) l2 ys:=e2
   wp_walk using vc3 q1,vc3 q2
   exact⟨_,rfl,h⟩
  .have q1:Heap.IsList (Shared.heap ⟨hp,g,d,tk,os⟩) l1 xs:=e1
   have q2:Heap.IsTuple (Shared.heap ⟨hp.push {cls:=.type "list_iterator",data:=.fields #[.ref l1,.int 0 0]},g,d,tk,os⟩) l2 ys:=e2
   wp_walk using vc3 q1,vcq q2
   exact⟨_,rfl,h⟩
  .have q1:Heap.IsTuple (Shared.heap ⟨hp,g,d,tk,os⟩) l1 xs:=e1
   have q2:Heap.IsList (Shared.heap ⟨hp.push {cls:=.type "tuple_iterator",data:=.fields #[.ref l1,.int 0 0]},g,d,tk,os⟩) l2 ys:=e2
   wp_walk using vcq q1,vc3 q2
   exact⟨_,rfl,h⟩
  .have q1:Heap.IsTuple (Shared.heap ⟨hp,g,d,tk,os⟩) l1 xs:=e1
   have q2:Heap.IsTuple (Shared.heap ⟨hp.push {cls:=.type "tuple_iterator",data:=.fields #[.ref l1,.int 0 0]},g,d,tk,os⟩) l2 ys:=e2
   wp_walk using vcq q1,vcq q2
   exact⟨_,rfl,h⟩
theorem zqv{b:Bool}{l:Addr}{a:Addr}(e:h.get? a=some (zIt b l)):ZI b h a l 0:=by
 cases b<;>exact⟨_,e,rfl,rfl⟩
theorem zsm{b c:Bool}{l1 l2:Addr}{xs ys:Array Value}{Q:Value->Shared->Prop}(m1:ZS b s.heap l1 xs)(m2:ZS c s.heap l2 ys)
 (h:∀h',IsZip h' (s.heap.objs.size+4) (s.heap.objs.size+2) (s.heap.objs.size+3) .none->IsPair h' (s.heap.objs.size+2) (.ref s.heap.objs.size) (.ref (s.heap.objs.size+1))->
   IsPair h' (s.heap.objs.size+3) .none .none->ZI b h' s.heap.objs.size l1 0->ZI c h' (s.heap.objs.size+1) l2 0->h'.objs.size=s.heap.objs.size+5->
   (∀c o,s.heap.get? c=some o->h'.get? c=some o)->Q (.ref (s.heap.objs.size+4)) {s with heap:=h'}):wpAny (model prog w) A (call (.type "zip") [.ref l1,.ref l2]) Q E s:=by
 refine callType_new F.called_zip (by decide) (F.typeCall_zip_2 _ _) (F.newCall_zip_2 _ _) (λobj=>F.args_object_init_3 obj _ _) F.entry_zip_new (zpa b c l1 l2 xs ys) ⟨m1,m2,?_⟩
 have n1:(zh1 s.heap b l1).objs.size=s.heap.objs.size+1:=vca ..
 have n2:(zh2 s.heap b c l1 l2).objs.size=s.heap.objs.size+2:=by unfold zh2;rw[vca,n1]
 have n3:(zh3 s.heap b c l1 l2).objs.size=s.heap.objs.size+3:=by unfold zh3;rw[vca,n2]
 have n4:(zh4 s.heap b c l1 l2).objs.size=s.heap.objs.size+4:=by unfold zh4;rw[vca,n3]
 have n5:(zh5 s.heap b c l1 l2).objs.size=s.heap.objs.size+5:=by unfold zh5;rw[vca,n4]
 have g5:(zh5 s.heap b c l1 l2).get? (zh4 s.heap b c l1 l2).objs.size=some _:=vaz _ rfl
 have g4:(zh5 s.heap b c l1 l2).get? (zh3 s.heap b c l1 l2).objs.size=some _:=vac _ (vaz _ rfl)
 have g3:(zh5 s.heap b c l1 l2).get? (zh2 s.heap b c l1 l2).objs.size=some _:=vac _ (vac _ (vaz _ rfl))
 have g2:(zh5 s.heap b c l1 l2).get? (zh1 s.heap b l1).objs.size=some _:=vac _ (vac _ (vac _ (vaz _ rfl)))
 have g1:(zh5 s.heap b c l1 l2).get? s.heap.objs.size=some _:=vac _ (vac _ (vac _ (vac _ (vaz _ rfl))))
 show _/\_
 rw[n2,n3,n4]at g5
 rw[n1,n2]at g3
 rw[n3]at g4
 rw[n1]at g2
 rw[n4]
 exact⟨⟨_,g5,rfl⟩,h _ g5 g3 g4 (zqv g1) (zqv g2) n5 λc o x=>vac _ (vac _ (vac _ (vac _ (vac _ x))))⟩
end
noncomputable def SqB(b:Bool)(K:vga)(H:Hp)(a:Addr)(xs:List V):Prop:=match b with|true=>SqT K H a xs|false=>SqL K H a xs
theorem zfb{b:Bool}{σ:St}{a:Addr}(I:Inv X pins σ H s)(h:SqB b X.K H a xs):∃its:List Value,Vals xs its/\ZS b s.heap a its.toArray/\xs.length<=sizeLine:=by
 cases b
 .obtain⟨its,r,p,z⟩:=I.list h
  exact⟨its,r,p.isList,z⟩
 .exact I.tuple h
theorem zma{b:Bool}{σ:St}{a:Addr}(I:Inv X pins σ H s)(h:SqB b X.K H a xs)(h':SqB b X.K H a ys):xs=ys:=by
 cases b
 .exact I.list_inj h h'
 .exact I.tuple_inj h h'
noncomputable def IteZ(K:vga)(b c:Bool)(a1 a2:Addr):It:=
 ⟨λi H=>∃xs ys x y,SqB b K H a1 xs/\SqB c K H a2 ys/\xs[i]?=some x/\ys[i]?=some y,
  λi H v H'=>∃T x y,v=.ref T/\H T=none/\H'=upd H T (.tup [x,y])/\(∀xs,SqB b K H a1 xs->xs[i]?=some x)/\∀ys,SqB c K H a2 ys->ys[i]?=some y,
  λi H=>∃xs ys,SqB b K H a1 xs/\SqB c K H a2 ys/\(xs.length<=i\/ys.length<=i)⟩
theorem Inv.turnedZ{σ:St}{t':Nat}{fp:List Addr}(I:Inv X pins σ H s)(hf:∀b∈fp,FpOk X pins H b)(kk:∀b o,b∉fp->s.heap.get? b=some o->h2.get? b=some o) :
 Inv X pins σ H {s with heap:=h2,toks:=t'}:=by
 have f0:=λb hb=>(hf b hb).1
 have nE:∀b o,H b=some o->b∉fp:=λb o q z=>by rw[f0 b z]at q;cases q
 refine I.step (g':=s.gens) (d':=s.drawn) (ch:=fp) (λb hb=>?_) (λb o _ _ hc e1 _=>kk b o hc e1) (λb o _ _ hc e1 _=>⟨o.slots,kk b o hc e1⟩) (λ_ _ _ _ n=>n) (λb o hc e1=>⟨o,kk b o hc e1⟩)
  (λ_ _ q=>q) (λ_ _ _ q=>q) (λb ps q=>⟨#[],by rw[q];simp⟩) (λm hm=>?_) (λb ob q=>?_) I.bare
 .obtain⟨_,a1,a2,a3,a4,a5⟩:=hf b hb
  exact⟨a3,a1,a4,a5⟩
 .obtain⟨o,es,ep,ho',r⟩:=hm
  exact⟨o,es,ep,kk _ o (λz=>(hf _ z).2.1 rfl) ho',r⟩
 .refine(I.hok b ob q).stay (λc v hc z=>kk c v ?_ z) (λ_ z=>z) λ_ _ z=>z
  rcases hc with rfl|hc
  .exact nE c ob q
  .exact nE c _ hc
theorem Inv.turnedT{σ:St}{fp:List Addr}{xs:List V}{us:List Value}(I:Inv X pins σ H s)(hf:∀b∈fp,FpOk X pins H b)(kk:∀b o,b∉fp->s.heap.get? b=some o->h2.get? b=some o)
 (hT:h2.get? s.heap.objs.size=some {cls:=.type "tuple",data:=.seq us.toArray}) (hv:Vals xs us) (hz:xs.length<=sizeLine):Inv X pins σ (upd H s.heap.objs.size (.tup xs)) {s with heap:=h2}:=by
 have hTn:H s.heap.objs.size=none:=I.hok.fresh (vad _)
 have f0:=λb hb=>(hf b hb).1
 have nE:∀b o,H b=some o->b∉fp:=λb o q z=>by rw[f0 b z]at q;cases q
 refine I.step (g':=s.gens) (d':=s.drawn) (ch:=fp) (λb hb=>?_) (λb o _ _ hc e1 _=>kk b o hc e1) (λb o _ _ hc e1 _=>⟨o.slots,kk b o hc e1⟩) (λb o hc e1 n=>by rw[zaf (vay (vam e1))];exact n) (λb o hc e1=>⟨o,kk b o hc e1⟩)
  (λb ys q=>by rw[zaf (zag q hTn)];exact q) (λb o u q=>by rw[zaf (zag q hTn)];exact q) (λb ps q=>⟨#[],by rw[zaf (zag q hTn),q];simp⟩) (λm hm=>?_) (λb ob q=>?_) I.bare
 .obtain⟨_,a1,a2,a3,a4,a5⟩:=hf b hb
  exact⟨a3,a1,a4,a5⟩
 .obtain⟨o,es,ep,ho',r⟩:=hm
  exact⟨o,es,ep,kk _ o (λz=>(hf _ z).2.1 rfl) ho',r⟩
 .by_cases hb:b=s.heap.objs.size
  .subst hb
   rw[zai]at q;cases q
   exact⟨hz,us,hv,⟨_,hT,rfl,⟨_,rfl⟩,rfl⟩⟩
  .rw[zaf hb]at q
   refine(I.hok b ob q).stay (λc v hc z=>kk c v ?_ z) (λc z=>by rw[zaf (zag z hTn)];exact z) λc ys z=>by rw[zaf (zag z hTn)];exact z
   rcases hc with rfl|hc
   .exact nE c ob q
   .exact nE c _ hc
theorem zpb{P:Program}{w:World}{K:vga}{elts:List Expr}{kx:Nat}{tp:Pos}{b c:Bool}(a1 a2 z TI TO i1 i2:Addr)(D:ZA z TI TO i1 i2 a1 a2) :
 Turn P w K (.Tuple elts kx tp) (IteZ K b c a1 a2) [z,TI,TO,i1,i2] z (λi h=>IsZip h z TI TO .none/\IsPair h TI (.ref i1) (.ref i2)/\(∃p q,IsPair h TO p q)/\ZI b h i1 a1 i/\ZI c h i2 a2 i)where
 mem:=by simp
 obj:=λi h st d hd=>by
  obtain⟨hz,hTI,⟨p,q,hTO⟩,h1,h2⟩:=st
  simp only[vaw,vbk,vdm]at hd
  rcases hd with rfl|rfl|rfl|rfl|rfl
  .exact⟨_,hz,λv z=>by
    have z':Data.fields _=Data.cell v:=z
    cases z'⟩
  .exact⟨_,hTI,λv z=>by
    have z':Data.seq _ _=Data.cell v:=z
    cases z'⟩
  .exact⟨_,hTO,λv z=>by
    have z':Data.seq _ _=Data.cell v:=z
    cases z'⟩
  .exact h1.ob
  .exact h2.ob
 keep:=λi h h' st k=>by
  obtain⟨hz,hTI,⟨p,q,hTO⟩,h1,h2⟩:=st
  exact⟨k z (by simp) _ hz,k TI (by simp) _ hTI,⟨p,q,k TO (by simp) _ hTO⟩,h1.mv λo e=>k i1 (by simp) o e,h2.mv λo e=>k i2 (by simp) o e⟩
 item:=by
  intro X hP hw hK hc i pins s σ H E I hf st hg
  subst hP hw hK
  obtain⟨xs,ys,x,y,q1,q2,hx,hy⟩:=hg
  obtain⟨hz,hTI,⟨p,q,hTO⟩,h1,h2⟩:=st
  obtain⟨its,rv,m1,_⟩:=zfb I q1
  obtain⟨jts,rw',m2,_⟩:=zfb I q2
  obtain⟨u,hu,ru⟩:=rv.get hx
  obtain⟨v,hv,rv'⟩:=rw'.get hy
  refine zsl D hz hTI hTO h1 h2 m1 m2 (x:=u) (y:=v) (by simpa using hu) (by simpa using hv) λg b1 b2 b3 b4 b5 b6 b7=>⟨_,rfl,wpAny_letOwnedTupleGo_zip b1 λg2 c1 c2=>?_⟩
  obtain⟨⟨d1,d2,d3,d4⟩,⟨d5,d6,d7,d8,d9,d10⟩,_,_⟩:=D
  have c2:Heap.SameBut z g g2:=c2
  have zlt:s.heap.objs.size≠z:=va8 (vam hz)
  have kk:∀d o,d∉[z,TI,TO,i1,i2]->s.heap.get? d=some o->g2.get? d=some o:=λd o hd e=>(c2.2 d λx=>hd (by simp[x])).trans (b7 d o (λx=>hd (by simp[x])) (λx=>hd (by simp[x])) (λx=>hd (by simp[x])) (λx=>hd (by simp[x])) e)
  have hT:g2.get? s.heap.objs.size=some {cls:=.type "tuple",data:=.seq [u,v].toArray}:=(c2.2 _ zlt).trans b5
  have I2:=Inv.turnedT (xs:=[x,y]) I hf kk hT (.cons ru (.cons rv' .nil)) (by show 2<=sizeLine;decide)
  have hTn:H s.heap.objs.size=none:=I.hok.fresh (vad _)
  refine⟨.ref s.heap.objs.size,_,I2,rfl,⟨_,x,y,rfl,hTn,rfl,λzs hzs=>by rw[zma I hzs q1];exact hx,λzs hzs=>by rw[zma I hzs q2];exact hy⟩,
   ⟨c1,(c2.2 TI d1).trans (b7 TI _ d1 d5 d6 d7 hTI),⟨u,v,(c2.2 TO d2).trans b2⟩,b3.mv λo e=>(c2.2 i1 d3).trans e,b4.mv λo e=>(c2.2 i2 d4).trans e⟩,λd hd=>?_⟩
  rw[zaf ?_]
  .exact(hf d hd).1
  .intro e
   obtain⟨o,ho⟩:∃o,s.heap.get? d=some o:=by
    simp only[vaw,vbk,vdm]at hd
    rcases hd with rfl|rfl|rfl|rfl|rfl
    .exact⟨_,hz⟩
    .exact⟨_,hTI⟩
    .exact⟨_,hTO⟩
    .exact let⟨o,h,_⟩:=h1.ob;⟨o,h⟩
    .exact let⟨o,h,_⟩:=h2.ob;⟨o,h⟩
   exact vay (vam ho) e
 done:=by
  intro X hP hw hK hc i pins s σ H E I hf st hg
  subst hP hw hK
  obtain⟨xs,ys,q1,q2,hl⟩:=hg
  obtain⟨hz,hTI,⟨p,q,hTO⟩,h1,h2⟩:=st
  obtain⟨its,rv,m1,_⟩:=zfb I q1
  obtain⟨jts,rw',m2,_⟩:=zfb I q2
  have l1:=rv.length
  have l2:=rw'.length
  exact zve (I.ok.hd hc) D hz hTI hTO h1 h2 m1 m2 (hl.imp (λh=>by simp;omega) λh=>by simp;omega) λg hk=>⟨rfl,Inv.turnedZ (t':=s.toks) I hf λd o hd e=>hk d o (λx=>hd (by simp[x])) (λx=>hd (by simp[x])) (λx=>hd (by simp[x])) (λx=>hd (by simp[x])) e⟩
 self:=λ_ _ _ _ _ st h=>wpAny_pyIter_zip st.1 h
theorem zpc{bs:List Bool}(r:Vals (bs.map .bl) its)(i:Nat)(h:its[i]?=some v):∃b,bs[i]?=some b/\v=.bool b:=by
 have hl:=r.length
 rw[vaf]at hl
 obtain⟨hi,_⟩:=vas.mp h
 have hb:bs[i]?=some bs[i]:=vao (by omega)
 obtain⟨u,hu,ru⟩:=r.get (i:=i) (x:=.bl bs[i]) (by rw[vbr,hb];rfl)
 rw[h]at hu;cases hu
 exact⟨_,hb,ru⟩
theorem zmb(bs:List Bool):((List.range bs.length).all λi=>(bs[i]?).getD true)=bs.all id:=by
 rw[vdv,vcb,vcb]
 refine⟨λh b hb=>?_,λh i hi=>?_⟩
 .obtain⟨i,hi,rfl⟩:=List.getElem_of_mem hb
  have:=h i (vd6.mpr hi)
  rw[vao hi]at this
  exact this
 .have hi':=vd6.mp hi
  rw[vao hi']
  exact h _ (vcj hi')
section
variable{X:Cx}
theorem zpd(hc:X.calm=true):CallR X (.builtin "all") (λxs H Q=>∃(p:Addr) (bs:List Bool),xs=[.ref p]/\SqL X.K H p (bs.map .bl)/\Q (.bl (bs.all id)) H):=by
 intro pins s σ H xs us Q I r h
 obtain⟨p,bs,rfl,hq,q⟩:=h
 obtain⟨u,rfl,ru⟩:=vals1 r
 cases ru
 obtain⟨its,rv,pl,hz⟩:=I.list hq
 have hL:s.heap.IsList p its.toArray:=pl.isList
 have hlt:p<s.heap.objs.size:=by obtain⟨_,e,_⟩:=hL;exact vam e
 have hd:X.A.in1.handled=none:=I.ok.hd hc
 have hlen:its.toArray.size=bs.length:=by rw[vah,<-rv.length,vaf]
 refine call_all_walk (vc3 hL ⟨s.heap.objs.size,[s.heap.objs.size,p],[s.heap.objs.size],its.toArray.size,_,_,λi=>(bs[i]?).getD true,rfl,Walks.list (A:=X.A.in1) hd _ p (vay hlt) its.toArray,?_,?_,?_⟩)
 .exact⟨⟨_,vaz _ rfl,rfl,rfl⟩,hL.push _⟩
 .intro i v s' Q' E' hP hQ
  obtain⟨b,e,rfl⟩:=zpc rv i (by simpa using hP)
  simp only[e,Option.getD_some]at hQ
  exact vb2 hQ
 .intro h' tk hk
  rw[hlen,zmb]
  refine⟨.bl (bs.all id),H,I.kept (t':=tk) λb o e=>hk b o (λhm=>?_) (vac _ e),rfl,q⟩
  rw[vb6.mp hm]at e
  exact vct _ (vam e)
end
theorem zf9{as:List Addr}{i:Nat}(ra:ReadsAll h us ds as)(s1:ds.all SeqAt.shaped=true)(h1:us[i]?=some u)(h2:ds[i]?=some e):eqOf us ds d u=PyData.eqv e d:=by
 cases q:PyData.eqv e d with
 |true=>exact zb1.mpr ⟨i,e,h1,h2,q⟩
 |false=>
  refine Bool.eq_false_iff.mpr λz=>?_
  obtain⟨j,e',h3,h4,h5⟩:=zb1.mp z
  obtain⟨e1,cs1,g1,g2⟩:=za8 ra h1
  obtain⟨e2,cs2,g3,g4⟩:=za8 ra h3
  rw[h2]at g1;cases g1
  rw[h4]at g3;cases g3
  have:e=e':=(Reads.unique g2 _ _ g4).1
  subst this
  rw[q]at h5;cases h5
theorem zfc{α β:Type}{p:α->Bool}{q:β->Bool}:∀{us:List α} {ds:List β},us.length=ds.length->(∀(i:Nat) (u:α) (e:β),us[i]?=some u->ds[i]?=some e->p u=q e)->us.countP p=ds.countP q
 |[],[],_,_=>rfl
 |[],_::_,h,_=>by cases h
 |_::_,[],h,_=>by cases h
 |u::us,e::ds,h,k=>by
  rw[List.countP_cons,List.countP_cons,k 0 u e rfl rfl,zfc (us:=us) (ds:=ds) (by simpa using h) λi u e h1 h2=>k (i+1) u e (by simpa using h1) (by simpa using h2)]
theorem zkl{as:List Addr}(ra:ReadsAll h us ds as)(s1:ds.all SeqAt.shaped=true):us.countP (eqOf us ds d)=ds.countP λe=>PyData.eqv e d:=
 zfc (zbg ra) λi u e h1 h2=>zf9 ra s1 h1 h2
section
variable{X:Cx}
noncomputable def zvf(K:vga)(tup:Bool):V->List V->Hp->VK->Prop:=λx vs H Q=>∃p xs y ds d,x=.ref p/\vs=[y]/\(if tup then SqT K H p xs else SqL K H p xs)/\Rps K (λ_=>False) H xs ds/\Rp K (λ_=>False) H y d/\ds.all SeqAt.shaped=true/\SeqAt.shaped d=true/\
 Q (.int (ds.countP λe=>PyData.eqv e d:Nat)) H
theorem zmc(hu:X.A.in1.units+64<cLine):MtR X "list.count" (zvf X.K false):=by
 intro pins s σ H x vs v us Q I rx rv h
 obtain⟨p,xs,y,ds,d,rfl,rfl,hq,r1,r2,s1,s2,q⟩:=h
 cases rx
 obtain⟨u,rfl,ru⟩:=rv.one
 obtain⟨bs,rb⟩:=r2.reads I ru
 simp only[vaq,vbo]at hq
 obtain⟨its,r,pl,hz⟩:=I.list hq
 obtain⟨as,ra⟩:=r1.reads I r
 obtain⟨⟨c,dd,dt,sl⟩,n,e1,e2,e4,e3⟩:=pl
 replace e2:c=.type "list":=e2
 replace e3:dt=.seq its.toArray n:=e3
 subst e2 e3
 refine vdu PySem.F.slot_list_count ⟨_,e1,rfl⟩ PySem.F.entry_list_count (PySem.F.args_list_count_2 _ _) (SeqAt.list_countAt p its.toArray n dd sl u (eqOf its ds d)) ⟨e1,λw hw=>zc3 ?_ ra rb s1 s2 w (by simpa using hw),?_⟩
 .exact hu
 .refine⟨.int _,H,I.tok _,⟨_,rfl⟩,?_⟩
  rw[show its.toArray.toList=its from rfl,zkl ra s1]
  exact q
end
end L2
namespace RF
open PySem
inductive W where
 |non|bl (b:Bool)|int (i:Int)|str (x:Str)|tup (ws:List W)|fz (ws:List W)|ref (i:Nat)
mutual
noncomputable def W.lt(n:Nat):W->Bool
 |.tup ws=>W.lts n ws
 |.fz ws=>W.lts n ws
 |.ref i=>Nat.blt i n
 |_=>true
noncomputable def W.lts(n:Nat):List W->Bool
 |[]=>true
 |w::ws=>W.lt n w&&W.lts n ws
end
inductive VO where
 |lst (ws:List W)|dk (kvs:List (L2.Key×W))
structure VH where
 n:Nat
 lo:Nat
 os:List VO
noncomputable def VH.get(h:VH)(i:Nat):Option VO:=if Nat.blt i h.n then h.os[h.n-1-i]? else none
noncomputable def VH.set(h:VH)(i:Nat)(o:VO):VH:=⟨h.n,if Nat.blt i h.lo then i else h.lo,h.os.set (h.n-1-i) o⟩
noncomputable def VH.new(h:VH)(o:VO):VH:=⟨h.n+1,h.lo,o::h.os⟩
inductive Res(α:Type)where
 |ok (a:α) (h:VH)|ex (x:W) (h:VH)|no
noncomputable def Res.bind{α β:Type}(r:Res α)(f:α->VH->Res β):Res β:=match r with
 |.ok a h=>f a h
 |.ex x h=>.ex x h
 |.no=>.no
noncomputable def Res.of{α:Type}(o:Option α)(h:VH):Res α:=match o with
 |some a=>.ok a h
 |none=>.no
inductive Op where
 |add|sub|mul|fdiv|mod|shl|pow
 deriving DecidableEq
inductive Cp where
 |eq|ne|lt|le|gt|ge|isn|notn|inn|nin
 deriving DecidableEq
inductive Ty where
 |int|bool|tuple|list|str|dict
 deriving DecidableEq
inductive Bi where
 |len|list|tuple|int|abs|max|min|all|lrng|rev|str
 deriving DecidableEq
inductive Mt where
 |append
 deriving DecidableEq
inductive Kd where
 |seq|rng1|enm|zip
 deriving DecidableEq
inductive Tg where
 |one (i:Nat)|many (is:List Nat)
 deriving DecidableEq
inductive E where
 |var (i:Nat)|cst (w:W)
 |nil|cons (a r:E)
 |tup (a:E)|lst (a:E)|dsp (a:E)
 |op (o:Op) (a b:E)|neg (a:E)
 |cmp (c:Cp) (a b:E)|chn (c d:Cp) (a b e:E)
 |not (a:E)|and (a b:E)|or (a b:E)|tru (a:E)|ite (c a b:E)
 |idx (a b:E)|slc (a:E) (bl:Bool) (lo:E) (bh:Bool) (hi:E)
 |call (f:Nat) (a:E)|bi (b:Bi) (a:E)|isi (t:Ty) (a:E)|mt (m:Mt) (o a:E)
 |lc (k:Kd) (a:E) (t:Tg) (ow:Nat) (ix:List Nat) (c e:E)
inductive S where
 |skip|seq (a b:S)|set (i:Nat) (e:E)|unp (is:List Nat) (e:E)|aug (i:Nat) (o:Op) (e:E)
 |put (o i v:E)|ite (c:E) (a b:S)|ret (e:E)|expr (e:E)|brk|cnt
 |for (k:Kd) (a:E) (t:Tg) (b:S)|whl (c:E) (b:S)|tryc (f:Nat) (a:E) (tb:List (Nat×W))|tel (f:Nat) (a:E) (b:Bool) (s t:S)|no
noncomputable abbrev En:=List (Option W)
inductive Fl where
 |nx (ρ:En)|rt (w:W)|bk (ρ:En)|ct (ρ:En)
noncomputable def mapO{α β:Type}(f:α->Option β):List α->Option (List β)
 |[]=>some []
 |a::r=>match f a with
  |some b=>(match mapO f r with
   |some bs=>some (b::bs)
   |none=>none)
  |none=>none
noncomputable def toD(h:VH):Nat->W->Option PyData
 |0,_=>none
 |n+1,w=>match w with
  |.non=>some .none
  |.bl b=>some (.bool b)
  |.int i=>some (.int i)
  |.str x=>some (.str x)
  |.tup ws=>(mapO (toD h n) ws).map .tuple
  |.fz ws=>(mapO (toD h n) ws).map .list
  |.ref i=>match h.get i with
   |some (.lst ws)=>(mapO (toD h n) ws).map .list
   |_=>none
noncomputable def eqW(h:VH)(x y:W):Option Bool:=
 match toD h 24 x,toD h 24 y with
 |some d,some e=>if SeqAt.shaped d&&SeqAt.shaped e then some (PyData.eqv d e)else none
 |_,_=>none
noncomputable def big:Nat:=16777216
noncomputable def zbj(i:Int):Bool:=decide (-(2 ^ 64)<i)&&decide (i<2 ^ 64)
noncomputable def opI:Op->Int->Int->Option Int
 |.add,i,j=>some (i+j)
 |.sub,i,j=>some (i-j)
 |.mul,i,j=>if zbj i||zbj j then some (i*j)else none
 |.fdiv,i,j=>if decide (0<j)&&decide (j<1073741824)then some (i/j)else none
 |.mod,i,j=>if decide (0<j)then some (i % j)else none
 |.shl,i,j=>if decide (0<=j)&&decide (j<=1000000)&&decide (i.natAbs<2 ^ 64)then some (i*2 ^ j.toNat)else none
 |.pow,i,j=>if decide (0<=j)&&decide (j<=1000000)&&decide (i.natAbs<2 ^ 64)then some (i ^ j.toNat)else none
noncomputable def opT:Op->List W->List W->Option (List W)
 |.add,xs,ys=>if Nat.ble (xs.length+ys.length) big then some (xs++ys)else none
 |_,_,_=>none
noncomputable def opL:Op->List W->List W->Option (List W)
 |.add,xs,ys=>if Nat.ble (xs.length+ys.length) big then some (xs++ys)else none
 |_,_,_=>none
noncomputable def fits(i:Int):Bool:=decide (-(2 ^ 62)<=i)&&decide (i<2 ^ 62)
noncomputable def repW(o:Op)(xs:List W)(k:Int):Option (List W):=match o with
 |.mul=>if fits k&&Nat.ble (xs.length*k.toNat) big then some (vgc k.toNat xs).flatten else none
 |_=>none
noncomputable def opW(o:Op)(x y:W)(h:VH):Res W:=match x,y with
 |.int i,.int j=>.of ((opI o i j).map .int) h
 |.tup xs,.tup ys=>.of ((opT o xs ys).map .tup) h
 |.tup xs,.int k=>.of ((repW o xs k).map .tup) h
 |.ref i,.ref j=>match h.get i,h.get j with
  |some (.lst xs),some (.lst ys)=>(match opL o xs ys with
   |some zs=>.ok (.ref h.n) (h.new (.lst zs))
   |none=>.no)
  |_,_=>.no
 |_,_=>.no
noncomputable def ipW(o:Op)(x y:W)(h:VH):Res W:=match x,y with
 |.int i,.int j=>(match o with
  |.add=>.ok (.int (i+j)) h
  |.sub=>.ok (.int (i-j)) h
  |.mul=>.of ((opI .mul i j).map .int) h
  |.fdiv=>.of ((opI .fdiv i j).map .int) h
  |_=>.no)
 |.ref i,.ref j=>match o,h.get i,h.get j with
  |.add,some (.lst xs),some (.lst ys)=>if Nat.ble (xs.length+ys.length) big then .ok (.ref i) (h.set i (.lst (xs++ys)))else .no
  |_,_,_=>.no
 |_,_=>.no
noncomputable def cmpI:Cp->Int->Int->Option Bool
 |.lt,i,j=>some (decide (i<j))
 |.le,i,j=>some (decide (i<=j))
 |.gt,i,j=>some (decide (j<i))
 |.ge,i,j=>some (decide (j<=i))
 |_,_,_=>none
noncomputable def isNon:W->Bool
 |.non=>true
 |_=>false
noncomputable def seqW(h:VH):W->Option (List W)
 |.tup ws=>some ws
 |.fz ws=>some ws
 |.ref i=>match h.get i with
  |some (.lst ws)=>some ws
  |_=>none
 |_=>none
noncomputable def inW(h:VH)(x y:W):Option Bool:=match seqW h y,toD h 24 x with
 |some ws,some d=>(match mapO (toD h 24) ws with
  |some ds=>if ds.all SeqAt.shaped&&SeqAt.shaped d then some (L2.anyEq ds d)else none
  |none=>none)
 |_,_=>none
noncomputable def isB:W->W->Option Bool
 |.bl c,.bl b=>some (c==b)
 |_,_=>none
noncomputable def cmpW(c:Cp)(h:VH)(x y:W):Option Bool:=match c with
 |.inn=>inW h x y
 |.nin=>(inW h x y).map (!·)
 |.eq=>eqW h x y
 |.ne=>(eqW h x y).map (!·)
 |.isn=>if isNon y then some (isNon x)else isB x y
 |.notn=>if isNon y then some (!isNon x)else(isB x y).map (!·)
 |c=>match x,y with
  |.int i,.int j=>cmpI c i j
  |_,_=>none
noncomputable def truW(h:VH):W->Option Bool
 |.bl b=>some b
 |.int i=>some (i != 0)
 |.non=>some false
 |.tup ws=>some (!ws.isEmpty)
 |.ref i=>match h.get i with
  |some (.lst ws)=>some (!ws.isEmpty)
  |_=>none
 |_=>none
noncomputable def keyW:W->Option L2.Key
 |.int i=>some (.inl i)
 |.str x=>some (.inr x)
 |_=>none
noncomputable def lookK(kvs:List (L2.Key×W))(k:L2.Key):Option W:=(kvs.find? λkv=>decide (kv.1=k)).map (·.2)
noncomputable def putKW(kvs:List (L2.Key×W))(k:L2.Key)(w:W):List (L2.Key×W):=
 if(kvs.any λkv=>decide (kv.1=k))=true then kvs.map (λkv=>if kv.1=k then(kv.1,w)else kv)else kvs++[(k,w)]
noncomputable def idxW(h:VH)(x y:W):Option W:=match x,y with
 |.tup ws,.int i=>L2.atI ws i
 |.fz ws,.int i=>L2.atI ws i
 |.ref a,.int i=>(match h.get a with
  |some (.lst ws)=>L2.atI ws i
  |some (.dk kvs)=>lookK kvs (.inl i)
  |_=>none)
 |.ref a,.str x=>(match h.get a with
  |some (.dk kvs)=>lookK kvs (.inr x)
  |_=>none)
 |_,_=>none
noncomputable def partW(b:Bool)(w:W):Option (Option Int):=match b,w with
 |false,_=>some none
 |true,.int i=>some (some i)
 |_,_=>none
noncomputable def cutW(ws:List W)(lo hi:Option Int):List W:=(ws.drop (HT.sIx ws.length 0 lo)).take (HT.sIx ws.length ws.length hi-HT.sIx ws.length 0 lo)
noncomputable def slcW(x:W)(l u:Option Int)(h:VH):Res W:=match x with
 |.tup ws=>.ok (.tup (cutW ws l u)) h
 |.ref i=>(match h.get i with
  |some (.lst ws)=>.ok (.ref h.n) (h.new (.lst (cutW ws l u)))
  |_=>.no)
 |_=>.no
@[simp] theorem slcW_tup {ws:List W} {l u:Option Int} {h:VH}:slcW (.tup ws) l u h=.ok (.tup (cutW ws l u)) h:=rfl
noncomputable def tyIs:Ty->VH->W->Option Bool
 |t,_,.non=>some false
 |t,_,.bl _=>some (t == .int||t == .bool)
 |t,_,.int _=>some (t == .int)
 |t,_,.str _=>some (t == .str)
 |t,_,.tup _=>some (t == .tuple)
 |_,_,.fz _=>none
 |t,h,.ref i=>match h.get i with
  |some (.lst _)=>some (t == .list)
  |some (.dk _)=>some (t == .dict)
  |_=>none
noncomputable def lenW(xs:List W)(h:VH):Res W:=match xs with
 |[x]=>.of (match seqW h x with
  |some ws=>some (.int ws.length)
  |none=>none) h
 |_=>.no
noncomputable def listW(xs:List W)(h:VH):Res W:=match xs with
 |[x]=>(match seqW h x with
  |some ws=>.ok (.ref h.n) (h.new (.lst ws))
  |none=>.no)
 |_=>.no
noncomputable def zei(xs:List W)(h:VH):Res W:=match xs with
 |[x]=>.of (match seqW h x with
  |some ws=>some (.tup ws)
  |none=>none) h
 |_=>.no
noncomputable def intW(xs:List W)(h:VH):Res W:=match xs with
 |[.int i]=>.ok (.int i) h
 |[.bl b]=>.ok (.int (if b then 1 else 0)) h
 |_=>.no
noncomputable def absW(xs:List W)(h:VH):Res W:=match xs with
 |[.int i]=>.ok (.int (if i<0 then -i else i)) h
 |_=>.no
noncomputable def maxW(xs:List W)(h:VH):Res W:=match xs with
 |[.int i,.int j]=>.ok (.int (if j>i then j else i)) h
 |_=>.no
noncomputable def minW(xs:List W)(h:VH):Res W:=match xs with
 |[.int i,.int j]=>.ok (.int (if j<i then j else i)) h
 |_=>.no
noncomputable def blW:W->Option Bool
 |.bl b=>some b
 |_=>none
noncomputable def allW(xs:List W)(h:VH):Res W:=match xs with
 |[.ref i]=>(match h.get i with
  |some (.lst ws)=>.of ((mapO blW ws).map λbs=>.bl (bs.all id)) h
  |_=>.no)
 |_=>.no
noncomputable def ints0(j:Nat):List W:=(List.range' 0 j).map λ(i:Nat)=>W.int (0+ (i:Int))
noncomputable def lrngW(xs:List W)(h:VH):Res W:=match xs with
 |[.int i]=>if decide (0<=i)&&Nat.ble i.toNat big then .ok (.ref h.n) (h.new (.lst (ints0 i.toNat)))else .no
 |_=>.no
noncomputable def revW(xs:List W)(h:VH):Res W:=match xs with
 |[.tup ws,.int (-1)]=>.ok (.tup ws.reverse) h
 |_=>.no
noncomputable def strW(xs:List W)(h:VH):Res W:=match xs with
 |[.int i]=>if decide (-1000<i)&&decide (i<1000)then .ok (.str (vgb (toString i))) h else .no
 |_=>.no
noncomputable def biW(b:Bi)(xs:List W)(h:VH):Res W:=match b with
 |.abs=>absW xs h
 |.max=>maxW xs h
 |.min=>minW xs h
 |.all=>allW xs h
 |.lrng=>lrngW xs h
 |.str=>strW xs h
 |.rev=>revW xs h
 |.len=>lenW xs h
 |.list=>listW xs h
 |.tuple=>zei xs h
 |.int=>intW xs h
noncomputable def mtW(m:Mt)(o:W)(xs:List W)(h:VH):Res W:=match m,o,xs with
 |.append,.ref i,[x]=>(match h.get i with
  |some (.lst ws)=>if Nat.blt ws.length big then .ok .non (h.set i (.lst (ws++[x])))else .no
  |_=>.no)
 |_,_,_=>.no
noncomputable def zhi(m:Mt)(h:VH)(o:W):Bool:=match m,o with
 |.append,.ref i=>(match h.get i with
  |some (.lst _)=>true
  |_=>false)
 |_,_=>false
noncomputable def nxt(k:Kd)(x:W)(i:Nat)(h:VH):Option (Option W):=match k with
 |.seq=>(seqW h x).map λws=>ws[i]?
 |.enm=>(match x with
  |.tup ws=>some ((ws[i]?).map λw=>.tup [.int i,w])
  |_=>none)
 |.zip=>(match x with
  |.tup [u,v]=>(match seqW h u,seqW h v with
   |some ws,some zs=>some (match ws[i]?,zs[i]? with
    |some a,some b=>some (.tup [a,b])
    |_,_=>none)
   |_,_=>none)
  |_=>none)
 |.rng1=>(match x with
  |.tup [.int j]=>if fits j then some (if decide ((i:Int)<j)then some (.int (0+i))else none)else none
  |_=>none)
noncomputable def za1:List Nat->List W->En->Option En
 |[],[],ρ=>some ρ
 |i::is,w::ws,ρ=>za1 is ws (ρ.set i (some w))
 |_,_,_=>none
noncomputable def tgW(t:Tg)(w:W)(h:VH)(ρ:En):Option En:=match t with
 |.one i=>some (ρ.set i (some w))
 |.many is=>match seqW h w with
  |some ws=>za1 is ws ρ
  |none=>none
noncomputable def fuel:Nat:=1000000
noncomputable def inner(ow:Nat)(ix:List Nat)(ρ:En):En:=vgc ow none++ix.map λj=>(ρ[j]?).join
noncomputable def lcG(nx:Nat->VH->Option (Option W))(tg:W->VH->En->Option En)(c:En->VH->Res W)(e:En->VH->Res W):Nat->Nat->En->VH->List W->Res (List W)
 |0,_,_,_,_=>.no
 |f+1,i,ρ,h,acc=>match nx i h with
  |none=>.no
  |some none=>.ok acc.reverse h
  |some (some w)=>match tg w h ρ with
   |none=>.no
   |some ρ=>(c ρ h).bind λb h=>match b with
    |.bl true=>(e ρ h).bind λy h=>lcG nx tg c e f (i+1) ρ h (y::acc)
    |.bl false=>lcG nx tg c e f (i+1) ρ h acc
    |_=>.no
noncomputable def forG(nx:Nat->VH->Option (Option W))(tg:W->VH->En->Option En)(b:En->VH->Res Fl):Nat->Nat->En->VH->Res Fl
 |0,_,_,_=>.no
 |f+1,i,ρ,h=>match nx i h with
  |none=>.no
  |some none=>.ok (.nx ρ) h
  |some (some w)=>match tg w h ρ with
   |none=>.no
   |some ρ=>(b ρ h).bind λfl h=>match fl with
    |.nx ρ=>forG nx tg b f (i+1) ρ h
    |.ct ρ=>forG nx tg b f (i+1) ρ h
    |.bk ρ=>.ok (.nx ρ) h
    |.rt w=>.ok (.rt w) h
noncomputable def whlG(c:En->VH->Res W)(b:En->VH->Res Fl):Nat->En->VH->Res Fl
 |0,_,_=>.no
 |f+1,ρ,h=>(c ρ h).bind λt h=>match t with
  |.bl false=>.ok (.nx ρ) h
  |.bl true=>(b ρ h).bind λfl h=>match fl with
   |.nx ρ=>whlG c b f ρ h
   |.ct ρ=>whlG c b f ρ h
   |.bk ρ=>.ok (.nx ρ) h
   |.rt w=>.ok (.rt w) h
  |_=>.no
noncomputable def zdp:List W->Option (List (L2.Key×W))
 |[]=>some []
 |k::v::r=>match keyW k with
  |some k=>(match zdp r with
   |some kvs=>some ((k,v)::kvs)
   |none=>none)
  |none=>none
 |_=>none
noncomputable def zdq(kvs more:List (L2.Key×W)):List (L2.Key×W):=more.foldl (λacc kv=>putKW acc kv.1 kv.2) kvs
noncomputable abbrev Call:=Nat->List W->VH->Res W
noncomputable def ev(cl:Call):E->En->VH->Res W
 |.var i,ρ,h=>.of (ρ[i]?).join h
 |.cst w,_,h=>.ok w h
 |.nil,_,h=>.ok (.tup []) h
 |.cons a r,ρ,h=>(ev cl a ρ h).bind λx h=>(ev cl r ρ h).bind λy h=>match y with
  |.tup ys=>.ok (.tup (x::ys)) h
  |_=>.no
 |.tup a,ρ,h=>(ev cl a ρ h).bind λy h=>match y with
  |.tup ys=>if Nat.ble ys.length 1000 then .ok (.tup ys) h else .no
  |_=>.no
 |.lst a,ρ,h=>(ev cl a ρ h).bind λy h=>match y with
  |.tup ys=>if Nat.ble ys.length 1000 then .ok (.ref h.n) (h.new (.lst ys))else .no
  |_=>.no
 |.dsp a,ρ,h=>(ev cl a ρ h).bind λy h=>match y with
  |.tup ys=>(match zdp ys with
   |some kvs=>if Nat.ble kvs.length 15 then .ok (.ref h.n) (h.new (.dk (zdq [] kvs)))else .no
   |none=>.no)
  |_=>.no
 |.op o a b,ρ,h=>(ev cl a ρ h).bind λx h=>(ev cl b ρ h).bind λy h=>opW o x y h
 |.neg a,ρ,h=>(ev cl a ρ h).bind λx h=>match x with
  |.int i=>.ok (.int (-i)) h
  |_=>.no
 |.cmp c a b,ρ,h=>(ev cl a ρ h).bind λx h=>(ev cl b ρ h).bind λy h=>.of ((cmpW c h x y).map .bl) h
 |.chn c d a b e,ρ,h=>(ev cl a ρ h).bind λx h=>(ev cl b ρ h).bind λy h=>match cmpW c h x y with
  |some true=>(ev cl e ρ h).bind λz h=>.of ((cmpW d h y z).map .bl) h
  |some false=>.ok (.bl false) h
  |none=>.no
 |.not a,ρ,h=>(ev cl a ρ h).bind λx h=>match x with
  |.bl b=>.ok (.bl (!b)) h
  |_=>.no
 |.and a b,ρ,h=>(ev cl a ρ h).bind λx h=>match x with
  |.bl true=>ev cl b ρ h
  |.bl false=>.ok (.bl false) h
  |_=>.no
 |.or a b,ρ,h=>(ev cl a ρ h).bind λx h=>match x with
  |.bl true=>.ok (.bl true) h
  |.bl false=>ev cl b ρ h
  |_=>.no
 |.tru a,ρ,h=>(ev cl a ρ h).bind λx h=>.of ((truW h x).map .bl) h
 |.ite c a b,ρ,h=>(ev cl c ρ h).bind λx h=>match x with
  |.bl true=>ev cl a ρ h
  |.bl false=>ev cl b ρ h
  |_=>.no
 |.idx a b,ρ,h=>(ev cl a ρ h).bind λx h=>(ev cl b ρ h).bind λy h=>.of (idxW h x y) h
 |.slc a bl lo bh hi,ρ,h=>(ev cl a ρ h).bind λx h=>(ev cl lo ρ h).bind λl h=>(ev cl hi ρ h).bind λu h=>match partW bl l,partW bh u with
  |some l,some u=>slcW x l u h
  |_,_=>.no
 |.call f a,ρ,h=>(ev cl a ρ h).bind λy h=>match y with
  |.tup ys=>cl f ys h
  |_=>.no
 |.bi b a,ρ,h=>(ev cl a ρ h).bind λy h=>match y with
  |.tup ys=>biW b ys h
  |_=>.no
 |.isi t a,ρ,h=>(ev cl a ρ h).bind λx h=>.of ((tyIs t h x).map .bl) h
 |.mt m o a,ρ,h=>(ev cl o ρ h).bind λx h=>if zhi m h x then(ev cl a ρ h).bind λy h=>match y with
  |.tup ys=>mtW m x ys h
  |_=>.no
  else .no
 |.lc k a t ow ix c e,ρ,h=>(ev cl a ρ h).bind λx h=>(lcG (nxt k x) (tgW t) (ev cl c) (ev cl e) fuel 0 (inner ow ix ρ) h []).bind λys h=>if Nat.ble ys.length big then .ok (.ref h.n) (h.new (.lst ys))else .no
noncomputable def tryW(tb:List (Nat×W))(ρ:En)(w:W)(h:VH):Res Fl:=match w with
 |.tup [_]=>.ok (.nx ρ) h
 |.int i=>(match tb.lookup i.toNat with
  |some w=>.ok (.rt w) h
  |none=>.no)
 |_=>.no
noncomputable def telW(b:Bool)(s t:En->VH->Res Fl)(ρ:En)(w:W)(h:VH):Res Fl:=match w with
 |.tup [x]=>if b then(match x with
  |.bl true=>t ρ h
  |.bl false=>s ρ h
  |_=>.no)else s ρ h
 |.int i=>.ok (.rt (.int i)) h
 |_=>.no
noncomputable def exs(cl:Call):S->En->VH->Res Fl
 |.skip,ρ,h=>.ok (.nx ρ) h
 |.seq a b,ρ,h=>(exs cl a ρ h).bind λfl h=>match fl with
  |.nx ρ=>exs cl b ρ h
  |fl=>.ok fl h
 |.set i e,ρ,h=>(ev cl e ρ h).bind λw h=>.ok (.nx (ρ.set i (some w))) h
 |.unp is e,ρ,h=>(ev cl e ρ h).bind λw h=>.of ((tgW (.many is) w h ρ).map .nx) h
 |.aug i o e,ρ,h=>match(ρ[i]?).join with
  |some x=>(ev cl e ρ h).bind λy h=>(ipW o x y h).bind λz h=>.ok (.nx (ρ.set i (some z))) h
  |none=>.no
 |.put o i v,ρ,h=>(ev cl v ρ h).bind λw h=>(ev cl o ρ h).bind λx h=>(ev cl i ρ h).bind λy h=>match x,y with
  |.ref a,.int j=>(match h.get a with
   |some (.lst ws)=>(match L2.ixN ws.length j with
    |some k=>.ok (.nx ρ) (h.set a (.lst (ws.set k w)))
    |none=>.no)
   |_=>.no)
  |_,_=>.no
 |.ite c a b,ρ,h=>(ev cl c ρ h).bind λx h=>match x with
  |.bl true=>exs cl a ρ h
  |.bl false=>exs cl b ρ h
  |_=>.no
 |.ret e,ρ,h=>(ev cl e ρ h).bind λw h=>.ok (.rt w) h
 |.expr e,ρ,h=>(ev cl e ρ h).bind λ_ h=>.ok (.nx ρ) h
 |.brk,ρ,h=>.ok (.bk ρ) h
 |.cnt,ρ,h=>.ok (.ct ρ) h
 |.for k a t b,ρ,h=>(ev cl a ρ h).bind λx h=>forG (nxt k x) (tgW t) (exs cl b) fuel 0 ρ h
 |.whl c b,ρ,h=>whlG (ev cl c) (exs cl b) fuel ρ h
 |.tryc f a tb,ρ,h=>(ev cl a ρ h).bind λy h=>match y with
  |.tup ys=>(cl f ys h).bind λw h=>tryW tb ρ w h
  |_=>.no
 |.tel f a b s t,ρ,h=>(ev cl a ρ h).bind λy h=>match y with
  |.tup ys=>(cl f ys h).bind λw h=>telW b (exs cl s) (exs cl t) ρ w h
  |_=>.no
 |.no,_,_=>.no
structure Fn where
 ps:Nat
 n:Nat
 body:S
noncomputable def leave(h:VH)(w:W)(h':VH):Res W:=
 if Nat.ble h.n h'.lo&&W.lt h.n w then .ok w h else .ok w ⟨h'.n,if Nat.ble h.lo h'.lo then h.lo else h'.lo,h'.os⟩
noncomputable def run(F:Nat->Option Fn):Nat->Call
 |0,_,_,_=>.no
 |k+1,f,ws,h=>match F f with
  |some fn=>if Nat.beq ws.length fn.ps then
   (exs (run F k) fn.body (ws.map some++vgc (fn.n-fn.ps) none) ⟨h.n,h.n,h.os⟩).bind λfl h'=>match fl with
     |.nx _=>leave h .non h'
     |.rt w=>leave h w h'
     |_=>.no
   else .no
  |none=>.no
open L2 PyProof.Rows PySem.Spec
noncomputable def Fz(K:vga)(H:Hp)(a:Addr)(xs:List V):Prop:=
 (∃o,H a=some (.frz o (.lst xs)))\/∃(o:Obj) (its:Array Value) (n:Nat),K.lookup a=some o/\o.cls=.type "list"/\o.dict=none/\o.data=.seq its n/\its.size<=sizeLine/\Vals xs its.toList
theorem Fz.sq{K:vga}{H:Hp}{a:Addr}{xs:List V}(h:Fz K H a xs):SqL K H a xs:=h.elim (λ⟨o,q⟩=>.inl (.inr ⟨o,q⟩)) .inr
mutual
inductive VRep(K:vga)(m:Nat->Addr)(n:Nat)(H:Hp):V->W->Prop
 |non:VRep K m n H .non .non
 |bl (b:Bool):VRep K m n H (.bl b) (.bl b)
 |int (i:Int):VRep K m n H (.int i) (.int i)
 |str (x:Str):VRep K m n H (.str x) (.str x)
 |tup {a:Addr} {vs:List V} {ws:List W}:SqT K H a vs->VReps K m n H vs ws->VRep K m n H (.ref a) (.tup ws)
 |fz {a:Addr} {vs:List V} {ws:List W}:Fz K H a vs->VReps K m n H vs ws->VRep K m n H (.ref a) (.fz ws)
 |ref {i:Nat}:i<n->VRep K m n H (.ref (m i)) (.ref i)
inductive VReps(K:vga)(m:Nat->Addr)(n:Nat)(H:Hp):List V->List W->Prop
 |nil:VReps K m n H [] []
 |cons {v:V} {w:W} {vs:List V} {ws:List W}:VRep K m n H v w->VReps K m n H vs ws->VReps K m n H (v::vs) (w::ws)
end
inductive KReps(K:vga)(m:Nat->Addr)(n:Nat)(H:Hp):List (Key×V)->List (Key×W)->Prop
 |nil:KReps K m n H [] []
 |cons {k:Key} {v:V} {w:W} {vs:List (Key×V)} {ws:List (Key×W)}:VRep K m n H v w->KReps K m n H vs ws->KReps K m n H ((k,v)::vs) ((k,w)::ws)
noncomputable def ORep(K:vga)(m:Nat->Addr)(n:Nat)(H:Hp)(a:Addr):VO->Prop
 |.lst ws=>∃vs,H a=some (.lst vs)/\VReps K m n H vs ws
 |.dk kvs=>∃kv,Rd H a (.dK kv)/\KReps K m n H kv kvs
structure Rel(K:vga)(m:Nat->Addr)(h:VH)(H:Hp):Prop where
 obj:∀i,i<h.n->∃o,h.get i=some o/\ORep K m h.n H (m i) o
 inj:∀i j,i<h.n->j<h.n->m i=m j->i=j
 len:h.os.length=h.n
structure Stp(m:Nat->Addr)(n:Nat)(H:Hp)(m':Nat->Addr)(n':Nat)(H':Hp):Prop where
 le:n<=n'
 same:∀i,i<n->m' i=m i
 new:∀i,n<=i->i<n'->H (m' i)=none
 apart:∀i j,n<=i->i<n'->j<n->m' i≠m' j
 tup:∀b vs,H b=some (.tup vs)->H' b=some (.tup vs)
 frz:∀b o u,H b=some (.frz o u)->H' b=some (.frz o u)
 keep:∀b o,(∀i,i<n->m i≠b)->H b=some o->H' b=some o
section
variable{K:vga}{m m' m1 m2:Nat->Addr}{n n' n1 n2:Nat}{h h':VH}{H H' H1 H2:Hp}
theorem Stp.refl:Stp m n H m n H:=⟨vad _,λ_ _=>rfl,λi a b=>absurd b (vcf.mpr a),λi j a b=>absurd b (vcf.mpr a),λ_ _ q=>q,λ_ _ _ q=>q,λ_ _ _ q=>q⟩
theorem Stp.trans(a:Stp m n H m1 n1 H1)(b:Stp m1 n1 H1 m2 n2 H2):Stp m n H m2 n2 H2 where
 le:=van a.le b.le
 same:=λi hi=>(b.same i (vae hi a.le)).trans (a.same i hi)
 new:=λi hi hi2=>by
  by_cases hc:i<n1
  .rw[b.same i hc];exact a.new i hi hc
  .have hc:=vcf.mp hc
   cases q:H (m2 i)with
   |none=>rfl
   |some o=>
    have q1:H1 (m2 i)=none:=b.new i hc hi2
    rw[a.keep _ o (λj hj z=>b.apart i j hc hi2 (vae hj a.le) ((b.same j (vae hj a.le)).trans ((a.same j hj).trans z)).symm) q]at q1
    cases q1
 apart:=λi j hi hi2 hj=>by
  by_cases hc:i<n1
  .rw[b.same i hc,b.same j (vae hj a.le)];exact a.apart i j hi hc hj
  .exact b.apart i j (vcf.mp hc) hi2 (vae hj a.le)
 tup:=λc vs q=>b.tup c vs (a.tup c vs q)
 frz:=λc o u q=>b.frz c o u (a.frz c o u q)
 keep:=λc o hc q=>b.keep c o (λi hi=>by
  by_cases hl:i<n
  .rw[a.same i hl];exact hc i hl
  .intro z
   have:=a.new i (vcf.mp hl) hi
   rw[z,q]at this;cases this) (a.keep c o hc q)
theorem Stp.sqT{a:Addr}(s:Stp m n H m' n' H')(q:SqT K H a vs):SqT K H' a vs:=by
 rcases q with(q|⟨o,q⟩)|q
 .exact .inl (.inl (s.tup _ _ q))
 .exact .inl (.inr ⟨o,s.frz _ _ _ q⟩)
 .exact .inr q
theorem Stp.fz{a:Addr}(s:Stp m n H m' n' H')(q:Fz K H a vs):Fz K H' a vs:=by
 rcases q with⟨o,q⟩|q
 .exact .inl ⟨o,s.frz _ _ _ q⟩
 .exact .inr q
mutual
theorem VRep.stp(s:Stp m n H m' n' H'):∀{v:V} {w:W},VRep K m n H v w->VRep K m' n' H' v w
 |_,_,.non=>.non
 |_,_,.bl b=>.bl b
 |_,_,.int b=>.int b
 |_,_,.str b=>.str b
 |_,_,.tup q r=>.tup (s.sqT q) (VReps.stp s r)
 |_,_,.fz q r=>.fz (s.fz q) (VReps.stp s r)
 |_,_,.ref (i:=i) q=>by rw[<-s.same i q];exact .ref (vae q s.le)
theorem VReps.stp(s:Stp m n H m' n' H'):∀{vs:List V} {ws:List W},VReps K m n H vs ws->VReps K m' n' H' vs ws
 |_,_,.nil=>.nil
 |_,_,.cons q r=>.cons (VRep.stp s q) (VReps.stp s r)
end
theorem KReps.stp(s:Stp m n H m' n' H'):∀{vs:List (Key×V)} {ws:List (Key×W)},KReps K m n H vs ws->KReps K m' n' H' vs ws
 |_,_,.nil=>.nil
 |_,_,.cons q r=>.cons (q.stp s) (KReps.stp s r)
theorem VReps.length:∀{vs:List V} {ws:List W},VReps K m n H vs ws->vs.length=ws.length
 |_,_,.nil=>rfl
 |_,_,.cons _ r=>by rw[vai,vai,VReps.length r]
theorem VReps.get:∀{vs:List V} {ws:List W} {i:Nat} {w:W},VReps K m n H vs ws->ws[i]?=some w->∃v,vs[i]?=some v/\VRep K m n H v w
 |_,_,_,_,.nil,e=>by simp at e
 |_,_,0,_,.cons q _,e=>by simp at e;subst e;exact⟨_,rfl,q⟩
 |_,_,i+1,w,.cons _ r,e=>by
  obtain⟨v,h1,h2⟩:=VReps.get (i:=i) (w:=w) r (by simpa using e)
  exact⟨v,by simpa using h1,h2⟩
theorem VReps.append:∀{vs us:List V} {ws zs:List W},VReps K m n H vs ws->VReps K m n H us zs->VReps K m n H (vs++us) (ws++zs)
 |_,_,_,_,.nil,r=>r
 |_,_,_,_,.cons q r,t=>.cons q (VReps.append r t)
theorem VReps.drop:∀(k:Nat) {vs:List V} {ws:List W},VReps K m n H vs ws->VReps K m n H (vs.drop k) (ws.drop k)
 |0,_,_,r=>r
 |_+1,_,_,.nil=>.nil
 |k+1,_,_,.cons _ r=>VReps.drop k r
theorem VReps.take:∀(k:Nat) {vs:List V} {ws:List W},VReps K m n H vs ws->VReps K m n H (vs.take k) (ws.take k)
 |0,_,_,r=>.nil
 |_+1,_,_,.nil=>.nil
 |k+1,_,_,.cons q r=>.cons q (VReps.take k r)
theorem VReps.set(q:VRep K m n H v w):∀(k:Nat) {vs:List V} {ws:List W},VReps K m n H vs ws->VReps K m n H (vs.set k v) (ws.set k w)
 |_,_,_,.nil=>.nil
 |0,_,_,.cons _ r=>.cons q r
 |k+1,_,_,.cons p r=>.cons p (VReps.set q k r)
theorem ORep.stp{a:Addr}(s:Stp m n H m' n' H')(e:H' a=H a)(q:ORep K m n H a o):ORep K m' n' H' a o:=by
 cases o with
 |lst ws=>obtain⟨vs,h1,h2⟩:=q;exact⟨vs,e.trans h1,h2.stp s⟩
 |dk ws=>obtain⟨vs,h1,h2⟩:=q;exact⟨vs,h1.imp (λz=>e.trans z) λ⟨o,z⟩=>⟨o,e.trans z⟩,h2.stp s⟩
theorem ORep.some{a:Addr}(q:ORep K m n H a o):∃u,H a=some u:=by
 cases o with
 |lst ws=>obtain⟨vs,h1,h2⟩:=q;exact⟨_,h1⟩
 |dk ws=>
  obtain⟨vs,h1,h2⟩:=q
  rcases h1 with h1|⟨o,h1⟩<;>exact⟨_,h1⟩
theorem zaq{i j:Nat}:Nat.blt i j=true↔i<j:=by
 unfold Nat.blt;rw[veb];exact Iff.rfl
theorem zas{i:Nat}(q:h.get i=some o):i<h.n:=by
 unfold VH.get at q
 split at q
 .rename_i z;exact zaq.mp z
 .cases q
theorem Rel.at_(r:Rel K m h H){i:Nat}(q:h.get i=some o):ORep K m h.n H (m i) o:=by
 obtain⟨o',h1,h2⟩:=r.obj i (zas q)
 rw[q]at h1;cases h1;exact h2
theorem Rel.lst(r:Rel K m h H){i:Nat}(q:h.get i=some (.lst ws)):∃vs,H (m i)=some (.lst vs)/\VReps K m h.n H vs ws:=r.at_ q
theorem Rel.dk(r:Rel K m h H){i:Nat}{ws:List (Key×W)}(q:h.get i=some (.dk ws)):∃vs,Rd H (m i) (.dK vs)/\KReps K m h.n H vs ws:=r.at_ q
theorem zae{i:Nat}(hi:i<h.n):(h.new o).get i=h.get i:=by
 unfold VH.get VH.new
 have h1:Nat.blt i (h.n+1)=true:=zaq.mpr (vd2 hi)
 have h2:Nat.blt i h.n=true:=zaq.mpr hi
 simp only[h1,h2,vbj]
 have:h.n+1-1-i=(h.n-1-i)+1:=by omega
 rw[this];rfl
theorem zam:(h.new o).get h.n=some o:=by
 unfold VH.get VH.new
 have h1:Nat.blt h.n (h.n+1)=true:=zaq.mpr (vbx _)
 simp only[h1,vbj]
 have:h.n+1-1-h.n=0:=by omega
 rw[this];rfl
theorem Rel.alloc(r:Rel K m h H){p:Addr}{o:VO}(hp:H p=none)(hu:∀t,u≠.tup t)
 (ho:Stp m h.n H (λi=>if i=h.n then p else m i) (h.n+1) (upd H p u)->ORep K (λi=>if i=h.n then p else m i) (h.n+1) (upd H p u) p o) :
 Stp m h.n H (λi=>if i=h.n then p else m i) (h.n+1) (upd H p u)/\Rel K (λi=>if i=h.n then p else m i) (h.new o) (upd H p u):=by
 have tr:∀i,i<h.n->m i≠p:=λi hi z=>by
  obtain⟨o',_,h2⟩:=r.obj i hi
  obtain⟨u',h3⟩:=h2.some
  rw[z,hp]at h3;cases h3
 have st:Stp m h.n H (λi=>if i=h.n then p else m i) (h.n+1) (upd H p u):=by
  refine⟨vd4 _,λi hi=>by simp only[if_neg (vay hi)],λi hi hi2=>?_,λi j hi hi2 hj=>?_,λb vs q=>?_,λb o u q=>?_,λb o _ q=>?_⟩
  .have:i=h.n:=by omega
   subst this;simp only[vbj];exact hp
  .have:i=h.n:=by omega
   subst this;simp only[vbj,if_neg (vay hj)];exact(tr j hj).symm
  .rw[zaf (zag q hp)];exact q
  .rw[zaf (zag q hp)];exact q
  .rw[zaf (zag q hp)];exact q
 refine⟨st,⟨λi hi=>?_,λi j hi hj z=>?_,?_⟩⟩
 .have hi:i<h.n+1:=hi
  by_cases e:i=h.n
  .subst e;exact⟨o,zam,by simp only[vbj];exact ho st⟩
  .have hl:i<h.n:=by omega
   obtain⟨o',h1,h2⟩:=r.obj i hl
   refine⟨o',(zae hl).trans h1,?_⟩
   simp only[if_neg e]
   exact ORep.stp st (zaf (tr i hl)) h2
 .have hi:i<h.n+1:=hi
  have hj:j<h.n+1:=hj
  by_cases e:i=h.n
  .by_cases e2:j=h.n
   .omega
   .simp only[if_pos e,if_neg e2]at z
    exact absurd z.symm (tr j (by omega))
  .by_cases e2:j=h.n
   .simp only[if_neg e,if_pos e2]at z
    exact absurd z (tr i (by omega))
   .simp only[if_neg e,if_neg e2]at z
    exact r.inj i j (by omega) (by omega) z
 .show(o::h.os).length=h.n+1
  rw[vai,r.len]
theorem zhj(r:Rel K m h H){i:Nat}(hi:i<h.n):(h.set i o).get i=some o:=by
 unfold VH.get VH.set
 have h1:Nat.blt i h.n=true:=zaq.mpr hi
 simp only[h1,vbj]
 rw[vbi]
 rw[r.len];omega
theorem zc4{i j:Nat}(hi:i<h.n)(hj:j≠i):(h.set i o).get j=h.get j:=by
 unfold VH.get VH.set
 by_cases h1:j<h.n
 .have h2:Nat.blt j h.n=true:=zaq.mpr h1
  simp only[h2,vbj]
  rw[vci]
  omega
 .have h2:Nat.blt j h.n=false:=by
   cases q:Nat.blt j h.n with
   |false=>rfl
   |true=>exact absurd (zaq.mp q) h1
  simp only[h2,vaq,vbo]
theorem Rel.write(r:Rel K m h H){i:Nat}{u u0:HO}(hi:i<h.n)(h0:H (m i)=some u0)(hn:∀t,u0≠.tup t)(hf:∀o t,u0≠.frz o t)
 (ho:Stp m h.n H m h.n (upd H (m i) u)->ORep K m h.n (upd H (m i) u) (m i) o) :
 Stp m h.n H m h.n (upd H (m i) u)/\Rel K m (h.set i o) (upd H (m i) u):=by
 have st:Stp m h.n H m h.n (upd H (m i) u):=by
  refine⟨vad _,λ_ _=>rfl,λj a b=>absurd b (vcf.mpr a),λj k a b=>absurd b (vcf.mpr a),λb vs q=>?_,λb o t q=>?_,λb o nb q=>?_⟩
  .rw[zaf (ne_of q h0 (λz=>hn vs z.symm))];exact q
  .rw[zaf (ne_of q h0 (λz=>hf o t z.symm))];exact q
  .rw[zaf (nb i hi).symm];exact q
 refine⟨st,⟨λj hj=>?_,λa b ha hb=>r.inj a b ha hb,?_⟩⟩
 .have hj:j<h.n:=hj
  by_cases e:j=i
  .subst e;exact⟨o,zhj r hj,ho st⟩
  .obtain⟨o',h1,h2⟩:=r.obj j hj
   exact⟨o',(zc4 hi e).trans h1,ORep.stp st (zaf λz=>e (r.inj j i hj hi z)) h2⟩
 .show(h.os.set _ o).length=h.n
  rw[vdg,r.len]
theorem Rel.more(r:Rel K m h H){p:Addr}(hp:H p=none):Stp m h.n H m h.n (upd H p u)/\Rel K m h (upd H p u):=by
 have st:Stp m h.n H m h.n (upd H p u):=by
  refine⟨vad _,λ_ _=>rfl,λj a b=>absurd b (vcf.mpr a),λj k a b=>absurd b (vcf.mpr a),λb vs q=>?_,λb o t q=>?_,λb o nb q=>?_⟩
  .rw[zaf (zag q hp)];exact q
  .rw[zaf (zag q hp)];exact q
  .rw[zaf (zag q hp)];exact q
 refine⟨st,⟨λj hj=>?_,r.inj,r.len⟩⟩
 obtain⟨o',h1,h2⟩:=r.obj j hj
 obtain⟨u',h3⟩:=h2.some
 exact⟨o',h1,ORep.stp st (zaf (zag h3 hp)) h2⟩
end
theorem zsn{α β:Type}{r:Res α}{f:α->VH->Res β}{b:β}(q:r.bind f=.ok b h'):∃a h1,r=.ok a h1/\f a h1=.ok b h':=by
 cases r with
 |ok a h=>exact⟨a,h,rfl,q⟩
 |ex x h=>cases q
 |no=>cases q
theorem zac{α β:Type}{r:Res α}{f:α->VH->Res β}{w:β}{P:Prop}(e:r.bind f=.ok w h')(k:∀x h1,r=.ok x h1->f x h1=.ok w h'->P):P:=by
 obtain⟨x,h1,a,b⟩:=zsn e
 exact k x h1 a b
theorem of_ok{α:Type}{o:Option α}{a:α}(q:Res.of o h=.ok a h'):o=some a/\h'=h:=by
 cases o with
 |none=>cases q
 |some b=>cases q;exact⟨rfl,rfl⟩
structure Fr(K:vga)(m:Nat->Addr)(n:Nat)(H:Hp)(σ:L2.St)(ρ:En):Prop where
 len:σ.length=ρ.length
 val:∀(i:Nat)(w:W),ρ[i]?=some (some w)->∃v,σ[i]?=some (some v)/\VRep K m n H v w
noncomputable abbrev FE:=En->VH->Res W
noncomputable abbrev FS:=En->VH->Res Fl
noncomputable def lft(K:vga)(f:FE):TE:=λσ H Q=>∃ρ h m w h',Fr K m h.n H σ ρ/\Rel K m h H/\f ρ h=.ok w h'/\
 ∀v H' m',Stp m h.n H m' h'.n H'->Rel K m' h' H'->VRep K m' h'.n H' v w->Q v H'
noncomputable def lftT(K:vga)(f:FE):TT:=λσ H Q=>∃ρ h m b h',Fr K m h.n H σ ρ/\Rel K m h H/\f ρ h=.ok (.bl b) h'/\
 ∀H' m',Stp m h.n H m' h'.n H'->Rel K m' h' H'->Q b H'
noncomputable def lftA(K:vga)(f:FE):TA:=λσ H Q=>∃ρ h m ws h',Fr K m h.n H σ ρ/\Rel K m h H/\f ρ h=.ok (.tup ws) h'/\
 ∀vs H' m',Stp m h.n H m' h'.n H'->Rel K m' h' H'->VReps K m' h'.n H' vs ws->Q vs H'
section
variable{K:vga}{m:Nat->Addr}{σ:L2.St}{H:Hp}{P:Prop}{fa:FE}{ρ:En}{h h':VH}
theorem lft.el(q:lft K fa σ H Q)(k:∀ρ h m w h',Fr K m h.n H σ ρ->Rel K m h H->fa ρ h=.ok w h'->(∀v H' m',Stp m h.n H m' h'.n H'->Rel K m' h' H'->VRep K m' h'.n H' v w->Q v H')->P):P:=by
 obtain⟨ρ,h,m,w,h',f,r,e,k'⟩:=q
 exact k ρ h m w h' f r e k'
theorem lft.mk(f:Fr K m h.n H σ ρ)(r:Rel K m h H)(e:fa ρ h=.ok w h')(k:∀v H' m',Stp m h.n H m' h'.n H'->Rel K m' h' H'->VRep K m' h'.n H' v w->Q v H'):lft K fa σ H Q:=⟨ρ,h,m,w,h',f,r,e,k⟩
theorem lftT.el{Q:Bool->Hp->Prop}(q:lftT K fa σ H Q)(k:∀ρ h m b h',Fr K m h.n H σ ρ->Rel K m h H->fa ρ h=.ok (.bl b) h'->(∀H' m',Stp m h.n H m' h'.n H'->Rel K m' h' H'->Q b H')->P):P:=by
 obtain⟨ρ,h,m,w,h',f,r,e,k'⟩:=q
 exact k ρ h m w h' f r e k'
theorem lftT.mk{Q:Bool->Hp->Prop}{b:Bool}(f:Fr K m h.n H σ ρ)(r:Rel K m h H)(e:fa ρ h=.ok (.bl b) h')(k:∀H' m',Stp m h.n H m' h'.n H'->Rel K m' h' H'->Q b H'):lftT K fa σ H Q:=⟨ρ,h,m,b,h',f,r,e,k⟩
theorem lftA.el{Q:List V->Hp->Prop}(q:lftA K fa σ H Q)(k:∀ρ h m ws h',Fr K m h.n H σ ρ->Rel K m h H->fa ρ h=.ok (.tup ws) h'->(∀vs H' m',Stp m h.n H m' h'.n H'->Rel K m' h' H'->VReps K m' h'.n H' vs ws->Q vs H')->P):P:=by
 obtain⟨ρ,h,m,w,h',f,r,e,k'⟩:=q
 exact k ρ h m w h' f r e k'
theorem lftA.mk{Q:List V->Hp->Prop}(f:Fr K m h.n H σ ρ)(r:Rel K m h H)(e:fa ρ h=.ok (.tup ws) h')(k:∀vs H' m',Stp m h.n H m' h'.n H'->Rel K m' h' H'->VReps K m' h'.n H' vs ws->Q vs H'):lftA K fa σ H Q:=⟨ρ,h,m,ws,h',f,r,e,k⟩
end
noncomputable abbrev SE(X:Cx)(e:Expr)(f:FE):Prop:=PE X e (lft X.K f)
noncomputable abbrev ST(X:Cx)(e:Expr)(f:FE):Prop:=PT X e (lftT X.K f)
noncomputable abbrev SW(X:Cx)(e:Expr)(f:FE):Prop:=PW X e (lftT X.K f)
noncomputable abbrev SA(X:Cx)(es:List Expr)(f:FE):Prop:=PA X es (lftA X.K f)
theorem _root_.L2.PE.imp(h:PE X e t)(k:∀σ H Q,t' σ H Q->t σ H Q):PE X e t':=λpins s σ H Q I q=>h pins s σ H Q I (k σ H Q q)
theorem _root_.L2.PT.imp(h:PT X e t)(k:∀σ H Q,t' σ H Q->t σ H Q):PT X e t':=λpins s σ H Q I q=>h pins s σ H Q I (k σ H Q q)
theorem _root_.L2.PW.imp(h:PW X e t)(k:∀σ H Q,t' σ H Q->t σ H Q):PW X e t':=λwh pins s σ H Q I q=>h wh pins s σ H Q I (k σ H Q q)
theorem _root_.L2.PA.imp(h:PA X es t)(k:∀σ H Q,t' σ H Q->t σ H Q):PA X es t':=λp pins s σ H Q I q=>h p pins s σ H Q I (k σ H Q q)
theorem _root_.L2.PS.imp{st:Stmt}(h:PS X st t)(k:∀D σ H,t' D σ H->t D σ H):PS X st t':=λpins s σ H D I q=>h pins s σ H D I (k D σ H q)
theorem _root_.L2.PSs.imp{X:Cx}{st:List Stmt}{t t':TS}(h:PSs X st t)(k:∀D σ H,t' D σ H->t D σ H):PSs X st t':=λpins s σ H D I q=>h pins s σ H D I (k D σ H q)
section
variable{K:vga}{m m':Nat->Addr}{n n':Nat}{h h':VH}{H H':Hp}{σ:L2.St}{ρ:En}
theorem Fr.stp(f:Fr K m n H σ ρ)(s:Stp m n H m' n' H'):Fr K m' n' H' σ ρ:=⟨f.len,λi w e=>let⟨v,h1,h2⟩:=f.val i w e;⟨v,h1,h2.stp s⟩⟩
theorem Fr.set(f:Fr K m n H σ ρ)(q:VRep K m n H v w)(i:Nat):Fr K m n H (σ.set i (some v)) (ρ.set i (some w)):=by
 refine⟨by rw[vdg,vdg];exact f.len,λj w' e=>?_⟩
 by_cases hj:i=j
 .subst hj
  by_cases hl:i<ρ.length
  .rw[vbi hl]at e
   cases e
   exact⟨v,by rw[vbi (by rw[f.len];exact hl)],q⟩
  .rw[vdj (by rw[vdg];omega)]at e;cases e
 .rw[vci hj]at e
  obtain⟨v',h1,h2⟩:=f.val j w' e
  exact⟨v',by rw[vci hj];exact h1,h2⟩
noncomputable def Wants(K:vga)(m:Nat->Addr)(n:Nat)(H:Hp)(w:W)(h':VH)(Q:VK):Prop:=∀v H' m',Stp m n H m' h'.n H'->Rel K m' h' H'->VRep K m' h'.n H' v w->Q v H'
theorem Wants.here(k:Wants K m h.n H w h Q)(r:Rel K m h H)(q:VRep K m h.n H v w):Q v H:=k v H m .refl r q
theorem Wants.list(k:Wants K m h.n H (.ref h.n) (h.new (.lst ws)) Q)(r:Rel K m h H)(q:VReps K m h.n H vs ws){p:Addr}(hp:H p=none):Q (.ref p) (upd H p (.lst vs)):=by
 obtain⟨st,r'⟩:=r.alloc (o:=.lst ws) (u:=.lst vs) hp (λ_ z=>nomatch z) (λst=>⟨vs,zai,q.stp st⟩)
 refine k _ _ _ st r' ?_
 have:VRep K (λi=>if i=h.n then p else m i) (h.n+1) (upd H p (.lst vs)) (.ref ((λi=>if i=h.n then p else m i) h.n)) (.ref h.n):=.ref (vbx _)
 simp only[vbj]at this
 exact this
theorem Wants.dict{ws:List (Key×W)}{vs:List (Key×V)}(k:Wants K m h.n H (.ref h.n) (h.new (.dk ws)) Q)(r:Rel K m h H)(q:KReps K m h.n H vs ws){p:Addr}(hp:H p=none):Q (.ref p) (upd H p (.dK vs)):=by
 obtain⟨st,r'⟩:=r.alloc (o:=.dk ws) (u:=.dK vs) hp (λ_ z=>nomatch z) (λst=>⟨vs,.inl zai,q.stp st⟩)
 refine k _ _ _ st r' ?_
 have:VRep K (λi=>if i=h.n then p else m i) (h.n+1) (upd H p (.dK vs)) (.ref ((λi=>if i=h.n then p else m i) h.n)) (.ref h.n):=.ref (vbx _)
 simp only[vbj]at this
 exact this
theorem Wants.tuple(k:Wants K m h.n H (.tup ws) h Q)(r:Rel K m h H)(q:VReps K m h.n H vs ws){p:Addr}(hp:H p=none):Q (.ref p) (upd H p (.tup vs)):=by
 obtain⟨st,r'⟩:=r.more (u:=.tup vs) hp
 exact k _ _ _ st r' (.tup (SqT.of zai) (q.stp st))
theorem zqw{fa:FE}{g:W->VH->Res W}{G:V->Hp->VK->Prop}
 (hG:∀(m:Nat->Addr)(h:VH)(H:Hp)(v:V)(x w:W)(h':VH)(Q:VK),Rel K m h H->VRep K m h.n H v x->g x h=.ok w h'->Wants K m h.n H w h' Q->G v H Q) {Q:VK}
 (q:lft K (λρ h=>(fa ρ h).bind λx h=>g x h) σ H Q):lft K fa σ H λv H1=>G v H1 Q:=by
 refine q.el λρ h m w h' f r e k=>?_
 refine zac e λx h1 e1 e2=>?_
 exact(.mk f r e1 λv H1 m1 s1 r1 q1=>hG m1 h1 H1 v x w h' Q r1 q1 e2 λv' H' m' s' r' q'=>k v' H' m' (s1.trans s') r' q')
theorem zga{fa fb:FE}{g:W->W->VH->Res W}{G:V->V->Hp->VK->Prop}
 (hG:∀(m:Nat->Addr)(h:VH)(H:Hp)(v u:V)(x y w:W)(h':VH)(Q:VK),Rel K m h H->VRep K m h.n H v x->VRep K m h.n H u y->g x y h=.ok w h'->Wants K m h.n H w h' Q->G v u H Q) {Q:VK}
 (q:lft K (λρ h=>(fa ρ h).bind λx h=>(fb ρ h).bind λy h=>g x y h) σ H Q):lft K fa σ H λv H1=>lft K fb σ H1 λu H2=>G v u H2 Q:=by
 refine q.el λρ h m w h' f r e k=>?_
 refine zac e λx h1 e1 e2=>?_
 refine zac e2 λy h2 e3 e4=>?_
 refine(.mk f r e1 λv H1 m1 s1 r1 q1=>(.mk (f.stp s1) r1 e3 λu H2 m2 s2 r2 q2=>?_))
 exact hG m2 h2 H2 v u x y w h' Q r2 (q1.stp s2) q2 e4 λv' H' m' s' r' q'=>k v' H' m' ((s1.trans s2).trans s') r' q'
theorem zc5{fa:FE}{g:List W->VH->Res W}{G:List V->Hp->VK->Prop}
 (hG:∀(m:Nat->Addr)(h:VH)(H:Hp)(vs:List V)(xs:List W)(w:W)(h':VH)(Q:VK),Rel K m h H->VReps K m h.n H vs xs->g xs h=.ok w h'->Wants K m h.n H w h' Q->G vs H Q) {Q:VK}
 (q:lft K (λρ h=>(fa ρ h).bind λy h=>match y with|.tup ys=>g ys h|_=>.no) σ H Q):lftA K fa σ H λvs H1=>G vs H1 Q:=by
 refine q.el λρ h m w h' f r e k=>?_
 refine zac e λx h1 e1 e2=>?_
 cases x with
 |tup ys=>exact(.mk f r e1 λvs H1 m1 s1 r1 q1=>hG m1 h1 H1 vs ys w h' Q r1 q1 e2 λv' H' m' s' r' q'=>k v' H' m' (s1.trans s') r' q')
 |_=>cases e2
theorem zje{Q:Bool->Hp->Prop}(q:lftT K f σ H Q):lft K f σ H λx H'=>∃k,x=.bl k/\Q k H':=by
 refine q.el λρ h m b h' f r e k=>?_
 exact(.mk f r e λv H' m' s' r' q'=>by cases q';exact⟨b,rfl,k H' m' s' r'⟩)
end
section
variable{X:Cx}{a b c e:Expr}{es:List Expr}{fa fb fc:FE}{pos:Pos}
theorem zvg{i:Nat}{x:Str}(hN:X.N[i]?=some x)(hv:Vis X.env.scope x)(hd:(x==("__debug__" : Str))=false)(hcd:(x==("__classdict__" : Str))=false):SE X (.Name x pos) (λρ h=>.of (ρ[i]?).join h):=
 (zi8 hN hv hd hcd).imp λσ H Q z9=>z9.el λρ h m w h' f r e k=>by
   obtain⟨e1,e2⟩:=of_ok e
   subst e2
   have e3:ρ[i]?=some (some w):=by
    cases q:ρ[i]? with
    |none=>rw[q]at e1;cases e1
    |some o=>rw[q]at e1;rw[<-e1];rfl
   obtain⟨v,h1,h2⟩:=f.val i w e3
   exact⟨v,h1,k v H m .refl r h2⟩
theorem zhk(h:PE X e (tC v))(hv:∀m n H,VRep X.K m n H v w):SE X e (λ_ h=>.ok w h):=
 h.imp λσ H Q z9=>z9.el λρ h m w h' f r e k=>by cases e;exact k v H m .refl r (hv m h.n H)
theorem zvh{i j pos}:SE X (.Constant (.int i) j pos) (λ_ h=>.ok (.int i) h):=zhk zqj λ_ _ _=>.int i
theorem se_bl{i j pos}:SE X (.Constant (.bool i) j pos) (λ_ h=>.ok (.bl i) h):=zhk pe_bl λ_ _ _=>.bl i
theorem zvi{j pos}:SE X (.Constant .none j pos) (λ_ h=>.ok .non h):=zhk zuc λ_ _ _=>.non
theorem zvj{i j pos}:SE X (.Constant (.str i) j pos) (λ_ h=>.ok (.str i) h):=zhk zk4 λ_ _ _=>.str i
theorem zmd:SA X [] (λ_ h=>.ok (.tup []) h):=zb6.imp λσ H Q z9=>z9.el λρ h m ws h' f r e k=>by cases e;exact k [] H m .refl r .nil
theorem zgb(ha:SE X e fa)(hr:SA X es fb)(hs:starEach (e::es) X.env=(false,eval e X.env)::starEach es X.env) :
 SA X (e::es) (λρ h=>(fa ρ h).bind λx h=>(fb ρ h).bind λy h=>match y with|.tup ys=>.ok (.tup (x::ys)) h|_=>.no):=
 (zbc ha hr hs).imp λσ H Q z9=>z9.el λρ h m ws h' f r e k=>by
   refine zac e λx h1 e1 e2=>?_
   refine zac e2 λy h2 e3 e4=>?_
   cases y with
   |tup ys=>
    cases e4
    exact(.mk f r e1 λv H1 m1 s1 r1 q1=>(.mk (f.stp s1) r1 e3 λvs H2 m2 s2 r2 q2=>k _ H2 m2 (s1.trans s2) r2 (.cons (q1.stp s2) q2)))
   |_=>cases e4
theorem zqx{k:Nat}(h:Nat.ble k 1000=true):k<=sizeLine:=vdr (zed (va5 h))
theorem zvk{x1:Nat}(ha:SA X es fa):SE X (.Tuple es x1 pos) (λρ h=>(fa ρ h).bind λy h=>match y with|.tup ys=>(if Nat.ble ys.length 1000 then .ok (.tup ys) h else .no)|_=>.no):=
 (zuz ha).imp λσ H Q q=>zc5 (g:=λys h=>if Nat.ble ys.length 1000 then .ok (.tup ys) h else .no) (G:=λxs H1 Q=>xs.length<=sizeLine/\∀p,H1 p=none->Q (.ref p) (upd H1 p (.tup xs)))
   (λm h H vs xs w h' Q r q e k=>by
     split at e
     .rename_i hl
      cases e
      exact⟨by rw[q.length];exact zqx hl,λp hp=>Wants.tuple k r q hp⟩
     .cases e) q
theorem zvl(ha:SA X es fa):SE X (.List es pos) (λρ h=>(fa ρ h).bind λy h=>match y with|.tup ys=>(if Nat.ble ys.length 1000 then .ok (.ref h.n) (h.new (.lst ys))else .no)|_=>.no):=
 (zln ha).imp λσ H Q q=>zc5 (g:=λys h=>if Nat.ble ys.length 1000 then .ok (.ref h.n) (h.new (.lst ys))else .no) (G:=λxs H1 Q=>xs.length<=sizeLine/\∀p,H1 p=none->Q (.ref p) (upd H1 p (.lst xs)))
   (λm h H vs xs w h' Q r q e k=>by
     split at e
     .rename_i hl
      cases e
      exact⟨by rw[q.length];exact zqx hl,λp hp=>Wants.list k r q hp⟩
     .cases e) q
noncomputable def OpV(K:vga)(r:R2)(g:W->W->VH->Res W):Prop:=∀(m:Nat->Addr) (h:VH) (H:Hp) (v u:V) (x y w:W) (h':VH) (Q:VK),Rel K m h H->VRep K m h.n H v x->VRep K m h.n H u y->g x y h=.ok w h'->Wants K m h.n H w h' Q->r v u H Q
theorem se_op{O:Operator}{r:R2}{g:W->W->VH->Res W}(ho:OpR X (binaryOp O) r)(hg:OpV X.K r g)(ha:SE X a fa)(hb:SE X b fb):SE X (.BinOp a O b pos) (λρ h=>(fa ρ h).bind λx h=>(fb ρ h).bind λy h=>g x y h):=
 (pe_op ho ha hb).imp λσ H Q q=>zga (G:=r) hg q
noncomputable def opOf:Operator->Option Op
 |.Add=>some .add|.Sub=>some .sub|.Mult=>some .mul|.FloorDiv=>some .fdiv|.Mod=>some .mod|.Pow=>some .pow
 |_=>none
noncomputable def cI:Op->Int->Int->Prop
 |.mul=>CMul|.fdiv=>CDiv|.mod=>λ_ j=>0<j|.shl=>CPow|.pow=>CPow
 |_=>λ_ _=>True
noncomputable def gI:Op->Int->Int->Int
 |.add=>(· + ·)|.sub=>(· - ·)|.mul=>(· * ·)|.fdiv=>(· / ·)|.mod=>(· % ·)|.shl=>λi j=>i*2 ^ j.toNat|.pow=>λi j=>i ^ j.toNat
noncomputable def rX(K:vga):Op->R2
 |.add=>λx y H Q=>rCatT K x y H Q\/zqu K x y H Q\/rCat x y H Q
 |.mul=>λx y H Q=>rRepT K x y H Q
 |_=>λ_ _ _ _=>False
noncomputable def rB(K:vga)(o:Op):R2:=λx y H Q=>rI (cI o) (λi j=>.int (gI o i j)) x y H Q\/rX K o x y H Q
theorem zc6{f:Value->Value->Sem Value}{r r':R2}(h:OpR X f r)(k:∀x y H Q,r' x y H Q->r x y H Q):OpR X f r':=λpins s σ H x y v u Q I rx ry q=>h pins s σ H x y v u Q I rx ry (k _ _ _ _ q)
theorem op_ok{O:Operator}(e:opOf O=some o):OpR X (binaryOp O) (rB X.K o):=by
 have tr:∀{g:Int->Int->V}{x y H Q},rI (λ_ _=>True) g x y H Q->rI0 g x y H Q:=λ⟨i,j,h1,h2,_,h3⟩=>⟨i,j,h1,h2,h3⟩
 cases O<;>cases e
 .exact zc6 (zur.or (zr7.or (zo9.or zlu))) λx y H Q q=>q.elim (λz=>.inl (tr z)) .inr
 .exact zc6 zus λx y H Q q=>q.elim (λz=>tr z) λz=>z.elim
 .exact zc6 (zut.or zsi) λx y H Q q=>q
 .exact zc6 zuu λx y H Q q=>q.elim id λz=>z.elim
 .exact zc6 zuv λx y H Q q=>q.elim id λz=>z.elim
 .exact zc6 zr0 λx y H Q q=>q.elim id λz=>z.elim
theorem zej{i:Int}(h:zbj i=true):-(2 ^ 64)<i/\i<2 ^ 64:=by
 unfold zbj at h
 rw[vaa]at h
 exact⟨vbd h.1,vbd h.2⟩
theorem zme{i j z:Int}(e:opI o i j=some z):cI o i j/\z=gI o i j:=by
 cases o<;>simp only[opI]at e
 .cases e;exact⟨trivial,rfl⟩
 .cases e;exact⟨trivial,rfl⟩
 .split at e
  .rename_i hc
   cases e
   rw[vcp]at hc
   exact⟨hc.elim (λq=>.inl (zej q)) (λq=>.inr (zej q)),rfl⟩
  .cases e
 .split at e
  .rename_i hc
   cases e
   rw[vaa]at hc
   exact⟨⟨vbd hc.1,vbd hc.2⟩,rfl⟩
  .cases e
 .split at e
  .rename_i hc
   cases e
   exact⟨(vbd hc:0<j),rfl⟩
  .cases e
 .split at e
  .rename_i hc
   cases e
   rw[vaa,vaa]at hc
   exact⟨⟨vbd hc.1.1,vbd hc.1.2,vbd hc.2⟩,rfl⟩
  .cases e
 .split at e
  .rename_i hc
   cases e
   rw[vaa,vaa]at hc
   exact⟨⟨vbd hc.1.1,vbd hc.1.2,vbd hc.2⟩,rfl⟩
  .cases e
theorem zio{i:Int}(h:fits i=true):-(2 ^ 62)<=i/\i<2 ^ 62:=by
 unfold fits at h
 rw[vaa]at h
 exact⟨vbd h.1,vbd h.2⟩
theorem zso{k:Int}(e:repW o xs k=some zs):o=.mul/\(-(2 ^ 62)<=k/\k<2 ^ 62)/\xs.length*k.toNat<=sizeLine/\zs=(vgc k.toNat xs).flatten:=by
 unfold repW at e
 split at e
 .split at e
  .rename_i hc
   cases e
   rw[vaa]at hc
   exact⟨rfl,zio hc.1,va5 hc.2,rfl⟩
  .cases e
 .cases e
theorem VReps.rep{K:vga}{m:Nat->Addr}{n:Nat}{H:Hp}{vs:List V}{ws:List W}(q:VReps K m n H vs ws):∀k:Nat,VReps K m n H (vgc k vs).flatten (vgc k ws).flatten
 |0=>.nil
 |k+1=>by
  rw[vbe,vbe,vcl,vcl]
  exact q.append (VReps.rep q k)
theorem ziq{K:vga}{m:Nat->Addr}{n:Nat}{H:Hp}{vs:List V}{ws:List W}(q:VReps K m n H vs ws):vs.isEmpty=ws.isEmpty:=by cases q<;>rfl
theorem zpe{k:Int}(h:(ws.isEmpty||k==1)=true):(vgc k.toNat ws).flatten=ws:=by
 rw[vcp]at h
 rcases h with h|h
 .have:ws=[]:=by simpa using h
  subst this
  induction k.toNat with
  |zero=>rfl
  |succ j ih=>rw[vbe,vcl,ih];rfl
 .have:k=1:=by simpa using h
  subst this
  show(vgc 1 ws).flatten=ws
  simp
theorem zvm{K:vga}(o:Op):OpV K (rB K o) (opW o):=by
 intro m h H v u x y w h' Q r qv qu e k
 unfold opW at e
 split at e
 .rename_i i j
  obtain⟨e,rfl⟩:=of_ok e
  cases qv;cases qu
  cases q:opI o i j with
  |none=>rw[q]at e;cases e
  |some z=>
   rw[q]at e;cases e
   obtain⟨h1,rfl⟩:=zme q
   exact .inl ⟨i,j,rfl,rfl,h1,Wants.here k r (.int _)⟩
 .rename_i xs ys
  obtain⟨e,rfl⟩:=of_ok e
  cases q:opT o xs ys with
  |none=>rw[q]at e;cases e
  |some zs=>
   rw[q]at e;cases e
   cases o<;>simp only[opT]at q
   split at q
   .rename_i hc
    cases q
    cases qv with
    |tup qa ra=>
     cases qu with
     |tup qb rb=>
      rename_i a va b vb
      have hl:=va5 hc
      cases xs with
      |nil=>
       cases ra
       exact .inr (.inr (.inl ⟨a,b,vb,rfl,rfl,qa,qb,Wants.here k r (.tup qb rb)⟩))
      |cons x0 xs0=>
       refine .inr (.inl ⟨a,b,va,vb,rfl,rfl,qa,qb,λz=>?_,by rw[ra.length,rb.length];exact hl,λz=>?_,λ_ p hp=>Wants.tuple k r (ra.append rb) hp⟩)
       .subst z;cases ra
       .subst z;cases rb
        rw[vbc]at k
        exact Wants.here k r (.tup qa ra)
   .cases q
   all_goals cases q
 .rename_i xs kk
  obtain⟨e,rfl⟩:=of_ok e
  cases q:repW o xs kk with
  |none=>rw[q]at e;cases e
  |some zs=>
   rw[q]at e;cases e
   obtain⟨rfl,⟨k1,k2⟩,hz,rfl⟩:=zso q
   cases qu
   cases qv with
   |tup qa ra=>
    rename_i a va
    refine .inr ⟨a,kk,va,rfl,rfl,qa,k1,k2,by rw[ra.length];exact hz,λz=>?_,λz p hp=>Wants.tuple k r (ra.rep _) hp⟩
    rw[ziq ra]at z
    rw[zpe z]at k
    exact Wants.here k r (.tup qa ra)
 .rename_i i j
  split at e
  .rename_i xs ys hx hy
   split at e
   .rename_i zs q
    cases e
    cases o<;>simp only[opL]at q
    split at q
    .rename_i hc
     cases q
     obtain⟨va,pa,ra⟩:=r.lst hx
     obtain⟨vb,pb,rb⟩:=r.lst hy
     cases qv;cases qu
     exact .inr (.inr (.inr ⟨m i,m j,va,vb,rfl,rfl,pa,pb,by rw[ra.length,rb.length];exact va5 hc,λp hp=>Wants.list k r (ra.append rb) hp⟩))
    .cases q
    all_goals cases q
   .cases e
  .cases e
 .cases e
end
section
variable{K:vga}{m:Nat->Addr}{h:VH}{H:Hp}
theorem zhl{f:W->Option PyData}(ih:∀(w:W) (d:PyData) (v:V),f w=some d->VRep K m h.n H v w->Rp K (λ_=>False) H v d):∀{ws:List W} {ds:List PyData} {vs:List V},mapO f ws=some ds->VReps K m h.n H vs ws->Rps K (λ_=>False) H vs ds
 |[],ds,_,e,.nil=>by cases e;exact .nil
 |w::ws,ds,_,e,.cons q r=>by
  unfold mapO at e
  split at e
  .rename_i d hd
   split at e
   .rename_i bs hb
    cases e
    exact .cons (ih w d _ hd q) (zhl ih hb r)
   .cases e
  .cases e
theorem rp_of(r:Rel K m h H):∀(n:Nat) (w:W) (d:PyData) (v:V),toD h n w=some d->VRep K m h.n H v w->Rp K (λ_=>False) H v d
 |0,_,_,_,e,_=>by cases e
 |n+1,w,d,v,e,q=>by
  cases q with
  |non=>cases e;exact .non
  |bl b=>cases e;exact .bl b
  |int b=>cases e;exact .int b
  |str b=>cases e;exact .str b
  | @tup a vs ws sq rs=>
   simp only[toD]at e
   cases z:mapO (toD h n) ws with
   |none=>rw[z]at e;cases e
   |some ds=>rw[z]at e;cases e;exact .tup sq (λz=>z) (zhl (rp_of r n) z rs)
  | @fz a vs ws sq rs=>
   simp only[toD]at e
   cases z:mapO (toD h n) ws with
   |none=>rw[z]at e;cases e
   |some ds=>rw[z]at e;cases e;exact .lst sq.sq (λz=>z) (zhl (rp_of r n) z rs)
  | @ref i hi=>
   simp only[toD]at e
   cases g:h.get i with
   |none=>rw[g]at e;cases e
   |some o=>
    rw[g]at e
    cases o with
    |dk _=>cases e
    |lst ws=>
     obtain⟨vs,h1,h2⟩:=r.lst g
     simp only at e
     cases z:mapO (toD h n) ws with
     |none=>rw[z]at e;cases e
     |some ds=>rw[z]at e;cases e;exact .lst (SqL.of h1) (λz=>z) (zhl (rp_of r n) z h2)
theorem zqy(r:Rel K m h H){b:Bool}(e:eqW h x y=some b)(qv:VRep K m h.n H v x)(qu:VRep K m h.n H u y) :
 ∃d e',Rp K (λ_=>False) H v d/\Rp K (λ_=>False) H u e'/\SeqAt.shaped d=true/\SeqAt.shaped e'=true/\b=PyData.eqv d e':=by
 unfold eqW at e
 split at e
 .rename_i d e' h1 h2
  split at e
  .rename_i hc
   cases e
   rw[vaa]at hc
   exact⟨d,e',rp_of r _ _ _ _ h1 qv,rp_of r _ _ _ _ h2 qu,hc.1,hc.2,rfl⟩
  .cases e
 .cases e
end
theorem zc7{K:vga}{m:Nat->Addr}{h:VH}{H:Hp}{v:V}{w:W}{ws:List W}(r:Rel K m h H)(q:VRep K m h.n H v w)(e:seqW h w=some ws):∃p vs,v=.ref p/\(SqL K H p vs\/SqT K H p vs)/\VReps K m h.n H vs ws:=by
 cases q<;>try cases e
 .exact⟨_,_,rfl,.inr ‹_›,‹_›⟩
 .rename_i q _;exact⟨_,_,rfl,.inl q.sq,‹_›⟩
 .rename_i i hi
  simp only[seqW]at e
  cases g:h.get i with
  |none=>rw[g]at e;cases e
  |some o=>
   rw[g]at e
   cases o with
   |dk _=>cases e
   |lst ws=>
    cases e
    obtain⟨vs,h1,h2⟩:=r.lst g
    exact⟨_,vs,rfl,.inl (SqL.of h1),h2⟩
theorem zqz{K:vga}{m:Nat->Addr}{h:VH}{H:Hp}(r:Rel K m h H){x y:W}{v u:V}{b:Bool}(e:inW h x y=some b)(qv:VRep K m h.n H v x)(qu:VRep K m h.n H u y) :
 (∃p vs ds d,u=.ref p/\(SqL K H p vs\/SqT K H p vs)/\Rps K (λ_=>False) H vs ds/\Rp K (λ_=>False) H v d/\ds.all SeqAt.shaped=true/\SeqAt.shaped d=true/\b=anyEq ds d):=by
 unfold inW at e
 split at e
 .rename_i ws d h1 h2
  split at e
  .rename_i ds h3
   split at e
   .rename_i hc
    cases e
    rw[vaa]at hc
    obtain⟨p,vs,rfl,h4,h5⟩:=zc7 r qu h1
    exact⟨p,vs,ds,d,rfl,h4,zhl (rp_of r 24) h3 h5,rp_of r _ _ _ _ h2 qv,hc.1,hc.2,rfl⟩
   .cases e
  .cases e
 .cases e
noncomputable def cpOf:CmpOp->Option Cp
 |.Eq=>some .eq|.NotEq=>some .ne|.Lt=>some .lt|.LtE=>some .le|.Gt=>some .gt|.GtE=>some .ge|.Is=>some .isn|.IsNot=>some .notn|.In=>some .inn|.NotIn=>some .nin
noncomputable def rC(K:vga):Cp->R2
 |.eq=>rEqD K
 |.ne=>rNeD K
 |.lt=>rI0 λi j=>.bl (decide (i<j))
 |.le=>rI0 λi j=>.bl (decide (i<=j))
 |.gt=>rI0 λi j=>.bl (decide (j<i))
 |.ge=>rI0 λi j=>.bl (decide (j<=i))
 |.isn=>λx y H Q=>(y=.non/\Q (.bl (decide (x=.non))) H)\/∃c b,x=.bl c/\y=.bl b/\Q (.bl (c==b)) H
 |.notn=>λx y H Q=>(y=.non/\Q (.bl (!decide (x=.non))) H)\/∃c b,x=.bl c/\y=.bl b/\Q (.bl (!(c==b))) H
 |.inn=>λx y H Q=>rInD K false x y H Q
 |.nin=>λx y H Q=>rInD K true x y H Q
noncomputable def zb7:Expr->Bool
 |.Set ..=>false
 |_=>true
theorem zir{op:CmpOp}(h:zb7 b=true):behindInMarks op b=false:=by
 cases b<;>first|rfl|cases h
section
variable{X:Cx}{a b c e:Expr}{es:List Expr}{fa fb fc:FE}{pos:Pos}
theorem zvn:OpR X (compareOp .Is) (λx y H Q=>∃c b,x=.bl c/\y=.bl b/\Q (.bl (c==b)) H):=by
 intro pins s σ H x y v u Q I rx ry h
 obtain⟨c,b,rfl,rfl,q⟩:=h
 cases rx;cases ry
 exact wpAny_is_plain rfl (zar I q (by cases c<;>cases b<;>rfl))
theorem zmf:OpR X (compareOp .IsNot) (λx y H Q=>∃c b,x=.bl c/\y=.bl b/\Q (.bl (!(c==b))) H):=by
 intro pins s σ H x y v u Q I rx ry h
 obtain⟨c,b,rfl,rfl,q⟩:=h
 cases rx;cases ry
 exact wpAny_isNot_plain rfl (zar I q (by cases c<;>cases b<;>rfl))
theorem zfd(hu:X.A.units+65<cLine){O:CmpOp}{c:Cp}(e:cpOf O=some c):OpR X (compareOp O) (rC X.K c):=by
 cases O<;>cases e
 .exact zu5 (by omega)
 .exact zu6 (by omega)
 .exact op_lt
 .exact op_le
 .exact op_gt
 .exact op_ge
 .exact zux.or zvn
 .exact zr2.or zmf
 .exact zva (by show X.A.units+1+64<cLine;omega)
 .exact zl8 (by show X.A.units+1+64<cLine;omega)
theorem zd0{K:vga}{m:Nat->Addr}{n:Nat}{H:Hp}{v:V}{w:W}(q:VRep K m n H v w):isNon w=decide (v=.non):=by
 cases q<;>simp[isNon]
theorem zgc{K:vga}(c:Cp):OpV K (rC K c) (λx y h=>.of ((cmpW c h x y).map .bl) h):=by
 intro m h H v u x y w h' Q r qv qu e k
 obtain⟨e,rfl⟩:=of_ok e
 cases z:cmpW c h' x y with
 |none=>rw[z]at e;cases e
 |some b=>
  rw[z]at e;cases e
  have fin:Q (.bl b) H:=Wants.here k r (.bl b)
  unfold cmpW at z
  split at z
  .obtain⟨p,vs,ds,d,h1,h2,h3,h4,h5,h6,rfl⟩:=zqz r z qv qu
   exact⟨p,vs,ds,d,h1,h2,h3,h4,h5,h6,fin⟩
  .cases z2:inW h' x y with
   |none=>rw[z2]at z;cases z
   |some b2=>
    rw[z2]at z;cases z
    obtain⟨p,vs,ds,d,h1,h2,h3,h4,h5,h6,rfl⟩:=zqz r z2 qv qu
    exact⟨p,vs,ds,d,h1,h2,h3,h4,h5,h6,fin⟩
  .obtain⟨d,e',h1,h2,h3,h4,rfl⟩:=zqy r z qv qu
   exact⟨d,e',h1,h2,h3,h4,fin⟩
  .cases z2:eqW h' x y with
   |none=>rw[z2]at z;cases z
   |some b2=>
    rw[z2]at z;cases z
    obtain⟨d,e',h1,h2,h3,h4,rfl⟩:=zqy r z2 qv qu
    exact⟨d,e',h1,h2,h3,h4,fin⟩
  .split at z
   .rename_i hn
    cases z
    have:=zd0 qu
    rw[hn]at this
    refine .inl ⟨vbd this.symm,?_⟩
    rw[<-zd0 qv];exact fin
   .unfold isB at z
    split at z
    .rename_i c b
     cases z
     cases qv;cases qu
     exact .inr ⟨_,_,rfl,rfl,fin⟩
    .cases z
  .split at z
   .rename_i hn
    cases z
    have:=zd0 qu
    rw[hn]at this
    refine .inl ⟨vbd this.symm,?_⟩
    rw[<-zd0 qv];exact fin
   .cases z2:isB x y with
    |none=>rw[z2]at z;cases z
    |some b2=>
     rw[z2]at z;cases z
     unfold isB at z2
     split at z2
     .rename_i c b
      cases z2
      cases qv;cases qu
      exact .inr ⟨_,_,rfl,rfl,fin⟩
     .cases z2
  .split at z
   .rename_i i j
    cases qv;cases qu
    cases c<;>simp only[cmpI]at z<;>cases z<;>exact⟨i,j,rfl,rfl,fin⟩
   .cases z
theorem zvo(hu:X.A.units+65<cLine){O:CmpOp}{c:Cp}(e:cpOf O=some c)(hs:zb7 b=true)(ha:SE X a fa)(hb:SE X b fb) :
 SE X (.Compare a [O] [b] pos) (λρ h=>(fa ρ h).bind λx h=>(fb ρ h).bind λy h=>.of ((cmpW c h x y).map .bl) h):=
 (zlh (zfd hu e) ha hb (zir hs)).imp λσ H Q q=>zga (G:=rC X.K c) (zgc c) q
theorem zvp(hu:X.A.units+65<cLine){O:CmpOp}{c:Cp}(e:cpOf O=some c)(hs:zb7 b=true)(ha:SE X a fa)(hb:SE X b fb) :
 ST X (.Compare a [O] [b] pos) (λρ h=>(fa ρ h).bind λx h=>(fb ρ h).bind λy h=>.of ((cmpW c h x y).map .bl) h):=
 (zli (zfd hu e) ha hb (zir hs)).imp λσ H Q q=>zga (G:=rC X.K c) (zgc c) (zje q)
theorem lm2{O O':CmpOp}(h:zb7 b=true):lastMarks [O,O'] [a,b]=false:=zir h
theorem zhm{K:vga}{c1 c2:Cp}{σ:L2.St}{H:Hp}{Q:VK}
 (q:lft K (λρ h=>(fa ρ h).bind λx h=>(fb ρ h).bind λy h=>match cmpW c1 h x y with
   |some true=>(fc ρ h).bind λz h=>.of ((cmpW c2 h y z).map .bl) h
   |some false=>.ok (.bl false) h
   |none=>.no) σ H Q):zlj (rC K c1) (rC K c2) (lft K fa) (lft K fb) (lft K fc) σ H Q:=by
 refine q.el λρ h m w h' f r e k=>?_
 refine zac e λx h1 e1 e2=>?_
 refine zac e2 λy h2 e3 e4=>?_
 refine(.mk f r e1 λv H1 m1 s1 r1 q1=>(.mk (f.stp s1) r1 e3 λu H2 m2 s2 r2 q2=>?_))
 have f2:=(f.stp s1).stp s2
 have k2:Wants K m2 h2.n H2 w h' Q:=λv' H' m' s' r' q'=>k v' H' m' ((s1.trans s2).trans s') r' q'
 cases z:cmpW c1 h2 x y with
 |none=>rw[z]at e4;cases e4
 |some b=>
  rw[z]at e4
  refine zgc c1 m2 h2 H2 v u x y (.bl b) h2 _ r2 (q1.stp s2) q2 (by show Res.of ((cmpW c1 h2 x y).map W.bl) h2=_;rw[z];rfl) λv3 H3 m3 s3 r3 q3=>?_
  cases q3
  refine⟨b,rfl,?_⟩
  cases b with
  |true=>
   refine zac e4 λz' h4 e5 e6=>?_
   rw[if_pos rfl]
   refine⟨ρ,h2,m3,z',h4,f2.stp s3,r3,e5,λv4 H4 m4 s4 r4 q4=>?_⟩
   exact zgc c2 m4 h4 H4 u v4 y z' w h' Q r4 ((q2.stp s3).stp s4) q4 e6 λv' H' m' s' r' q'=>k2 v' H' m' ((s3.trans s4).trans s') r' q'
  |false=>
   cases e4
   simp only[vaq,vbo]
   exact k2 _ H3 m3 s3 r3 (.bl false)
theorem zvq(hu:X.A.units+65<cLine){O O':CmpOp}(e:cpOf O=some c1)(e':cpOf O'=some c2)(hs:zb7 c=true)(ha:SE X a fa)(hb:SE X b fb)(hc:SE X c fc) :
 SE X (.Compare a [O,O'] [b,c] pos) (λρ h=>(fa ρ h).bind λx h=>(fb ρ h).bind λy h=>match cmpW c1 h x y with
  |some true=>(fc ρ h).bind λz h=>.of ((cmpW c2 h y z).map .bl) h
  |some false=>.ok (.bl false) h
  |none=>.no):=(zor (zfd hu e) (zfd hu e') ha hb hc (lm2 hs)).imp λσ H Q q=>zhm q
theorem zvr(hu:X.A.units+65<cLine){O O':CmpOp}(e:cpOf O=some c1)(e':cpOf O'=some c2)(hs:zb7 c=true)(ha:SE X a fa)(hb:SE X b fb)(hc:SE X c fc) :
 ST X (.Compare a [O,O'] [b,c] pos) (λρ h=>(fa ρ h).bind λx h=>(fb ρ h).bind λy h=>match cmpW c1 h x y with
  |some true=>(fc ρ h).bind λz h=>.of ((cmpW c2 h y z).map .bl) h
  |some false=>.ok (.bl false) h
  |none=>.no):=(zos (zfd hu e) (zfd hu e') ha hb hc (lm2 hs)).imp λσ H Q q=>zhm (zje q)
noncomputable abbrev gNot(fa:FE):FE:=λρ h=>(fa ρ h).bind λx h=>match x with|.bl b=>.ok (.bl (!b)) h|_=>.no
noncomputable abbrev gAnd(fa fb:FE):FE:=λρ h=>(fa ρ h).bind λx h=>match x with|.bl true=>fb ρ h|.bl false=>.ok (.bl false) h|_=>.no
noncomputable abbrev gOr(fa fb:FE):FE:=λρ h=>(fa ρ h).bind λx h=>match x with|.bl true=>.ok (.bl true) h|.bl false=>fb ρ h|_=>.no
noncomputable abbrev gIte(fa fb fc:FE):FE:=λρ h=>(fa ρ h).bind λx h=>match x with|.bl true=>fb ρ h|.bl false=>fc ρ h|_=>.no
variable{rest:List Expr}
theorem zvs(ha:ST X a fa):ST X (.UnaryOp .Not a pos) (gNot fa):=(zk7 ha).imp λσ H Q z9=>z9.el λρ h m b h' f r e k=>by
 refine zac e λx h1 e1 e2=>?_
 cases x<;>try cases e2
 rename_i b
 exact(.mk f r e1 λH' m' s' r'=>k H' m' s' r')
theorem zvt(ha:SE X a fa):SE X (.UnaryOp .Not a pos) (gNot fa):=(zug ha).imp λσ H Q z9=>z9.el λρ h m b h' f r e k=>by
 refine zac e λx h1 e1 e2=>?_
 cases x<;>try cases e2
 rename_i b
 exact(.mk f r e1 λv H' m' s' r' q=>by cases q;exact⟨b,rfl,k _ H' m' s' r' (.bl _)⟩)
theorem zq0{op:BoolOp}(ha:ST X a fa):SW X (.BoolOp op [a] pos) fa:=by
 cases op
 .exact zrw ha
 .exact zql ha
theorem zvu(ha:ST X a fa)(hb:SW X (.BoolOp .And (b::rest) pos) fb):SW X (.BoolOp .And (a::b::rest) pos) (gAnd fa fb):=(zud ha hb).imp λσ H Q z9=>z9.el λρ h m b h' f r e k=>by
 refine zac e λx h1 e1 e2=>?_
 cases x<;>try cases e2
 rename_i c
 refine(.mk f r e1 λH1 m1 s1 r1=>?_)
 cases c with
 |true=>rw[if_pos rfl];exact(.mk (f.stp s1) r1 e2 λH' m' s' r'=>k H' m' (s1.trans s') r')
 |false=>cases e2;simp only[vaq,vbo];exact k H1 m1 s1 r1
theorem sw_or(ha:ST X a fa)(hb:SW X (.BoolOp .Or (b::rest) pos) fb):SW X (.BoolOp .Or (a::b::rest) pos) (gOr fa fb):=(pw_or ha hb).imp λσ H Q z9=>z9.el λρ h m b h' f r e k=>by
 refine zac e λx h1 e1 e2=>?_
 cases x<;>try cases e2
 rename_i c
 refine(.mk f r e1 λH1 m1 s1 r1=>?_)
 cases c with
 |true=>cases e2;rw[if_pos rfl];exact k H1 m1 s1 r1
 |false=>simp only[vaq,vbo];exact(.mk (f.stp s1) r1 e2 λH' m' s' r'=>k H' m' (s1.trans s') r')
theorem zq1{op:BoolOp}(ha:SE X a fa):SE X (.BoolOp op [a] pos) fa:=zue ha
theorem zvv(ha:SE X a fa)(hb:SE X (.BoolOp .And (b::rest) pos) fb):SE X (.BoolOp .And (a::b::rest) pos) (gAnd fa fb):=(zuf ha hb).imp λσ H Q z9=>z9.el λρ h m w h' f r e k=>by
 refine zac e λx h1 e1 e2=>?_
 cases x<;>try cases e2
 rename_i c
 refine(.mk f r e1 λv H1 m1 s1 r1 q1=>?_)
 cases q1
 refine⟨c,rfl,?_⟩
 cases c with
 |true=>rw[if_pos rfl];exact(.mk (f.stp s1) r1 e2 λv H' m' s' r' q'=>k v H' m' (s1.trans s') r' q')
 |false=>cases e2;simp only[vaq,vbo];exact k _ H1 m1 s1 r1 (.bl false)
theorem se_or(ha:SE X a fa)(hb:SE X (.BoolOp .Or (b::rest) pos) fb):SE X (.BoolOp .Or (a::b::rest) pos) (gOr fa fb):=(pe_or ha hb).imp λσ H Q z9=>z9.el λρ h m w h' f r e k=>by
 refine zac e λx h1 e1 e2=>?_
 cases x<;>try cases e2
 rename_i c
 refine(.mk f r e1 λv H1 m1 s1 r1 q1=>?_)
 cases q1
 refine⟨c,rfl,?_⟩
 cases c with
 |true=>cases e2;rw[if_pos rfl];exact k _ H1 m1 s1 r1 (.bl true)
 |false=>simp only[vaq,vbo];exact(.mk (f.stp s1) r1 e2 λv H' m' s' r' q'=>k v H' m' (s1.trans s') r' q')
theorem zvw(hc:ST X c fc)(ha:SE X a fa)(hb:SE X b fb):SE X (.IfExp c a b pos) (gIte fc fa fb):=(zok hc ha hb).imp λσ H Q z9=>z9.el λρ h m w h' f r e k=>by
 refine zac e λx h1 e1 e2=>?_
 cases x<;>try cases e2
 rename_i c
 refine(.mk f r e1 λH1 m1 s1 r1=>?_)
 cases c with
 |true=>rw[if_pos rfl];exact(.mk (f.stp s1) r1 e2 λv H' m' s' r' q'=>k v H' m' (s1.trans s') r' q')
 |false=>simp only[vaq,vbo];exact(.mk (f.stp s1) r1 e2 λv H' m' s' r' q'=>k v H' m' (s1.trans s') r' q')
theorem zdr{K:vga}{m:Nat->Addr}{n:Nat}{H:Hp}{vs:List V}{ws:List W}(q:VReps K m n H vs ws):vs.isEmpty=ws.isEmpty:=by cases q<;>rfl
theorem zsp{K:vga}{m:Nat->Addr}{h:VH}{H:Hp}{v:V}{w:W}{b:Bool}(r:Rel K m h H)(q:VRep K m h.n H v w)(e:truW h w=some b):TruV K v H b:=by
 cases q with
 |non=>cases e;rfl
 |bl x=>cases e;rfl
 |int i=>cases e;rfl
 |str x=>cases e
 |fz _ _=>cases e
 |tup sq rs=>cases e;exact .inr (.inl ⟨_,sq,by rw[zdr rs]⟩)
 | @ref i hi=>
  simp only[truW]at e
  cases g:h.get i with
  |none=>rw[g]at e;cases e
  |some o=>
   rw[g]at e
   cases o with
   |dk _=>cases e
   |lst ws=>
    cases e
    obtain⟨vs,h1,h2⟩:=r.lst g
    exact .inl ⟨vs,SqL.of h1,by rw[zdr h2]⟩
theorem zmg(ha:SE X a fa)(he:∀whole,isTrue a X.env whole=(do let v <-whole;standAt a.pos;holding [v] (truthy v))) :
 ST X a (λρ h=>(fa ρ h).bind λx h=>.of ((truW h x).map .bl) h):=(zot ha he).imp λσ H Q z9=>z9.el λρ h m b h' f r e k=>by
 refine zac e λx h1 e1 e2=>?_
 obtain⟨e2,rfl⟩:=of_ok e2
 cases z:truW h' x with
 |none=>rw[z]at e2;cases e2
 |some c=>
  rw[z]at e2;cases e2
  exact(.mk f r e1 λv H' m' s' r' q=>⟨b,zsp r' q z,k H' m' s' r'⟩)
theorem zvx(ha:SE X a fa):SE X (.UnaryOp .USub a pos) (λρ h=>(fa ρ h).bind λx h=>match x with|.int i=>.ok (.int (-i)) h|_=>.no):=
 (pe_un zuw ha).imp λσ H Q q=>zqw (g:=λx h=>match x with|.int i=>.ok (.int (-i)) h|_=>.no) (G:=rU λi=>.int (-i)) (λm h H v x w h' Q r q e k=>by
   cases q<;>try cases e
   rename_i i
   exact⟨i,rfl,Wants.here k r (.int _)⟩) q
end
section
variable{K:vga}{m m0:Nat->Addr}{n n0:Nat}{h:VH}{H H0:Hp}
theorem Rel.adopt(r:Rel K m h H){p:Addr}{u u0:HO}(hp:∀i,i<h.n->m i≠p)(hu:H p=some u0)(ht:∀t,u0≠.tup t)(hf:∀o t,u0≠.frz o t)(s:Stp m0 n0 H0 m h.n H)(h0:H0 p=none)
 (ho:Stp m h.n H (λi=>if i=h.n then p else m i) (h.n+1) (upd H p u)\/True->(∀{v:V}{w:W},VRep K m h.n H v w->VRep K (λi=>if i=h.n then p else m i) (h.n+1) (upd H p u) v w)->ORep K (λi=>if i=h.n then p else m i) (h.n+1) (upd H p u) p o) :
 Stp m0 n0 H0 (λi=>if i=h.n then p else m i) (h.n+1) (upd H p u)/\Rel K (λi=>if i=h.n then p else m i) (h.new o) (upd H p u):=by
 have kt:∀b vs,H b=some (.tup vs)->upd H p u b=some (.tup vs):=λb vs q=>by rw[zaf (ne_of q hu λz=>ht vs z.symm)];exact q
 have kf:∀b o t,H b=some (.frz o t)->upd H p u b=some (.frz o t):=λb o t q=>by rw[zaf (ne_of q hu λz=>hf o t z.symm)];exact q
 have mv:∀{v:V}{w:W},VRep K m h.n H v w->VRep K (λi=>if i=h.n then p else m i) (h.n+1) (upd H p u) v w:=by
  intro v w q
  have st:Stp m h.n (λb=>if b=p then none else H b) (λi=>if i=h.n then p else m i) (h.n+1) (upd H p u):=by
   refine⟨vd4 _,λi hi=>by simp only[if_neg (vay hi)],λi hi hi2=>?_,λi j hi hi2 hj=>?_,λb vs q=>?_,λb o t q=>?_,λb o _ q=>?_⟩
   .have:i=h.n:=by omega
    subst this;simp only[vbj]
   .have:i=h.n:=by omega
    subst this;simp only[vbj,if_neg (vay hj)];exact(hp j hj).symm
   .split at q
    .cases q
    .exact kt b vs q
   .split at q
    .cases q
    .exact kf b o t q
   .split at q
    .cases q
    .rename_i z;rw[zaf z];exact q
  refine VRep.stp st ?_
  have back:∀{a vs},SqT K H a vs->SqT K (λb=>if b=p then none else H b) a vs:=by
   intro a vs q
   rcases q with(q|⟨o,q⟩)|q
   .exact .inl (.inl (by simp only[if_neg (ne_of q hu λz=>ht vs z.symm)];exact q))
   .exact .inl (.inr ⟨o,by simp only[if_neg (ne_of q hu λz=>hf o _ z.symm)];exact q⟩)
   .exact .inr q
  have backf:∀{a vs},Fz K H a vs->Fz K (λb=>if b=p then none else H b) a vs:=by
   intro a vs q
   rcases q with⟨o,q⟩|q
   .exact .inl ⟨o,by simp only[if_neg (ne_of q hu λz=>hf o _ z.symm)];exact q⟩
   .exact .inr q
  exact(VRep.rec (K:=K) (m:=m) (n:=h.n) (H:=H) (motive_1:=λv w _=>VRep K m h.n (λb=>if b=p then none else H b) v w) (motive_2:=λvs ws _=>VReps K m h.n (λb=>if b=p then none else H b) vs ws)
   .non .bl .int .str (λsq _ ih=>.tup (back sq) ih) (λsq _ ih=>.fz (backf sq) ih) (λhi=>.ref hi) .nil (λ_ _ i1 i2=>.cons i1 i2) q)
 refine⟨⟨vd5 s.le,λi hi=>?_,λi hi hi2=>?_,λi j hi hi2 hj=>?_,λb vs q=>kt b vs (s.tup b vs q),λb o t q=>kf b o t (s.frz b o t q),λb o nb q=>?_⟩,⟨λi hi=>?_,λi j hi hj z=>?_,?_⟩⟩
 .have:=s.le
  simp only[if_neg (show i≠h.n by omega)];exact s.same i hi
 .by_cases e:i=h.n
  .subst e;simp only[vbj];exact h0
  .simp only[if_neg e];exact s.new i hi (by omega)
 .have:=s.le
  simp only[if_neg (show j≠h.n by omega)]
  by_cases e:i=h.n
  .subst e;simp only[vbj];exact(hp j (by omega)).symm
  .simp only[if_neg e];exact s.apart i j hi (by omega) hj
 .rw[zaf (zag q h0)];exact s.keep b o nb q
 .have hi:i<h.n+1:=hi
  by_cases e:i=h.n
  .subst e;exact⟨o,zam,by simp only[vbj];exact ho (.inr trivial) mv⟩
  .have hl:i<h.n:=by omega
   obtain⟨o',h1,h2⟩:=r.obj i hl
   refine⟨o',(zae hl).trans h1,?_⟩
   simp only[if_neg e]
   have eq:upd H p u (m i)=H (m i):=zaf (hp i hl)
   cases o' with
   |lst ws=>
    obtain⟨vs,q1,q2⟩:=h2
    exact⟨vs,eq.trans q1,VReps.rec (K:=K) (m:=m) (n:=h.n) (H:=H) (motive_1:=λv w _=>VRep K m h.n H v w) (motive_2:=λvs ws _=>VReps K (λi=>if i=h.n then p else m i) (h.n+1) (upd H p u) vs ws)
     .non .bl .int .str (λsq q _=>.tup sq q) (λsq q _=>.fz sq q) (λhi=>.ref hi) .nil (λq _ _ i2=>.cons (mv q) i2) q2⟩
   |dk ws=>
    obtain⟨vs,q1,q2⟩:=h2
    have go:∀{vs:List (Key×V)}{ws:List (Key×W)},KReps K m h.n H vs ws->KReps K (λi=>if i=h.n then p else m i) (h.n+1) (upd H p u) vs ws:=by
     intro vs ws q2
     induction q2 with
     |nil=>exact .nil
     |cons q _ ih=>exact .cons (mv q) ih
    exact⟨vs,q1.imp (λz=>eq.trans z) λ⟨o,z⟩=>⟨o,eq.trans z⟩,go q2⟩
 .have hi:i<h.n+1:=hi
  have hj:j<h.n+1:=hj
  by_cases e:i=h.n
  .by_cases e2:j=h.n
   .omega
   .simp only[if_pos e,if_neg e2]at z
    exact absurd z.symm (hp j (by omega))
  .by_cases e2:j=h.n
   .simp only[if_neg e,if_pos e2]at z
    exact absurd z (hp i (by omega))
   .simp only[if_neg e,if_neg e2]at z
    exact r.inj i j (by omega) (by omega) z
 .show(o::h.os).length=h.n+1
  rw[vai,r.len]
theorem VReps.map{m':Nat->Addr}{n':Nat}{H':Hp}(mv:∀{v:V} {w:W},VRep K m n H v w->VRep K m' n' H' v w):∀{vs:List V} {ws:List W},VReps K m n H vs ws->VReps K m' n' H' vs ws
 |_,_,.nil=>.nil
 |_,_,.cons q r=>.cons (mv q) (VReps.map mv r)
theorem KReps.map{m':Nat->Addr}{n':Nat}{H':Hp}(mv:∀{v:V} {w:W},VRep K m n H v w->VRep K m' n' H' v w):∀{vs:List (Key×V)} {ws:List (Key×W)},KReps K m n H vs ws->KReps K m' n' H' vs ws
 |_,_,.nil=>.nil
 |_,_,.cons q r=>.cons (mv q) (KReps.map mv r)
theorem KReps.look(k:Key):∀{vs:List (Key×V)} {ws:List (Key×W)},KReps K m n H vs ws->(valV vs k=none/\lookK ws k=none)\/∃v w,valV vs k=some v/\lookK ws k=some w/\VRep K m n H v w
 |_,_,.nil=>.inl ⟨rfl,rfl⟩
 |_,_,.cons (k:=k') (v:=v) (w:=w) q r=>by
  by_cases e:k'=k
  .refine .inr ⟨v,w,zf7 (p:=(k',v)) e,?_,q⟩
   unfold lookK;rw[vco];simp[e]
  .rcases KReps.look k r with⟨a,b⟩|⟨v',w',a,b,c⟩
   .refine .inl ⟨(zdy (p:=(k',v)) e).trans a,?_⟩
    unfold lookK at b ⊢;rw[vco];simp only[vbw e];exact b
   .refine .inr ⟨v',w',(zdy (p:=(k',v)) e).trans a,?_,c⟩
    unfold lookK at b ⊢;rw[vco];simp only[vbw e];exact b
theorem KReps.any(k:Key):∀{vs:List (Key×V)} {ws:List (Key×W)},KReps K m n H vs ws->(vs.any λkv=>decide (kv.1=k))=(ws.any λkv=>decide (kv.1=k))
 |_,_,.nil=>rfl
 |_,_,.cons q r=>by rw[veo,veo,KReps.any k r]
theorem KReps.repl(q:VRep K m n H v w)(k:Key):∀{vs:List (Key×V)} {ws:List (Key×W)},KReps K m n H vs ws->KReps K m n H (vs.map λkv=>if kv.1=k then(kv.1,v)else kv) (ws.map λkv=>if kv.1=k then(kv.1,w)else kv)
 |_,_,.nil=>.nil
 |_,_,.cons (k:=k') p r=>by
  rw[va0,va0]
  by_cases e:k'=k
  .simp only[if_pos e];exact .cons q (KReps.repl q k r)
  .simp only[if_neg e];exact .cons p (KReps.repl q k r)
theorem KReps.snoc(q:VRep K m n H v w)(k:Key):∀{vs:List (Key×V)} {ws:List (Key×W)},KReps K m n H vs ws->KReps K m n H (vs++[(k,v)]) (ws++[(k,w)])
 |_,_,.nil=>.cons q .nil
 |_,_,.cons p r=>.cons p (KReps.snoc q k r)
theorem KReps.put(q:VRep K m n H v w)(k:Key){vs:List (Key×V)}{ws:List (Key×W)}(r:KReps K m n H vs ws):KReps K m n H (putK vs k v) (putKW ws k w):=by
 unfold putK putKW
 rw[r.any k]
 split
 .exact r.repl q k
 .exact r.snoc q k
theorem KReps.merge{vs:List (Key×V)}{ws:List (Key×W)}(q:KReps K m n H vs ws):∀{va:List (Key×V)} {wa:List (Key×W)},KReps K m n H va wa->KReps K m n H (zdo va vs) (zdq wa ws):=by
 induction q with
 |nil=>exact λa=>a
 |cons q r ih=>exact λa=>ih (a.put q _)
theorem KReps.length:∀{vs:List (Key×V)} {ws:List (Key×W)},KReps K m n H vs ws->vs.length=ws.length
 |_,_,.nil=>rfl
 |_,_,.cons _ r=>by rw[vai,vai,KReps.length r]
theorem zsq{k:Key}(q:VRep K m n H v w)(e:keyW w=some k):v=kV k:=by
 cases q<;>cases e<;>rfl
theorem zgd{i:Int}(q:VReps K m n H vs ws)(e:atI ws i=some w):∃v,atI vs i=some v/\VRep K m n H v w:=by
 unfold atI at e ⊢
 rw[q.length]
 cases z:ixN ws.length i with
 |none=>rw[z]at e;cases e
 |some j=>
  rw[z]at e
  exact q.get e
end
noncomputable def rIdx(K:vga):R2:=λx y H Q=>rIxL K x y H Q\/rIxT K x y H Q\/∃a v,x=.ref a/\DGet H a y (some v)/\Q v H
section
variable{X:Cx}{a b c e o:Expr}{es:List Expr}{fa fb fc fo:FE}{pos:Pos}
theorem zsr(hu:X.A.units+1<cLine):IxR X (λx y H Q=>∃a v,x=.ref a/\DGet H a y (some v)/\Q v H):=by
 intro value slice pins s σ H x y v u Q I rx ry q hs
 obtain⟨a,v',rfl,g,q⟩:=q
 obtain rfl:v=Value.ref a:=rx
 exact tail_any (zin I g) PySem.F.slot_dict_getitem.lookup (zl6 hu I g ry λw' s3 I3 rw'=>⟨v',H,I3,rw',q⟩) hs
theorem ix_ok(hu:X.A.units+2<cLine):IxR X (rIdx X.K):=zls.or (zu2.or (zsr (by omega)))
theorem zss{K:vga}:OpV K (rIdx K) (λx y h=>.of (idxW h x y) h):=by
 intro m h H v u x y w h' Q r qv qu e0 k
 obtain⟨e,e1⟩:=of_ok e0
 clear e0
 subst e1
 unfold idxW at e
 split at e
 .cases qv with
  |tup sq rs=>
   cases qu
   obtain⟨v',h1,h2⟩:=zgd rs e
   exact .inr (.inl ⟨_,_,_,v',rfl,rfl,sq,h1,Wants.here k r h2⟩)
 .cases qv with
  |fz sq rs=>
   cases qu
   obtain⟨v',h1,h2⟩:=zgd rs e
   exact .inl ⟨_,_,_,v',rfl,rfl,sq.sq,h1,Wants.here k r h2⟩
 .rename_i i j
  cases qv;cases qu
  cases g:h'.get i with
  |none=>rw[g]at e;cases e
  |some ob=>
   rw[g]at e
   cases ob with
   |lst ws=>
    obtain⟨vs,p1,p2⟩:=r.lst g
    obtain⟨v',h1,h2⟩:=zgd p2 e
    exact .inl ⟨_,_,_,v',rfl,rfl,SqL.of p1,h1,Wants.here k r h2⟩
   |dk ws=>
    have e:lookK ws (.inl j)=some w:=e
    obtain⟨vs,p1,p2⟩:=r.dk g
    rcases p2.look (.inl j)with⟨_,z⟩|⟨v',w',z1,z2,z3⟩
    .rw[z]at e;cases e
    .rw[z2]at e;cases e
     exact .inr (.inr ⟨_,v',rfl,by rw[<-z1];exact .inl ⟨vs,.inl j,p1,rfl,rfl⟩,Wants.here k r z3⟩)
 .rename_i i j
  cases qv;cases qu
  cases g:h'.get i with
  |none=>rw[g]at e;cases e
  |some ob=>
   rw[g]at e
   cases ob with
   |lst ws=>cases e
   |dk ws=>
    have e:lookK ws (.inr j)=some w:=e
    obtain⟨vs,p1,p2⟩:=r.dk g
    rcases p2.look (.inr j)with⟨_,z⟩|⟨v',w',z1,z2,z3⟩
    .rw[z]at e;cases e
    .rw[z2]at e;cases e
     exact .inr (.inr ⟨_,v',rfl,by rw[<-z1];exact .inl ⟨vs,.inr j,p1,rfl,rfl⟩,Wants.here k r z3⟩)
 .cases e
theorem zvy(hu:X.A.units+2<cLine)(ha:SE X a fa)(hb:SE X b fb)(hs:zf4 b):SE X (.Subscript a b pos) (λρ h=>(fa ρ h).bind λx h=>(fb ρ h).bind λy h=>.of (idxW h x y) h):=
 (pe_ix (ix_ok hu) ha hb hs).imp λσ H Q q=>zga (G:=rIdx X.K) zss q
noncomputable def lftO(K:vga)(b:Bool)(f:FE):TO:=λσ H Q=>∃ρ h m w o h',Fr K m h.n H σ ρ/\Rel K m h H/\f ρ h=.ok w h'/\partW b w=some o/\∀H' m',Stp m h.n H m' h'.n H'->Rel K m' h' H'->Q o H'
theorem lftO.el{K:vga}{σ:L2.St}{H:Hp}{P:Prop}{b:Bool}{fa:FE}{Q:Option Int->Hp->Prop}(q:lftO K b fa σ H Q)(k:∀ρ h m w o h',Fr K m h.n H σ ρ->Rel K m h H->fa ρ h=.ok w h'->partW b w=some o->(∀H' m',Stp m h.n H m' h'.n H'->Rel K m' h' H'->Q o H')->P):P:=by
 obtain⟨ρ,h,m,w,o,h',f,r,e,ep,k'⟩:=q
 exact k ρ h m w o h' f r e ep k'
theorem lftO.mk{K:vga}{σ:L2.St}{H:Hp}{m:Nat->Addr}{ρ:En}{h h':VH}{w:W}{o:Option Int}{b:Bool}{fa:FE}{Q:Option Int->Hp->Prop}(f:Fr K m h.n H σ ρ)(r:Rel K m h H)(e:fa ρ h=.ok w h')(ep:partW b w=some o)(k:∀H' m',Stp m h.n H m' h'.n H'->Rel K m' h' H'->Q o H'):lftO K b fa σ H Q:=⟨ρ,h,m,w,o,h',f,r,e,ep,k⟩
theorem zst{w:W}:PO X none (lftO X.K false (λ_ h=>.ok w h)):=λpins s σ H Q I z9=>z9.el λρ h m w o h' f r e ep k=>by
 cases e
 have:o=none:=by
  unfold partW at ep
  cases ep;rfl
 subst this
 exact zr5 pins s σ H Q I (k H m .refl r)
theorem zmh(ha:SE X e fa):PO X (some e) (lftO X.K true fa):=λpins s σ H Q I z9=>z9.el λρ h m w o h' f r e ep k=>by
 refine zr6 ha pins s σ H Q I (.mk f r e λv H' m' s' r' q=>?_)
 cases q<;>cases ep
 exact⟨_,rfl,k H' m' s' r'⟩
theorem zjf{K:vga}{m:Nat->Addr}{n:Nat}{H:Hp}{vs:List V}{ws:List W}(q:VReps K m n H vs ws)(lo hi:Option Int):VReps K m n H (cutV vs lo hi) (cutW ws lo hi):=by
 unfold cutV cutW
 rw[q.length]
 exact(q.drop _).take _
theorem zkm{lo hi:Option Int}(h:HT.sIx ws.length 0 lo=0/\HT.sIx ws.length ws.length hi=ws.length):cutW ws lo hi=ws:=by
 unfold cutW
 rw[h.1,h.2]
 simp
theorem zvz{lo hi:Option Expr}{fl fh:FE}{p2:Pos}{bl bh:Bool}(ha:SE X a fa)(hl:PO X lo (lftO X.K bl fl))(hh:PO X hi (lftO X.K bh fh)) :
 SE X (.Subscript a (.Slice lo hi none p2) pos) (λρ h=>(fa ρ h).bind λx h=>(fl ρ h).bind λl h=>(fh ρ h).bind λu h=>match partW bl l,partW bh u with
 |some l,some u=>slcW x l u h
 |_,_=>.no):=
 (zox zvb ha hl hh).imp λσ H Q z9=>z9.el λρ h m w h' f r e k=>by
   refine zac e λx h1 e1 e2=>?_
   refine zac e2 λl h2 e3 e4=>?_
   refine zac e4 λu h3 e5 e6=>?_
   split at e6
   .rename_i l' u' pl pu
    refine(.mk f r e1 λv H1 m1 s1 r1 q1=>(.mk (f.stp s1) r1 e3 pl λH2 m2 s2 r2=>(.mk ((f.stp s1).stp s2) r2 e5 pu λH3 m3 s3 r3=>?_)))
    have q3:=(q1.stp s2).stp s3
    have kk:Wants X.K m3 h3.n H3 w h' Q:=λv' H' m' s' r' q'=>k v' H' m' (((s1.trans s2).trans s3).trans s') r' q'
    unfold slcW at e6
    split at e6
    .rename_i ws
     cases e6
     cases q3 with
     | @tup a vs _ sq rs=>
      by_cases hw:HT.sIx vs.length 0 l'=0/\HT.sIx vs.length vs.length u'=vs.length
      .refine .inl (.inr ⟨_,_,rfl,sq,hw,?_⟩)
       have hw':=hw
       rw[rs.length]at hw'
       rw[zkm hw']at kk
       exact Wants.here kk r3 (.tup sq rs)
      .exact .inl (.inl ⟨_,_,rfl,sq,hw,λp hp=>Wants.tuple kk r3 (zjf rs l' u') hp⟩)
    .rename_i i
     cases q3
     cases g:h3.get i with
     |none=>rw[g]at e6;cases e6
     |some ob=>
      rw[g]at e6
      cases ob with
      |lst ws=>
       cases e6
       obtain⟨vs,p1,p2⟩:=r3.lst g
       exact .inr ⟨_,_,rfl,SqL.of p1,λp hp=>Wants.list kk r3 (zjf p2 l' u') hp⟩
      |dk ws=>cases e6
    .cases e6
   .cases e6
end
noncomputable def zau:Expr->Bool
 |.Starred ..=>false
 |_=>true
theorem zad(h:zau e=true):starEach (e::es) env=(false,eval e env)::starEach es env:=by
 cases e<;>first|rfl|cases h
theorem zbe:∀{es:List Expr},es.all zau=true->(backTo pos (starEach es env)).any (·.1)=false
 |[],_=>rfl
 |e::es,h=>by
  rw[vb1,vaa]at h
  rw[zad h.1]
  show(false|| (backTo pos (starEach es env)).any (·.1))=false
  rw[zbe h.2];rfl
noncomputable abbrev aNil:FE:=λ_ h=>.ok (.tup []) h
noncomputable abbrev aCons(fa fb:FE):FE:=λρ h=>(fa ρ h).bind λx h=>(fb ρ h).bind λy h=>match y with|.tup ys=>.ok (.tup (x::ys)) h|_=>.no
section
variable{X:Cx}{a b c e o:Expr}{es:List Expr}{fa fb fc fo:FE}{pos p:Pos}{x:Str}
noncomputable abbrev gArg(fa:FE)(g:List W->VH->Res W):FE:=λρ h=>(fa ρ h).bind λy h=>match y with|.tup ys=>g ys h|_=>.no
noncomputable def CallV(K:vga)(r:List V->Hp->VK->Prop)(g:List W->VH->Res W):Prop:=∀(m:Nat->Addr) (h:VH) (H:Hp) (vs:List V) (xs:List W) (w:W) (h':VH) (Q:VK),Rel K m h H->VReps K m h.n H vs xs->g xs h=.ok w h'->Wants K m h.n H w h' Q->r vs H Q
theorem zd1{id:String}{r:List V->Hp->VK->Prop}{g:List W->VH->Res W}(hc:CallR X (.builtin id) r)(hv:CallV X.K r g)(hg:Gl X x)(hm:X.mg x=none)(hb:bootBuiltins x=some (.builtin id))(ha:SA X (e::es) fa)(hs:(e::es).all zau=true)
 (hn:x≠"__name__") (hdb:(x==("__debug__" : Str))=false):SE X (.Call (.Name x p) (e::es) [] pos) (gArg fa g):=by
 rw[vb1,vaa]at hs
 exact(zf3 hc hg hm hb ha hn hdb (zad hs.1) (zbe hs.2)).imp λσ H Q q=>zc5 hv q
theorem zcj{T:String}{r:List V->Hp->VK->Prop}{g:List W->VH->Res W}(hc:CallR X (.type T) r)(hv:CallV X.K r g)(hg:Gl X x)(hm:X.mg x=none)(hb:bootBuiltins x=some (.type T))(ha:SA X (e::es) fa)(hs:(e::es).all zau=true)
 (hn:x≠"__name__") (hdb:(x==("__debug__" : Str))=false):SE X (.Call (.Name x p) (e::es) [] pos) (gArg fa g):=by
 rw[vb1,vaa]at hs
 exact(zlo hc hg hm hb ha hn hdb (zad hs.1) (zbe hs.2)).imp λσ H Q q=>zc5 hv q
theorem reps1{K:vga}{m:Nat->Addr}{n:Nat}{H:Hp}{vs:List V}{w:W}(q:VReps K m n H vs [w]):∃v,vs=[v]/\VRep K m n H v w:=by
 cases q with|cons q r=>cases r;exact⟨_,rfl,q⟩
theorem zv0{K:vga}:CallV K (λxs H Q=>∃p ys,xs=[.ref p]/\(SqL K H p ys\/SqT K H p ys)/\Q (.int ys.length) H) lenW:=by
 intro m h H vs xs w h' Q r q e k
 unfold lenW at e
 split at e<;>try cases e
 rename_i x
 obtain⟨v,rfl,q1⟩:=reps1 q
 obtain⟨e,rfl⟩:=of_ok e
 cases z:seqW h' x with
 |none=>rw[z]at e;cases e
 |some ws=>
  rw[z]at e;cases e
  obtain⟨p,us,rfl,h1,h2⟩:=zc7 r q1 z
  exact⟨p,us,rfl,h1,by rw[h2.length];exact Wants.here k r (.int _)⟩
theorem zsu{K:vga}:CallV K (λxs H Q=>∃p ys,xs=[.ref p]/\(SqL K H p ys\/SqT K H p ys)/\∀l,H l=none->Q (.ref l) (upd H l (.lst ys))) listW:=by
 intro m h H vs xs w h' Q r q e k
 unfold listW at e
 split at e<;>try cases e
 rename_i x
 obtain⟨v,rfl,q1⟩:=reps1 q
 cases z:seqW h x with
 |none=>rw[z]at e;cases e
 |some ws=>
  rw[z]at e;cases e
  obtain⟨p,us,rfl,h1,h2⟩:=zc7 r q1 z
  exact⟨p,us,rfl,h1,λl hl=>Wants.list k r h2 hl⟩
theorem zpf{K:vga}:CallV K (λxs H Q=>∃p ys,xs=[.ref p]/\((SqL K H p ys/\∀l,H l=none->Q (.ref l) (upd H l (.tup ys)))\/(SqT K H p ys/\Q (.ref p) H))) zei:=by
 intro m h H vs xs w h' Q r q e k
 unfold zei at e
 split at e<;>try cases e
 rename_i x
 obtain⟨v,rfl,q1⟩:=reps1 q
 obtain⟨e,rfl⟩:=of_ok e
 cases z:seqW h' x with
 |none=>rw[z]at e;cases e
 |some ws=>
  rw[z]at e;cases e
  obtain⟨p,us,rfl,h1,h2⟩:=zc7 r q1 z
  rcases h1 with h1|h1
  .exact⟨p,us,rfl,.inl ⟨h1,λl hl=>Wants.tuple k r h2 hl⟩⟩
  .exact⟨p,us,rfl,.inr ⟨h1,Wants.here k r (.tup h1 h2)⟩⟩
theorem zv1{K:vga}:CallV K (λxs H Q=>(∃i,xs=[.int i]/\Q (.int i) H)\/∃k,xs=[.bl k]/\Q (.int (if k then 1 else 0)) H) intW:=by
 intro m h H vs xs w h' Q r q e k
 unfold intW at e
 split at e<;>try cases e
 .obtain⟨v,rfl,q1⟩:=reps1 q
  cases q1
  exact .inl ⟨_,rfl,Wants.here k r (.int _)⟩
 .obtain⟨v,rfl,q1⟩:=reps1 q
  cases q1
  exact .inr ⟨_,rfl,Wants.here k r (.int _)⟩
theorem zmi{n:Nat}(h:n<1000):n.log2<1920:=by
 rcases Nat.eq_zero_or_pos n with z|z
 .subst z;decide
 .have:=Nat.log2_lt (n:=n) (k:=10) (by omega) |>.mpr (by omega)
  omega
theorem zv2{K:vga}:CallV K (λxs H Q=>∃i,xs=[.int i]/\i.natAbs.log2<1920/\Q (.str (toString i)) H) strW:=by
 intro m h H vs xs w h' Q r q e k
 unfold strW at e
 split at e
 .rename_i i
  split at e
  .rename_i z
   cases e
   rw[vaa,vat,vat]at z
   obtain⟨v,rfl,q1⟩:=reps1 q
   cases q1
   exact⟨_,rfl,zmi (by omega),Wants.here k r (.str _)⟩
  .cases e
 .cases e
theorem zv3{K:vga}:CallV K (λxs H Q=>∃i,xs=[.int i]/\Q (.int (if i<0 then -i else i)) H) absW:=by
 intro m h H vs xs w h' Q r q e k
 unfold absW at e
 split at e<;>try cases e
 obtain⟨v,rfl,q1⟩:=reps1 q
 cases q1
 exact⟨_,rfl,Wants.here k r (.int _)⟩
theorem reps2{K:vga}{m:Nat->Addr}{n:Nat}{H:Hp}{vs:List V}{w z:W}(q:VReps K m n H vs [w,z]):∃v u,vs=[v,u]/\VRep K m n H v w/\VRep K m n H u z:=by
 cases q with|cons q r=>obtain⟨u,rfl,h⟩:=reps1 r;exact⟨_,_,rfl,q,h⟩
theorem zv4{K:vga}:CallV K (λxs H Q=>∃i j,xs=[.int i,.int j]/\Q (.int (if j<i then j else i)) H) minW:=by
 intro m h H vs xs w h' Q r q e k
 unfold minW at e
 split at e<;>try cases e
 obtain⟨v,u,rfl,q1,q2⟩:=reps2 q
 cases q1;cases q2
 exact⟨_,_,rfl,Wants.here k r (.int _)⟩
theorem zjg{K:vga}{m:Nat->Addr}{n:Nat}{H:Hp}:∀{vs:List V} {ws:List W} {bs:List Bool},VReps K m n H vs ws->mapO blW ws=some bs->vs=bs.map .bl
 |_,_,bs,.nil,e=>by cases e;rfl
 |_,_,bs,.cons (w:=w) (ws:=ws) q r,e=>by
  unfold mapO at e
  cases z:blW w with
  |none=>rw[z]at e;cases e
  |some b=>
   rw[z]at e
   cases z2:mapO blW ws with
   |none=>rw[z2]at e;cases e
   |some cs=>
    rw[z2]at e;cases e
    unfold blW at z
    split at z<;>cases z
    cases q
    rw[zjg r z2];rfl
theorem zv5{K:vga}:CallV K (λxs H Q=>∃(p:Addr) (bs:List Bool),xs=[.ref p]/\SqL K H p (bs.map .bl)/\Q (.bl (bs.all id)) H) allW:=by
 intro m h H vs xs w h' Q r q e k
 unfold allW at e
 split at e<;>try cases e
 rename_i i
 split at e<;>try cases e
 rename_i ws g
 obtain⟨v,rfl,q1⟩:=reps1 q
 obtain⟨e,rfl⟩:=of_ok e
 cases z:mapO blW ws with
 |none=>rw[z]at e;cases e
 |some bs=>
  rw[z]at e;cases e
  cases q1
  obtain⟨us,p1,p2⟩:=r.lst g
  refine⟨_,bs,rfl,?_,Wants.here k r (.bl _)⟩
  rw[<-zjg p2 z]
  exact .inl (.inl p1)
noncomputable def tyN:Ty->String
 |.int=>"int" |.bool=>"bool" |.tuple=>"tuple" |.list=>"list" |.str=>"str" |.dict=>"dict"
noncomputable def rIsi(K:vga)(n:String):List V->Hp->VK->Prop:=λxs H Q=>∃x b,xs=[x,.ty n]/\((∃t,TyOf K H x t/\PySem.W.kitOne K t (.type n)=some b)\/(∃a vs,x=.ref a/\SqT K H a vs/\PySem.W.kitOne K (.type "tuple") (.type n)=some b)\/∃a,x=.ref a/\(∃kvs,Rd H a (.dK kvs))/\PySem.W.kitOne K (.type "dict") (.type n)=some b)/\Q (.bl b) H
theorem zpg(n:String):CallR X (.builtin "isinstance") (rIsi X.K n):=by
 intro pins s σ H xs us Q I r h
 obtain⟨x,b,rfl,hi,q⟩:=h
 obtain⟨u,u2,rfl,rx,rc⟩:=vals2 r
 obtain rfl:u2=Value.type n:=rc
 rcases hi with⟨t,ty,e⟩|⟨a,vs,rfl,sq,e⟩|⟨a,rfl,rd,e⟩
 .exact zlm I rx ty e λtk=>⟨.bl b,H,I.tok _,rfl,q⟩
 .obtain rfl:u=Value.ref a:=rx
  obtain⟨its,_,p,_⟩:=I.tuple sq
  obtain⟨o,h1,h2,_⟩:=p
  exact vbq PySem.W.kitx_tuple I.kIn ⟨o,h1,h2⟩ e (λz=>nomatch z) λtk=>⟨.bl b,H,I.tok _,rfl,q⟩
 .obtain rfl:u=Value.ref a:=rx
  obtain⟨o,h1,h2⟩:∃o,s.heap.get? a=some o/\o.ExactDict:=by
   obtain⟨kvs,rd⟩:=rd
   obtain⟨_,_,_,_,o,_,_,h1,h2,_⟩:=dk_rd I.hok rd
   exact⟨o,h1,h2⟩
  exact vbq PySem.W.kitx_dict I.kIn ⟨o,h1,h2.1⟩ e (λz=>nomatch z) λtk=>⟨.bl b,H,I.tok _,rfl,q⟩
theorem zv6{K:vga}(t:Ty){m:Nat->Addr}{h:VH}{H:Hp}{v:V}{x:W}{b:Bool}(r:Rel K m h H)(q:VRep K m h.n H v x)(e:tyIs t h x=some b) :
 (∃t',TyOf K H v t'/\PySem.W.kitOne K t' (.type (tyN t))=some b)\/(∃a vs,v=.ref a/\SqT K H a vs/\PySem.W.kitOne K (.type "tuple") (.type (tyN t))=some b)\/∃a,v=.ref a/\(∃kvs,Rd H a (.dK kvs))/\PySem.W.kitOne K (.type "dict") (.type (tyN t))=some b:=by
 cases q with
 |non=>cases e;refine .inl ⟨_,.non,?_⟩;cases t<;>rfl
 |bl x=>cases e;refine .inl ⟨_,.bl x,?_⟩;cases t<;>rfl
 |int x=>cases e;refine .inl ⟨_,.int x,?_⟩;cases t<;>rfl
 |str x=>cases e;refine .inl ⟨_,.str x,?_⟩;cases t<;>rfl
 |tup sq rs=>cases e;refine .inr (.inl ⟨_,_,rfl,sq,?_⟩);cases t<;>rfl
 |fz _ _=>cases e
 | @ref i hi=>
  simp only[tyIs]at e
  cases g:h.get i with
  |none=>rw[g]at e;cases e
  |some o=>
   rw[g]at e
   cases o with
   |lst ws=>
    cases e
    obtain⟨vs,h1,h2⟩:=r.lst g
    refine .inl ⟨_,.lst h1,?_⟩;cases t<;>rfl
   |dk ws=>
    cases e
    obtain⟨vs,h1,h2⟩:=r.dk g
    refine .inr (.inr ⟨_,rfl,⟨_,h1⟩,?_⟩);cases t<;>rfl
theorem zv7(t:Ty){T:Str}{p2:Pos}(ha:SE X e fa)(hs:zau e=true)(hg:Gl X "isinstance")(hm:X.mg "isinstance" = none)(hgT:Gl X T)(hmT:X.mg T=none)(hbT:bootBuiltins T=some (.type (tyN t)))(hn:T≠"__name__")(hd:(T==("__debug__" : Str))=false) :
 SE X (.Call (.Name "isinstance" p) [e,.Name T p2] [] pos) (λρ h=>(fa ρ h).bind λx h=>.of ((tyIs t h x).map .bl) h):=by
 have hT:PE X (.Name T p2) (tC (.ty (tyN t))):=zk6 hgT hmT hbT rfl hn hd
 refine(zf3 (zpg (tyN t)) hg hm PyProof.Rows.boot_isinstance (zbc ha (zbc hT zb6) (zad hs)) (by decide) (by decide) (zad hs) rfl).imp λσ H Q q=>?_
 refine zqw (g:=λx h=>.of ((tyIs t h x).map .bl) h) (G:=λv H1 Q=>rIsi X.K (tyN t) [v,.ty (tyN t)] H1 Q) (λm h H v x w h' Q r q e k=>?_) q
 obtain⟨e,rfl⟩:=of_ok e
 cases z:tyIs t h' x with
 |none=>rw[z]at e;cases e
 |some b=>
  rw[z]at e;cases e
  exact⟨v,b,rfl,zv6 t r q z,Wants.here k r (.bl b)⟩
noncomputable def zis:Expr->Bool
 |.Name .. |.Subscript ..=>true
 |_=>false
theorem zsv{m:Str}(h:zis o=true):attributeBase o m env (eval o env)=eval o env:=by
 cases o<;>first|rfl|cases h
noncomputable abbrev gMt(m:Mt)(fo fa:FE):FE:=λρ h=>(fo ρ h).bind λx h=>if zhi m h x then(fa ρ h).bind λy h=>match y with|.tup ys=>mtW m x ys h|_=>.no else .no
theorem zmj(ho:SE X o fo)(he:SE X e fa)(hb:zis o=true)(hs:zau e=true)(hl:(apos.endLine==pos.line)=true) :
 SE X (.Call (.Attribute o "append" apos) [e] [] pos) (gMt .append fo (aCons fa aNil)):=by
 refine(pe_bm (X:=X) PySem.F.plainAttrs_list PySem.F.slot_list_append PySem.F.type_list_append zhe ho (zbc he zb6 (zad hs)) (zsv hb) ?_ hl (zad hs) rfl).imp λσ H Q z9=>z9.el λρ h m w h' f r e k=>?_
 .rw[zad hs];rfl
 .refine zac e λx h1 e1 e2=>?_
  split at e2
  .rename_i hk
   refine zac e2 λy h2 e3 e4=>?_
   refine zac e3 λz h3 e5 e6=>?_
   cases e6
   refine(.mk f r e1 λv H1 m1 s1 r1 q1=>?_)
   cases x<;>try cases hk
   rename_i i
   simp only[zhi]at hk
   cases g:h1.get i with
   |none=>rw[g]at hk;cases hk
   |some ob=>
    rw[g]at hk
    cases ob with
    |dk _=>cases hk
    |lst ws0=>
     cases q1
     obtain⟨vs0,p1,_⟩:=r1.lst g
     refine⟨.inl ⟨rfl,vs0,SqL.of p1⟩,ρ,h1,m1,z,h2,f.stp s1,r1,e5,λv2 H2 m2 s2 r2 q2=>?_⟩
     simp only[mtW]at e4
     cases g2:h2.get i with
     |none=>rw[g2]at e4;cases e4
     |some ob=>
      rw[g2]at e4
      cases ob with
      |dk _=>cases e4
      |lst ws=>
       simp only at e4
       split at e4
       .rename_i hz
        cases e4
        obtain⟨vs,p2,p3⟩:=r2.lst g2
        have hmi:m1 i=m2 i:=(s2.same i (zas g)).symm
        refine⟨m1 i,vs,v2,rfl,rfl,by rw[hmi];exact p2,by rw[p3.length];exact zaq.mp hz,?_⟩
        obtain⟨st,r'⟩:=r2.write (i:=i) (o:=.lst (ws++[z])) (u:=.lst (vs++[v2])) (zas g2) p2 (λ_ z=>nomatch z) (λ_ _ z=>nomatch z) λst=>⟨vs++[v2],zai,(p3.stp st).append (.cons (q2.stp st) .nil)⟩
        rw[hmi]
        exact k .non _ m2 ((s1.trans s2).trans st) r' .non
       .cases e4
  .cases e2
end
section
variable{K:vga}{m m' m1:Nat->Addr}{n n' n1:Nat}{h h':VH}{H H' H1:Hp}
mutual
theorem VRep.mono(hn:n<=n')(hm:∀i,i<n->m' i=m i)(kt:∀b vs,H b=some (.tup vs)->H' b=some (.tup vs))(kf:∀b o u,H b=some (.frz o u)->H' b=some (.frz o u)):∀{v:V} {w:W},VRep K m n H v w->VRep K m' n' H' v w
 |_,_,.non=>.non
 |_,_,.bl b=>.bl b
 |_,_,.int b=>.int b
 |_,_,.str b=>.str b
 |_,_,.tup q r=>.tup (by
  rcases q with(q|⟨o,q⟩)|q
  .exact .inl (.inl (kt _ _ q))
  .exact .inl (.inr ⟨o,kf _ _ _ q⟩)
  .exact .inr q) (VReps.mono hn hm kt kf r)
 |_,_,.fz q r=>.fz (by
  rcases q with⟨o,q⟩|q
  .exact .inl ⟨o,kf _ _ _ q⟩
  .exact .inr q) (VReps.mono hn hm kt kf r)
 |_,_,.ref (i:=i) q=>by rw[<-hm i q];exact .ref (vae q hn)
theorem VReps.mono(hn:n<=n')(hm:∀i,i<n->m' i=m i)(kt:∀b vs,H b=some (.tup vs)->H' b=some (.tup vs))(kf:∀b o u,H b=some (.frz o u)->H' b=some (.frz o u)):∀{vs:List V} {ws:List W},VReps K m n H vs ws->VReps K m' n' H' vs ws
 |_,_,.nil=>.nil
 |_,_,.cons q r=>.cons (VRep.mono hn hm kt kf q) (VReps.mono hn hm kt kf r)
end
theorem Rel.side(r:Rel K m h H){D:Addr}{u u0:HO}(hu:H D=some u0)(ht:∀t,u0≠.tup t)(hf:∀o t,u0≠.frz o t)(ho:∀i,i<h.n->m i≠D)(s:Stp m1 n1 H1 m h.n H)(h0:H1 D=none) :
 Stp m1 n1 H1 m h.n (upd H D u)/\Rel K m h (upd H D u)/\∀{v:V}{w:W},VRep K m h.n H v w->VRep K m h.n (upd H D u) v w:=by
 have kt:∀b vs,H b=some (.tup vs)->upd H D u b=some (.tup vs):=λb vs q=>by rw[zaf (ne_of q hu λz=>ht vs z.symm)];exact q
 have kf:∀b o t,H b=some (.frz o t)->upd H D u b=some (.frz o t):=λb o t q=>by rw[zaf (ne_of q hu λz=>hf o t z.symm)];exact q
 have mv:∀{v:V}{w:W},VRep K m h.n H v w->VRep K m h.n (upd H D u) v w:=λq=>q.mono (vad _) (λ_ _=>rfl) kt kf
 refine⟨⟨s.le,s.same,s.new,s.apart,λb vs q=>kt b vs (s.tup b vs q),λb o t q=>kf b o t (s.frz b o t q),λb o nb q=>by rw[zaf (zag q h0)];exact s.keep b o nb q⟩,⟨λi hi=>?_,r.inj,r.len⟩,mv⟩
 obtain⟨o,h1,h2⟩:=r.obj i hi
 have eq:upd H D u (m i)=H (m i):=zaf (ho i hi)
 refine⟨o,h1,?_⟩
 cases o with
 |lst ws=>obtain⟨vs,q1,q2⟩:=h2;exact⟨vs,eq.trans q1,q2.map mv⟩
 |dk ws=>obtain⟨vs,q1,q2⟩:=h2;exact⟨vs,q1.imp (λz=>eq.trans z) λ⟨o,z⟩=>⟨o,eq.trans z⟩,q2.map mv⟩
theorem Rel.out(r:Rel K m h H){p:Addr}(hp:H p=none):∀i,i<h.n->m i≠p:=λi hi z=>by
 obtain⟨o',_,h2⟩:=r.obj i hi
 obtain⟨u',h3⟩:=h2.some
 rw[z,hp]at h3;cases h3
theorem Stp.out(s:Stp m n H m' n' H'){p:Addr}(hp:∀i,i<n->m i≠p)(hu:H p=some u):∀i,i<n'->m' i≠p:=λi hi z=>by
 by_cases hl:i<n
 .exact hp i hl ((s.same i hl).symm.trans z)
 .have:=s.new i (vcf.mp hl) hi
  rw[z,hu]at this;cases this
end
inductive PReps(K:vga)(m:Nat->Addr)(n:Nat)(H:Hp):List (V×V)->List W->Prop
 |nil:PReps K m n H [] []
 |cons {k v:V} {a b:W} {ps:List (V×V)} {ws:List W}:VRep K m n H k a->VRep K m n H v b->PReps K m n H ps ws->PReps K m n H ((k,v)::ps) (a::b::ws)
noncomputable def lftP(K:vga)(f:FE)(σ:L2.St)(H:Hp)(Q:List (V×V)->Hp->Prop):Prop:=∃ρ h m ws h',Fr K m h.n H σ ρ/\Rel K m h H/\f ρ h=.ok (.tup ws) h'/\
 ∀ps H' m',Stp m h.n H m' h'.n H'->Rel K m' h' H'->PReps K m' h'.n H' ps ws->Q ps H'
theorem lftP.el{K:vga}{σ:L2.St}{H:Hp}{P:Prop}{fa:FE}{Q:List (V×V)->Hp->Prop}(q:lftP K fa σ H Q)(k:∀ρ h m ws h',Fr K m h.n H σ ρ->Rel K m h H->fa ρ h=.ok (.tup ws) h'->(∀ps H' m',Stp m h.n H m' h'.n H'->Rel K m' h' H'->PReps K m' h'.n H' ps ws->Q ps H')->P):P:=by
 obtain⟨ρ,h,m,w,h',f,r,e,k'⟩:=q
 exact k ρ h m w h' f r e k'
theorem lftP.mk{K:vga}{σ:L2.St}{H:Hp}{m:Nat->Addr}{ρ:En}{h h':VH}{ws:List W}{fa:FE}{Q:List (V×V)->Hp->Prop}(f:Fr K m h.n H σ ρ)(r:Rel K m h H)(e:fa ρ h=.ok (.tup ws) h')(k:∀ps H' m',Stp m h.n H m' h'.n H'->Rel K m' h' H'->PReps K m' h'.n H' ps ws->Q ps H'):lftP K fa σ H Q:=⟨ρ,h,m,ws,h',f,r,e,k⟩
noncomputable def SPs(X:Cx)(pos:Pos)(keys:List (Option Expr))(values:List Expr)(f:FE):Prop:=∃trs,PPs X pos keys values trs/\∀σ H Q,lftP X.K f σ H Q->zjd trs σ H Q
section
variable{X:Cx}{a b c e o:Expr}{es:List Expr}{fa fb fc fo fr:FE}{pos p:Pos}{x:Str}
theorem zsw:SPs X pos [] [] aNil:=⟨[],zsg,λσ H Q z9=>z9.el λρ h m ws h' f r e k=>by cases e;exact k [] H m .refl r .nil⟩
theorem zph{ks:List (Option Expr)}{vs:List Expr}(ha:SE X a fa)(hb:SE X b fb)(hr:SPs X pos ks vs fr):SPs X pos (some a::ks) (b::vs) (aCons fa (aCons fb fr)):=by
 obtain⟨trs,h1,h2⟩:=hr
 refine⟨_,zo4 ha hb h1,λσ H Q z9=>z9.el λρ h m ws h' f r e k=>?_⟩
 refine zac e λx h3 e1 e2=>?_
 refine zac e2 λy h4 e3 e4=>?_
 refine zac e3 λx2 h5 e5 e6=>?_
 refine zac e6 λy2 h6 e7 e8=>?_
 cases y2<;>try cases e8
 cases e4
 rename_i ys
 exact(.mk f r e1 λv H1 m1 s1 r1 q1=>(.mk (f.stp s1) r1 e5 λv2 H2 m2 s2 r2 q2=>h2 σ H2 _ (.mk ((f.stp s1).stp s2) r2 e7 λps H3 m3 s3 r3 q3=>
  k _ H3 m3 ((s1.trans s2).trans s3) r3 (.cons ((q1.stp s2).stp s3) (q2.stp s3) q3))))
theorem zjh{K:vga}{m:Nat->Addr}{n:Nat}{H:Hp}:∀{ps:List (V×V)} {ws:List W} {kws:List (Key×W)},PReps K m n H ps ws->zdp ws=some kws->∃kvs:List (Key×V),ps=kvs.map (λkv=>(kV kv.1,kv.2))/\KReps K m n H kvs kws
 |_,_,_,.nil,e=>by cases e;exact⟨[],rfl,.nil⟩
 |_,_,_,.cons (a:=a) (v:=v) q1 q2 r,e=>by
  simp only[zdp]at e
  split at e
  .rename_i k hk
   split at e
   .rename_i kvs hp
    cases e
    obtain⟨kv,rfl,r'⟩:=zjh r hp
    refine⟨(k,v)::kv,?_,.cons q2 r'⟩
    rw[va0,zsq q1 hk]
   .cases e
  .cases e
noncomputable abbrev gDsp(f:FE):FE:=λρ h=>(f ρ h).bind λy h=>match y with
 |.tup ys=>(match zdp ys with
  |some kvs=>if Nat.ble kvs.length 15 then .ok (.ref h.n) (h.new (.dk (zdq [] kvs)))else .no
  |none=>.no)
 |_=>.no
theorem zv8(hu:X.A.units+2<cLine){keys:List (Option Expr)}{values:List Expr}(hp:SPs X pos keys values fa)(hall:keys.all (·.isSome)=true)(hl:keys.length=values.length)(h0:keys≠[])(h15:keys.length<=15):SE X (.Dict keys values pos) (gDsp fa):=by
 obtain⟨trs,h1,h2⟩:=hp
 refine(zsh h1 hall hl h0 h15).imp λσ H Q z9 p hp=>z9.el λρ h m w h' f r e k=>?_
 refine zac e λy h3 e1 e2=>?_
 cases y<;>try cases e2
 rename_i ys
 obtain⟨st0,r0⟩:=r.more (u:=.dK []) hp
 refine h2 σ _ _ (.mk (f.stp st0) r0 e1 λps H2 m2 s2 r2 q2=>?_)
 have hout:=s2.out (r.out hp) zai
 have hD:H2 p=some (.dK []):=s2.keep p _ (r.out hp) zai
 refine⟨hD,?_⟩
 have e2:(match zdp ys with
  |some kvs=>if Nat.ble kvs.length 15 then Res.ok (W.ref h3.n) (h3.new (.dk (zdq [] kvs)))else .no
  |none=>.no)=.ok w h':=e2
 cases hk:zdp ys with
 |none=>rw[hk]at e2;cases e2
 |some kws=>
  rw[hk]at e2
  have e2:(if Nat.ble kws.length 15 then Res.ok (W.ref h3.n) (h3.new (.dk (zdq [] kws)))else .no)=.ok w h':=e2
  by_cases hz:Nat.ble kws.length 15=true
  .rw[if_pos hz]at e2
   cases e2
   obtain⟨kvs,e3,q3⟩:=zjh q2 hk
   refine⟨kvs,e3,by rw[q3.length];exact va5 hz,?_⟩
   obtain⟨st,r'⟩:=r2.adopt (o:=.dk (zdq [] kws)) (u:=.dK (zdo [] kvs)) hout hD (λ_ z=>nomatch z) (λ_ _ z=>nomatch z) (st0.trans s2) hp λ_ mv=>⟨_,.inl zai,(q3.merge .nil).map mv⟩
   refine k _ _ _ st r' ?_
   have:VRep X.K (λi=>if i=h3.n then p else m2 i) (h3.n+1) (upd H2 p (.dK (zdo [] kvs))) (.ref ((λi=>if i=h3.n then p else m2 i) h3.n)) (.ref h3.n):=.ref (vbx _)
   simp only[vbj]at this
   exact this
  .rw[if_neg hz]at e2;cases e2
theorem zsx:SE X (.Dict [] [] pos) (gDsp aNil):=zo3.imp λσ H Q z9 p hp=>z9.el λρ h m w h' f r e k=>by
 cases e
 exact Wants.dict (ws:=[]) (vs:=[]) k r .nil hp
noncomputable def spV(K:vga)(np:Nat)(g:List W->VH->Res W):Sp:=λvs H Q _=>vs.length=np/\∃h m ws w h',Rel K m h H/\VReps K m h.n H vs ws/\g ws h=.ok w h'/\Wants K m h.n H w h' Q
theorem zsy{k:Nat}{f:Addr}{ps:List Str}{g:List W->VH->Res W}(F:FnOk X.prog X.w X.K X.mg X.base CX0 k f fd ps (spV X.K ps.length g))(hr:Room k X.A)(hg:Gl X x)(hm:X.mg x=some (.ref f))(hk:PySem.W.keepIn X.K (.ref f)=true)
 (hb:Binds X.K fd ps []) (ha:SA X (e::es) fa) (hs:(e::es).all zau=true) (hdb:(x==("__debug__" : Str))=false) (hn:∀ws h w h',g ws h=.ok w h'->ws.length=ps.length):SE X (.Call (.Name x p) (e::es) [] pos) (gArg fa g):=by
 rw[vb1,vaa]at hs
 refine(zf2 F hr hg hm hk hb .nil pass0 ha hdb (zad hs.1) (zbe hs.2)).imp λσ H Q q=>zc5 (G:=λvs H1 Q=>spV X.K ps.length g (vs++[]) H1 Q E0) (λm h H vs xs w h' Q r q e k=>?_) q
 rw[vbc]
 exact⟨by rw[q.length];exact hn _ _ _ _ e,h,m,xs,w,h',r,q,e,k⟩
theorem zpi{k:Nat}{f:Addr}{ps:List Str}{g:List W->VH->Res W}(F:FnOk X.prog X.w X.K X.mg X.base CX0 k f fd ps (spV X.K ps.length g))(hr:Room k X.A)(hg:Gl X x)(hm:X.mg x=some (.ref f))(hk:PySem.W.keepIn X.K (.ref f)=true)
 (hb:Binds X.K fd ps []) (hdb:(x==("__debug__" : Str))=false) (hn:∀ws h w h',g ws h=.ok w h'->ws.length=ps.length):SE X (.Call (.Name x p) [] [] pos) (gArg aNil g):=by
 refine(zov F hr hg hm hk hb .nil pass0 hdb).imp λσ H Q z9=>z9.el λρ h m w h' f r e k=>?_
 exact⟨hn _ _ _ _ e,h,m,[],w,h',r,.nil,e,k⟩
theorem zpj{k:Nat}{f:Addr}{ps:List Str}{g:List W->VH->Res W}(F:FnOk X.prog X.w X.K X.mg X.base CX0 k f fd ps (spV X.K ps.length g))(hr:Room k X.A)(hg:Gl X x)(hm:X.mg x=some (.ref f))(hk:PySem.W.keepIn X.K (.ref f)=true)
 (hb:Binds X.K fd ps [.none]) (ha:SA X (e::es) fa) (hs:(e::es).all zau=true) (hdb:(x==("__debug__" : Str))=false) (hn:∀ws h w h',g ws h=.ok w h'->ws.length=ps.length):SE X (.Call (.Name x p) (e::es) [] pos) (gArg fa λws h=>g (ws++[.non]) h):=by
 rw[vb1,vaa]at hs
 refine(zf2 F hr hg hm hk hb (dvs:=[V.non]) (.cons rfl .nil) pass0 ha hdb (zad hs.1) (zbe hs.2)).imp λσ H Q q=>zc5 (G:=λvs H1 Q=>spV X.K ps.length g (vs++[V.non]) H1 Q E0) (λm h H vs xs w h' Q r q e k=>?_) q
 have q':VReps X.K m h.n H (vs++[V.non]) (xs++[W.non]):=q.append (.cons .non .nil)
 exact⟨by rw[q'.length];exact hn _ _ _ _ e,h,m,xs++[W.non],w,h',r,q',e,k⟩
noncomputable def ItOk(K:vga)(nx:Nat->VH->Option (Option W))(J:It)(P:(Nat->Addr)->Nat->Hp->Prop):Prop:=
 (∀m n H m' n' H',n<=n'->(∀i,i<n->m' i=m i)->(∀b vs,H b=some (.tup vs)->H' b=some (.tup vs))->(∀b o u,H b=some (.frz o u)->H' b=some (.frz o u))->P m n H->P m' n' H')/\
 ∀m h H,Rel K m h H->P m h.n H->∀i,(∀w,nx i h=some (some w)->J.go i H/\∀y H3,J.yld i H y H3->Stp m h.n H m h.n H3/\Rel K m h H3/\VRep K m h.n H3 y w)/\(nx i h=some none->J.stop i H)
noncomputable def lftI(K:vga)(kd:Kd)(f:FE):TI:=λσ H R=>∃ρ h m x h',Fr K m h.n H σ ρ/\Rel K m h H/\f ρ h=.ok x h'/\(∃o,nxt kd x 0 h'=some o)/\
 ∀J P H' m',Stp m h.n H m' h'.n H'->Rel K m' h' H'->ItOk K (nxt kd x) J P->P m' h'.n H'->R J H'
theorem lftI.el{K:vga}{σ:L2.St}{H:Hp}{P:Prop}{kd:Kd}{fa:FE}{R}(q:lftI K kd fa σ H R)(k:∀ρ h m x h',Fr K m h.n H σ ρ->Rel K m h H->fa ρ h=.ok x h'->∀o,nxt kd x 0 h'=some o->(∀J P H' m',Stp m h.n H m' h'.n H'->Rel K m' h' H'->ItOk K (nxt kd x) J P->P m' h'.n H'->R J H')->P):P:=by
 obtain⟨ρ,h,m,w,h',f,r,e,⟨o,eo⟩,k'⟩:=q
 exact k ρ h m w h' f r e o eo k'
theorem lftI.mk{K:vga}{σ:L2.St}{H:Hp}{m:Nat->Addr}{ρ:En}{h h':VH}{x:W}{kd:Kd}{fa:FE}{R}(f:Fr K m h.n H σ ρ)(r:Rel K m h H)(e:fa ρ h=.ok x h')(eo:∃o,nxt kd x 0 h'=some o)(k:∀J P H' m',Stp m h.n H m' h'.n H'->Rel K m' h' H'->ItOk K (nxt kd x) J P->P m' h'.n H'->R J H'):lftI K kd fa σ H R:=⟨ρ,h,m,x,h',f,r,e,eo,k⟩
theorem zge{K:vga}{H H':Hp}{a:Addr}{vs:List V}(kt:∀b vs,H b=some (.tup vs)->H' b=some (.tup vs))(kf:∀b o u,H b=some (.frz o u)->H' b=some (.frz o u))(q:SqT K H a vs):SqT K H' a vs:=by
 rcases q with(q|⟨o,q⟩)|q
 .exact .inl (.inl (kt _ _ q))
 .exact .inl (.inr ⟨o,kf _ _ _ q⟩)
 .exact .inr q
theorem zmk{K:vga}{H H':Hp}{a:Addr}{vs:List V}(kf:∀b o u,H b=some (.frz o u)->H' b=some (.frz o u))(q:Fz K H a vs):Fz K H' a vs:=by
 rcases q with⟨o,q⟩|q
 .exact .inl ⟨o,kf _ _ _ q⟩
 .exact .inr q
theorem zfe{ws:List W}{h:VH}{x:W}{i:Nat}{o:Option W}(e:seqW h x=some ws)(q:nxt .seq x i h=some o):ws[i]?=o:=by
 simp only[nxt,e]at q
 cases q;rfl
theorem zv9{K:vga}{a:Addr}{vs:List V}{ws:List W}:ItOk K (nxt .seq (.tup ws)) (Itt K a) (λm n H=>SqT K H a vs/\VReps K m n H vs ws):=by
 refine⟨λm n H m' n' H' hn hm kt kf ⟨q1,q2⟩=>⟨zge kt kf q1,q2.mono hn hm kt kf⟩,λm h H r ⟨q1,q2⟩ i=>⟨λw e=>?_,λe=>?_⟩⟩
 .have e:=zfe (ws:=ws) rfl e
  obtain⟨v,h1,h2⟩:=q2.get e
  refine⟨⟨vs,v,q1,h1⟩,λy H3 ⟨e3,y3⟩=>?_⟩
  subst e3
  have:=y3 vs q1
  rw[h1]at this;cases this
  exact⟨.refl,r,h2⟩
 .have e:=zfe (ws:=ws) rfl e
  exact⟨vs,q1,by rw[q2.length];exact vbb.mp e⟩
theorem it_fz{K:vga}{a:Addr}{vs:List V}{ws:List W}:ItOk K (nxt .seq (.fz ws)) (Itl K a) (λm n H=>Fz K H a vs/\VReps K m n H vs ws):=by
 refine⟨λm n H m' n' H' hn hm kt kf ⟨q1,q2⟩=>⟨zmk kf q1,q2.mono hn hm kt kf⟩,λm h H r ⟨q1,q2⟩ i=>⟨λw e=>?_,λe=>?_⟩⟩
 .have e:=zfe (ws:=ws) rfl e
  obtain⟨v,h1,h2⟩:=q2.get e
  refine⟨⟨vs,v,q1.sq,h1⟩,λy H3 ⟨e3,y3⟩=>?_⟩
  subst e3
  have:=y3 vs q1.sq
  rw[h1]at this;cases this
  exact⟨.refl,r,h2⟩
 .have e:=zfe (ws:=ws) rfl e
  exact⟨vs,q1.sq,by rw[q2.length];exact vbb.mp e⟩
theorem zwa{K:vga}{a:Addr}{l:Nat}:ItOk K (nxt .seq (.ref l)) (Itl K a) (λm n H=>l<n/\a=m l):=by
 refine⟨λm n H m' n' H' hn hm kt kf ⟨q1,q2⟩=>⟨vae q1 hn,by rw[hm l q1];exact q2⟩,λm h H r ⟨q1,q2⟩ i=>?_⟩
 subst q2
 cases g:h.get l with
 |none=>exact⟨λw e=>by simp[nxt,seqW,g]at e,λe=>by simp[nxt,seqW,g]at e⟩
 |some o=>
  cases o with
  |dk _=>exact⟨λw e=>by simp[nxt,seqW,g]at e,λe=>by simp[nxt,seqW,g]at e⟩
  |lst ws=>
   have hs:seqW h (.ref l)=some ws:=by simp[seqW,g]
   obtain⟨vs,p1,p2⟩:=r.lst g
   refine⟨λw e=>?_,λe=>?_⟩
   .have e:=zfe hs e
    obtain⟨v,h1,h2⟩:=p2.get e
    refine⟨⟨vs,v,SqL.of p1,h1⟩,λy H3 ⟨e3,y3⟩=>?_⟩
    subst e3
    have:=y3 vs (SqL.of p1)
    rw[h1]at this;cases this
    exact⟨.refl,r,h2⟩
   .have e:=zfe hs e
    exact⟨vs,SqL.of p1,by rw[p2.length];exact vbb.mp e⟩
theorem zwb{K:vga}{kd:Kd}{x:W}{lo:Int}{k:Nat}(hx:∀i h,nxt kd x i h=some (if i<k then some (.int (lo+i))else none)):ItOk K (nxt kd x) (Itr lo k) (λ_ _ _=>True):=by
 refine⟨λ_ _ _ _ _ _ _ _ _ _ _=>trivial,λm h H r _ i=>⟨λw e=>?_,λe=>?_⟩⟩
 .rw[hx]at e
  split at e
  .rename_i hi
   cases e
   refine⟨hi,λy H3 ⟨e3,y3⟩=>?_⟩
   subst e3 y3
   exact⟨.refl,r,.int _⟩
  .cases e
 .rw[hx]at e
  split at e
  .cases e
  .rename_i hi
   exact vcf.mp hi
theorem zq2{tg:Expr}(ha:SE X e fa):PI X tg e (lftI X.K .seq fa):=λpins s σ H R I z9=>z9.el λρ h m x h' f r ee o en k=>by
 have hs:∃ws,seqW h' x=some ws:=by
  cases z:seqW h' x with
  |none=>simp[nxt,z]at en
  |some ws=>exact⟨ws,rfl⟩
 obtain⟨ws,hs⟩:=hs
 cases x<;>try cases hs
 .exact zup ha pins s σ H R I (.mk f r ee λv H' m' s' r' q=>by
   cases q with
   |tup sq rs=>exact⟨_,rfl,⟨_,sq⟩,k _ _ H' m' s' r' zv9 ⟨sq,rs⟩⟩)
 .exact zlb ha pins s σ H R I (.mk f r ee λv H' m' s' r' q=>by
   cases q with
   |fz sq rs=>exact⟨_,rfl,⟨_,sq.sq⟩,k _ _ H' m' s' r' it_fz ⟨sq,rs⟩⟩)
 .rename_i l
  exact zlb ha pins s σ H R I (.mk f r ee λv H' m' s' r' q=>by
   obtain⟨p,vs,e1,e2,e3⟩:=zc7 r' q hs
   cases q with
   |ref hi=>
    cases g:h'.get l with
    |none=>simp[seqW,g]at hs
    |some ob=>
     cases ob with
     |dk _=>simp[seqW,g]at hs
     |lst ws'=>
      obtain⟨vs',p1,_⟩:=r'.lst g
      exact⟨_,rfl,⟨_,SqL.of p1⟩,k _ _ H' m' s' r' zwa ⟨hi,rfl⟩⟩)
theorem zsz{tg:Expr}(ha:SA X [e] fa)(hs:zau e=true)(hg:Gl X "range")(hm:X.mg "range" = none):PI X tg (.Call (.Name "range" p) [e] [] pos) (lftI X.K .rng1 fa):=λpins s σ H R I z9=>z9.el λρ h m x h' f r ee o en k=>by
 simp only[nxt]at en
 split at en
 .rename_i j
  split at en
  .rename_i hf
   refine zlc hg hm ha (zad hs) pins s σ H R I (.mk f r ee λvs H' m' s' r' q=>?_)
   obtain⟨v,rfl,q1⟩:=reps1 q
   cases q1
   refine⟨_,rfl,(zio hf).1,(zio hf).2,k _ _ H' m' s' r' (zwb λi h=>?_) trivial⟩
   simp only[nxt,hf,vbj]
   split<;>split<;>first|rfl|(exfalso;simp at *;omega)
  .cases en
 .cases en
theorem zpk{elts:List Expr}{kx:Nat}{tp:Pos}(hg:Gl X "enumerate")(hm:X.mg "enumerate" = none)(hv:bootBuiltins "enumerate" = some (.type "enumerate"))(ha:PA X [l] ta)(hs:starEach [l] X.env=[(false,eval l X.env)]) :
 PI X (.Tuple elts kx tp) (.Call (.Name "enumerate" p) [l] [] pos) (λσ H R=>ta σ H λvs H1=>∃a,vs=[.ref a]/\(∃xs,SqT X.K H1 a xs)/\R (IteT X.K a) H1):=by
 intro pins s σ H R I h
 refine Call_ (ze3 I hg hm hv (vcu (thn (ha pos pins s σ H _ I h) λus s1 ⟨vs,H1,I1,r1,q1⟩=>?_) hs rfl))
 obtain⟨a,e,⟨xs,hq⟩,q⟩:=q1
 subst e
 obtain⟨u,rfl,ru⟩:=vals1 r1
 cases ru
 obtain⟨its,rv,pl,hz⟩:=I1.tuple hq
 have pl:s1.heap.IsTuple a its.toArray:=pl
 have hlt:a<s1.heap.objs.size:=by obtain⟨o,q,_⟩:=pl;exact vam q
 refine zkj pl λh' he hit hsz kk=>wpAny_pyIter_enum he ?_
 have hf:∀b,s1.heap.objs.size<=b->FpOk X pins H1 b:=λb hb=>I1.fpOk hb (I1.hok.fresh hb)
 refine⟨s1.heap.objs.size+1,[s1.heap.objs.size+1,s1.heap.objs.size],_,_,H1,rfl,I1.kept (t':=s1.toks) kk,zkk a _ _ (va8 (vbx _)) (vay (vd2 hlt)) (vay hlt),⟨⟨_,he⟩,hit⟩,λb hb=>hf b ?_,q⟩
 rcases vaw.mp hb with rfl|hb
 .exact vd4 _
 .have e':b=s1.heap.objs.size:=by simpa using hb
  rw[e'];exact vad _
theorem zq3{ws:List W}{h:VH}{i:Nat}{o:Option W}(q:nxt .enm (.tup ws) i h=some o):o=(ws[i]?).map λw=>.tup [.int i,w]:=by
 cases q;rfl
theorem zs0{K:vga}{a:Addr}{vs:List V}{ws:List W}:ItOk K (nxt .enm (.tup ws)) (IteT K a) (λm n H=>SqT K H a vs/\VReps K m n H vs ws):=by
 refine⟨λm n H m' n' H' hn hm kt kf ⟨q1,q2⟩=>⟨zge kt kf q1,q2.mono hn hm kt kf⟩,λm h H r ⟨q1,q2⟩ i=>⟨λw e=>?_,λe=>?_⟩⟩
 .have e:=zq3 (ws:=ws) e
  cases z:ws[i]? with
  |none=>rw[z]at e;cases e
  |some w0=>
   rw[z]at e;cases e
   obtain⟨v,h1,h2⟩:=q2.get z
   refine⟨⟨vs,v,q1,h1⟩,λy H3 ⟨T,v3,e1,e2,e3,y3⟩=>?_⟩
   subst e1 e3
   have:=y3 vs q1
   rw[h1]at this;cases this
   obtain⟨st,r'⟩:=r.more (u:=.tup [.int i,v]) e2
   exact⟨st,r',.tup (SqT.of zai) (.cons (.int _) (.cons (h2.stp st) .nil))⟩
 .have e:=zq3 (ws:=ws) e
  cases z:ws[i]? with
  |some w0=>rw[z]at e;cases e
  |none=>exact⟨vs,q1,by rw[q2.length];exact vbb.mp z⟩
theorem zml:bootBuiltins "enumerate" = some (.type "enumerate"):=by decide +kernel
theorem zwc(ha:SE X e fa)(hs:zau e=true):PA X [e] (λσ H Q=>lft X.K fa σ H λv H1=>Q [v] H1):=λp pins s σ H Q I q=>by
 refine zbc ha zb6 (zad hs) p pins s σ H Q I ?_
 refine q.el λρ h m w h' f r ee k=>?_
 exact(.mk f r ee λv H' m' s' r' q'=>k v H' m' s' r' q')
theorem zwd{elts:List Expr}{kx:Nat}{tp:Pos}(ha:SE X e fa)(hs0:zau e=true)(hg:Gl X "enumerate")(hm:X.mg "enumerate" = none):PI X (.Tuple elts kx tp) (.Call (.Name "enumerate" p) [e] [] pos) (lftI X.K .enm fa):=λpins s σ H R I z9=>z9.el λρ h m x h' f r ee o en k=>by
 cases x with
 |tup ws=>exact zpk hg hm zml (zwc ha hs0) (zad hs0) pins s σ H R I ⟨ρ,h,m,_,h',f,r,ee,λv H' m' s' r' q=>by
  cases q with
  |tup sq rs=>exact⟨_,rfl,⟨_,sq⟩,k _ _ H' m' s' r' zs0 ⟨sq,rs⟩⟩⟩
 |_=>cases en
theorem zwe{elts:List Expr}{kx:Nat}{tp:Pos}(hg:Gl X "zip")(hm:X.mg "zip" = none)(ha:PA X [l,l2] ta)(hs:starEach [l,l2] X.env=[(false,eval l X.env),(false,eval l2 X.env)])(hs2:starEach [l2] X.env=[(false,eval l2 X.env)]) :
 PI X (.Tuple elts kx tp) (.Call (.Name "zip" p) [l,l2] [] pos) (λσ H R=>ta σ H λvs H1=>∃b c a1 a2,vs=[.ref a1,.ref a2]/\(∃xs,SqB b X.K H1 a1 xs)/\(∃ys,SqB c X.K H1 a2 ys)/\R (IteZ X.K b c a1 a2) H1):=by
 intro pins s σ H R I h
 refine Call_ (ze3 I hg hm PyProof.Rows.boot_zip (vcu (thn (ha pos pins s σ H _ I h) λus s1 ⟨vs,H1,I1,r1,q1⟩=>?_) (by rw[hs,hs2]) (by rw[hs2];rfl)))
 obtain⟨b,c,a1,a2,e,⟨xs,hq⟩,⟨ys,hr⟩,q⟩:=q1
 subst e
 cases r1 with
 |cons r rr=>
  cases rr with
  |cons r' rr=>
   cases rr
   cases r
   cases r'
   obtain⟨its,_,pl,_⟩:=zfb I1 hq
   obtain⟨jts,_,pl2,_⟩:=zfb I1 hr
   refine zsm pl pl2 λh' e1 e2 e3 e4 e5 hsz kk=>wpAny_pyIter_zip e1 ?_
   have hf:∀b,s1.heap.objs.size<=b->FpOk X pins H1 b:=λb hb=>I1.fpOk hb (I1.hok.fresh hb)
   refine⟨s1.heap.objs.size+4,_,_,_,H1,rfl,I1.kept (t':=s1.toks) kk,zpb a1 a2 _ _ _ _ _ (zvc pl.lt pl2.lt),⟨e1,e2,⟨_,_,e3⟩,e4,e5⟩,λb hb=>hf b ?_,q⟩
   simp only[vaw,vbk,vdm]at hb
   rcases hb with rfl|rfl|rfl|rfl|rfl
   .exact vbg _ _
   .exact vbg _ _
   .exact vbg _ _
   .exact vad _
   .exact vbg _ _
noncomputable def Src(K:vga)(b:Bool)(a:Addr)(u:W)(P:(Nat->Addr)->Nat->Hp->Prop):Prop:=
 (∀m n H m' n' H',n<=n'->(∀i,i<n->m' i=m i)->(∀b vs,H b=some (.tup vs)->H' b=some (.tup vs))->(∀b o u,H b=some (.frz o u)->H' b=some (.frz o u))->P m n H->P m' n' H')/\
 ∀m h H ws,Rel K m h H->P m h.n H->seqW h u=some ws->∃vs,SqB b K H a vs/\VReps K m h.n H vs ws
theorem zq4{K:vga}{m:Nat->Addr}{h:VH}{H:Hp}{v:V}{u:W}{ws:List W}(r:Rel K m h H)(q:VRep K m h.n H v u)(e:seqW h u=some ws):∃b a P,v=.ref a/\Src K b a u P/\P m h.n H/\∃xs,SqB b K H a xs:=by
 cases q with
 |non=>cases e
 |bl b=>cases e
 |int b=>cases e
 |str b=>cases e
 |tup sq rs=>exact⟨true,_,λm n H=>SqT K H _ _/\VReps K m n H _ _,rfl,⟨λm n H m' n' H' hn hm kt kf ⟨q1,q2⟩=>⟨zge kt kf q1,q2.mono hn hm kt kf⟩,λm h H ws _ ⟨q1,q2⟩ z=>by cases z;exact⟨_,q1,q2⟩⟩,⟨sq,rs⟩,_,sq⟩
 |fz sq rs=>exact⟨false,_,λm n H=>Fz K H _ _/\VReps K m n H _ _,rfl,⟨λm n H m' n' H' hn hm kt kf ⟨q1,q2⟩=>⟨zmk kf q1,q2.mono hn hm kt kf⟩,λm h H ws _ ⟨q1,q2⟩ z=>by cases z;exact⟨_,q1.sq,q2⟩⟩,⟨sq,rs⟩,_,sq.sq⟩
 |ref hi=>
  rename_i l
  have key:∀m (h:VH) H ws,Rel K m h H->seqW h (.ref l)=some ws->∃vs,H (m l)=some (.lst vs)/\VReps K m h.n H vs ws:=λm h H ws r z=>by
   cases g:h.get l with
   |none=>simp[seqW,g]at z
   |some o=>
    cases o with
    |dk _=>simp[seqW,g]at z
    |lst ws'=>
     have:ws'=ws:=by simpa[seqW,g]using z
     subst this
     exact r.lst g
  obtain⟨vs,p1,_⟩:=key m h H ws r e
  refine⟨false,_,λm' n _=>l<n/\m l=m' l,rfl,⟨λm1 n H m' n' H' hn hm kt kf ⟨q1,q2⟩=>⟨vae q1 hn,by rw[hm l q1];exact q2⟩,λm1 h H ws r' ⟨q1,q2⟩ z=>?_⟩,⟨hi,rfl⟩,vs,SqL.of p1⟩
  obtain⟨vs,g1,g2⟩:=key m1 h H ws r' z
  rw[q2]
  exact⟨vs,SqL.of g1,g2⟩
theorem zmm{u v:W}{h:VH}{i:Nat}{o:Option W}(q:nxt .zip (.tup [u,v]) i h=some o):∃ws zs,seqW h u=some ws/\seqW h v=some zs/\o=(match ws[i]?,zs[i]? with|some a,some b=>some (.tup [a,b])|_,_=>none):=by
 simp only[nxt]at q
 split at q
 .rename_i ws zs h1 h2
  cases q
  exact⟨ws,zs,h1,h2,rfl⟩
 .cases q
theorem zwf{K:vga}{b c:Bool}{a1 a2:Addr}{u v:W}{P1 P2:(Nat->Addr)->Nat->Hp->Prop}(s1:Src K b a1 u P1)(s2:Src K c a2 v P2):ItOk K (nxt .zip (.tup [u,v])) (IteZ K b c a1 a2) (λm n H=>P1 m n H/\P2 m n H):=by
 refine⟨λm n H m' n' H' hn hm kt kf ⟨q1,q2⟩=>⟨s1.1 m n H m' n' H' hn hm kt kf q1,s2.1 m n H m' n' H' hn hm kt kf q2⟩,λm h H r ⟨q1,q2⟩ i=>⟨λw e=>?_,λe=>?_⟩⟩
 .obtain⟨ws,zs,e1,e2,e3⟩:=zmm e
  obtain⟨xs,g1,g2⟩:=s1.2 m h H ws r q1 e1
  obtain⟨ys,g3,g4⟩:=s2.2 m h H zs r q2 e2
  cases z1:ws[i]? with
  |none=>rw[z1]at e3;cases e3
  |some w1=>
   cases z2:zs[i]? with
   |none=>rw[z1,z2]at e3;cases e3
   |some w2=>
    rw[z1,z2]at e3;cases e3
    obtain⟨v1,k1,k2⟩:=g2.get z1
    obtain⟨v2,k3,k4⟩:=g4.get z2
    refine⟨⟨xs,ys,v1,v2,g1,g3,k1,k3⟩,λy H3 ⟨T,x3,y3,f1,f2,f3,f4,f5⟩=>?_⟩
    subst f1 f3
    have t1:=f4 xs g1
    have t2:=f5 ys g3
    rw[k1]at t1;cases t1
    rw[k3]at t2;cases t2
    obtain⟨st,r'⟩:=r.more (u:=.tup [v1,v2]) f2
    exact⟨st,r',.tup (SqT.of zai) (.cons (k2.stp st) (.cons (k4.stp st) .nil))⟩
 .obtain⟨ws,zs,e1,e2,e3⟩:=zmm e
  obtain⟨xs,g1,g2⟩:=s1.2 m h H ws r q1 e1
  obtain⟨ys,g3,g4⟩:=s2.2 m h H zs r q2 e2
  refine⟨xs,ys,g1,g3,?_⟩
  cases z1:ws[i]? with
  |none=>exact .inl (by rw[g2.length];exact vbb.mp z1)
  |some w1=>
   cases z2:zs[i]? with
   |none=>exact .inr (by rw[g4.length];exact vbb.mp z2)
   |some w2=>rw[z1,z2]at e3;cases e3
theorem zwg{elts:List Expr}{kx:Nat}{tp:Pos}(ha:SA X [a,b] fa)(hs:zau a=true)(hs2:zau b=true)(hg:Gl X "zip")(hm:X.mg "zip" = none):PI X (.Tuple elts kx tp) (.Call (.Name "zip" p) [a,b] [] pos) (lftI X.K .zip fa):=λpins s σ H R I z9=>z9.el λρ h m x h' f r ee o en k=>by
 have hx:∃u v,x=.tup [u,v]:=by
  simp only[nxt]at en
  split at en
  .exact⟨_,_,rfl⟩
  .cases en
 obtain⟨u,v,rfl⟩:=hx
 obtain⟨ws,zs,e1,e2,_⟩:=zmm en
 refine zwe hg hm ha (by rw[zad hs,zad hs2];rfl) (zad hs2) pins s σ H R I (.mk f r ee λvs H' m' s' r' q=>?_)
 obtain⟨v1,v2,rfl,q1,q2⟩:=reps2 q
 obtain⟨b1,a1,P1,rfl,o1,p1,x1⟩:=zq4 r' q1 e1
 obtain⟨b2,a2,P2,rfl,o2,p2,x2⟩:=zq4 r' q2 e2
 exact⟨b1,b2,a1,a2,rfl,x1,x2,k _ _ H' m' s' r' (zwf o1 o2) ⟨p1,p2⟩⟩
end
section
variable{X:Cx}{a b c e o:Expr}{es:List Expr}{fa fb fc fo fr:FE}{pos p:Pos}{x:Str}
noncomputable def lftG(K:vga)(t:Tg):TG:=λv σ H Q=>∃ρ h m w ρ',Fr K m h.n H σ ρ/\Rel K m h H/\VRep K m h.n H v w/\tgW t w h ρ=some ρ'/\∀σ',Fr K m h.n H σ' ρ'->Q σ' H
theorem lftG.el{K:vga}{v:V}{σ:L2.St}{H:Hp}{P:Prop}{tg:Tg}{Q}(q:lftG K tg v σ H Q)(k:∀ρ h m w ρ',Fr K m h.n H σ ρ->Rel K m h H->VRep K m h.n H v w->tgW tg w h ρ=some ρ'->(∀σ',Fr K m h.n H σ' ρ'->Q σ' H)->P):P:=by
 obtain⟨ρ,h,m,w,h',f,r,e,eo,k'⟩:=q
 exact k ρ h m w h' f r e eo k'
theorem lftG.mk{K:vga}{v:V}{σ:L2.St}{H:Hp}{m:Nat->Addr}{ρ ρ':En}{h:VH}{w:W}{tg:Tg}{Q}(f:Fr K m h.n H σ ρ)(r:Rel K m h H)(e:VRep K m h.n H v w)(eo:tgW tg w h ρ=some ρ')(k:∀σ',Fr K m h.n H σ' ρ'->Q σ' H):lftG K tg v σ H Q:=⟨ρ,h,m,w,ρ',f,r,e,eo,k⟩
theorem zwh{i:Nat}(hN:X.N.Nodup)(hi:X.N[i]?=some x)(hx:Loc X.env.scope x)(hf:X.fn x=true\/X.env.scope.names.lookup x=some .local):PG X (.Name x pos) (lftG X.K (.one i)):=λpins s σ H v u Q I ru z9=>z9.el λρ h m w ρ' f r q e k=>by
 cases e
 exact zk9 hN hi hx hf pins s σ H v u Q I ru (k _ (f.set q i))
noncomputable def NmOk(X:Cx)(e:Expr)(i:Nat):Prop:=∃x p,e=.Name x p/\X.N[i]?=some x/\Loc X.env.scope x/\(X.fn x=true\/X.env.scope.names.lookup x=some .local)
noncomputable def lftGs(K:vga)(is:List Nat):TGs:=λvs σ H Q=>∃ρ m n ws ρ',Fr K m n H σ ρ/\VReps K m n H vs ws/\za1 is ws ρ=some ρ'/\∀σ',Fr K m n H σ' ρ'->Q σ' H
theorem zq5(hN:X.N.Nodup):∀{es:List Expr} {is:List Nat},Paired (NmOk X) es is->PGs X es (lftGs X.K is)/\(assignEach es X.env).length=es.length/\(assignEach es X.env).findIdx? (·.1)=none
 |_,_,.nil=>by
  refine⟨λpins s σ H vs us Q I ru ⟨ρ,m,n,ws,ρ',f,q,e,k⟩=>?_,rfl,rfl⟩
  cases ws with
  |nil=>cases e;cases q;exact zrz pins s σ H [] us Q I ru ⟨rfl,k _ f⟩
  |cons _ _=>cases e
 |e::es,i::is,.cons ⟨x,p,he,hi,hx,hf⟩ t=>by
  subst he
  obtain⟨h1,h2,h3⟩:=zq5 hN t
  refine⟨λpins s σ H vs us Q I ru ⟨ρ,m,n,ws,ρ',f,q,e,k⟩=>?_,?_,?_⟩
  .cases q with
   |nil=>cases e
   |cons q qs=>
    exact zon (zk9 hN hi hx hf) h1 rfl pins s σ H _ us Q I ru ⟨_,_,rfl,ρ.set i (some _),m,n,_,ρ',f.set q i,qs,e,k⟩
  .show(assignEach es X.env).length+1=es.length+1
   rw[h2]
  .show List.findIdx? _ ((false,_)::assignEach es X.env)=none
   rw[List.findIdx?_cons,h3];rfl
theorem zff:∀{is:List Nat} {ws:List W} {ρ ρ':En},za1 is ws ρ=some ρ'->ws.length=is.length
 |[],[],_,_,_=>rfl
 |[],_::_,_,_,e=>by cases e
 |_::_,[],_,_,e=>by cases e
 |_::_,_::_,_,_,e=>by
  rw[vai,vai,zff (by simpa only[za1]using e)]
theorem zwi{n k:Nat}(hc:X.calm=true)(h:PGs X es t)(hn:(assignEach es X.env).length=n)(hst:(assignEach es X.env).findIdx? (·.1)=none) :
 PG X (.Tuple es k pos) (λv σ H Q=>∃a xs,v=.ref a/\SqL X.K H a xs/\xs.length=n/\t xs σ H Q):=by
 intro pins s σ H v u Q I r hw
 obtain⟨a,xs,rfl,hq,hl,hw⟩:=hw
 cases r
 obtain⟨its,rv,ht,hz⟩:=I.list hq
 rw[assign_Tuple]
 refine vab (vbu ?_)
 unfold unpack
 have hsz:(assignEach es X.env).length=its.toArray.size:=by rw[hn,<-hl,rv.length,vah]
 rw[hst,hsz]
 refine vab (vb0 (PySem.W.kun_itemsOf (I.ok.hd hc) ht.isList λh' hx=>?_))
 have I1:Inv X pins σ H {s with heap:=h'}:=I.kept (t':=s.toks) λb o e=>hx b o (vay (vam e)) e
 exact h pins _ σ H xs _ Q I1 (by simpa using rv) hw
theorem zmn{is:List Nat}{k:Nat}(hc:X.calm=true)(hN:X.N.Nodup)(hs:Paired (NmOk X) es is):PG X (.Tuple es k pos) (lftG X.K (.many is)):=λpins s σ H v u Q I ru z9=>z9.el λρ h m w ρ' f r q e k=>by
 obtain⟨h1,h2,h3⟩:=zq5 hN hs
 simp only[tgW]at e
 cases z:seqW h w with
 |none=>rw[z]at e;cases e
 |some ws=>
  rw[z]at e
  have e:za1 is ws ρ=some ρ':=e
  obtain⟨p,vs,rfl,hq,qs⟩:=zc7 r q z
  have hl:vs.length=es.length:=by rw[qs.length,zff e,hs.length]
  rcases hq with hq|hq
  .exact zwi hc h1 h2 h3 pins s σ H _ u Q I ru ⟨p,vs,rfl,hq,hl,ρ,m,h.n,ws,ρ',f,qs,e,k⟩
  .exact zuj hc h1 h2 h3 pins s σ H _ u Q I ru ⟨p,vs,rfl,hq,hl,ρ,m,h.n,ws,ρ',f,qs,e,k⟩
theorem zpl{K:vga}{m:Nat->Addr}{n:Nat}{H:Hp}{σ:L2.St}{ρ:En}{ow fr:List Str}{ix:List Nat}(f:Fr K m n H σ ρ):Fr K m n H (cσ ow fr ix σ) (inner ow.length ix ρ):=by
 unfold cσ inner
 refine⟨by simp,λi w e=>?_⟩
 by_cases hi:i<ow.length
 .rw[vby (by simpa using hi)]at e
  rw[vc9]at e
  split at e<;>cases e
 .rw[va4 (by simpa using vcf.mp hi)]at e
  rw[va4 (by simpa using vcf.mp hi)]
  simp only[List.length_replicate,vaf]at e ⊢
  rw[vbr]at e ⊢
  cases z:ix[i-ow.length]? with
  |none=>rw[z]at e;cases e
  |some j=>
   rw[z]at e
   simp only[vav,Option.some.injEq]at e ⊢
   have e3:ρ[j]?=some (some w):=by
    cases q:ρ[j]? with
    |none=>rw[q]at e;cases e
    |some o=>rw[q]at e;rw[<-e];rfl
   obtain⟨v,h1,h2⟩:=f.val j w e3
   exact⟨v,by rw[h1];rfl,h2⟩
theorem zit{nx:Nat->VH->Option (Option W)}{tg:W->VH->En->Option En}{c e:FE}:∀{f i:Nat} {ρ:En} {h:VH} {acc ys:List W} {h':VH},lcG nx tg c e f i ρ h acc=.ok ys h'->acc.length<=ys.length
 |0,_,_,_,_,_,_,q=>by cases q
 |f+1,i,ρ,h,acc,ys,h',q=>by
  simp only[lcG]at q
  split at q
  .cases q
  .cases q;simp
  .split at q
   .cases q
   .refine zac q λb h1 e1 e2=>?_
    split at e2
    .refine zac e2 λy h2 e3 e4=>?_
     have:=zit e4
     rw[vai]at this
     omega
    .exact zit e2
    .cases e2
theorem zwj{nx:Nat->VH->Option (Option W)}{tg:W->VH->En->Option En}{c e:FE}{f i:Nat}{ρ:En}{h:VH}{acc ys:List W}{h':VH}(q:lcG nx tg c e (f+1) i ρ h acc=.ok ys h'):∃o,nx i h=some o:=by
 simp only[lcG]at q
 split at q
 .cases q
 .exact⟨_,by assumption⟩
 .exact⟨_,by assumption⟩
theorem zpm{H:Hp}{a:Addr}{o:HO}(h:H a=some o):upd H a o=H:=by
 funext b
 unfold upd
 split
 .rename_i e;rw[e,h]
 .rfl
noncomputable abbrev gLc(kd:Kd)(fa:FE)(t:Tg)(ow:Nat)(ix:List Nat)(fc fe:FE):FE:=λρ h=>(fa ρ h).bind λx h=>(lcG (nxt kd x) (tgW t) fc fe fuel 0 (inner ow ix ρ) h []).bind λys h=>if Nat.ble ys.length big then .ok (.ref h.n) (h.new (.lst ys))else .no
theorem lc_ok{K:vga}{kd:Kd}{t:Tg}{ow fr:List Str}{ix:List Nat}{fe:FE}{σ:L2.St}{H:Hp}{Q:VK}(q:lft K (gLc kd fa t ow.length ix fc fe) σ H Q):tLC K (cσ ow fr ix) (lftI K kd fa) (lftG K t) (lftT K fc) (lft K fe) σ H Q:=by
 refine q.el λρ h m w h' f r e k=>?_
 refine zac e λx h1 e1 e2=>?_
 refine zac e2 λys h2 e3 e4=>?_
 split at e4
 case isFalse=>cases e4
 rename_i hz
 cases e4
 have hz:=va5 hz
 refine(.mk f r e1 ?_ λJ P H1 m1 s1 r1 J1 p1 D hD hK=>?_)
 .exact zwj (f:=999999) e3
 obtain⟨st0,r0⟩:=r1.more (u:=.lst []) hD
 have p0:=J1.1 m1 h1.n H1 m1 h1.n (upd H1 D (.lst [])) (vad _) (λ_ _=>rfl) (λb vs q=>st0.tup b vs q) (λb o u q=>st0.frz b o u q) p1
 refine⟨λi fl σ' H' vs=>∃ρ' h3 m3 acc,lcG (nxt kd x) (tgW t) fc fe fl i ρ' h3 acc=.ok ys h2/\Fr K m3 h3.n H' σ' ρ'/\Rel K m3 h3 H'/\H' D=some (.lst vs)/\VReps K m3 h3.n H' vs acc.reverse/\(∀i,i<h3.n->m3 i≠D)/\Stp m1 h1.n H1 m3 h3.n H'/\P m3 h3.n H',
  ⟨fuel,inner ow.length ix ρ,h1,m1,[],e3,zpl ((f.stp s1).stp st0),r0,zai,.nil,r1.out hD,st0,p0⟩,?_⟩
 rintro i fl σ' H' vs ⟨ρ',h3,m3,acc,e5,f3,r3,d3,q3,o3,s3,p3⟩
 refine⟨d3,?_⟩
 cases fl with
 |zero=>cases e5
 |succ fl=>
  simp only[lcG]at e5
  obtain⟨j1,j2⟩:=J1.2 m3 h3 H' r3 p3 i
  split at e5
  .cases e5
  .rename_i hn
   cases e5
   refine .inl ⟨j2 hn,?_⟩
   obtain⟨st,r'⟩:=r3.adopt (o:=.lst acc.reverse) (u:=.lst vs) o3 d3 (λ_ z=>nomatch z) (λ_ _ z=>nomatch z) (s1.trans s3) (by
    cases z:H D with
    |none=>rfl
    |some o=>
     have:=s1.keep D o (λi hi z2=>(r1.out hD) i (vae hi s1.le) ((s1.same i hi).trans z2)) z
     rw[hD]at this;cases this) λ_ mv=>⟨_,zai,q3.map mv⟩
   rw[zpm d3]at st r'
   refine k _ _ _ st r' ?_
   have:VRep K (λi=>if i=h2.n then D else m3 i) (h2.n+1) H' (.ref ((λi=>if i=h2.n then D else m3 i) h2.n)) (.ref h2.n):=.ref (vbx _)
   simp only[vbj]at this
   exact this
  .rename_i w hn
   obtain⟨j3,j4⟩:=j1 w hn
   refine .inr ⟨j3,λy H4 hy=>?_⟩
   obtain⟨s4,r4,q4⟩:=j4 y H4 hy
   split at e5
   .cases e5
   .rename_i ρ5 ht
    refine⟨ρ',h3,m3,w,ρ5,f3.stp s4,r4,q4,ht,λσ5 f5=>?_⟩
    refine zac e5 λbv h6 e6 e7=>?_
    have d4:H4 D=some (.lst vs):=s4.keep D _ o3 d3
    have s14:=s3.trans s4
    have p4:=J1.1 m3 h3.n H' m3 h3.n H4 (vad _) (λ_ _=>rfl) (λb vs q=>s4.tup b vs q) (λb o u q=>s4.frz b o u q) p3
    cases bv<;>try cases e7
    rename_i bb
    refine⟨ρ5,h3,m3,bb,h6,f5,r4,e6,λH6 m6 s6 r6=>?_⟩
    have o6:=s6.out o3 d4
    have d6:H6 D=some (.lst vs):=s6.keep D _ o3 d4
    have p6:=J1.1 m3 h3.n H4 m6 h6.n H6 s6.le s6.same (λb vs q=>s6.tup b vs q) (λb o u q=>s6.frz b o u q) p4
    cases bb with
    |false=>
     simp only[vaq,vbo]
     exact⟨fl,vbx _,ρ5,h6,m6,acc,e7,f5.stp s6,r6,d6,(q3.stp s4).stp s6,o6,s14.trans s6,p6⟩
    |true=>
     simp only[vbj]
     refine zac e7 λy7 h7 e8 e9=>?_
     refine⟨ρ5,h6,m6,y7,h7,f5.stp s6,r6,e8,λv7 H7 m7 s7 r7 q7=>?_⟩
     have o7:=s7.out o6 d6
     have d7:H7 D=some (.lst vs):=s7.keep D _ o6 d6
     have p7:=J1.1 m6 h6.n H6 m7 h7.n H7 s7.le s7.same (λb vs q=>s7.tup b vs q) (λb o u q=>s7.frz b o u q) p6
     have q37:=((q3.stp s4).stp s6).stp s7
     have hlen:=zit e9
     rw[vai]at hlen
     refine⟨d7,?_,fl,vbx _,ρ5,h7,m7,y7::acc,e9,?_⟩
     .rw[q37.length,vcd]
      have:big=sizeLine:=rfl
      omega
     .obtain⟨st8,r8,mv⟩:=r7.side (u:=.lst (vs++[v7])) d7 (λ_ z=>nomatch z) (λ_ _ z=>nomatch z) o7 ((s14.trans s6).trans s7) hD
      have kt:∀b us,H7 b=some (.tup us)->upd H7 D (.lst (vs++[v7])) b=some (.tup us):=λb us q=>by rw[zaf (ne_of q d7 λz=>nomatch z)];exact q
      have kf:∀b o u,H7 b=some (.frz o u)->upd H7 D (.lst (vs++[v7])) b=some (.frz o u):=λb o u q=>by rw[zaf (ne_of q d7 λz=>nomatch z)];exact q
      refine⟨⟨(f5.stp s6).len,λi w e=>let⟨v,h1,h2⟩:=((f5.stp s6).stp s7).val i w e;⟨v,h1,mv h2⟩⟩,r8,zai,?_,o7,st8,J1.1 m7 h7.n H7 m7 h7.n _ (vad _) (λ_ _=>rfl) kt kf p7⟩
      rw[vdl]
      exact(q37.map mv).append (.cons (mv q7) .nil)
end
noncomputable def Grow(h h':VH):Prop:=h.n<=h'.n/\h'.lo<=h.lo/\∀i,i<h.n->i<h'.lo->h'.get i=h.get i
theorem Grow.refl:Grow h h:=⟨vad _,vad _,λ_ _ _=>rfl⟩
theorem Grow.trans(a:Grow h h1)(b:Grow h1 h2):Grow h h2:=⟨van a.1 b.1,van b.2.1 a.2.1,λi hi hl=>(b.2.2 i (vae hi a.1) hl).trans (a.2.2 i hi (vae hl b.2.1))⟩
theorem Grow.new:Grow h (h.new o):=⟨vd4 _,vad _,λi hi _=>zae hi⟩
theorem Grow.set{i:Nat}(hi:i<h.n):Grow h (h.set i o):=by
 refine⟨vad _,?_,λj hj hl=>zc4 hi ?_⟩
 .show(if Nat.blt i h.lo then i else h.lo)<=h.lo
  split
  .rename_i q;exact vdr (zaq.mp q)
  .exact vad _
 .have hl:j< (if Nat.blt i h.lo then i else h.lo):=hl
  split at hl
  .omega
  .rename_i q
   intro z
   rw[z]at hl
   exact q (zaq.mpr hl)
noncomputable def Gr{α:Type}(r:Res α)(h:VH):Prop:=∀a h',r=.ok a h'->Grow h h'
section
variable{α β:Type}{h:VH}
theorem Gr.ok{a:α}:Gr (Res.ok a h) h:=λ_ _ e=>by cases e;exact .refl
theorem Gr.no:Gr (Res.no:Res α) h:=λ_ _ e=>by cases e
theorem Gr.of{o:Option α}:Gr (Res.of o h) h:=λ_ _ e=>by cases o with|none=>cases e|some a=>cases e;exact .refl
theorem Gr.new{a:α}:Gr (Res.ok a (h.new o)) h:=λ_ _ e=>by cases e;exact .new
theorem Gr.set{a:α}{i:Nat}(g:h.get i=some o'):Gr (Res.ok a (h.set i o)) h:=λ_ _ e=>by cases e;exact .set (zas g)
theorem Gr.bind{r:Res α}{f:α->VH->Res β}(a:Gr r h)(b:∀x h1,Gr (f x h1) h1):Gr (r.bind f) h:=λy h' e=>by
 cases r with
 |ok x h1=>exact(a x h1 rfl).trans (b x h1 y h' e)
 |ex _ _=>cases e
 |no=>cases e
end
theorem gr_op:Gr (opW o x y h) h:=by
 unfold opW
 split
 .exact .of
 .exact .of
 .exact .of
 .split
  .split
   .exact .new
   .exact .no
  .exact .no
 .exact .no
theorem gr_ip:Gr (ipW o x y h) h:=by
 unfold ipW
 split
 .split
  .exact .ok
  .exact .ok
  .exact .of
  .exact .of
  .exact .no
 .split
  .split
   .rename_i g _ _;exact .set g
   .exact .no
  .exact .no
 .exact .no
theorem zwk{l u:Option Int}:Gr (slcW x l u h) h:=by
 unfold slcW
 split
 .exact .ok
 .split
  .exact .new
  .exact .no
 .exact .no
theorem gr_bi{b:Bi}:Gr (biW b xs h) h:=by
 cases b<;>simp only[biW]
 .unfold lenW;split<;>first|exact .of|exact .no
 .unfold listW
  split
  .split
   .exact .new
   .exact .no
  .exact .no
 .unfold zei;split<;>first|exact .of|exact .no
 .unfold intW;split<;>first|exact .ok|exact .no
 .unfold absW;split<;>first|exact .ok|exact .no
 .unfold maxW;split<;>first|exact .ok|exact .no
 .unfold minW;split<;>first|exact .ok|exact .no
 .unfold allW
  split
  .split
   .exact .of
   .exact .no
  .exact .no
 .unfold lrngW
  split
  .split
   .exact .new
   .exact .no
  .exact .no
 .unfold revW;split<;>first|exact .ok|exact .no
 .unfold strW
  split
  .split
   .exact .ok
   .exact .no
  .exact .no
theorem gr_mt{m:Mt}:Gr (mtW m o xs h) h:=by
 unfold mtW
 split
 .split
  .split
   .rename_i g _;exact .set g
   .exact .no
  .exact .no
 .exact .no
theorem gr_lc{nx:Nat->VH->Option (Option W)}{tg:W->VH->En->Option En}{c e:En->VH->Res W}(hc:∀ρ h,Gr (c ρ h) h)(he:∀ρ h,Gr (e ρ h) h):∀(f i:Nat) (ρ:En) (h:VH) (acc:List W),Gr (lcG nx tg c e f i ρ h acc) h
 |0,_,_,_,_=>.no
 |f+1,i,ρ,h,acc=>by
  simp only[lcG]
  split
  .exact .no
  .exact .ok
  .split
   .exact .no
   .refine .bind (hc _ _) λb h1=>?_
    split
    .exact .bind (he _ _) λy h2=>gr_lc hc he f _ _ _ _
    .exact gr_lc hc he f _ _ _ _
    .exact .no
theorem zmo{nx:Nat->VH->Option (Option W)}{tg:W->VH->En->Option En}{b:En->VH->Res Fl}(hb:∀ρ h,Gr (b ρ h) h):∀(f i:Nat) (ρ:En) (h:VH),Gr (forG nx tg b f i ρ h) h
 |0,_,_,_=>.no
 |f+1,i,ρ,h=>by
  simp only[forG]
  split
  .exact .no
  .exact .ok
  .split
   .exact .no
   .refine .bind (hb _ _) λfl h1=>?_
    split
    .exact zmo hb f _ _ _
    .exact zmo hb f _ _ _
    .exact .ok
    .exact .ok
theorem zmp{c:En->VH->Res W}{b:En->VH->Res Fl}(hc:∀ρ h,Gr (c ρ h) h)(hb:∀ρ h,Gr (b ρ h) h):∀(f:Nat) (ρ:En) (h:VH),Gr (whlG c b f ρ h) h
 |0,_,_=>.no
 |f+1,ρ,h=>by
  simp only[whlG]
  refine .bind (hc _ _) λt h1=>?_
  split
  .exact .ok
  .refine .bind (hb _ _) λfl h2=>?_
   split
   .exact zmp hc hb f _ _
   .exact zmp hc hb f _ _
   .exact .ok
   .exact .ok
  .exact .no
section
variable{cl:Call}
theorem gr_ev(hcl:∀f ws h,Gr (cl f ws h) h):∀(e:E) (ρ:En) (h:VH),Gr (ev cl e ρ h) h:=by
 intro e
 induction e with
 |var i=>intro ρ h;exact .of
 |cst w=>intro ρ h;exact .ok
 |nil=>intro ρ h;exact .ok
 |cons a r i1 i2=>intro ρ h;simp only[ev];refine .bind (i1 _ _) λx h1=>.bind (i2 _ _) λy h2=>?_;split<;>first|exact .ok|exact .no
 |tup a i1=>intro ρ h;simp only[ev];refine .bind (i1 _ _) λx h1=>?_;split<;>first|(split<;>first|exact .ok|exact .no)|exact .no
 |lst a i1=>intro ρ h;simp only[ev];refine .bind (i1 _ _) λx h1=>?_;split<;>first|(split<;>first|exact .new|exact .no)|exact .no
 |dsp a i1=>
  intro ρ h;simp only[ev];refine .bind (i1 _ _) λx h1=>?_
  split
  .split
   .split
    .exact .new
    .exact .no
   .exact .no
  .exact .no
 |op o a b i1 i2=>intro ρ h;simp only[ev];exact .bind (i1 _ _) λx h1=>.bind (i2 _ _) λy h2=>gr_op
 |neg a i1=>intro ρ h;simp only[ev];refine .bind (i1 _ _) λx h1=>?_;split<;>first|exact .ok|exact .no
 |cmp c a b i1 i2=>intro ρ h;simp only[ev];exact .bind (i1 _ _) λx h1=>.bind (i2 _ _) λy h2=>.of
 |chn c d a b e i1 i2 i3=>
  intro ρ h;simp only[ev];refine .bind (i1 _ _) λx h1=>.bind (i2 _ _) λy h2=>?_
  split
  .exact .bind (i3 _ _) λz h3=>.of
  .exact .ok
  .exact .no
 |not a i1=>intro ρ h;simp only[ev];refine .bind (i1 _ _) λx h1=>?_;split<;>first|exact .ok|exact .no
 |and a b i1 i2=>intro ρ h;simp only[ev];refine .bind (i1 _ _) λx h1=>?_;split<;>first|exact i2 _ _|exact .ok|exact .no
 |or a b i1 i2=>intro ρ h;simp only[ev];refine .bind (i1 _ _) λx h1=>?_;split<;>first|exact i2 _ _|exact .ok|exact .no
 |tru a i1=>intro ρ h;simp only[ev];exact .bind (i1 _ _) λx h1=>.of
 |ite c a b i1 i2 i3=>
  intro ρ h;simp only[ev];refine .bind (i1 _ _) λx h1=>?_
  split
  .exact i2 _ _
  .exact i3 _ _
  .exact .no
 |idx a b i1 i2=>intro ρ h;simp only[ev];exact .bind (i1 _ _) λx h1=>.bind (i2 _ _) λy h2=>.of
 |slc a bl lo bh hi i1 i2 i3=>
  intro ρ h;simp only[ev];refine .bind (i1 _ _) λx h1=>.bind (i2 _ _) λy h2=>.bind (i3 _ _) λz h3=>?_
  split
  .exact zwk
  .exact .no
 |call f a i1=>intro ρ h;simp only[ev];refine .bind (i1 _ _) λx h1=>?_;split<;>first|exact hcl _ _ _|exact .no
 |bi b a i1=>intro ρ h;simp only[ev];refine .bind (i1 _ _) λx h1=>?_;split<;>first|exact gr_bi|exact .no
 |isi t a i1=>intro ρ h;simp only[ev];exact .bind (i1 _ _) λx h1=>.of
 |mt m o a i1 i2=>
  intro ρ h;simp only[ev];refine .bind (i1 _ _) λx h1=>?_
  split
  .refine .bind (i2 _ _) λy h2=>?_
   split<;>first|exact gr_mt|exact .no
  .exact .no
 |lc k a t ow ix c e i1 i2 i3=>
  intro ρ h;simp only[ev]
  refine .bind (i1 _ _) λx h1=>.bind (gr_lc i2 i3 _ _ _ _ _) λys h2=>?_
  split
  .exact .new
  .exact .no
theorem zhn(hcl:∀f ws h,Gr (cl f ws h) h):∀(s:S) (ρ:En) (h:VH),Gr (exs cl s ρ h) h:=by
 have ge:=gr_ev hcl
 intro s
 induction s with
 |skip=>intro ρ h;exact .ok
 |seq a b i1 i2=>intro ρ h;simp only[exs];refine .bind (i1 _ _) λfl h1=>?_;split<;>first|exact i2 _ _|exact .ok
 |set i e=>intro ρ h;simp only[exs];exact .bind (ge _ _ _) λw h1=>.ok
 |unp is e=>intro ρ h;simp only[exs];exact .bind (ge _ _ _) λw h1=>.of
 |aug i o e=>
  intro ρ h;simp only[exs]
  split
  .exact .bind (ge _ _ _) λy h1=>.bind gr_ip λz h2=>.ok
  .exact .no
 |put o i v=>
  intro ρ h;simp only[exs]
  refine .bind (ge _ _ _) λw h1=>.bind (ge _ _ _) λx h2=>.bind (ge _ _ _) λy h3=>?_
  split
  .split
   .split
    .rename_i g _ _ _;exact .set g
    .exact .no
   .exact .no
  .exact .no
 |ite c a b i1 i2=>
  intro ρ h;simp only[exs];refine .bind (ge _ _ _) λx h1=>?_
  split
  .exact i1 _ _
  .exact i2 _ _
  .exact .no
 |ret e=>intro ρ h;simp only[exs];exact .bind (ge _ _ _) λw h1=>.ok
 |expr e=>intro ρ h;simp only[exs];exact .bind (ge _ _ _) λw h1=>.ok
 |brk=>intro ρ h;exact .ok
 |cnt=>intro ρ h;exact .ok
 | «for» k a t b i1=>intro ρ h;simp only[exs];exact .bind (ge _ _ _) λx h1=>zmo i1 _ _ _ _
 |whl c b i1=>intro ρ h;simp only[exs];exact zmp (ge c) i1 _ _ _
 |tryc f a tb=>
  intro ρ h;simp only[exs];refine .bind (ge _ _ _) λy h1=>?_
  split
  .refine .bind (hcl _ _ _) λw h2=>?_
   unfold tryW
   split
   .exact .ok
   .split
    .exact .ok
    .exact .no
   .exact .no
  .exact .no
 |tel f a b s t i1 i2=>
  intro ρ h;simp only[exs];refine .bind (ge _ _ _) λy h1=>?_
  split
  .refine .bind (hcl _ _ _) λw h2=>?_
   unfold telW
   split
   .split
    .split
     .exact i2 _ _
     .exact i1 _ _
     .exact .no
    .exact i1 _ _
   .exact .ok
   .exact .no
  .exact .no
 |no=>intro ρ h;exact .no
end
theorem zbt(F:Nat->Option Fn):∀(k f:Nat) (ws:List W) (h:VH),Gr (run F k f ws h) h
 |0,_,_,_=>.no
 |k+1,f,ws,h=>by
  intro a h' e
  simp only[run]at e
  split at e
  .rename_i fn hf
   split at e
   .rename_i hl
    generalize hr:exs (run F k) fn.body (ws.map some++vgc (fn.n-fn.ps) none) ⟨h.n,h.n,h.os⟩=r at e
    have g:=zhn (zbt F k) fn.body (ws.map some++vgc (fn.n-fn.ps) none) ⟨h.n,h.n,h.os⟩
    rw[hr]at g
    have lv:∀w h1,Grow ⟨h.n,h.n,h.os⟩ h1->leave h w h1=.ok a h'->Grow h h':=by
     intro w h1 g1 e1
     unfold leave at e1
     split at e1
     .cases e1;exact .refl
     .cases e1
      refine⟨g1.1,?_,λi hi hlo=>?_⟩
      .show(if Nat.ble h.lo h1.lo then h.lo else h1.lo)<=h.lo
       split
       .exact vad _
       .rename_i q
        exact Nat.le_of_not_le λz=>q (veb.mpr z)
      .have hlo:i< (if Nat.ble h.lo h1.lo then h.lo else h1.lo):=hlo
       have hh:i<h1.lo:=by
        split at hlo
        .rename_i q;exact vae hlo (va5 q)
        .exact hlo
       exact g1.2.2 i hi hh
    cases r with
    |no=>cases e
    |ex _ _=>cases e
    |ok fl h1=>
     have g1:=g fl h1 rfl
     simp only[Res.bind]at e
     split at e
     .exact lv _ _ g1 e
     .exact lv _ _ g1 e
     .cases e
   .cases e
  .cases e
noncomputable abbrev RtK:=(Nat->Addr)->Nat->Hp->VK->W->Prop
noncomputable abbrev Rr(K:vga):RtK:=λm n H Q w=>∀v,VRep K m n H v w->Q v H
noncomputable def FlOk(K:vga)(R:RtK)(m:Nat->Addr)(n:Nat)(H:Hp)(D:Ends):Fl->Prop
 |.nx ρ=>∀σ,Fr K m n H σ ρ->D.nx σ H
 |.bk ρ=>∀σ,Fr K m n H σ ρ->D.bk σ H
 |.ct ρ=>∀σ,Fr K m n H σ ρ->D.ct σ H
 |.rt w=>R m n H D.rt w
noncomputable def lftS(K:vga)(R:RtK)(f:FS):TS:=λD σ H=>∃ρ h m fl h',Fr K m h.n H σ ρ/\Rel K m h H/\f ρ h=.ok fl h'/\∀H' m',Stp m h.n H m' h'.n H'->Rel K m' h' H'->FlOk K R m' h'.n H' D fl
theorem lftS.el{K:vga}{R:RtK}{D:Ends}{σ:L2.St}{H:Hp}{P:Prop}{fa:FS}(q:lftS K R fa D σ H)(k:∀ρ h m fl h',Fr K m h.n H σ ρ->Rel K m h H->fa ρ h=.ok fl h'->(∀H' m',Stp m h.n H m' h'.n H'->Rel K m' h' H'->FlOk K R m' h'.n H' D fl)->P):P:=by
 obtain⟨ρ,h,m,w,h',f,r,e,k'⟩:=q
 exact k ρ h m w h' f r e k'
theorem lftS.mk{K:vga}{R:RtK}{D:Ends}{σ:L2.St}{H:Hp}{m:Nat->Addr}{ρ:En}{h h':VH}{fl:Fl}{fa:FS}(f:Fr K m h.n H σ ρ)(r:Rel K m h H)(e:fa ρ h=.ok fl h')(k:∀H' m',Stp m h.n H m' h'.n H'->Rel K m' h' H'->FlOk K R m' h'.n H' D fl):lftS K R fa D σ H:=⟨ρ,h,m,fl,h',f,r,e,k⟩
noncomputable abbrev SR(X:Cx)(R:RtK)(st:Stmt)(f:FS):Prop:=PS X st (lftS X.K R f)
noncomputable abbrev SRs(X:Cx)(R:RtK)(st:List Stmt)(f:FS):Prop:=PSs X st (lftS X.K R f)
noncomputable abbrev SS(X:Cx)(st:Stmt)(f:FS):Prop:=SR X (Rr X.K) st f
noncomputable abbrev SSs(X:Cx)(st:List Stmt)(f:FS):Prop:=SRs X (Rr X.K) st f
section
variable{X:Cx}{a b c e o:Expr}{es:List Expr}{fa fb fc fo fr:FE}{pos p:Pos}{x:Str}{st:Stmt}{sts:List Stmt}{ga gb:FS}{R:RtK}
noncomputable abbrev gSkip:FS:=λρ h=>.ok (.nx ρ) h
noncomputable abbrev gSeq(ga gb:FS):FS:=λρ h=>(ga ρ h).bind λfl h=>match fl with|.nx ρ=>gb ρ h|fl=>.ok fl h
theorem zmq:SRs X R [] gSkip:=zii.imp λD σ H z9=>z9.el λρ h m fl h' f r e k=>by cases e;exact k H m .refl r σ f
theorem zs1:SS X (.Pass pos) gSkip:=zrx.imp λD σ H z9=>z9.el λρ h m fl h' f r e k=>by cases e;exact k H m .refl r σ f
theorem zwl:SS X (.Break pos) (λρ h=>.ok (.bk ρ) h):=zol.imp λD σ H z9=>z9.el λρ h m fl h' f r e k=>by cases e;exact k H m .refl r σ f
theorem zwm:SS X (.Continue pos) (λρ h=>.ok (.ct ρ) h):=zij.imp λD σ H z9=>z9.el λρ h m fl h' f r e k=>by cases e;exact k H m .refl r σ f
theorem zji(h1:SR X R st ga)(h2:SRs X R sts gb):SRs X R (st::sts) (gSeq ga gb):=(zcg h1 h2).imp λD σ H z9=>z9.el λρ h m fl h' f r e k=>by
 refine zac e λfl1 h1 e1 e2=>?_
 refine(.mk f r e1 λH1 m1 s1 r1=>?_)
 cases fl1 with
 |nx ρ1=>exact λσ1 f1=>⟨ρ1,h1,m1,fl,h',f1,r1,e2,λH' m' s' r'=>k H' m' (s1.trans s') r'⟩
 |bk ρ1=>cases e2;exact k H1 m1 s1 r1
 |ct ρ1=>cases e2;exact k H1 m1 s1 r1
 |rt w=>cases e2;exact k H1 m1 s1 r1
theorem ss_no:SS X st (λ_ _=>.no):=zom.imp λD σ H z9=>z9.el λρ h m fl h' f r e k=>by cases e
noncomputable def zfg:Expr->Bool
 |.ListComp .. |.SetComp .. |.DictComp ..=>false
 |_=>true
theorem zgf{t:Option Expr}{l:Nat}(h:zfg e=true):swapsWith e t l env=pure false:=by
 cases e<;>first|rfl|cases h
theorem zmr(he:SE X e fa)(hs:zfg e=true):SS X (.Expr e pos) (λρ h=>(fa ρ h).bind λ_ h=>.ok (.nx ρ) h):=(zk8 he (zgf hs)).imp λD σ H z9=>z9.el λρ h m fl h' f r e k=>by
 refine zac e λw h1 e1 e2=>?_
 cases e2
 exact(.mk f r e1 λv H1 m1 s1 r1 q1=>k H1 m1 s1 r1 σ (f.stp s1))
theorem zwn(he:SE X e fa):SS X (.Return (some e) pos) (λρ h=>(fa ρ h).bind λw h=>.ok (.rt w) h):=(zg1 he).imp λD σ H z9=>z9.el λρ h m fl h' f r e k=>by
 refine zac e λw h1 e1 e2=>?_
 cases e2
 exact(.mk f r e1 λv H1 m1 s1 r1 q1=>k H1 m1 s1 r1 v q1)
theorem zs2:SS X (.Return none pos) (λρ h=>(Res.ok W.non h).bind λw h=>.ok (.rt w) h):=zry.imp λD σ H z9=>z9.el λρ h m fl h' f r e k=>by
 cases e
 exact k H m .refl r .non .non
noncomputable abbrev gSet(i:Nat)(fa:FE):FS:=λρ h=>(fa ρ h).bind λw h=>.ok (.nx (ρ.set i (some w))) h
theorem zq6{K:vga}{i:Nat}{D:Ends}{σ:L2.St}{H:Hp}(q:lftS K R (gSet i fa) D σ H):lft K fa σ H λv H1=>gName i v σ H1 D.nx:=by
 refine q.el λρ h m fl h' f r e k=>?_
 refine zac e λw h1 e1 e2=>?_
 cases e2
 exact(.mk f r e1 λv H1 m1 s1 r1 q1=>k H1 m1 s1 r1 _ ((f.stp s1).set q1 i))
theorem zq7{i:Nat}{pos':Pos}(hN:X.N.Nodup)(hi:X.N[i]?=some x)(hx:Loc X.env.scope x)(hf:X.fn x=true\/X.env.scope.names.lookup x=some .local)(he:SE X e fa)
 (hs:swapsWith e (some (.Name x pos')) pos.line X.env=pure false):SS X (.Assign [.Name x pos'] e pos) (gSet i fa):=(zqn hN hi hx he hs hf).imp λD σ H q=>zq6 q
theorem zpn{i:Nat}{pos' lp:Pos}{ow fr:List Str}{ix:List Nat}{scope:Scope}{tg iter elt:Expr}{ifs:List Expr}{kd:Kd}{t:Tg}{fe:FE}(hN:X.N.Nodup)(hi:X.N[i]?=some x)(hx:Loc X.env.scope x)(hf:X.fn x=true\/X.env.scope.names.lookup x=some .local)
 (S:CompScope X ow fr ix scope) (hc:X.calm=true) (hI:PI X tg iter (lftI X.K kd fa)) (hg:∀C s₀ H₀ ex,PG (X.comp (ow++fr) scope C s₀ H₀ ex) tg (lftG X.K t)) (ht:∀C s₀ H₀ ex,PTs (X.comp (ow++fr) scope C s₀ H₀ ex) ifs (lftT X.K fc))
 (he:∀C s₀ H₀ ex,PE (X.comp (ow++fr) scope C s₀ H₀ ex) elt (lft X.K fe)) (hsw:swapsWith (.ListComp elt [⟨tg,iter,ifs,0⟩] scope lp) (some (.Name x pos')) pos.line X.env=pure true) (hs:∀x,foldedSetIterable iter X.env x=pure x) :
 SS X (.Assign [.Name x pos'] (.ListComp elt [⟨tg,iter,ifs,0⟩] scope lp) pos) (gSet i (gLc kd fa t ow.length ix fc fe)):=
 (zo2 hN hi hx S hc hI hg ht he hsw hf hs).imp λD σ H q=>lc_ok (zq6 q)
theorem se_lc{lp:Pos}{ow fr:List Str}{ix:List Nat}{scope:Scope}{tg iter elt:Expr}{ifs:List Expr}{kd:Kd}{t:Tg}{fe:FE}
 (S:CompScope X ow fr ix scope) (hc:X.calm=true) (hI:PI X tg iter (lftI X.K kd fa)) (hg:∀C s₀ H₀ ex,PG (X.comp (ow++fr) scope C s₀ H₀ ex) tg (lftG X.K t)) (ht:∀C s₀ H₀ ex,PTs (X.comp (ow++fr) scope C s₀ H₀ ex) ifs (lftT X.K fc))
 (he:∀C s₀ H₀ ex,PE (X.comp (ow++fr) scope C s₀ H₀ ex) elt (lft X.K fe)) (hs:∀x,foldedSetIterable iter X.env x=pure x) :
 SE X (.ListComp elt [⟨tg,iter,ifs,0⟩] scope lp) (gLc kd fa t ow.length ix fc fe):=(pe_lc S hc hI hg ht he hs).imp λσ H Q q=>lc_ok q
noncomputable def noTup:Expr->Bool
 |.Tuple ..=>false
 |_=>true
theorem zms{k:Nat}{l:Nat}:swapsWithSole [.Tuple es k p] e l env=pure false:=by
 cases e<;>rfl
theorem zkn{k:Nat}(h:noTup e=true):swappedStores [.Tuple es k p] e env=pure none:=by
 cases e<;>first|rfl|cases h
theorem zwo{is:List Nat}{k:Nat}(hc:X.calm=true)(hN:X.N.Nodup)(hs:Paired (NmOk X) es is)(he:SE X e fa)(ht:noTup e=true) :
 SS X (.Assign [.Tuple es k p] e pos) (λρ h=>(fa ρ h).bind λw h=>.of ((tgW (.many is) w h ρ).map .nx) h):=(zqm he (zmn hc hN hs) zms (zkn ht) rfl).imp λD σ H z9=>z9.el λρ h m fl h' f r e k=>by
 refine zac e λw h1 e1 e2=>?_
 obtain⟨e2,e3⟩:=of_ok e2
 subst e3
 cases z:tgW (.many is) w h' ρ with
 |none=>rw[z]at e2;cases e2
 |some ρ'=>
  rw[z]at e2;cases e2
  exact(.mk f r e1 λv H1 m1 s1 r1 q1=>(.mk (f.stp s1) r1 q1 z λσ' f'=>k H1 m1 s1 r1 σ' f'))
noncomputable def zc8:Expr->Bool
 |.Slice ..=>false
 |_=>true
theorem zko(h:zc8 i=true)(v:Value):assign (.Subscript o i p) env v=(do
 let ov <-holding [v] (eval o env)
 let iv <-holding [v,ov] (eval i env)
 standAt p
 holding [v,ov,iv] (setItem ov iv v)
 release [v,ov,iv] []):=by
 cases i<;>first|rfl|cases h
noncomputable abbrev gPut(fo fi fv:FE):FS:=λρ h=>(fv ρ h).bind λw h=>(fo ρ h).bind λx h=>(fi ρ h).bind λy h=>match x,y with
 |.ref a,.int j=>(match h.get a with
  |some (.lst ws)=>(match L2.ixN ws.length j with
   |some k=>.ok (.nx ρ) (h.set a (.lst (ws.set k w)))
   |none=>.no)
  |_=>.no)
 |_,_=>.no
theorem zmt{l:Nat}:swapsWithSole [.Subscript o i p] e l env=pure false:=by
 cases e<;>rfl
theorem ziu:swappedStores [.Subscript o i p] e env=pure none:=by
 cases e<;>rfl
theorem zwp(hu:X.A.units+2<cLine)(ho:SE X o fo)(hi:SE X a fa)(hv:SE X e fb)(hs:zc8 a=true):SS X (.Assign [.Subscript o a p] e pos) (gPut fo fa fb):=
 (zqm hv (zuk ho hi zoz (zko hs)) zmt ziu rfl).imp λD σ H z9=>z9.el λρ h m fl h' f r e k=>by
   refine zac e λw h1 e1 e2=>?_
   refine zac e2 λx h2 e3 e4=>?_
   refine zac e4 λy h3 e5 e6=>?_
   refine(.mk f r e1 λv H1 m1 s1 r1 q1=>(.mk (f.stp s1) r1 e3 λvo H2 m2 s2 r2 q2=>(.mk ((f.stp s1).stp s2) r2 e5 λvi H3 m3 s3 r3 q3=>?_)))
   split at e6
   .rename_i l j
    split at e6
    .rename_i ws g
     split at e6
     .rename_i kk hk
      cases e6
      cases q3
      have q2':=q2.stp s3
      cases q2'
      obtain⟨vs,p1,p2⟩:=r3.lst g
      refine⟨m3 l,vs,j,kk,rfl,rfl,p1,by rw[p2.length];exact hk,?_⟩
      have qv:=((q1.stp s2).stp s3)
      obtain⟨st,r'⟩:=r3.write (i:=l) (o:=.lst (ws.set kk w)) (u:=.lst (vs.set kk v)) (zas g) p1 (λ_ z=>nomatch z) (λ_ _ z=>nomatch z) λst=>⟨_,zai,VReps.set (qv.stp st) kk (p2.stp st)⟩
      exact k _ m3 (((s1.trans s2).trans s3).trans st) r' σ ((((f.stp s1).stp s2).stp s3).stp st)
     .cases e6
    .cases e6
   .cases e6
theorem ziv{M:Model}{A:Around}{E:Value->Shared->Prop}{s:Shared}{a b:Value}{T id:String}{Q:Value->Shared->Prop}(ha:s.TypeIs a T)(hb:s.TypeIs b T)
 (hI:typeLookup (.type T) (dunderI "add")=pure (some (.builtin id))) (hq:isSeqSlot (some (.builtin id))=true) (hfill:fillsNumberSlot (.type T) "add" = pure false) (hc:wpAny M A (call (.builtin id) [a,b]) Q E s):wpAny M A (inplaceOp .Add a b) Q E s:=by
 unfold inplaceOp
 refine vb0 ?_
 have h1:fillsInplaceSlot (.type T) "add" (Operator.Add == .Add)=pure false:=by
  unfold fillsInplaceSlot
  show(typeLookup (.type T) (dunderI "add") >>= λfi=>pure (fi.isSome && !isSeqSlot fi))=_
  rw[hI,vee,hq];rfl
 have h2:seqSlot? (.type T) (dunderI "add")=pure (some (.builtin id)):=by
  unfold seqSlot?
  rw[hI,vee,hq];rfl
 refine vab (veh ha (vab (vec h1 ?_)))
 show wpAny M A (if false=true then _ else _) Q E s
 rw[if_neg va3]
 refine vab (binaryOp1_none (nm:="add") ha hb hfill ?_)
 refine vab (vec h2 ?_)
 exact vab (ves hc)
noncomputable def rIcat:R2:=λx y H Q=>∃l b xs zs,x=.ref l/\y=.ref b/\H l=some (.lst xs)/\H b=some (.lst zs)/\xs.length+zs.length<=sizeLine/\Q (.ref l) (upd H l (.lst (xs++zs)))
theorem zwq:PIp X .Add rIcat:=by
 intro pins s σ H x y v u Q I rx ry h
 obtain⟨l,b,xs,zs,rfl,rfl,hH,hB,hz,q⟩:=h
 cases rx
 cases ry
 obtain⟨z,its,n,r,hl,e⟩:=I.lstM hH
 obtain⟨z2,its2,n2,r2,hl2,e2⟩:=I.lstM hB
 have hsz:its.toArray.size+its2.toArray.size<=sizeLine:=by rw[vah,vah];omega
 have hlong:¬(!its.toArray.isEmpty&&Builtin.List.listTooLong (its.toArray.size+its2.toArray.size))=true:=by
  rw[zja hsz,vek]
  exact va3
 refine ziv (T:="list") (id:="list.__iadd__") ⟨_,e,rfl⟩ ⟨_,e2,rfl⟩ PySem.F.slot_list_iadd.lookup (by decide +kernel) noFill_list_add ?_
 refine vdu PySem.F.slot_list_iadd ⟨_,e,rfl⟩ PySem.F.entry_list_iadd (PySem.F.args_list_iadd_2 _ _)
  (AutoSeq1.list___iadd___list_list_0 l its.toArray n b its2.toArray n2 hlong (by rw[vah];omega) (by omega)) ⟨e,e2,?_⟩
 refine⟨.ref l,_,I.lset (its':=its++its2) hH e (by simp) (r.append r2) ?_,rfl,q⟩
 rw[vaj]
 omega
noncomputable def ipOf:Operator->Option Op
 |.Add=>some .add|.Sub=>some .sub|.Mult=>some .mul|.FloorDiv=>some .fdiv
 |_=>none
noncomputable def rIp:Op->R2
 |.mul=>rI CMul λi j=>.int (i*j)
 |.fdiv=>rI CDiv λi j=>.int (i/j)
 |.add=>λx y H Q=>ipI (λi j=>i+j) x y H Q\/rIcat x y H Q
 |.sub=>ipI λi j=>i-j
 |_=>λ_ _ _ _=>False
theorem ip_ok{O:Operator}{o:Op}(e:ipOf O=some o):PIp X O (rIp o):=by
 cases O<;>cases e
 .intro pins s σ H x y v u Q I rx ry q
  rcases q with q|q
  .exact zum pins s σ H x y v u Q I rx ry q
  .exact zwq pins s σ H x y v u Q I rx ry q
 .exact zun
 .exact zr1
 .exact zoq
theorem zwr{K:vga}{O:Operator}{o:Op}(e:ipOf O=some o):OpV K (rIp o) (ipW o):=by
 intro m h H v u x y w h' Q r qv qu e2 k
 unfold ipW at e2
 split at e2
 .rename_i i j
  cases qv;cases qu
  split at e2
  .cases e2;exact .inl ⟨i,j,rfl,rfl,Wants.here k r (.int _)⟩
  .cases e2;exact⟨i,j,rfl,rfl,Wants.here k r (.int _)⟩
  .obtain⟨e2,rfl⟩:=of_ok e2
   cases z:opI .mul i j with
   |none=>rw[z]at e2;cases e2
   |some t=>
    rw[z]at e2;cases e2
    obtain⟨c1,rfl⟩:=zme z
    exact⟨i,j,rfl,rfl,c1,Wants.here k r (.int _)⟩
  .obtain⟨e2,rfl⟩:=of_ok e2
   cases z:opI .fdiv i j with
   |none=>rw[z]at e2;cases e2
   |some t=>
    rw[z]at e2;cases e2
    obtain⟨c1,rfl⟩:=zme z
    exact⟨i,j,rfl,rfl,c1,Wants.here k r (.int _)⟩
  .cases e2
 .rename_i i j
  split at e2
  .rename_i xs ys g1 g2
   split at e2
   .rename_i hz
    cases e2
    cases qv;cases qu
    obtain⟨vs,p1,p2⟩:=r.lst g1
    obtain⟨us,p3,p4⟩:=r.lst g2
    refine .inr ⟨m i,m j,vs,us,rfl,rfl,p1,p3,by rw[p2.length,p4.length];exact va5 hz,?_⟩
    obtain⟨st,r'⟩:=r.write (i:=i) (o:=.lst (xs++ys)) (u:=.lst (vs++us)) (zas g1) p1 (λ_ z=>nomatch z) (λ_ _ z=>nomatch z) λst=>⟨_,zai,(p2.stp st).append (p4.stp st)⟩
    exact k _ _ m st r' (.ref (show i<h.n from zas g1))
   .cases e2
  .cases e2
 .cases e2
noncomputable abbrev gAug(i:Nat)(o:Op)(fa:FE):FS:=λρ h=>match(ρ[i]?).join with
 |some x=>(fa ρ h).bind λy h=>(ipW o x y h).bind λz h=>.ok (.nx (ρ.set i (some z))) h
 |none=>.no
theorem zws{i:Nat}{pos':Pos}{O:Operator}{o:Op}(eo:ipOf O=some o)(hN:X.N.Nodup)(hi:X.N[i]?=some x)(hx:Loc X.env.scope x)(hf:X.fn x=true\/X.env.scope.names.lookup x=some .local)(he:SE X e fa) :
 SS X (.AugAssign (.Name x pos') O e pos) (gAug i o fa):=(zul hN hi hx he (ip_ok eo) hf).imp λD σ H z9=>z9.el λρ h m fl h' f r e k=>by
 have e:gAug i o fa ρ h=.ok fl h':=e
 simp only[gAug]at e
 cases z:(ρ[i]?).join with
 |none=>rw[z]at e;cases e
 |some x=>
  rw[z]at e
  simp only at e
  refine zac e λy h1 e1 e2=>?_
  refine zac e2 λw h2 e3 e4=>?_
  cases e4
  have e5:ρ[i]?=some (some x):=by
   cases q:ρ[i]? with
   |none=>rw[q]at z;cases z
   |some o=>rw[q]at z;rw[<-z];rfl
  obtain⟨v,p1,p2⟩:=f.val i x e5
  refine⟨v,p1,ρ,h,m,y,h1,f,r,e1,λu H1 m1 s1 r1 q1=>zwr eo m1 h1 H1 v u x y w h' _ r1 (p2.stp s1) q1 e3 λv' H' m' s' r' q'=>?_⟩
  exact k H' m' (s1.trans s') r' _ (((f.stp s1).stp s').set q' i)
noncomputable abbrev gIf(fc:FE)(ga gb:FS):FS:=λρ h=>(fc ρ h).bind λx h=>match x with|.bl true=>ga ρ h|.bl false=>gb ρ h|_=>.no
variable{sa sb:List Stmt}
theorem zq8(hc:ST X c fc)(ha:SRs X R sa ga)(hb:SRs X R sb gb):SR X R (.If c sa sb pos) (gIf fc ga gb):=(ps_if hc ha hb).imp λD σ H z9=>z9.el λρ h m fl h' f r e k=>by
 refine zac e λx h1 e1 e2=>?_
 cases x<;>try cases e2
 rename_i c
 refine(.mk f r e1 λH1 m1 s1 r1=>?_)
 cases c with
 |true=>rw[if_pos rfl];exact(.mk (f.stp s1) r1 e2 λH' m' s' r'=>k H' m' (s1.trans s') r')
 |false=>simp only[vaq,vbo];exact(.mk (f.stp s1) r1 e2 λH' m' s' r'=>k H' m' (s1.trans s') r')
theorem zs3{nx:Nat->VH->Option (Option W)}{tg:W->VH->En->Option En}{f i:Nat}{ρ:En}{fl:Fl}(q:forG nx tg g (f+1) i ρ h=.ok fl h'):∃o,nx i h=some o:=by
 simp only[forG]at q
 split at q
 .cases q
 .exact⟨_,by assumption⟩
 .exact⟨_,by assumption⟩
noncomputable abbrev gFor(kd:Kd)(fa:FE)(t:Tg)(g:FS):FS:=λρ h=>(fa ρ h).bind λx h=>forG (nxt kd x) (tgW t) g fuel 0 ρ h
theorem zwt{K:vga}{kd:Kd}{t:Tg}{D:Ends}{σ:L2.St}{H:Hp}(q:lftS K R (gFor kd fa t ga) D σ H):tFor (lftI K kd fa) (lftG K t) (lftS K R ga) D σ H:=by
 refine q.el λρ h m fl h' f r e k=>?_
 refine zac e λx h1 e1 e2=>?_
 refine(.mk f r e1 (zs3 (f:=999999) e2) λJ P H1 m1 s1 r1 J1 p1=>?_)
 refine⟨λi fu σ' H'=>∃ρ' h3 m3,forG (nxt kd x) (tgW t) ga fu i ρ' h3=.ok fl h'/\Fr K m3 h3.n H' σ' ρ'/\Rel K m3 h3 H'/\Stp m1 h1.n H1 m3 h3.n H'/\P m3 h3.n H',⟨fuel,ρ,h1,m1,e2,f.stp s1,r1,.refl,p1⟩,?_⟩
 rintro i fu σ' H' ⟨ρ',h3,m3,e3,f3,r3,s3,p3⟩
 cases fu with
 |zero=>cases e3
 |succ fu=>
  simp only[forG]at e3
  obtain⟨j1,j2⟩:=J1.2 m3 h3 H' r3 p3 i
  split at e3
  .cases e3
  .rename_i hn
   cases e3
   exact .inl ⟨j2 hn,k H' m3 (s1.trans s3) r3 σ' f3⟩
  .rename_i w hn
   obtain⟨j3,j4⟩:=j1 w hn
   split at e3
   .cases e3
   .rename_i ρ4 ht
    refine zac e3 λfl5 h5 e5 e6=>?_
    refine .inr ⟨j3,λσ6 H6=>∃ρ6 m6,forG (nxt kd x) (tgW t) ga fu (i+1) ρ6 h5=.ok fl h'/\Fr K m6 h5.n H6 σ6 ρ6/\Rel K m6 h5 H6/\Stp m1 h1.n H1 m6 h5.n H6/\P m6 h5.n H6,λσ6 H6 ⟨ρ6,m6,a1,a2,a3,a4,a5⟩=>⟨fu,vbx _,ρ6,h5,m6,a1,a2,a3,a4,a5⟩,λy H4 hy=>?_⟩
    obtain⟨s4,r4,q4⟩:=j4 y H4 hy
    refine⟨ρ',h3,m3,w,ρ4,f3.stp s4,r4,q4,ht,λσ5 f5=>⟨ρ4,h3,m3,fl5,h5,f5,r4,e5,λH6 m6 s6 r6=>?_⟩⟩
    have p4:=J1.1 m3 h3.n H' m3 h3.n H4 (vad _) (λ_ _=>rfl) (λb vs q=>s4.tup b vs q) (λb o u q=>s4.frz b o u q) p3
    have p6:=J1.1 m3 h3.n H4 m6 h5.n H6 s6.le s6.same (λb vs q=>s6.tup b vs q) (λb o u q=>s6.frz b o u q) p4
    have s16:=(s3.trans s4).trans s6
    cases fl5 with
    |nx ρ6=>exact λσ6 f6=>⟨ρ6,m6,e6,f6,r6,s16,p6⟩
    |ct ρ6=>exact λσ6 f6=>⟨ρ6,m6,e6,f6,r6,s16,p6⟩
    |bk ρ6=>cases e6;exact λσ6 f6=>k H6 m6 (s1.trans s16) r6 σ6 f6
    |rt w6=>cases e6;exact k H6 m6 (s1.trans s16) r6
theorem zq9(hp:PassesOwn (model X.prog X.w) X.A X.env X.xe)(hc:X.calm=true)(hI:PI X tg iter (lftI X.K kd fa))(hg:PG X tg (lftG X.K t))(hb:SRs X R sa ga)(hs:∀x,foldedSetIterable iter X.env x=pure x) :
 SR X R (.For tg iter sa [] pos) (gFor kd fa t ga):=(zuq hp hc hI hg hb hs).imp λD σ H q=>zwt q
theorem zwu(hp:PassesOwn (model X.prog X.w) X.A X.env X.xe)(hc:ST X c fc)(hb:SSs X sa ga):SS X (.While c sa [] pos) (λρ h=>whlG fc ga fuel ρ h):=(zoo hp hc hb).imp λD σ H z9=>z9.el λρ h m fl h' f r e k=>by
 refine⟨λfu σ' H'=>∃ρ' h3 m3,whlG fc ga fu ρ' h3=.ok fl h'/\Fr X.K m3 h3.n H' σ' ρ'/\Rel X.K m3 h3 H'/\Stp m h.n H m3 h3.n H',⟨fuel,ρ,h,m,e,f,r,.refl⟩,?_⟩
 rintro fu σ' H' ⟨ρ',h3,m3,e3,f3,r3,s3⟩
 cases fu with
 |zero=>cases e3
 |succ fu=>
  simp only[whlG]at e3
  refine zac e3 λx h4 e4 e5=>?_
  cases x<;>try cases e5
  rename_i b
  refine⟨ρ',h3,m3,b,h4,f3,r3,e4,λH4 m4 s4 r4=>?_⟩
  cases b with
  |false=>cases e5;simp only[vaq,vbo];exact k H4 m4 (s3.trans s4) r4 σ' (f3.stp s4)
  |true=>
   simp only[vbj]
   refine zac e5 λfl5 h5 e6 e7=>?_
   refine⟨λσ6 H6=>∃ρ6 m6,whlG fc ga fu ρ6 h5=.ok fl h'/\Fr X.K m6 h5.n H6 σ6 ρ6/\Rel X.K m6 h5 H6/\Stp m h.n H m6 h5.n H6,λσ6 H6 ⟨ρ6,m6,a1,a2,a3,a4⟩=>⟨fu,vbx _,ρ6,h5,m6,a1,a2,a3,a4⟩,?_⟩
   refine⟨ρ',h4,m4,fl5,h5,f3.stp s4,r4,e6,λH6 m6 s6 r6=>?_⟩
   have s16:=(s3.trans s4).trans s6
   cases fl5 with
   |nx ρ6=>exact λσ6 f6=>⟨ρ6,m6,e7,f6,r6,s16⟩
   |ct ρ6=>exact λσ6 f6=>⟨ρ6,m6,e7,f6,r6,s16⟩
   |bk ρ6=>cases e7;exact λσ6 f6=>k H6 m6 s16 r6 σ6 f6
   |rt w6=>cases e7;exact λv6 q6=>k H6 m6 s16 r6 v6 q6
end
theorem zck{n:Str}:∀{ps:List Str} {us:List Value},us.length=ps.length->n∈ps->((ps.zip us).lookup n).isSome=true
 |[],_,_,h=>by cases h
 |p::ps,[],hl,_=>by cases hl
 |p::ps,u::us,hl,h=>by
  rw[vb7,va2]
  by_cases e:(n==p)=true
  .rw[e];rfl
  .have e':(n==p)=false:=by simpa using e
   rw[e']
   refine zck (by simpa using hl) ?_
   rcases vaw.mp h with z|z
   .rw[z]at e';simp at e'
   .exact z
theorem zpo{n:Str}{p:Str}{ps:List Str}(h:n≠p):((p,u)::ps.zip us).lookup n=(ps.zip us).lookup n:=by
 rw[va2]
 have e':(n==p)=false:=by simpa using h
 rw[e']
theorem zjj{α β:Type}{f g:α->Option β}:∀{l:List α},(∀a∈l,f a=g a)->l.filterMap f=l.filterMap g
 |[],_=>rfl
 |a::r,h=>by
  rw[vcc,vcc,h a vap,zjj λb hb=>h b (vak _ hb)]
theorem zgg:∀{ps:List Str} {us:List Value},us.length=ps.length->ps.Nodup->ps.filterMap (λn=>((ps.zip us).lookup n).map (n,·))=ps.zip us
 |[],_,_,_=>rfl
 |p::ps,[],hl,_=>by cases hl
 |p::ps,u::us,hl,hn=>by
  obtain⟨h1,h2⟩:=vdx.mp hn
  rw[vb7,vcc]
  have e:((p,u)::ps.zip us).lookup p=some u:=by rw[va2];simp
  rw[e]
  simp only[vav]
  congr 1
  have ih:=zgg (ps:=ps) (us:=us) (by simpa using hl) h2
  refine Eq.trans ?_ ih
  exact zjj λn hn'=>by
   have hne:n≠p:=λz=>h1 (by rw[<-z];exact hn')
   rw[zpo hne]
theorem zfh{x qual:Str}{args:List Arg}{body:List Stmt}{sc:Scope}{kV doc pm:Value}{an:Option Addr}{cdv ct:Value}{df:List Expr}(hl:us.length=(args.map (·.arg)).length)(hn:(args.map (·.arg)).Nodup) :
 bindArgs (PySem.W.fnOf x qual ⟨[],args,none,[],[],none,df⟩ body sc .none kV doc pm an cdv ct) ⟨us,[]⟩=pure ((args.map (·.arg)).zip us):=by
 have hs:seqItems? Value.none=pure none:=rfl
 have hm:((args.map (·.arg)).filter λn=>(((args.map (·.arg)).zip us).lookup n).isNone)=[]:=by
  rw[List.filter_eq_nil_iff]
  intro n hn'
  have:=zck hl hn'
  cases q:((args.map (·.arg)).zip us).lookup n with
  |none=>rw[q]at this;cases this
  |some v=>simp
 unfold bindArgs
 simp only[PySem.W.fnOf,vdh,vc4,vbc,hs,vee]
 have hg:¬(us.length> (args.map (·.arg)).length):=by omega
 have h0:(#[]:Array Value).toList=[]:=rfl
 simp only[Option.getD_none,h0,vdc,vee,List.drop_nil,vdi,Nat.sub_zero,List.take_length,hm,List.isEmpty_nil,vd0,List.drop_length,List.zip_nil_right,List.zip_nil_left,vbw hg,vdb,vaq,vbo,zgg hl hn]
theorem zho{z:Str}:∀{qs:List Str} {us:List Value},us.length=qs.length->(qs++[z]).zip us=qs.zip us
 |[],[],_=>rfl
 |[],_::_,h=>by cases h
 |_::_,[],h=>by cases h
 |q::qs,u::us,h=>by
  rw[vda,vb7,vb7,zho (by simpa using h)]
theorem zgh{z:Str}:∀{qs:List Str} {us:List Value},us.length=qs.length->(qs++[z]).zip (us++[v])=qs.zip us++[(z,v)]
 |[],[],_=>rfl
 |[],_::_,h=>by cases h
 |_::_,[],h=>by cases h
 |q::qs,u::us,h=>by
  rw[vda,vda,vb7,vb7,zgh (by simpa using h),vda]
theorem zmu{z:Str}:∀{qs:List Str} {us:List Value},z∉qs->(qs.zip us).lookup z=none
 |[],_,_=>rfl
 |_::_,[],_=>rfl
 |q::qs,u::us,h=>by
  rw[vb7,va2]
  have e':(z==q)=false:=by simpa using(λe=>h (by rw[e];exact vap))
  rw[e']
  exact zmu λe=>h (vak _ e)
section
variable{x qual:Str}{args:List Arg}{df:List Expr}{body:List Stmt}{sc:Scope}{kV doc pm:Value}{an:Option Addr}{cdv ct:Value}{t:Addr}{o:Obj}{n:Nat}{s:Shared}{us:List Value}{qs:List Str}{z:Str}
theorem zra(qs:List Str)(z:Str):List.drop ([Value.none].length- (qs++[z]).length) [Value.none]=[Value.none]:=by
 rw[vaj,vbt,vbt,show 1- (qs.length+1)=0 by omega];rfl
theorem len_d(qs:List Str)(z:Str):(qs++[z]).length - [Value.none].length=qs.length:=by simp
theorem zkp(ha:args.map (·.arg)=qs++[z])(hn:(qs++[z]).Nodup)(ho:s.heap.get? t=some o)(hd:o.data=.seq #[.none] n)(hl:us.length=(qs++[z]).length) :
 BindsTo s (PySem.W.fnOf x qual ⟨[],args,none,[],[],none,df⟩ body sc (.ref t) kV doc pm an cdv ct) ⟨us,[]⟩ ((qs++[z]).zip us):=by
 apply BindsTo.of_defaults (items:=#[.none]) (n:=n) rfl ho hd
 .unfold bindArgs
  simp only[PySem.W.fnOf,vdh,vc4,vbc,vdc,vee,ha]
  rfl
 .have hm:(qs.filter λn=>(((qs++[z]).zip us).lookup n).isNone)=[]:=by
   rw[List.filter_eq_nil_iff]
   intro n hn'
   have:=zck (n:=n) hl (List.mem_append_left _ hn')
   cases q:((qs++[z]).zip us).lookup n with
   |none=>rw[q]at this;cases this
   |some v=>simp
  have hz:(((qs++[z]).zip us).lookup z).isNone=false:=by
   have:=zck (n:=z) hl (vbf _ (vb6.mpr rfl))
   cases q:((qs++[z]).zip us).lookup z with
   |none=>rw[q]at this;cases this
   |some v=>rfl
  have hg:¬(us.length> (qs++[z]).length):=by omega
  simp only[Option.getD_some,zra,len_d,List.take_left',List.take_left,List.drop_left,List.drop_left',hm,vbw hg,vdb,vaq,vbo,List.isEmpty_nil,vd0,vb7,List.zip_nil_right,vdy,vdc,hz,vee,zgg hl hn]
theorem zkq(ha:args.map (·.arg)=qs++[z])(hn:(qs++[z]).Nodup)(ho:s.heap.get? t=some o)(hd:o.data=.seq #[.none] n)(hl:us.length=qs.length) :
 BindsTo s (PySem.W.fnOf x qual ⟨[],args,none,[],[],none,df⟩ body sc (.ref t) kV doc pm an cdv ct) ⟨us,[]⟩ ((qs++[z]).zip (us++[.none])):=by
 apply BindsTo.of_defaults (items:=#[.none]) (n:=n) rfl ho hd
 .unfold bindArgs
  simp only[PySem.W.fnOf,vdh,vc4,vbc,vdc,vee,ha]
  rfl
 .have hm:(qs.filter λn=>((qs.zip us).lookup n).isNone)=[]:=by
   rw[List.filter_eq_nil_iff]
   intro n hn'
   have:=zck (n:=n) hl hn'
   cases q:(qs.zip us).lookup n with
   |none=>rw[q]at this;cases this
   |some v=>simp
  have hzq:z∉qs:=λh=>(List.nodup_append.mp hn).2.2 z h z (vb6.mpr rfl) rfl
  have hz:((qs.zip us).lookup z).isNone=true:=by rw[zmu hzq];rfl
  have hg:¬(us.length> (qs++[z]).length):=by rw[vaj];omega
  have hl2:(us++[Value.none]).length=(qs++[z]).length:=by rw[vaj,vaj,hl];rfl
  have ha2:=zgg hl2 hn
  rw[zgh hl]at ha2
  simp only[Option.getD_some,zra,len_d,zho hl,zgh hl,List.take_left',List.take_left,List.drop_left,List.drop_left',hm,vbw hg,vdb,vaq,vbo,List.isEmpty_nil,vd0,vb7,List.zip_nil_right,vdy,vdc,hz,vbj,vee,ha2]
end
structure FunD(K:vga)(x qual:Str)(st:Stmt)(f:Addr)(fd:FuncData):Prop where
 ex:∃(oc:Value) (od:Option Addr) (dV kV doc pm:Value) (an:Option Addr) (cdv ct:Value) (osl:Array (Option Value)),fd=PySem.W.fnOf x qual (zsc st) (zc1 st) (zal st) dV kV doc pm an cdv ct/\K.lookup f=some ⟨oc,od,.func fd,osl⟩/\PySem.W.codeIn K cdv qual=true
 kp:PySem.W.keepIn K (.ref f)=true
theorem FunD.ok{P:Program}{w:World}{K:vga}{mg:Str->Option Value}{base:Heap}{x qual:Str}{st:Stmt}{f:Addr}{fd:FuncData}{N ps:List Str}{k:Nat}{sp:Sp}(F:FunD K x qual st f fd)(S:FnScope N ps (zal st))(len:∀vs H Q E,sp vs H Q E->vs.length=ps.length)
 (hbody:∀(cdv:Value)(A:Around)(outer:List Env)(s:Shared)(H:Hp)(vs:List V)(Q:VK)(E:XK),Room k (A.deeper (envOfC qual (zal st) s.heap.objs.size f cdv))->sp vs H Q E->∃t,PSs (cxOf CX0 P w K mg base N qual (zal st) f cdv A outer s H E).nox (zc1 st) t/\t {nx:=λ_ H'=>Q .non H',rt:=Q} (start N vs) H):FnOk P w K mg base CX0 (k+1) f fd ps sp:=
 let⟨_,_,_,_,_,_,_,cdv,_,_,e,lk,hcd⟩:=F.ex
 by subst e;exact fn_of lk hcd S len λA outer s H vs Q E hr hsp=>let⟨t,h,q⟩:=hbody cdv A outer s H vs Q E hr hsp;⟨t,h.nox,q⟩
section
variable{K:vga}{m m':Nat->Addr}{n n':Nat}{h h':VH}{H H':Hp}
mutual
theorem VRep.refsLt:∀{v:V} {w:W},VRep K m n H v w->W.lt n w=true
 |_,_,.non=>rfl
 |_,_,.bl _=>rfl
 |_,_,.int _=>rfl
 |_,_,.str _=>rfl
 |_,_,.tup _ r=>VReps.refsLt r
 |_,_,.fz _ r=>VReps.refsLt r
 |_,_,.ref q=>zaq.mpr q
theorem VReps.refsLt:∀{vs:List V} {ws:List W},VReps K m n H vs ws->W.lts n ws=true
 |_,_,.nil=>rfl
 |_,_,.cons q r=>by
  show(W.lt n _&&W.lts n _)=true
  rw[VRep.refsLt q,VReps.refsLt r];rfl
end
mutual
theorem VRep.cut:∀{v:V} {w:W},VRep K m n' H v w->W.lt n w=true->VRep K m n H v w
 |_,_,.non,_=>.non
 |_,_,.bl b,_=>.bl b
 |_,_,.int b,_=>.int b
 |_,_,.str b,_=>.str b
 |_,_,.tup q r,e=>.tup q (VReps.cut r e)
 |_,_,.fz q r,e=>.fz q (VReps.cut r e)
 |_,_,.ref q,e=>.ref (zaq.mp e)
theorem VReps.cut:∀{vs:List V} {ws:List W},VReps K m n' H vs ws->W.lts n ws=true->VReps K m n H vs ws
 |_,_,.nil,_=>.nil
 |_,_,.cons q r,e=>by
  have e:(W.lt n _&&W.lts n _)=true:=e
  rw[vaa]at e
  exact .cons (VRep.cut q e.1) (VReps.cut r e.2)
end
theorem KReps.cut{m':Nat->Addr}{n1:Nat}:∀{vs us:List (Key×V)} {ws:List (Key×W)},KReps K m n' H vs ws->KReps K m' n H' us ws->KReps K m n H vs ws
 |_,_,_,.nil,_=>.nil
 |_,_,_,.cons q r,.cons q2 r2=>.cons (q.cut q2.refsLt) (KReps.cut (n1:=n1) r r2)
theorem zmv{lo:Nat}(r:Rel K m h H):Rel K m ⟨h.n,lo,h.os⟩ H:=⟨r.obj,r.inj,r.len⟩
theorem zd2(r:Rel K m h H)(s:Stp m h.n H m' h1.n H')(r1:Rel K m' h1 H')(q:VRep K m' h1.n H' v w)(g:Grow ⟨h.n,h.n,h.os⟩ h1)(e:leave h w h1=.ok w2 h2)(k:Wants K m h.n H w2 h2 Q):Q v H':=by
 unfold leave at e
 split at e
 .rename_i hc
  cases e
  rw[vaa]at hc
  have hlo:=va5 hc.1
  refine k v H' m' ⟨vad _,s.same,λi a b=>absurd b (vcf.mpr a),λi j a b=>absurd b (vcf.mpr a),s.tup,s.frz,s.keep⟩ ⟨λi hi=>?_,λi j hi hj=>r1.inj i j (vae hi s.le) (vae hj s.le),r.len⟩ (q.cut hc.2)
  have hg:h1.get i=h.get i:=g.2.2 i hi (vae hi hlo)
  obtain⟨o,p1,p2⟩:=r1.obj i (vae hi s.le)
  rw[hg]at p1
  refine⟨o,p1,?_⟩
  have p3:=r.at_ p1
  cases o with
  |lst ws=>
   obtain⟨vs,a1,a2⟩:=p2
   obtain⟨us,b1,b2⟩:=p3
   exact⟨vs,a1,a2.cut b2.refsLt⟩
  |dk ws=>
   obtain⟨vs,a1,a2⟩:=p2
   obtain⟨us,b1,b2⟩:=p3
   exact⟨vs,a1,KReps.cut (n1:=0) a2 b2⟩
 .cases e
  exact k v H' m' s (zmv r1) q
theorem zjk{N:List Str}(q:VReps K m n H vs ws):Fr K m n H (L2.start N vs) (ws.map some++vgc (N.length-ws.length) none):=by
 unfold L2.start
 refine⟨by simp[q.length],λi w e=>?_⟩
 by_cases hi:i<ws.length
 .rw[vby (by simpa using hi)]at e
  rw[vby (by simpa[q.length]using hi)]
  rw[vbr]at e ⊢
  cases z:ws[i]? with
  |none=>rw[z]at e;cases e
  |some w'=>
   rw[z]at e
   cases e
   obtain⟨v,h1,h2⟩:=q.get z
   exact⟨v,by rw[h1];rfl,h2⟩
 .rw[va4 (by simpa using vcf.mp hi)]at e
  rw[vc9]at e
  split at e<;>cases e
end
theorem zc9{k idx:Nat}(hF:F idx=some fn)(e:run F k idx ws h=.ok w h'):ws.length=fn.ps:=by
 cases k with
 |zero=>cases e
 |succ k=>
  simp only[run,hF]at e
  split at e
  .rename_i hl;exact vcg hl
  .cases e
theorem zrb{P:Program}{w:World}{K:vga}{mg:Str->Option Value}{base:Heap}{F:Nat->Option Fn}{k idx:Nat}{fn:Fn}{x qual:Str}{st:Stmt}{f:Addr}{fd:FuncData}{N ps:List Str}(hF:F idx=some fn)(Fu:FunD K x qual st f fd)(S:FnScope N ps (zal st))
 (hn:fn.n=N.length) (hp:fn.ps=ps.length)
 (hbody:∀(cdv:Value)(A:Around)(outer:List Env)(s:Shared)(H:Hp)(E:XK),Room k (A.deeper (envOfC qual (zal st) s.heap.objs.size f cdv))->SSs (cxOf CX0 P w K mg base N qual (zal st) f cdv A outer s H E).nox (zc1 st) (exs (run F k) fn.body)) :
 FnOk P w K mg base CX0 (k+1) f fd ps (spV K ps.length (run F (k+1) idx)):=by
 refine Fu.ok S (λvs H Q E h=>h.1) λcdv A outer s H vs Q E hr hsp=>?_
 refine⟨_,hbody cdv A outer s H E hr,?_⟩
 obtain⟨hl,h,m,ws,w2,h2,r,q,e,k2⟩:=hsp
 have hws:=zc9 hF e
 simp only[run,hF]at e
 split at e
 .refine zac e λfl h1 e1 e2=>?_
  have g:=zhn (zbt F k) _ _ _ _ _ e1
  have hN:fn.n-fn.ps=N.length-ws.length:=by rw[hn,hws]
  rw[hN]at e1
  refine⟨_,⟨h.n,h.n,h.os⟩,m,fl,h1,zjk q,zmv r,e1,λH' m' s' r'=>?_⟩
  cases fl with
  |nx ρ=>exact λσ' f'=>zd2 r s' r' .non g e2 k2
  |rt w3=>exact λv q3=>zd2 r s' r' q3 g e2 k2
  |bk _=>cases e2
  |ct _=>cases e2
 .cases e
theorem zmw{P:Program}{w:World}{K:vga}{mg:Str->Option Value}{base:Heap}{F:Nat->Option Fn}{idx:Nat}{f:Addr}{fd:FuncData}{ps:List Str}:FnOk P w K mg base CX0 0 f fd ps (spV K ps.length (run F 0 idx)):=
 ⟨λvs H Q E h=>h.1,λA outer s H args us vs Q E hr he hb hv hs=>by obtain⟨_,h,m,ws,w2,h2,r,q,e,k2⟩:=hs;cases e⟩
noncomputable def zek(K:vga)(C:Addr)(f:Str):Bool:=match PySem.W.findIn K (.ref C) f with
 |some none=>true
 |_=>false
theorem zda{K:vga}{C:Addr}{f:Str}(h:zek K C f=true):zqp K C f:=by
 unfold zek at h
 split at h
 .rename_i e;exact e
 .cases h
noncomputable def metOf(x:Str):Option Str:=if x==("Fault.__init__" : Str)then some "__init__"else none
noncomputable def refAt(K:vga)(x:Str):Option Addr:=if(metOf x).isSome then none else(match PySem.W.nsIn K mainGlobals x with
 |some (some (.ref f))=>some f
 |_=>none)
theorem zb2{K:vga}{x:Str}{f:Addr}(h:refAt K x=some f):PySem.W.nsIn K mainGlobals x=some (some (.ref f)):=by
 unfold refAt at h
 split at h
 .cases h
 .split at h
  .rename_i g e;cases h;exact e
  .cases h
end RF
namespace HT
open PySem PySem.Spec PyProof.Rows
section
variable{prog:Program}{w:World}{A:Around}{E:Value->Shared->Prop}{s:Shared}
theorem zkr(n:Nat):Builtin.Slice.slicePlaces ((n:Int)-1) (-1) (-1)=n:=by
 unfold Builtin.Slice.slicePlaces
 have h1:¬((-1:Int)>0):=by omega
 simp only[h1,vbo]
 show(if((n:Int)-1) > -1 then(((n:Int)-1) - -1-1)/ (- -1)+1 else 0).toNat=n
 rw[show(- (-1:Int))=1 from rfl,Int.ediv_one]
 split<;>omega
theorem zdw{sl:Addr}{n:Nat}{Q:Int×Int×Nat->Shared->Prop}(hs:s.heap.IsSliceOf sl .none .none vk)(pk:IsPart vk (some (-1)))
 (h:Q ((n:Int)-1,-1,n) s):wpAny (model prog w) A (Builtin.Slice.sliceApplied (.ref sl) (pure (n:Int))) Q E s:=by
 obtain⟨os,hos,hcs,hds⟩:=id hs
 unfold Builtin.Slice.sliceApplied Builtin.Slice.sliceFields
 refine vab (vab (vbn hos hds (x:=.none) rfl (vab (vbn hos hds (x:=.none) rfl (vab (vbn hos hds (x:=vk) rfl (vag ?_)))))))
 refine vab (zbk pk ?_)
 show wpAny _ _ (if((-1:Int)==0)=true then _ else _) _ _ s
 rw[if_neg (by decide)]
 refine vab (zbk .none (vab (zbk .none (vab (vag ?_)))))
 show wpAny _ _ (pure ((n:Int)-1,(-1:Int),Builtin.Slice.slicePlaces ((n:Int)-1) (-1) (-1))) _ _ s
 rw[zkr]
 exact vag h
theorem zpp(xs:Array Value):((List.range xs.size).filterMap λ(m:Nat)=>xs[(((xs.size:Int)-1)+ (m:Int)* (-1)).toNat]?).toArray=xs.toList.reverse.toArray:=by
 congr 1
 have e:∀(l:List Value),((List.range l.length).filterMap λ(m:Nat)=>l[(((l.length:Int)-1)+ (m:Int)* (-1)).toNat]?)=l.reverse:=by
  intro l
  refine List.ext_getElem? λi=>?_
  have hm:((List.range l.length).filterMap λ(m:Nat)=>l[(((l.length:Int)-1)+ (m:Int)* (-1)).toNat]?)=(List.range l.length).map λ(m:Nat)=>l.getD (l.length-1-m) .none:=by
   have key:∀ms:List Nat,(∀m∈ms,m<l.length)->(ms.filterMap λ(m:Nat)=>l[(((l.length:Int)-1)+ (m:Int)* (-1)).toNat]?)=ms.map λ(m:Nat)=>l.getD (l.length-1-m) .none:=by
    intro ms
    induction ms with
    |nil=>intro _;rfl
    |cons m r ih=>
     intro h
     have hm:=h m vap
     have e1:l[(((l.length:Int)-1)+ (m:Int)* (-1)).toNat]?=some (l.getD (l.length-1-m) .none):=by
      rw[show(((l.length:Int)-1)+ (m:Int)* (-1)).toNat=l.length-1-m by omega,vcy,vao (by omega)]
      rfl
     rw[vcc,e1,va0,ih λx hx=>h x (vak _ hx)]
   exact key _ λm hm=>vd6.mp hm
  rw[hm,vbr]
  by_cases hi:i<l.length
  .rw[List.getElem?_range hi,List.getElem?_reverse hi,vav,vcy,vao (by omega)]
   rfl
  .rw[vdj (by rw[List.length_range];omega),vdj (by rw[vcd];omega)]
   rfl
 have:=e xs.toList
 simp only[vc7,Array.getElem?_toList]at this
 exact this
theorem getItem_tuple_rev{t sl:Addr}{items:Array Value}{Q:Value->Shared->Prop}(ht:IsTup s.heap t items)(hs:s.heap.IsSliceOf sl .none .none vk)(pk:IsPart vk (some (-1)))
 (h:Q (.ref s.heap.objs.size) {s with heap:=s.heap.push {cls:=.type "tuple",data:=.seq items.toList.reverse.toArray}})
 (hsz:items.size<=sizeLine):wpAny (model prog w) A (getItem (.ref t) (.ref sl)) Q E s:=by
 have htake:sizeOk (.seq items.toList.reverse.toArray):=by
  show items.toList.reverse.toArray.size<=sizeLine
  rw[vah,vcd,vc7]
  exact hsz
 obtain⟨os,hos,hcs,hds⟩:=id hs
 have hTs:s.TypeIs (.ref sl) "slice":=⟨os,hos,hcs⟩
 unfold getItem
 try with_reducible refine vb0 ?_
 first|refine vab (vag ?_)|skip
 refine vab (wpAny_sequenceKey ht.typeIs (by decide) ?_)
 refine vab (vb3 (name:=Str.ofString "__getitem__") ht.typeIs va7
  (vcz va7 ht.typeIs entry_tuple_getitem ?_ (args_tuple_getitem _ _)))
 show wpAny _ _ (Builtin.Tuple.tupleItemsOf (.ref t) >>= _) _ _ s
 refine vab (tupleItemsOf_ ht ?_)
 refine vab (veh hTs ?_)
 rw[if_pos (by decide)]
 refine vab (zdw hs pk ?_)
 have hno:¬((((items.size:Int)-1)==0&& (-1:Int)==1&&items.size==items.size)=true):=by
  intro q
  rw[vaa,vaa]at q
  exact absurd q.1.2 (by decide)
 show wpAny _ _ (if(((items.size:Int)-1)==0&& (-1:Int)==1&&items.size==items.size)=true then _ else _) _ _ s
 rw[if_neg hno,zpp]
 first
  |exact vab (m:=Builtin.Tuple.tupleExact _) (vbs (vag ⟨_,rfl,vag h⟩) htake)
  |exact vab (m:=Builtin.Tuple.tupleExact _) (vbs (vab (vag (vag ⟨_,rfl,vag h⟩))) htake)
  |exact vab (vab (m:=Builtin.Tuple.tupleExact _) (vbs (vag (vag ⟨_,rfl,vag h⟩)) htake))
  |exact vab (vab (m:=Builtin.Tuple.tupleExact _) (vbs (vag ⟨_,rfl,vag h⟩) htake))
end
end HT
namespace L2
open PySem PySem.Spec PyProof.Rows
section
variable{X:Cx}{e k:Expr}{te:TE}{tk:TO}{pos p2:Pos}
theorem zwv(he:PE X e te)(hk:PO X (some k) tk):PE X (.Subscript e (.Slice none none (some k) p2) pos) (λσ H Q=>te σ H λx H1=>tk σ H1 λo H2=>∃a xs,x=.ref a/\o=some (-1)/\SqT X.K H2 a xs/\∀p,H2 p=none->Q (.ref p) (upd H2 p (.tup xs.reverse))):=by
 intro pins s σ H Q I h
 refine Subscript_ (thn (he pins s σ H _ I h) λv s1 z9=>z9.el λx H1 I1 r1 q1=>?_)
 refine wpAny_Slice ?_
 rw[evalPart_none]
 refine vag (vag ?_)
 refine thn (hk pins s1 σ H1 _ I1 q1) λvk s2 hq0=>?_
 obtain⟨o,H2,I2,pk,q2⟩:=hq0
 obtain⟨a,xs,rfl,rfl,hx,q⟩:=q2
 cases r1
 have I4:Inv X pins σ H2 {s2 with heap:=s2.heap.push {cls:=.type "slice",data:=.fields #[.none,.none,vk]}}:=I2.kept (t':=s2.toks) λb ob q=>vac _ q
 obtain⟨its,r,ht,hz⟩:=I4.tuple hx
 have hlen:its.toArray.size=xs.length:=by rw[vah];exact r.length.symm
 show wpAny (model X.prog X.w) X.A (subscriptTail e (.Slice none none (some k) p2) (.ref a) (.ref s2.heap.objs.size)) (EP X pins σ Q) X.xe {s2 with heap:=s2.heap.push {cls:=.type "slice",data:=.fields #[.none,.none,vk]}}
 refine tail_any (ops:=[.ref a,.ref s2.heap.objs.size]) ht.typeIs va7.lookup ?_ (by with_unfolding_all rfl)
 refine HT.getItem_tuple_rev ht (Heap.IsSliceOf.new ..) pk ?_ (by rw[hlen];exact hz)
 refine⟨.ref _,_,I4.laid (t':=s2.toks) (o:=.tup xs.reverse) (λb ob q=>vac _ q) (vad _) ?_,rfl,q _ (I4.hok.fresh (vad _))⟩
 exact⟨by rw[vcd];exact hz,_,r.reverse,zbf.new _ _⟩
end
end L2
namespace RF
open PySem PySem.Spec PyProof.Rows L2
section
variable{X:Cx}{a k:Expr}{x y:E}{cl:Call}{pos p2:Pos}
theorem VReps.rev{K:vga}{m:Nat->Addr}{n:Nat}{H:Hp}:∀{vs:List V} {ws:List W},VReps K m n H vs ws->VReps K m n H vs.reverse ws.reverse
 |_,_,.nil=>.nil
 |_,_,.cons q r=>by
  rw[vdl,vdl]
  exact r.rev.append (.cons q .nil)
theorem zww(ha:SE X a (ev cl x))(hk:SE X k (ev cl y)):SE X (.Subscript a (.Slice none none (some k) p2) pos) (ev cl (.bi .rev (.cons x (.cons y .nil)))):=
 (zwv ha (zmh hk)).imp λσ H Q z9=>z9.el λρ h m w h' f r e k=>by
   refine zac e λz h1 e1 e2=>?_
   refine zac e1 λu h2 e3 e4=>?_
   refine zac e4 λu2 h3 e5 e6=>?_
   refine zac e5 λu3 h4 e7 e8=>?_
   refine zac e8 λu4 h5 e9 e10=>?_
   cases e9
   cases e10
   cases e6
   have e2:revW [u,u3] h1=.ok w h':=e2
   unfold revW at e2
   split at e2
   .rename_i ws hq
    cases hq
    cases e2
    refine(.mk f r e3 λv H1 m1 s1 r1 q1=>(.mk (f.stp s1) r1 e7 rfl λH2 m2 s2 r2=>?_))
    cases q1.stp s2 with
    | @tup a vs _ sq rs=>
     exact⟨_,_,rfl,rfl,sq,λp hp=>Wants.tuple (λv' H' m' s' r' q'=>k v' H' m' ((s1.trans s2).trans s') r' q') r2 rs.rev hp⟩
   .cases e2
end
end RF
namespace XR
open PySem PySem.Spec PyProof.Rows
section
variable{M:Model}{A:Around}{E:Value->Shared->Prop}{s:Shared}{base:Heap}{env:Env}{outer:List Env}{L e:Addr}{c:Value}{dx:Option Addr}{vs:Array Value}{sl:Array (Option Value)}
structure Nt(fs ts:List Addr)(h h':Heap):Prop where
 keep:∀b o,h.get? b=some o->b∉fs->b∉ts->h'.get? b=some o
 slot:∀b o,h.get? b=some o->b∈fs->b∉ts->∃sl,h'.get? b=some {o with slots:=sl}
 size:h.objs.size<=h'.objs.size
theorem Nt.trans{fs ts:List Addr}(a:Nt fs ts h h1)(b:Nt fs ts h1 h2):Nt fs ts h h2:=
 ⟨λx o q n m=>b.keep x o (a.keep x o q n m) n m,λx o q n m=>by
  obtain⟨s1,q1⟩:=a.slot x o q n m
  obtain⟨s2,q2⟩:=b.slot x _ q1 n m
  exact⟨s2,q2⟩,van a.size b.size⟩
theorem Nt.mono{fs ts ts':List Addr}(a:Nt fs ts h h')(k:∀b∈ts,b∈ts'):Nt fs ts' h h':=
 ⟨λx o q n m=>a.keep x o q n λz=>m (k x z),λx o q n m=>a.slot x o q n λz=>m (k x z),a.size⟩
theorem Nt.upd{fs:List Addr}{b:Addr}{f:Obj->Obj}:Nt fs [b] h (h.update b f):=by
 have k:∀x,x∉[b]->(h.update b f).get? x=h.get? x:=λx m=>vb8 _ _ λz=>m (by simp[z])
 exact⟨λx o q _ m=>(k x m).trans q,λx o q _ m=>⟨o.slots,(k x m).trans q⟩,Nat.le_of_eq (Heap.size_after_update ..).symm⟩
theorem Nt.push{fs ts:List Addr}(a:Nt fs ts h h'):Nt fs ts h (h'.push o):=
 ⟨λx ob q n m=>vac _ (a.keep x ob q n m),λx ob q n m=>by
  obtain⟨s1,q1⟩:=a.slot x ob q n m
  exact⟨s1,vac _ q1⟩,by rw[vca];exact vd5 a.size⟩
theorem zrc{h:Heap}{b:Addr}{c:Value}{dx:Option Addr}{vs:Array Value}{sl:Array (Option Value)}{f:Array Value->Array Value}(q:h.get? b=some ⟨c,dx,.fields vs,sl⟩) :
 (h.update b (Obj.mapFields f)).get? b=some ⟨c,dx,.fields (f vs),sl⟩:=vcn (Obj.mapFields f) q rfl
theorem zmx{hd:Value}{more:Bool}{Q:Unit->Shared->Prop}(hfr:A.frames=some (env::outer))(hl:s.heap.FunFrames base (env::outer))(hf:env.frame=some L)
 (he:s.heap.get? e=some ⟨c,dx,.fields vs,sl⟩) (hne:e∉(env::outer).filterMap (·.frame)) (hz:1<vs.size)
 (h:∀h' ts,Nt ((env::outer).filterMap (·.frame)) [e] s.heap h'->h'.get? e=some ⟨c,dx,.fields (vs.setIfInBounds 1 (.ref s.heap.objs.size)),sl⟩->h'.get? s.heap.objs.size=some ⟨.type "traceback",none,.fields ts,#[]⟩->ts[3]?=some (rawInt L)->Q () {s with heap:=h'}) :
 wpAny M A (do let a <-frameOf env;let pl <-entryPlaceOf L more;let b <-EntryCells.newEntry hd a .none (rawInt L) .none pl;setField (.ref e) 1 b) Q E s:=by
 refine vab (wpAny_frameOf_fun hfr hl hf λh1 so=>vab (wpAny_entryPlaceOf λpl hpl=>?_))
 have n1:Nt ((env::outer).filterMap (·.frame)) [e] s.heap h1:=⟨λb o q n _=>(so.2.1 b n).trans q,λb o q _ _=>so.2.2 b o q,Nat.le_of_eq so.1.symm⟩
 have e1:h1.get? e=some ⟨c,dx,.fields vs,sl⟩:=(so.2.1 e hne).trans he
 unfold EntryCells.newEntry newFields
 refine vab (vbs ?_ (hpl.sizeOk5 _ _ _ _ _))
 refine vd7 (vac _ e1) rfl hz ?_
 have hsz:h1.objs.size=s.heap.objs.size:=so.1
 have hlt:e<h1.objs.size:=vam e1
 rw[hsz]
 refine h _ ([hd,.ref L,.none,rawInt L,.none]++(if pl.isEmpty then vgc 6 Value.none else pl)).toArray (n1.push.trans Nt.upd) (zrc (vac _ e1)) ?_ ?_
 .rw[vb8 _ _ (by rw[<-hsz];exact vay hlt),<-hsz]
  exact vaz _ rfl
 .first|(simp;done)|(rcases hpl with rfl|⟨_,_,_,_,_,_,_,rfl⟩<;>simp)
structure Ex(h:Heap)(e T C:Addr)(dx:Option Addr)(fl:Option Value):Prop where
 ex:∃vs sl,h.get? e=some ⟨.ref C,dx,.fields vs,sl⟩/\match fl with
  |none=>vs[1]?=some .none
  |some f=>vs[1]?=some (.ref T)/\T≠e/\∃ts,h.get? T=some ⟨.type "traceback",none,.fields ts,#[]⟩/\ts[3]?=some f
theorem note{C T:Addr}{fl:Option Value}{Q:Unit->Shared->Prop}(hfr:A.frames=some (env::outer))(hl:s.heap.FunFrames base (env::outer))(hf:env.frame=some L)
 (x:Ex s.heap e T C dx fl) (hne:e∉(env::outer).filterMap (·.frame)) (hnt:T∉(env::outer).filterMap (·.frame)) (hfl:fl=none\/fl=some .none)
 (h:∀h',Nt ((env::outer).filterMap (·.frame)) [e,T] s.heap h'->Ex h' e s.heap.objs.size C dx (some (rawInt L))->Q () {s with heap:=h'}):wpAny M A (noteFrame (.ref e) env) Q E s:=by
 obtain⟨vs,sl,he,hx⟩:=x.ex
 unfold noteFrame
 simp only[hf]
 rcases hfl with rfl|rfl
 .have h1:vs[1]?=some .none:=hx
  refine vab (vbn he rfl h1 ?_)
  rw[if_neg (by decide)]
  refine zmx hfr hl hf he hne (vb5.mp h1).1 λh' ts n q1 q2 q3=>h h' (n.mono λb z=>by simp at z;simp[z]) ⟨_,_,q1,?_,?_,_,q2,q3⟩
  .rw[Array.getElem?_setIfInBounds_self_of_lt (vb5.mp h1).1]
  .exact va8 (vam he)
 .obtain⟨h1,hte,ts,ht,h3⟩:=(show vs[1]?=some (.ref T)/\T≠e/\∃ts,s.heap.get? T=some ⟨.type "traceback",none,.fields ts,#[]⟩/\ts[3]?=some Value.none from hx)
  refine vab (vbn he rfl h1 ?_)
  rw[if_pos (show(Value.ref T != Value.none)=true from by simp)]
  refine vab (vbn ht rfl h3 ?_)
  rw[if_neg (show ¬((Value.none==rawInt L)=true)from by simp[rawInt])]
  refine vab (vd7 ht rfl (vb5.mp h3).1 ?_)
  have n0:Nt ((env::outer).filterMap (·.frame)) [T] s.heap (s.heap.update T (Obj.mapFields (·.setIfInBounds 3 .none))):=Nt.upd
  have sz:(s.heap.update T (Obj.mapFields (·.setIfInBounds 3 .none))).objs.size=s.heap.objs.size:=Heap.size_after_update ..
  refine zmx (base:=base) hfr (hl.of_keeps λb o q nf=>?_) hf (n0.keep e _ he hne (by simpa using vbz hte)) hne (vb5.mp h1).1 λh' ts' n q1 q2 q3=>?_
  .by_cases hb:b=T
   .subst hb;rw[ht]at q;cases q;exact absurd rfl (nf ts)
   .exact⟨o,(vb8 _ _ (vbz hb)).trans q,rfl⟩
  .rw[sz]at q1 q2
   refine h h' ((n0.mono λb z=>by simp at z;simp[z]).trans (n.mono λb z=>by simp at z;simp[z])) ⟨_,_,q1,?_,?_,_,q2,q3⟩
   .rw[Array.getElem?_setIfInBounds_self_of_lt (vb5.mp h1).1]
   .exact va8 (vam he)
theorem land{C T:Addr}{f:Value}{fs:List Addr}{Q:Unit->Shared->Prop}(x:Ex s.heap e T C dx (some f))(h:∀h',Nt fs [T] s.heap h'->Ex h' e T C dx (some .none)->Q () {s with heap:=h'}):wpAny M A (setFlight (.ref e) none) Q E s:=by
 obtain⟨vs,sl,he,h1,hte,ts,ht,h3⟩:=x.ex
 unfold setFlight
 refine vab (vbn he rfl h1 ?_)
 rw[if_pos (show(Value.ref T != Value.none)=true from by simp)]
 have l3:=(vb5.mp h3).1
 refine vd7 ht rfl l3 (h _ Nt.upd ⟨vs,sl,(vb8 _ _ hte).trans he,h1,hte,_,zrc ht,?_⟩)
 rw[Array.getElem?_setIfInBounds_self_of_lt l3];rfl
theorem leave{C T:Addr}{fl:Option Value}{Q:Unit->Shared->Prop}(hfr:A.frames=some (env::outer))(hl:s.heap.FunFrames base (env::outer))(hf:env.frame=some L)
 (x:Ex s.heap e T C dx fl) (hne:e∉(env::outer).filterMap (·.frame)) (hnt:T∉(env::outer).filterMap (·.frame)) (hfl:fl=none\/fl=some .none)
 (h:∀h',Nt ((env::outer).filterMap (·.frame)) [e,T,s.heap.objs.size] s.heap h'->Ex h' e s.heap.objs.size C dx (some .none)->Q () {s with heap:=h'}):wpAny M A (leaving env (.ref e)) Q E s:=by
 unfold leaving
 refine vab (note hfr hl hf x hne hnt hfl λh1 n1 x1=>land (fs:=(env::outer).filterMap (·.frame)) x1 λh2 n2 x2=>h h2 ((n1.mono λb z=>?_).trans (n2.mono λb z=>?_)) x2)
 .simp at z;rcases z with z|z<;>simp[z]
 .simp at z;simp[z]
end
end XR
namespace L2
open PySem PySem.Spec PyProof.Rows
noncomputable def excR(C:Addr)(dx:Option Addr)(a:Addr):HO:=.ext λh=>∃vs sl,h.get? a=some ⟨.ref C,dx,.fields vs,sl⟩
section
variable{P:Program}{w:World}{H:Hp}{h:Heap}{a C:Addr}{dx:Option Addr}{vs:Array Value}{sl:Array (Option Value)}
theorem ziw(e:h.get? a=some ⟨.ref C,dx,.fields vs,sl⟩):ObjOk P w H h a (excR C dx a):=⟨⟨vs,sl,e⟩,⟨_,e⟩,λ_ _ ⟨v',s',q⟩ k=>⟨v',s',k _ q⟩⟩
theorem zs4(ok:HOk P w H h)(e:H a=some (excR C dx a)):∃vs sl,h.get? a=some ⟨.ref C,dx,.fields vs,sl⟩:=(ok a _ e).1
end
noncomputable def CX1(P:Program)(w:World):CXT:=λouter H s E e s'=>∃x T C dx H',e=.ref x/\s'.os=s.os/\AllBare s'.gens/\Un (frs outer) [] H H' s.heap s'.heap/\HOk P w H' s'.heap/\XR.Ex s'.heap x T C dx (some .none)/\
 s.heap.objs.size<=x/\s.heap.objs.size<=T/\H' x=some (excR C dx x)/\H' T=none/\E (.ref C) dx H'
noncomputable def FlyIn(X:Cx)(E:XK)(e:Value)(s':Shared):Prop:=∃x T C dx fl pins σ H',e=.ref x/\Inv X pins σ H' s'/\XR.Ex s'.heap x T C dx fl/\((fl=none/\T=x)\/(fl=some .none/\H' T=none))/\
 X.s₀.heap.objs.size<=x/\X.s₀.heap.objs.size<=T/\H' x=some (excR C dx x)/\E (.ref C) dx H'
section
variable{X:Cx}{E:XK}{pins:List (Addr×Obj)}{σ:St}{H:Hp}{s:Shared}
theorem Inv.nofr{b:Addr}{d:Option Addr}{vs:Array Value}{sl:Array (Option Value)}(I:Inv X pins σ H s)(e:s.heap.get? b=some ⟨c,d,.fields vs,sl⟩):b∉frs X.stack:=λhb=>by
 obtain⟨_,o,ho,nf⟩:=I.stack.mem hb
 rw[e]at ho;cases ho
 exact nf vs rfl
theorem Ex.nofr{x T C:Addr}{dx:Option Addr}{fl:Option Value}(I:Inv X pins σ H s)(q:XR.Ex s.heap x T C dx fl)(h:(fl=none/\T=x)\/(fl=some .none/\H T=none)):x∉frs X.stack/\T∉frs X.stack:=by
 obtain⟨vs,sl,he,r⟩:=q.ex
 refine⟨I.nofr he,?_⟩
 rcases h with⟨_,rfl⟩|⟨rfl,_⟩
 .exact I.nofr he
 .obtain⟨_,_,ts,ht,_⟩:=r
  exact I.nofr ht
theorem HOk.noted{fs ts:List Addr}{x C:Addr}{dx:Option Addr}{vs:Array Value}{sl:Array (Option Value)}(ok:HOk P w H s.heap)(n:XR.Nt fs ts s.heap h')(hf:∀b∈fs,H b=none)(ht:∀b∈ts,b=x\/H b=none)
 (hx:H x=some (excR C dx x)) (e:h'.get? x=some ⟨.ref C,dx,.fields vs,sl⟩):HOk P w H h':=λb u q=>by
 by_cases hb:b=x
 .subst hb
  rw[hx]at q;cases q
  exact ziw e
 .refine(ok b u q).stay (λc v hc k=>n.keep c v k ?_ ?_) (λ_ z=>z) λ_ _ z=>z
  .intro z
   have:=hf c z
   rcases hc with rfl|hc
   .rw[q]at this;cases this
   .rw[hc]at this;cases this
  .intro z
   rcases ht c z with rfl|z
   .rcases hc with rfl|hc
    .exact hb rfl
    .rw[hx]at hc;cases hc
   .rcases hc with rfl|hc
    .rw[q]at z;cases z
    .rw[hc]at z;cases z
theorem zs5{Er:Value->Shared->Prop}(hs:X.stack=X.env::X.outer)(hf:X.env.frame=some X.env.locals)(hx0:X.ex=[])(q:FlyIn X E e s') :
 wpAny (model X.prog X.w) X.A (leaving X.env e) (λ_ s''=>CX1 X.prog X.w X.outer X.H₀ X.s₀ E e s'') Er s':=by
 obtain⟨x,T,C,dx,fl,pins,σ,H',rfl,I,ex,hfl,lx,lT,hx,hE⟩:=q
 obtain⟨nx,nT⟩:=Ex.nofr I ex hfl
 have fre:=I.stkFree
 have stk:=I.stack
 have sub:=I.stkSub
 rw[hs]at nx nT fre stk sub
 refine XR.leave (base:=X.base) (L:=X.env.locals) (by rw[I.ok.frames,hs]) stk hf ex nx nT (hfl.elim (λz=>.inl z.1) λz=>.inr z.1) λh' n ex'=>?_
 have lt0:∀b o,X.s₀.heap.get? b=some o->b<X.s₀.heap.objs.size:=λb o q=>vam q
 have sz:=I.sz
 have nts:∀b o,X.s₀.heap.get? b=some o->b∉[x,T,s'.heap.objs.size]:=λb o q z=>by
  have:=lt0 b o q
  simp at z
  rcases z with z|z|z<;>rw[z]at this
  .exact absurd lx (Nat.not_le.mpr this)
  .exact absurd lT (Nat.not_le.mpr this)
  .exact absurd sz (Nat.not_le.mpr this)
 have nL:∀b o,X.s₀.heap.get? b=some o->b≠X.env.locals:=λb o q=>vay (vae (lt0 b o q) I.ok.above)
 obtain⟨vs,sl,he,r⟩:=ex'.ex
 have hb:=I.base
 rw[hx0]at hb
 refine⟨x,s'.heap.objs.size,C,dx,H',rfl,I.os,I.bare,⟨λb o q z hb1 hb2=>?_,λb o q z hb1 hb2=>?_,hb.free,λb o q hb2=>?_,hb.tups,hb.frzs,hb.tbls⟩,HOk.noted I.hok n fre (λb z=>?_) hx he,ex',lx,sz,hx,I.hok.fresh (vad _),hE⟩
 .refine n.keep b o (hb.keep b o q z hb1 hb2) (λm=>?_) (nts b o q)
  rcases vaw.mp (sub b m)with m|m
  .exact nL b o q m
  .exact hb1 m
 .obtain⟨s1,q1⟩:=hb.slot b o q z hb1 hb2
  obtain⟨s2,q2⟩:=n.slot b _ q1 (by show b∈(X.env::X.outer).filterMap (·.frame);rw[vcc,hf];exact vak _ hb1) (nts b o q)
  exact⟨s2,q2⟩
 .obtain⟨o',q1⟩:=hb.there b o q hb2
  by_cases m:b∈(X.env::X.outer).filterMap (·.frame)
  .obtain⟨s2,q2⟩:=n.slot b o' q1 m (nts b o q)
   exact⟨_,q2⟩
  .exact⟨o',n.keep b o' q1 m (nts b o q)⟩
 .simp at z
  rcases z with rfl|rfl|rfl
  .exact .inl rfl
  .rcases hfl with⟨_,z⟩|⟨_,z⟩
   .exact .inl z
   .exact .inr z
  .exact .inr (I.hok.fresh (vad _))
theorem pass1:ze5 (CX1 X.prog X.w) (X.wish (FlyIn X E)) E:=by
 intro pins σ H s e s' I q
 obtain⟨x,T,C,dx,H',rfl,os,bare,un,hok,ex,lx,lT,hx,hT,hE⟩:=q
 have I:=I.unwish
 obtain⟨hh,g,d,t,os'⟩:=s'
 obtain rfl:os'=s.os:=os
 exact⟨x,T,C,dx,some .none,pins,σ,H',rfl,I.call (h':=hh) (g':=g) (d':=d) (t':=t) (ch:=[]) un hok bare (λb z=>absurd z (by simp)),ex,.inr ⟨rfl,hT⟩,van I.sz lx,van I.sz lT,hx,hE⟩
theorem zmy{C:Addr}{x:Str}{p cpos pos:Pos}(M:MkE X.K C)(hc:X.calm=true)(hg:Gl X x)(hm:X.mg x=some (.ref C))(hdb:(x==("__debug__" : Str))=false:=by decide) :
 PS (X.wish (FlyIn X E)) (.Raise (some (.Call (.Name x p) [] [] cpos)) none pos) (λ_ _ H=>∀a,H a=none->E (.ref C) none (upd H a (excR C none a))):=by
 intro pins s σ H D I h
 have I:=I.unwish
 obtain⟨nm,qn,N,bs,bm,hd,sn,sub,ab,col,dd,k0,k1,k2,k3,k5,hC,T⟩:=XL.excCls_of I.kIn M.cls
 have hb:bm.contains (.type "BaseException")=true:=T.hasType (by decide +kernel)
 have ev:wpAny (model X.prog X.w) X.A (eval (.Call (.Name x p) [] [] cpos) X.env) (λv s1=>∃e t,v=.ref e/\s1.heap.get? C=some (excClassObj nm qn C N bs bm hd sn sub ab col dd k0 k1 k2 k3 k5 "ValueError.__new__")/\s1.heap.get? e=some (XL.excObj C none t)/\FlyIn X E (.ref e) s1) (FlyIn X E) s:=by
  refine vch (zbu I hg hm ?_ hdb)
  refine PySem.W.callWith_K0 I.kIn M.kp (XL.make_exc0 I.kIn M.cls M.init (vbv _) λh' t kk he=>?_)
  have hle:s.heap.objs.size<=s.heap.objs.size+1:=vd4 _
  exact⟨_,t,rfl,kk _ _ hC,he,_,_,C,none,none,pins,σ,_,rfl,I.laid (t':=s.toks) kk hle (ziw he),⟨_,_,he,rfl⟩,.inl ⟨rfl,rfl⟩,van I.sz hle,van I.sz hle,zai,h _ (I.hok.fresh hle)⟩
 show wpAny (model X.prog X.w) X.A (exec (.Raise (some (.Call (.Name x p) [] [] cpos)) none pos) X.env) _ (FlyIn X E) s
 rw[arm_exec_Raise]
 first
  |exact vab (vbu (wpAny_raiseStmt_made_sub (C:=C) hb (I.ok.hd hc) (vab (thn ev λv s1 q=>vab (vbu (vag q))))))
  |(simp only[evalOpt,Option.map];exact vab (vbu (wpAny_raiseStmt_made_sub (C:=C) hb (I.ok.hd hc) (vab (thn ev λv s1 q=>vab (vbu (vag q)))))))
  |(show wpAny _ _ (do standAt pos;raiseStmt X.env (some (do let v <-eval (.Call (.Name x p) [] [] cpos) X.env;standAt pos;pure v)) none) _ _ s;exact vab (vbu (wpAny_raiseStmt_made_sub (C:=C) hb (I.ok.hd hc) (vab (thn ev λv s1 q=>vab (vbu (vag q)))))))
end
structure At(X:Cx)(pins:List (Addr×Obj))(σ:St)(H:Hp)(s:Shared)(x T C:Addr)(dx:Option Addr)(f:Value):Prop where
 I:Inv X pins σ H s
 ex:XR.Ex s.heap x T C dx (some f)
 hx:H x=some (excR C dx x)
 hT:H T=none
 lx:X.s₀.heap.objs.size<=x
 lT:X.s₀.heap.objs.size<=T
 pT:∀p∈X.pn++pins,p.1≠T
section
variable{X:Cx}{pins:List (Addr×Obj)}{σ:St}{H:Hp}{s:Shared}{x T C:Addr}{dx:Option Addr}{f f':Value}
theorem Inv.noLoc{b:Addr}{d:Option Addr}{vs:Array Value}{sl:Array (Option Value)}(I:Inv X pins σ H s)(e:s.heap.get? b=some ⟨c,d,.fields vs,sl⟩):b≠X.env.locals/\∀y c,X.env.cells.lookup y=some c->c≠b:=by
 refine⟨?_,?_⟩
 .rintro rfl
  obtain⟨m,⟨o,es,ep,ho,hd,_⟩,_⟩:=I.loc
  rw[e]at ho;cases ho
  cases hd
 .rintro y c' hc rfl
  obtain⟨v,o,ho,hd⟩:=I.cell y c' hc
  rw[e]at ho;cases ho
  cases hd
theorem At.step{ts:List Addr}{T':Addr}(a:At X pins σ H s x T C dx f)(n:XR.Nt (frs X.stack) ts s.heap h')(hts:∀b∈ts,b=x\/b=T\/b=s.heap.objs.size)(hT':T'=T\/T'=s.heap.objs.size)
 (ex':XR.Ex h' x T' C dx (some f')):At X pins σ H {s with heap:=h'} x T' C dx f':=by
 obtain⟨vs,sl,he,_⟩:=ex'.ex
 obtain⟨vs0,sl0,he0,_,_,ts0,ht0,_⟩:=a.ex.ex
 have I:=a.I
 have fr:∀b,s.heap.objs.size<=b->H b=none:=λb z=>I.hok.fresh z
 have np:∀p∈X.pn++pins,p.1<s.heap.objs.size:=λp hp=>vam (I.pin p hp).1
 have fx:∀b,H b=none->b≠x:=λb z q=>by rw[q,a.hx]at z;cases z
 have un:∀b∈ts,b≠x->H b=none:=λb hb q=>by
  rcases hts b hb with z|z|z
  .exact absurd z q
  .rw[z];exact a.hT
  .rw[z];exact fr _ (vad _)
 have I':Inv X pins σ H {s with heap:=h'}:=by
  refine I.call (h':=h') (g':=s.gens) (d':=s.drawn) (t':=s.toks) (ch:=ts) ⟨λb o q z hb hc=>n.keep b o q hb hc,λb o q z hb hc=>n.slot b o q hb hc,λb o q z _=>z,λb o q hc=>?_,λ_ _ q=>q,λ_ _ _ q=>q,λb ps q=>⟨#[],by rw[q];simp⟩⟩
   (HOk.noted I.hok n I.stkFree (λb z=>?_) a.hx he) I.bare λb hb=>?_
  .by_cases m:b∈frs X.stack
   .obtain⟨s2,q2⟩:=n.slot b o q m hc
    exact⟨_,q2⟩
   .exact⟨o,n.keep b o q m hc⟩
  .by_cases q:b=x
   .exact .inl q
   .exact .inr (un b z q)
  .rcases hts b hb with rfl|rfl|rfl
   .exact⟨.inr a.lx,(I.noLoc he0).1,(I.noLoc he0).2,λp hp q=>by have:=(I.pin p hp).2.1;rw[q,a.hx]at this;cases this⟩
   .exact⟨.inr a.lT,(I.noLoc ht0).1,(I.noLoc ht0).2,a.pT⟩
   .refine⟨.inr I.sz,va8 I.lt,λy c hc=>?_,λp hp=>vay (np p hp)⟩
    obtain⟨v,o,ho,_⟩:=I.cell y c hc
    exact vay (vam ho)
 refine⟨I',ex',a.hx,?_,a.lx,?_,?_⟩
 .rcases hT' with rfl|rfl
  .exact a.hT
  .exact fr _ (vad _)
 .rcases hT' with rfl|rfl
  .exact a.lT
  .exact I.sz
 .rcases hT' with rfl|rfl
  .exact a.pT
  .exact λp hp=>vay (np p hp)
theorem At.noted{E:Value->Shared->Prop}{Q:Unit->Shared->Prop}(a:At X pins σ H s x T C dx .none)(hs:X.stack=X.env::X.outer)(hf:X.env.frame=some X.env.locals)(h:∀s' T',At X pins σ H s' x T' C dx (rawInt X.env.locals)->Q () s') :
 wpAny (model X.prog X.w) X.A (noteFrame (.ref x) X.env) Q E s:=by
 obtain⟨n1,n2⟩:=Ex.nofr a.I a.ex (.inr ⟨rfl,a.hT⟩)
 have stk:=a.I.stack
 rw[hs]at n1 n2 stk
 refine XR.note (base:=X.base) (by rw[a.I.ok.frames,hs]) stk hf a.ex n1 n2 (.inr rfl) λh' n ex'=>h _ s.heap.objs.size (a.step (by rw[hs];exact n) (λb z=>?_) (.inr rfl) ex')
 simp at z
 rcases z with z|z
 .exact .inl z
 .exact .inr (.inl z)
theorem At.lands{M:Model}{Q:Unit->Shared->Prop}(a:At X pins σ H s x T C dx f)(h:∀s',At X pins σ H s' x T C dx .none->Q () s'):wpAny M A (setFlight (.ref x) none) Q E s:=
 XR.land (fs:=frs X.stack) a.ex λh' n ex'=>h _ (a.step n (λb z=>by simp at z;exact .inr (.inl z)) (.inl rfl) ex')
theorem At.of{E:XK}(I:Inv X pins σ H s)(q:CX1 X.prog X.w X.stack H s E e s'):∃x T C dx H',e=.ref x/\At X pins σ H' s' x T C dx .none/\E (.ref C) dx H':=by
 obtain⟨x,T,C,dx,H',rfl,os,bare,un,hok,ex,lx,lT,hx,hT,hE⟩:=q
 obtain⟨hh,g,d,t,os'⟩:=s'
 obtain rfl:os'=s.os:=os
 exact⟨x,T,C,dx,H',rfl,⟨I.call (h':=hh) (g':=g) (d':=d) (t':=t) (ch:=[]) un hok bare (λb z=>absurd z (by simp)),ex,hx,hT,van I.sz lx,van I.sz lT,λp hp=>vay (vae (vam (I.pin p hp).1) lT)⟩,hE⟩
noncomputable abbrev _root_.L2.Cx.hand(X:Cx)(x:Addr):Cx:={X with A:=X.A.mark (some (.ref x)),calm:=false,xe:=λ_ _=>False}
theorem Cx.Ok.hand(ok:X.Ok)(x:Addr):(X.hand x).Ok:=
 ⟨ok.mod,ok.kind,ok.glob,ok.blt,ok.above,ok.inj,ok.has,ok.cab,(λz=>nomatch z),ok.frames,ok.stk,ok.exf,ok.bs,ok.bsz,ok.noex,ok.exfs,ok.funs,ok.frf⟩
theorem Inv.hand(I:Inv X pins σ H s)(x:Addr):Inv (X.hand x) pins σ H s:=⟨I.ok.hand x,I.os,I.bare,I.base,I.loc,I.cell,I.free,I.freeC,I.pin,I.hok,I.len⟩
theorem Inv.unhand(ok:X.Ok)(I:Inv (X.hand x) pins σ H s):Inv X pins σ H s:=⟨ok,I.os,I.bare,I.base,I.loc,I.cell,I.free,I.freeC,I.pin,I.hok,I.len⟩
theorem Inv.gone{M:Model}{A:Around}{E:Value->Shared->Prop}{i:Nat}{y:Str}{pos:Pos}{Q:Unit->Shared->Prop}(I:Inv X pins σ H s)(hN:X.N.Nodup)(hi:X.N[i]?=some y)(hk:X.env.kindOf y=some .local)
 (h:∀s',Inv X pins (σ.set i none) H s'->Q () s'):wpAny M A (do bindName X.env y .none;unbindBehindTheSuite X.env y pos) Q E s:=by
 obtain⟨m,hn,hl⟩:=I.loc
 have hcls:(X.env.scope.kind == .class|| (X.env.scope.kind == .module&&X.env.locals != X.env.globals))=false:=by rw[I.ok.kind];rfl
 have hiσ:i<σ.length:=by rw[I.len];exact(vas.mp hi).1
 refine wpAny_nameGoes_keeps hk hn hcls λh' v hn' hs=>h _ ?_
 have low:∀b o,X.s₀.heap.get? b=some o->b≠X.env.locals:=λb o e=>vay (vae (vam e) I.ok.above)
 refine⟨I.ok,I.os,I.bare,⟨λb o e n hb hx=>(hs.2 b (low b o e)).trans (I.base.keep b o e n hb hx),λb o e n hb hx=>?_,I.base.free,λb o e hx=>?_,I.base.tups,I.base.frzs,I.base.tbls⟩,⟨_,hn',λj z v' e1 e2 e3=>?_⟩,λz c e=>?_,I.free,I.freeC,λp hp=>?_,λb u e=>?_,by simpa using I.len⟩
 .obtain⟨sl,e1⟩:=I.base.slot b o e n hb hx
  exact⟨sl,(hs.2 b (low b o e)).trans e1⟩
 .obtain⟨o',e1⟩:=I.base.there b o e hx
  exact⟨o',(hs.2 b (low b o e)).trans e1⟩
 .by_cases hj:j=i
  .subst hj
   rw[vbi hiσ]at e2
   cases e2
  .rw[vci (vbz hj)]at e2
   obtain⟨u',r',q⟩:=hl j z v' e1 e2 e3
   refine⟨u',r',?_⟩
   rcases q with⟨k,e⟩|⟨k,c,e,w⟩
   .have:z≠y:=λe=>hj (zf0 hN e1 (e▸hi))
    exact .inl ⟨k,by simp[this,e]⟩
   .exact .inr ⟨k,c,e,w.sameBut hs (I.cne z c e)⟩
 .obtain⟨w',z⟩:=I.cell z c e
  exact⟨w',z.sameBut hs (I.cne _ c e)⟩
 .obtain⟨e,n,ne,nf,d⟩:=I.pin p hp
  exact⟨(hs.2 p.1 ne).trans e,n,ne,nf,d⟩
 .refine(I.hok b u e).stay (λc w' hc q=>(hs.2 c ?_).trans q) (λ_ q=>q) λ_ _ q=>q
  rintro rfl
  have fl:=I.free
  rcases hc with rfl|hc
  .rw[fl]at e;cases e
  .rw[fl]at hc;cases hc
end
noncomputable def subE(K:vga)(C D:Addr):Bool:=XL.excCls K C&&XL.excCls K D&&match K.lookup C with
 |some o=>(match o.data with
  |.cls cd=>cd.mro.contains (.ref D)
  |_=>false)
 |none=>false
section
variable{M:Model}{A:Around}{E:Value->Shared->Prop}{s:Shared}{K:vga}{C D x:Addr}{oe:Obj}
theorem zs6{Q:Bool->Shared->Prop}(X:K.In s.heap)(hs:subE K C D=true)(he:s.heap.get? x=some oe)(hc:oe.cls=.ref C)(h:Q true s):wpAny M A (excMatches (.ref x) (.ref D)) Q E s:=by
 unfold subE at hs
 rw[vaa,vaa]at hs
 obtain⟨⟨hC,hD⟩,hm⟩:=hs
 obtain⟨nm,qn,N,bs,bm,hd,sn,sub,ab,col,dd,k0,k1,k2,k3,k5,oC,T⟩:=XL.excCls_of X hC
 obtain⟨nm',qn',N',bs',bm',hd',sn',sub',ab',col',dd',k0',k1',k2',k3',k5',oD,T'⟩:=XL.excCls_of X hD
 have c1:(Value.ref D::bm').contains (.type "BaseException")=true:=by rw[List.contains_cons,T'.hasType (X:="BaseException") (b:=true) (by decide +kernel),veq]
 have c2:(Value.ref C::bm).contains (.ref D)=true:=by
  cases q:K.lookup C with
  |none=>rw[q]at hm;cases hm
  |some o=>
   rw[q]at hm
   have:=X C o q
   rw[oC]at this
   cases this
   exact hm
 have f:=tc_notTuple
 obtain⟨hp,g,d,tk,os⟩:=s
 unfold excMatches
 repeat(first
  |(with_reducible refine vb4 he ?_;rw[hc])
  |with_reducible refine vb4 oD ?_
  |(with_reducible refine vcm oD ?_;rw[c1])
  |(with_reducible refine vcm oC ?_;rw[c2])
  |wp_step)
 exact h
end
noncomputable def tryE(K:vga)(D:Addr)(i:Nat)(th:TS)(D0:Ends)(σ:St):XK:=λc dx H2=>∃C,c=.ref C/\subE K C D=true/\
 ∀x,H2 x=some (excR C dx x)->th {nx:=λσ' H'=>D0.nx (σ'.set i none) H',rt:=D0.rt,bk:=λσ' H'=>D0.bk (σ'.set i none) H',ct:=λσ' H'=>D0.ct (σ'.set i none) H'} (σ.set i (some (.ref x))) H2
noncomputable def tTry(K:vga)(D:Addr)(i:Nat)(sp:Sp)(ta:TA)(th:TS):TS:=λD0 σ H=>ta σ H λvs H1=>sp vs H1 (λ_ H2=>D0.nx σ H2) (tryE K D i th D0 σ)
section
variable{X:Cx}
theorem zwx{k i:Nat}{fa D:Addr}{fd:FuncData}{ps:List Str}{sp:Sp}{f xb n:Str}{p cpos epos tp hpos pos:Pos}{e:Expr}{es:List Expr}{b0:Stmt}{suite:List Stmt}{ta:TA}{th:TS}
 (hs:X.stack=X.env::X.outer) (hf:X.env.frame=some X.env.locals) (F:FnOk X.prog X.w X.K X.mg X.base (CX1 X.prog X.w) k fa fd ps sp) (hr:Room k X.A) (hg:Gl X f) (hm:X.mg f=some (.ref fa)) (hk:PySem.W.keepIn X.K (.ref fa)=true) (hb:Binds X.K fd ps [])
 (ha:PA X.nox (e::es) ta) (hgb:Gl X xb) (hmb:X.mg xb=some (.ref D)) (hN:X.N.Nodup) (hi:X.N[i]?=some n) (hl:X.env.kindOf n=some .local) (hx:Loc X.env.scope n) (hfn:X.fn n=true)
 (hh:∀x,PSs (X.hand x) (b0::suite) th) (hdb:(f==("__debug__" : Str))=false:=by decide) (hdb2:(xb==("__debug__" : Str))=false:=by decide)
 (he:starEach (e::es) X.env=(false,eval e X.env)::starEach es X.env:=by rfl) (hpl:(backTo cpos (starEach es X.env)).any (·.1)=false:=by rfl) (hsw:swapsWith (.Call (.Name f p) (e::es) [] cpos) none epos.line X.env=pure false:=by rfl) :
 PS X (.Try [.Expr (.Call (.Name f p) (e::es) [] cpos) epos] [.ExceptHandler (some (.Name xb tp)) (some n) (b0::suite) hpos] [] [] pos) (tTry X.K D i sp ta th):=by
 intro pins s σ H D0 I h
 refine wpAny_Try_except (wpAny_execs_cons (wpAny_Expr_any ?_ I.quiet hsw))
 refine vch (zbu I hg hm ?_ hdb)
 refine vdw (h₀:=X.base) I.ok.mod.kin hk (vbp (ha cpos pins s σ H _ (I.wish _) h) (λus s1 z9=>z9.el λvs H1 I1 r q=>?_) λ_ _ z=>z.elim) he hpl
 have I1:=I1.unwish
 refine⟨I1.kIn,?_⟩
 have len:us.length=ps.length:=by rw[<-r.length];exact F.len _ _ _ _ q
 have hb1:=hb s1 us I1.kIn (by rw[vbc];exact len)
 rw[vbc]at hb1
 refine vds (vdt (F.run X.A X.stack s1 H1 ⟨us,[]⟩ us vs (λ_ H2=>D0.nx σ H2) (tryE X.K D i th D0 σ) hr I1.env0 hb1 r q) λres s' hq=>?_)
 cases res with
 |ok fl=>
  cases fl with
  |ret u=>
   obtain⟨v,H2,I2,_,q2⟩:=I1.after hq
   exact vdf (vdf ⟨σ,H2,I2,q2⟩)
  |next=>exact False.elim hq
  |brk=>exact False.elim hq
  |cont=>exact False.elim hq
 |error er=>
  obtain⟨x,T,C,dx,H2,rfl,a,C',hc',sb,hth⟩:=At.of (E:=tryE X.K D i th D0 σ) I1 hq
  cases hc'
  refine a.noted hs hf λs2 T2 a2=>a2.lands λs3 a3=>?_
  refine wpAny_handleBy_cons (codeAny_handlers_test ?_) (by intro z;cases z)
  have I3:=a3.I.hand x
  refine zbu (X:=X.hand x) I3 hgb hmb ?_ hdb2
  obtain⟨vs3,sl3,he3,_⟩:=a3.ex.ex
  refine zs6 a3.I.kIn sb he3 rfl ?_
  refine codeAny_handlers_suite_as (a3.lands λs4 a4=>?_)
  refine zdx (X:=X.hand x) (a4.I.hand x) hN hi hx (v:=.ref x) rfl (λs5 I5=>?_) (.inl hfn)
  refine vbp (hh x pins s5 _ H2 _ I5 (hth x a4.hx)) (λfl s6 q6=>?_) λ_ _ z=>z.elim
  cases fl with
  |next=>
   obtain⟨σ',H',I',q'⟩:=q6
   exact(I'.unhand I.ok).gone hN hi hl λs7 I7=>⟨_,H',I7,q'⟩
  |brk=>
   obtain⟨σ',H',I',q'⟩:=q6
   exact(I'.unhand I.ok).gone hN hi hl λs7 I7=>⟨_,H',I7,q'⟩
  |cont=>
   obtain⟨σ',H',I',q'⟩:=q6
   exact(I'.unhand I.ok).gone hN hi hl λs7 I7=>⟨_,H',I7,q'⟩
  |ret u=>
   obtain⟨v,σ',H',I',r',q'⟩:=q6
   exact(I'.unhand I.ok).gone hN hi hl λs7 I7=>⟨v,_,H',I7,r',q'⟩
end
structure RoomH(k:Nat)(A:Around):Prop where
 dp:A.depth+k+2<recursionLimit
 un:A.units+4*k+100<cLine
theorem Room.h2{k:Nat}(r:Room k A):RoomH 2 A:=⟨by have:=r.dp;omega,by have:=r.un;omega⟩
theorem Room.h{k:Nat}{v:Option Value}(r:Room k A):RoomH 2 (A.mark v):=⟨r.h2.dp,r.h2.un⟩
noncomputable abbrev bareA(A:Around):Around:={A with handled:=none}
theorem RoomH.depth{k:Nat}(r:RoomH k A):A.depth<recursionLimit:=by have:=r.dp;omega
theorem RoomH.deeper{k:Nat}(r:RoomH (k+1) A)(env:Env):RoomH k (A.deeper env):=
 ⟨by have:=r.dp;show A.depth+1+k+2<_;omega,by have:=r.un;show A.units+3+4*k+100<_;omega⟩
structure FnOkH(P:Program)(w:World)(K:vga)(mg:Str->Option Value)(base:Heap)(k:Nat)(f:Addr)(fd:FuncData)(ps:List Str)(sp:List V->Hp->VK->Prop):Prop where
 len:∀vs H Q,sp vs H Q->vs.length=ps.length
 run:∀(A:Around)(outer:List Env)(s:Shared)(H:Hp)(args:Args)(us:List Value)(vs:List V)(Q:VK),RoomH k A->Env0 P w K mg base A outer s H->BindsTo s fd args (ps.zip us)->Vals vs us->sp vs H Q->
  codeAny (model P w) A (.call (.ref f) args) (CR CX0 outer P w H s Q E0) s
noncomputable abbrev cxH(P:Program)(w:World)(K:vga)(mg:Str->Option Value)(base:Heap)(N:List Str)(qual:Str)(scope:Scope)(f:Addr)(cd:Value)(A:Around)(outer:List Env)(s:Shared)(H:Hp):Cx:=
 {cxOf CX0 P w K mg base N qual scope f cd A outer s H E0 with calm:=false,xe:=λ_ _=>False}
theorem fnH{P:Program}{w:World}{K:vga}{mg:Str->Option Value}{base:Heap}{k:Nat}{f:Addr}{name qual:Str}{params:Arguments}{body:List Stmt}{scope:Scope}{dV kV doc pm cdv ct oc:Value}{an od:Option Addr}
 {osl:Array (Option Value)} {N ps:List Str} {sp:List V->Hp->VK->Prop} (lk:K.lookup f=some ⟨oc,od,.func (PySem.W.fnOf name qual params body scope dV kV doc pm an cdv ct),osl⟩) (hcd:PySem.W.codeIn K cdv qual=true) (S:FnScope N ps scope)
 (len:∀vs H Q,sp vs H Q->vs.length=ps.length)
 (hbody:∀(A:Around)(outer:List Env)(s:Shared)(H:Hp)(vs:List V)(Q:VK),RoomH k (A.deeper (envOfC qual scope s.heap.objs.size f cdv))->sp vs H Q->
   ∃t,PSs (cxH P w K mg base N qual scope f cdv A outer s H) body t/\t {nx:=λ_ H'=>Q .non H',rt:=Q} (start N vs) H) :
 FnOkH P w K mg base (k+1) f (PySem.W.fnOf name qual params body scope dV kV doc pm an cdv ct) ps sp:=by
 refine⟨len,λA outer s H args us vs Q hr e0 hb r hsp=>?_⟩
 have hl:=len _ _ _ hsp
 have KX:K.In s.heap:=e0.mod.kin.keeps λb o e=>(e0.bs b o e).1
 have lim:s.heap.NoLimit:=e0.mod.nolimit.keeps λb o e=>(e0.bs b o e).1
 have hkind:∀y∈ps.zip us,scope.names.lookup y.1=some .local\/(scope.names.lookup y.1=some .cell/\((cellsFrom (s.heap.objs.size+1) scope.names []).lookup y.1).isSome=true):=λhq0 hy=>by
  obtain⟨n,v⟩:=hq0
  rcases S.par n (vcv hy).1 with q|q
  .exact .inl q
  .exact .inr ⟨q,PySem.W.cellsFrom_some _ _ _ (.inl q)⟩
 refine codeAny_call_function hr.depth (KX _ _ lk) rfl S.co S.gen rfl (PySem.W.codeRec_of KX hcd) (hb _ _ _ _ ?_)
 refine wpAny_newFunctionEnv_cells S.kind hkind λenv he s1 x=>?_
 subst he
 refine⟨lim.keeps x.toInCall.keep,codeAny_func ?_⟩
 obtain⟨t,ht,hq⟩:=hbody A outer s H vs Q (hr.deeper _) hsp
 have J:Inv (cxOf CX0 P w K mg base N qual scope f cdv (bareA A) outer s H E0) [] (start N vs) H s1:=zg9 S rfl ⟨e0.frames,e0.mod,e0.bs,e0.bsz,e0.funs,e0.frf,e0.hok,e0.bare⟩ hl r x
 have ok:=J.ok
 have I:Inv (cxH P w K mg base N qual scope f cdv A outer s H) [] (start N vs) H s1:=
  ⟨⟨ok.mod,ok.kind,ok.glob,ok.blt,ok.above,ok.inj,ok.has,ok.cab,(λz=>nomatch z),ok.frames,ok.stk,ok.exf,ok.bs,ok.bsz,ok.noex,ok.exfs,ok.funs,ok.frf⟩,J.os,J.bare,J.base,J.loc,J.cell,J.free,J.freeC,J.pin,J.hok,J.len⟩
 refine vbp (ht [] s1 (start N vs) H _ I hq) (λfl s' hs=>?_) λe s' hs=>hs.elim
 have fin:∀{σ':St}{H':Hp}{v:V}{u:Value},Inv (cxH P w K mg base N qual scope f cdv A outer s H) [] σ' H' s'->RelV v u->Q v H'->CE outer P w H s Q u s':=
  λ{σ' H' v u} J rv q=>⟨v,H',J.os,J.bare,J.base,J.hok,rv,q⟩
 cases fl with
 |ret u=>
  obtain⟨v,σ',H',J,rv,q⟩:=hs
  exact fin J rv q
 |next=>
  obtain⟨σ',H',J,q⟩:=hs
  exact fin (v:=V.non) (u:=Value.none) J rfl q
 |brk=>
  obtain⟨_,_,_,q⟩:=hs
  exact False.elim q
 |cont=>
  obtain⟨_,_,_,q⟩:=hs
  exact False.elim q
section
variable{X:Cx}{k:Nat}{f:Addr}{fd:FuncData}{ps:List Str}{sp:List V->Hp->VK->Prop}{x:Str}{p pos:Pos}{e:Expr}{es:List Expr}{t:TA}
theorem zjl(F:FnOkH X.prog X.w X.K X.mg X.base k f fd ps sp)(hr:RoomH k X.A)(hg:Gl X x)(hm:X.mg x=some (.ref f))(hk:PySem.W.keepIn X.K (.ref f)=true)(hb:Binds X.K fd ps [])
 (ha:PA X (e::es) t) (hdb:(x==("__debug__" : Str))=false:=by decide) (he:starEach (e::es) X.env=(false,eval e X.env)::starEach es X.env:=by rfl) (hpl:(backTo pos (starEach es X.env)).any (·.1)=false:=by rfl) :
 PE X (.Call (.Name x p) (e::es) [] pos) (λσ H Q=>t σ H λvs H1=>sp vs H1 Q):=by
 intro pins s σ H Q I h
 refine vch (zbu I hg hm ?_ hdb)
 refine vdw (h₀:=X.base) I.ok.mod.kin hk (thn (ha pos pins s σ H _ I h) λus s1 z9=>z9.el λvs H1 I1 r q=>⟨I1.kIn,?_⟩) he hpl
 have len:us.length=ps.length:=by rw[<-r.length];exact F.len _ _ _ q
 have hb1:=hb s1 us I1.kIn (by rw[vbc];exact len)
 rw[vbc]at hb1
 refine vds (vdt (F.run X.A X.stack s1 H1 ⟨us,[]⟩ us vs Q hr I1.env0 hb1 r q) λres s' hq=>?_)
 cases res with
 |error er=>exact False.elim hq
 |ok fl=>
  cases fl with
  |ret u=>exact I1.after hq
  |next=>exact False.elim hq
  |brk=>exact False.elim hq
  |cont=>exact False.elim hq
end
end L2
namespace RF
open PySem PySem.Spec PyProof.Rows L2
noncomputable def Hx(H H':Hp):Prop:=∀a o,H a=some o->H' a=some o
theorem Hx.refl:Hx H H:=λ_ _ q=>q
theorem Hx.trans(a:Hx H H1)(b:Hx H1 H2):Hx H H2:=λx o q=>b x o (a x o q)
theorem Hx.new{p:Addr}(hp:H p=none):Hx H (upd H p o):=λa u q=>by
 rw[zaf (λz=>by rw[z,hp]at q;cases q)];exact q
end RF
namespace L2
open PySem PySem.Spec PyProof.Rows
noncomputable def DxOk(dx:Option Addr)(H:Hp):Prop:=∀d,dx=some d->∃fs,H d=some (xdH fs d)
noncomputable def Err(C a:Addr)(H:Hp):Prop:=∃dx,H a=some (excR C dx a)/\DxOk dx H
theorem Err.mono{C a:Addr}(h:Err C a H)(k:RF.Hx H H'):Err C a H':=by
 obtain⟨dx,q,d⟩:=h
 exact⟨dx,k _ _ q,λe z=>let⟨fs,y⟩:=d e z;⟨fs,k _ _ y⟩⟩
noncomputable def zel(C:Addr)(E:XK)(H:Hp):Prop:=∀H' dx a,RF.Hx H H'->H' a=some (excR C dx a)->DxOk dx H'->E (.ref C) dx H'
theorem zel.plain{C:Addr}{E:XK}(h:zel C E H):∀a,H a=none->E (.ref C) none (upd H a (excR C none a)):=λa ha=>h _ none a (.new ha) zai λ_ z=>nomatch z
section
variable{M:Model}{A:Around}{E:Value->Shared->Prop}{env:Env}{s:Shared}
variable{nm q:Str}{C N:Addr}{bs bm:List Value}{hdct:Bool}{sn:List Str}{sub:List Value}{ab:Bool}{col:Option Bool}{dd:Option Addr}{k0 k1 k2 k3 k5:Option Value}{nw:String}
theorem zdb{x:Sem Value}{Q:Flow->Shared->Prop}(hb:bm.contains (.type "BaseException")=true)(hh:A.handled=none)
 (h:wpAny M A x (λv z=>∃e t dx,v=.ref e/\z.heap.get? C=some (excClassObj nm q C N bs bm hdct sn sub ab col dd k0 k1 k2 k3 k5 nw)/\z.heap.get? e=some (XL.excObj C dx t)/\E (.ref e) z) E s) :
 wpAny M A (raiseStmt env (some x) none) Q E s:=by
 have hB:(Value.ref C::bm).contains (.type "BaseException")=true:=by rw[List.contains_cons,hb,veq]
 unfold raiseStmt
 refine vab (vbp h (λv z y=>?_) λ_ _ y=>y)
 obtain⟨e,t,dx,rfl,hC,he,hE⟩:=y
 obtain⟨hp,g,d,tk,os⟩:=z
 unfold XL.excObj at he
 repeat(first
  |with_reducible refine vb4 he ?_
  |with_reducible refine vb4 hC ?_
  |(with_reducible refine vcm hC ?_;rw[hB])
  |wp_step)
 exact wpAny_raiseNew_none hh hE
end
noncomputable def spI(C:Addr):List V->Hp->VK->Prop:=λvs H Q=>∃a x y,vs=[.ref a,x,y]/\H a=some (excH C none a)/\
 ∀dx fs H',H dx=none->H' a=some (excH C (some dx) a)->H' dx=some (xdH fs dx)->(∀b o,b≠a->H b=some o->H' b=some o)->Q .non H'
theorem RoomH.make{k:Nat}(r:RoomH (k+1) A)(C:Addr)(us:List Value):RoomH k (A.under (.builtin "type.__call__" ⟨.ref C::us,[]⟩)):=
 ⟨by have:=r.dp;rw[zke];omega,by have:=r.un;rw[zkf];omega⟩
section
variable{X:Cx}{E:XK}{C f:Addr}{fd:FuncData}{ps:List Str}{x:Str}{p cpos pos:Pos}{e:Expr}{es:List Expr}{t:TA}
theorem zmz(M:MkI X.K C f)(F:FnOkH X.prog X.w X.K X.mg X.base 1 f fd ps (spI C))(hr:RoomH 2 X.A)(hb:Binds X.K fd ps [])(hc:X.calm=true)(hg:Gl X x)(hm:X.mg x=some (.ref C))(ha:PA X.nox (e::es) t)
 (hdb:(x==("__debug__" : Str))=false) (he:starEach (e::es) X.env=(false,eval e X.env)::starEach es X.env) (hpl:(backTo cpos (starEach es X.env)).any (·.1)=false) :
 PS (X.wish (FlyIn X E)) (.Raise (some (.Call (.Name x p) (e::es) [] cpos)) none pos) (λ_ σ H=>t σ H λvs H1=>vs.length=2/\zel C E H1):=by
 intro pins s σ H D I h
 have I:=I.unwish
 obtain⟨nm,qn,N,bs,bm,hd,sn,sub,ab,col,dd,k0,k1,k2,k3,k5,hC,T⟩:=XL.excCls_of I.kIn M.cls
 have hB:bm.contains (.type "BaseException")=true:=T.hasType (by decide +kernel)
 obtain⟨oC,hK⟩:∃o,X.K.lookup C=some o:=by
  cases z:X.K.lookup C with
  |some o=>exact⟨o,rfl⟩
  |none=>
   have:=M.cls
   unfold XL.excCls at this
   simp[z]at this
 have eC:oC=excClassObj nm qn C N bs bm hd sn sub ab col dd k0 k1 k2 k3 k5 "ValueError.__new__":=by
  have:=I.kIn C oC hK
  rw[hC]at this;cases this;rfl
 subst eC
 have ev:wpAny (model X.prog X.w) X.A (eval (.Call (.Name x p) (e::es) [] cpos) X.env) (λv s1=>∃e t dx,v=.ref e/\s1.heap.get? C=some (excClassObj nm qn C N bs bm hd sn sub ab col dd k0 k1 k2 k3 k5 "ValueError.__new__")/\s1.heap.get? e=some (XL.excObj C dx t)/\FlyIn X E (.ref e) s1) (FlyIn X E) s:=by
  refine vch (zbu I hg hm ?_ hdb)
  refine vdw (h₀:=X.base) I.ok.mod.kin M.kp (vbp (ha cpos pins s σ H _ (I.wish _) h) (λus s1 z9=>z9.el λvs H1 I1 r ⟨hz,q⟩=>?_) λ_ _ z=>z.elim) he hpl
  have I1:=I1.unwish
  refine⟨I1.kIn,?_⟩
  have hle:s1.heap.objs.size<=s1.heap.objs.size+1:=vd4 _
  have hfr:H1 (s1.heap.objs.size+1)=none:=I1.hok.fresh hle
  have e2:((s1.heap.push {cls:=.type "tuple",data:=.seq us.toArray}).push (XL.excObj C none s1.heap.objs.size)).get? (s1.heap.objs.size+1)=some (XL.excObj C none s1.heap.objs.size):=by
   have:=vaz (s1.heap.push {cls:=.type "tuple",data:=.seq us.toArray}) (o:=XL.excObj C none s1.heap.objs.size) rfl
   rwa [vca]at this
  have I2:Inv X pins σ (upd H1 (s1.heap.objs.size+1) (excH C none (s1.heap.objs.size+1))) {s1 with heap:=(s1.heap.push {cls:=.type "tuple",data:=.seq us.toArray}).push (XL.excObj C none s1.heap.objs.size)}:=
   I1.laid (t':=s1.toks) (λb u q=>vac _ (vac _ q)) hle (zl4 e2)
  have r2:Vals (V.ref (s1.heap.objs.size+1)::vs) (Value.ref (s1.heap.objs.size+1)::us):=.cons rfl r
  obtain⟨v1,v2,rfl⟩:∃v1 v2,vs=[v1,v2]:=by
   match vs,hz with
   |[a,b],_=>exact⟨a,b,rfl⟩
  have hq:spI C [.ref (s1.heap.objs.size+1),v1,v2] (upd H1 (s1.heap.objs.size+1) (excH C none (s1.heap.objs.size+1))) (λv H2=>v=.non/\∃dx fs,H1 dx=none/\dx≠s1.heap.objs.size+1/\H2 (s1.heap.objs.size+1)=some (excH C (some dx) (s1.heap.objs.size+1))/\H2 dx=some (xdH fs dx)/\RF.Hx H1 H2):=
   ⟨_,v1,v2,rfl,zai,λdx fs H' d1 d2 d3 d4=>by
    have hne:dx≠s1.heap.objs.size+1:=λz=>by rw[z,zai]at d1;cases d1
    rw[zaf hne]at d1
    exact⟨rfl,dx,fs,d1,hne,d2,d3,λb o z=>by
     have hbn:b≠s1.heap.objs.size+1:=λy=>by rw[y,hfr]at z;cases z
     exact d4 b o hbn (by rw[zaf hbn];exact z)⟩⟩
  have hl:(Value.ref (s1.heap.objs.size+1)::us++[]).length=ps.length:=by
   rw[vbc,<-r2.length];exact F.len _ _ _ hq
  have hb2:=hb _ (Value.ref (s1.heap.objs.size+1)::us) I2.kIn hl
  rw[vbc]at hb2
  refine vds (XL.make_excI I1.kIn M.cls M.init (vcr.mp M.fn) (by show us.length<=sizeLine;rw[<-r.length];show 2<=sizeLine;decide) (vdt (F.run _ X.stack _ _ ⟨Value.ref (s1.heap.objs.size+1)::us,[]⟩ (Value.ref (s1.heap.objs.size+1)::us) _ _ (hr.make C us)
   (I2.env0.make C us []) hb2 r2 hq) λr s' hq'=>?_))
  cases r with
  |error e=>exact False.elim hq'
  |ok fl=>
   cases fl with
   |ret u=>
    obtain⟨v,H',I3,rv,ev,dx,fs,g1,g2,g3,g4,g5⟩:=I2.after hq'
    subst ev
    obtain⟨tt,ht⟩:=zik I3.hok g3
    have I4:Inv X pins σ (upd H' (s1.heap.objs.size+1) (excR C (some dx) (s1.heap.objs.size+1))) s':=
     I3.write (h':=s'.heap) (t':=s'.toks) (x:=s1.heap.objs.size+1) (e:=s1.heap.objs.size+1) (by rw[g3];exact True.intro) (.inl rfl) (λb u _ z=>z) ⟨_,ht⟩ (ziw ht)
    refine⟨rv,_,tt,some dx,rfl,I3.kIn _ _ hK,ht,_,_,C,some dx,none,pins,σ,_,rfl,I4,⟨_,_,ht,rfl⟩,.inl ⟨rfl,rfl⟩,van I1.sz hle,van I1.sz hle,zai,?_⟩
    refine q _ (some dx) _ (λb o z=>?_) zai λd hd=>?_
    .have hbn:b≠s1.heap.objs.size+1:=λy=>by rw[y,hfr]at z;cases z
     rw[zaf hbn];exact g5 b o z
    .cases hd
     exact⟨fs,by rw[zaf g2];exact g4⟩
   |next=>exact False.elim hq'
   |brk=>exact False.elim hq'
   |cont=>exact False.elim hq'
 show wpAny (model X.prog X.w) X.A (exec (.Raise (some (.Call (.Name x p) (e::es) [] cpos)) none pos) X.env) _ (FlyIn X E) s
 rw[arm_exec_Raise]
 first
  |exact vab (vbu (zdb (C:=C) hB (I.ok.hd hc) (vab (thn ev λv s1 q=>vab (vbu (vag q))))))
  |(simp only[evalOpt,Option.map];exact vab (vbu (zdb (C:=C) hB (I.ok.hd hc) (vab (thn ev λv s1 q=>vab (vbu (vag q)))))))
  |(show wpAny _ _ (do standAt pos;raiseStmt X.env (some (do let v <-eval (.Call (.Name x p) (e::es) [] cpos) X.env;standAt pos;pure v)) none) _ _ s;exact vab (vbu (zdb (C:=C) hB (I.ok.hd hc) (vab (thn ev λv s1 q=>vab (vbu (vag q)))))))
end
theorem PS.fly{E:XK}{st:Stmt}(h:PS (X.wish (FlyIn X E)) st t)(k:∀e s,FlyIn X E e s->X.xe e s):PS X st t:=λpins s σ H D I hw=>
 vbp (h pins s σ H D (I.wish _) hw) (λ_ _ z=>SP.unwish z) k
theorem PI.nox{t:TI}(h:PI X.nox tg it t):PI X tg it t:=λpins s σ H R I hw=>
 vbp (h pins s σ H R (I.wish _) hw) (λv s1 q=>vbp q (λitv s2 ⟨i,fp,tn,J,H',e,I',T,t0,f0,r⟩=>⟨i,fp,tn,J,H',e,I'.unwish,T,t0,f0,r⟩) λ_ _ z=>z.elim) λ_ _ z=>z.elim
theorem PG.nox(h:PG X.nox tg t):PG X tg t:=λpins s σ H v u Q I r hw=>
 vbp (h pins s σ H v u Q (I.wish _) r hw) (λ_ _ ⟨σ',H',I',q⟩=>⟨σ',H',I'.unwish,q⟩) λ_ _ z=>z.elim
theorem PA.nox(h:PA X.nox es t):PA X es t:=λpos pins s σ H Q I hw=>
 vbp (h pos pins s σ H Q (I.wish _) hw) (λ_ _ ⟨vs,H',I',r,q⟩=>⟨vs,H',I'.unwish,r,q⟩) λ_ _ z=>z.elim
section
variable{X:Cx}
noncomputable def zwy(K:vga):V->List V->Hp->VK->Prop:=λx vs H Q=>∃p xs y ds d j e,x=.ref p/\vs=[y]/\SqL K H p xs/\Rps K (λ_=>False) H xs ds/\Rp K (λ_=>False) H y d/\ds.all SeqAt.shaped=true/\SeqAt.shaped d=true/\
 ds[j]?=some e/\PyData.eqv e d=true/\(∀(m:Nat)(e:PyData),m<j->ds[m]?=some e->PyData.eqv e d=false)/\(j:Int)<2 ^ 63-1/\Q (.int (j:Nat)) H
theorem zm0(hu:X.A.in1.units+64<cLine):MtR X "list.index" (zwy X.K):=by
 intro pins s σ H x vs v us Q I rx rv h
 obtain⟨p,xs,y,ds,d,j,ej,rfl,rfl,hq,r1,r2,s1,s2,hj,hjt,hjf,hsm,q⟩:=h
 cases rx
 obtain⟨u,rfl,ru⟩:=rv.one
 obtain⟨bs,rb⟩:=r2.reads I ru
 obtain⟨its,r,pl,hz⟩:=I.list hq
 obtain⟨as,ra⟩:=r1.reads I r
 obtain⟨⟨c,dd,dt,sl⟩,n,e1,e2,e4,e3⟩:=pl
 replace e2:c=.type "list":=e2
 replace e3:dt=.seq its.toArray n:=e3
 subst e2 e3
 have len:its.length=ds.length:=zbg ra
 have hjl:j<its.toArray.size:=by rw[vah,len];exact(vas.mp hj).1
 have at':∀(m:Nat)(hm:m<its.toArray.size),its[m]?=some its.toArray[m]:=λm hm=>by
  rw[vao (by simpa using hm)];rfl
 refine vdu PySem.F.slot_list_index ⟨_,e1,rfl⟩ PySem.F.entry_list_index (PySem.F.args_list_index_2 _ _) (SeqAt.list_indexAt p its.toArray n dd sl u (eqOf its ds d) j hjl hsm ?_ λm hm hlt=>?_) ⟨e1,λw hw=>zc3 ?_ ra rb s1 s2 w (by simpa using hw),?_⟩
 .rw[zf9 ra s1 (at' j hjl) hj];exact hjt
 .have hm':m<ds.length:=by rw[<-len];simpa using hm
  rw[zf9 ra s1 (at' m hm) (vao hm')]
  exact hjf m _ hlt (vao hm')
 .exact hu
 .exact⟨.int _,H,I.tok _,⟨_,rfl⟩,q⟩
noncomputable def rIsE(K:vga)(c:Value)(cv:V):List V->Hp->VK->Prop:=λxs H Q=>∃a C b,xs=[.ref a,cv]/\Err C a H/\XL.ExcI K C/\PySem.W.kitOne K (.ref C) c=some b/\Q (.bl b) H
theorem zpq(hc:tyVal cv=some c):CallR X (.builtin "isinstance") (rIsE X.K c cv):=by
 intro pins s σ H xs us Q I r h
 obtain⟨a,C,b,rfl,ea,kk,e,q⟩:=h
 obtain⟨u,u2,rfl,rx,rc⟩:=vals2 r
 have e2:u2=c:=by
  cases cv with
  |ty n=>cases hc;exact rc
  |ref a=>cases hc;exact rc
  |_=>cases hc
 subst e2
 obtain rfl:u=Value.ref a:=rx
 obtain⟨dx,ea,hd⟩:=ea
 obtain⟨vs,sl,ht⟩:=zs4 I.hok ea
 have hin:∃od,PySem.W.InstAt s.heap a ⟨.ref C,dx,.fields vs,sl⟩ C od:=by
  cases dx with
  |none=>exact⟨none,ht,rfl,rfl,trivial⟩
  |some d=>
   obtain⟨fs,ed⟩:=hd d rfl
   obtain⟨mA,n1,_⟩:=zqs I.hok ed
   obtain⟨od,hod,_⟩:=zd7 n1
   exact⟨some od,ht,rfl,rfl,hod⟩
 obtain⟨od,hin⟩:=hin
 exact vbq (XL.kitx_exc (od:=od) kk) I.kIn hin e (λz=>nomatch z) λtk=>⟨.bl b,H,I.tok _,rfl,q⟩
end
end L2
namespace RF
open PySem PySem.Spec PyProof.Rows L2
noncomputable def spWd(C:Addr)(z:Str):List V->Hp->VK->Prop:=λvs H Q=>∃a,vs=[.ref a]/\Err C a H/\∀H',Hx H H'->Q (.str z) H'
section
variable{K:vga}{m m':Nat->Addr}{n:Nat}{h h':VH}{H H':Hp}
theorem Rel.hx(r:Rel K m h H)(k:Hx H H'):Stp m h.n H m h.n H'/\Rel K m h H':=by
 have st:Stp m h.n H m h.n H':=⟨vad _,λ_ _=>rfl,λj a b=>absurd b (vcf.mpr a),λj k a b=>absurd b (vcf.mpr a),λb vs q=>k _ _ q,λb o t q=>k _ _ q,λb o nb q=>k _ _ q⟩
 refine⟨st,⟨λj hj=>?_,r.inj,r.len⟩⟩
 obtain⟨o',h1,h2⟩:=r.obj j hj
 obtain⟨u',h3⟩:=h2.some
 exact⟨o',h1,ORep.stp st (by rw[h3];exact k _ _ h3) h2⟩
noncomputable def Rais(K:vga)(m:Nat->Addr)(n:Nat)(H:Hp)(C:Addr)(h':VH)(E:XK):Prop:=∀H' m',Stp m n H m' h'.n H'->Rel K m' h' H'->zel C E H'
noncomputable def endX(K:vga)(m:Nat->Addr)(n:Nat)(H:Hp)(w:W)(h':VH)(Q:VK)(E:XK):Prop:=match w with
 |.tup [x]=>Wants K m n H x h' Q
 |.int i=>Rais K m n H i.toNat h' E
 |_=>False
noncomputable def spX(K:vga)(np:Nat)(g:List W->VH->Res W):Sp:=λvs H Q E=>vs.length=np/\∃h m ws w h',Rel K m h H/\VReps K m h.n H vs ws/\g ws h=.ok w h'/\endX K m h.n H w h' Q E
noncomputable def rtX(K:vga)(m:Nat->Addr)(n:Nat)(H:Hp)(Q:VK)(E:XK)(w:W):Prop:=match w with
 |.tup [x]=>∀v,VRep K m n H v x->Q v H
 |.int i=>zel i.toNat E H
 |_=>False
noncomputable abbrev Rx(K:vga)(E:XK):RtK:=λm n H Q w=>rtX K m n H Q E w
end
noncomputable def noRet:S->Bool
 |.seq a b=>noRet a&&noRet b
 |.ite _ a b=>noRet a&&noRet b
 |.for _ _ _ b=>noRet b
 |.whl _ b=>noRet b
 |.ret _=>false
 |.tryc _ _ _=>false
 |.tel ..=>false
 |_=>true
noncomputable def isRt:Fl->Bool
 |.rt _=>true
 |_=>false
noncomputable def NoRt(r:Res Fl):Prop:=∀fl h',r=.ok fl h'->isRt fl=false
theorem NoRt.bind{α:Type}{r:Res α}{f:α->VH->Res Fl}(k:∀a h,NoRt (f a h)):NoRt (r.bind f):=λfl h' e=>zac e λa h1 _ e2=>k a h1 fl h' e2
theorem NoRt.no:NoRt .no:=λ_ _ e=>nomatch e
theorem NoRt.of{o:Option En}:NoRt (.of (o.map .nx) h):=λfl h' e=>by
 obtain⟨e,_⟩:=of_ok e
 cases o with
 |none=>cases e
 |some ρ=>cases e;rfl
theorem NoRt.nx{ρ:En}:NoRt (.ok (.nx ρ) h):=λ_ _ e=>by cases e;rfl
theorem zgi{nx:Nat->VH->Option (Option W)}{tg:W->VH->En->Option En}{b:En->VH->Res Fl}(hb:∀ρ h,NoRt (b ρ h)):∀(f i:Nat) (ρ:En) (h:VH),NoRt (forG nx tg b f i ρ h)
 |0,_,_,_=>.no
 |f+1,i,ρ,h=>by
  simp only[forG]
  split
  .exact .no
  .exact .nx
  .split
   .exact .no
   .intro fl h' e
    refine zac e λfl1 h1 e1 e2=>?_
    have:=hb _ _ fl1 h1 e1
    cases fl1 with
    |nx ρ=>exact zgi hb f _ _ _ fl h' e2
    |ct ρ=>exact zgi hb f _ _ _ fl h' e2
    |bk ρ=>cases e2;rfl
    |rt w=>cases this
theorem zgj{c:En->VH->Res W}{b:En->VH->Res Fl}(hb:∀ρ h,NoRt (b ρ h)):∀(f:Nat) (ρ:En) (h:VH),NoRt (whlG c b f ρ h)
 |0,_,_=>.no
 |f+1,ρ,h=>by
  simp only[whlG]
  refine .bind λt h1=>?_
  split
  .exact .nx
  .intro fl h' e
   refine zac e λfl1 h1 e1 e2=>?_
   have:=hb _ _ fl1 h1 e1
   cases fl1 with
   |nx ρ=>exact zgj hb f _ _ fl h' e2
   |ct ρ=>exact zgj hb f _ _ fl h' e2
   |bk ρ=>cases e2;rfl
   |rt w=>cases this
  .exact .no
theorem nort:∀(s:S),noRet s=true->∀(ρ:En) (h:VH),NoRt (exs cl s ρ h):=by
 intro s
 induction s with
 |skip=>intro _ ρ h;exact .nx
 |seq a b i1 i2=>
  intro hs ρ h
  simp only[noRet,vaa]at hs
  intro fl h' e
  simp only[exs]at e
  refine zac e λfl1 h1 e1 e2=>?_
  have:=i1 hs.1 _ _ fl1 h1 e1
  cases fl1 with
  |nx ρ1=>exact i2 hs.2 _ _ fl h' e2
  |bk _=>cases e2;rfl
  |ct _=>cases e2;rfl
  |rt _=>cases this
 |set i e=>intro _ ρ h;simp only[exs];exact .bind λw h1=>.nx
 |unp is e=>intro _ ρ h;simp only[exs];exact .bind λw h1=>.of
 |aug i o e=>
  intro _ ρ h;simp only[exs]
  split
  .exact .bind λy h1=>.bind λz h2=>.nx
  .exact .no
 |put o i v=>
  intro _ ρ h;simp only[exs]
  refine .bind λw h1=>.bind λx h2=>.bind λy h3=>?_
  split
  .split
   .split
    .exact .nx
    .exact .no
   .exact .no
  .exact .no
 |ite c a b i1 i2=>
  intro hs ρ h
  simp only[noRet,vaa]at hs
  simp only[exs]
  refine .bind λx h1=>?_
  split
  .exact i1 hs.1 _ _
  .exact i2 hs.2 _ _
  .exact .no
 |ret e=>intro hs;cases hs
 |expr e=>intro _ ρ h;simp only[exs];exact .bind λw h1=>.nx
 |brk=>intro _ ρ h fl h' e;cases e;rfl
 |cnt=>intro _ ρ h fl h' e;cases e;rfl
 | «for» k a t b i1=>intro hs ρ h;simp only[exs];exact .bind λx h1=>zgi (i1 hs) _ _ _ _
 |whl c b i1=>intro hs ρ h;simp only[exs];exact zgj (i1 hs) _ _ _
 |tryc f a tb=>intro hs;cases hs
 |tel f a b s t=>intro hs;cases hs
 |no=>intro _ ρ h;exact .no
theorem _root_.L2.PS.nox{st:Stmt}(h:PS X.nox st t):PS X st t:=λpins s σ H D I hw=>vbp (h pins s σ H D (I.wish _) hw) (λ_ _ z=>SP.unwish z) λ_ _ z=>z.elim
section
variable{X:Cx}{E:XK}{c e:Expr}{fa fc:FE}{pos p:Pos}{x:Str}{st:Stmt}{sts sa sb:List Stmt}{gs gt:FS}
noncomputable abbrev SX(X:Cx)(E:XK)(st:Stmt)(f:FS):Prop:=SR X (Rx X.K E) st f
noncomputable abbrev SXs(X:Cx)(E:XK)(st:List Stmt)(f:FS):Prop:=SRs X (Rx X.K E) st f
structure Fly(X:Cx)(E:XK):Prop where
 fly:∀e s,FlyIn X E e s->X.xe e s
 own:PassesOwn (model X.prog X.w) X.A X.env X.xe
theorem zjm(h:SS X.nox st (exs cl s))(hs:noRet s=true):SX X E st (exs cl s):=(PS.nox h).imp λD σ H z9=>z9.el λρ h m fl h' f r e k=>.mk f r e λH' m' s' r'=>by
 have n:=nort s hs ρ h fl h' e
 have:=k H' m' s' r'
 cases fl with
 |nx _=>exact this
 |bk _=>exact this
 |ct _=>exact this
 |rt _=>cases n
theorem zwz(he:SE X.nox e fa):SX X E (.Return (some e) pos) (λρ h=>(fa ρ h).bind λw h=>.ok (.rt (.tup [w])) h):=(zg1 (PE.nox he)).imp λD σ H z9=>z9.el λρ h m fl h' f r e k=>by
 refine zac e λw h1 e1 e2=>?_
 cases e2
 exact(.mk f r e1 λv H1 m1 s1 r1 q1=>k H1 m1 s1 r1 v q1)
theorem zpr{C:Addr}{cpos:Pos}(F:Fly X E)(M:MkE X.K C)(hc:X.calm=true)(hg:Gl X x)(hm:X.mg x=some (.ref C))(hdb:(x==("__debug__" : Str))=false) :
 SX X E (.Raise (some (.Call (.Name x p) [] [] cpos)) none pos) (λ_ h=>.ok (.rt (.int C)) h):=((zmy M hc hg hm hdb).fly F.fly).imp λD σ H z9=>z9.el λρ h m fl h' f r e k=>by
 cases e
 exact zel.plain (k H m .refl r)
theorem zm1{C g:Addr}{ps:List Str}{es:List Expr}{cpos:Pos}{ga:FE}(F:Fly X E)(M:MkI X.K C g)(G:FnOkH X.prog X.w X.K X.mg X.base 1 g fd ps (spI C))(hr:RoomH 2 X.A)(hb:Binds X.K fd ps [])(hc:X.calm=true)(hg:Gl X x)(hm:X.mg x=some (.ref C))(hdb:(x==("__debug__" : Str))=false)
 (ha:SA X.nox (e::es) ga) (hst:(e::es).all zau=true):SX X E (.Raise (some (.Call (.Name x p) (e::es) [] cpos)) none pos) (λρ h=>(ga ρ h).bind λy h=>match y with|.tup [_,_]=>.ok (.rt (.int C)) h|_=>.no):=by
 rw[vb1,vaa]at hst
 refine((zmz M G hr hb hc hg hm ha hdb (zad hst.1) (zbe hst.2)).fly F.fly).imp λD σ H z9=>z9.el λρ h m fl h' f r e k=>?_
 refine zac e λy h1 e1 e2=>?_
 split at e2
 .rename_i a b
  cases e2
  exact lftA.mk f r e1 λvs H1 m1 s1 r1 q1=>⟨q1.length,k H1 m1 s1 r1⟩
 .cases e2
noncomputable abbrev gTel(g:List W->VH->Res W)(fa:FE)(b:Bool)(s t:FS):FS:=λρ h=>(fa ρ h).bind λy h=>match y with
 |.tup ys=>(g ys h).bind λw h=>telW b s t ρ w h
 |_=>.no
section
variable{k:Nat}{g:Addr}{fd:FuncData}{ps:List Str}{rn:List W->VH->Res W}{es:List Expr}{ga:FE}{cpos p2:Pos}
theorem zm2(F:Fly X E):ze5 (CX1 X.prog X.w) X E:=λpins σ H s e s' I q=>F.fly _ _ (pass1 pins σ H s e s' (I.wish _) q)
theorem zrd{b:Bool}{Q:VK}{σ:L2.St}{ρ:En}{m:Nat->Addr}{fl:Fl}{D:Ends}(hlen:∀ws h w h',rn ws h=.ok w h'->ws.length=ps.length)(f:Fr X.K m h.n H σ ρ)(r:Rel X.K m h H)(e:gTel rn ga b gs gt ρ h=.ok fl h')
 (k:∀H' m',Stp m h.n H m' h'.n H'->Rel X.K m' h' H'->FlOk X.K (Rx X.K E) m' h'.n H' D fl)
 (kv:∀x h2,telW b gs gt ρ (.tup [x]) h2=.ok fl h'->∀v H' m',Stp m h.n H m' h2.n H'->Rel X.K m' h2 H'->VRep X.K m' h2.n H' v x->Q v H') :
 lftA X.K ga σ H λvs H1=>spX X.K ps.length rn (vs++[]) H1 Q E:=by
 refine zac e λy h1 e1 e2=>?_
 cases y with
 |tup ys=>
  refine zac e2 λw h2 e3 e4=>?_
  refine lftA.mk f r e1 λvs H1 m1 s1 r1 q1=>⟨by rw[vbc,q1.length,hlen _ _ _ _ e3],h1,m1,ys,w,h2,r1,by rw[vbc];exact q1,e3,?_⟩
  unfold endX
  split
  .rename_i x
   exact λv H' m' s' r' q'=>kv x h2 e4 v H' m' (s1.trans s') r' q'
  .rename_i i
   cases e4
   exact λH' m' s' r'=>k H' m' (s1.trans s') r'
  .rename_i n1 n2
   unfold telW at e4
   split at e4
   .exact(n1 _ rfl).elim
   .exact(n2 _ rfl).elim
   .cases e4
 |_=>cases e2
theorem zs7(F:Fly X E)(G:FnOk X.prog X.w X.K X.mg X.base (CX1 X.prog X.w) k g fd ps (spX X.K ps.length rn))(hr:Room k X.A)(hg:Gl X x)(hm:X.mg x=some (.ref g))(hk:PySem.W.keepIn X.K (.ref g)=true)(hb:Binds X.K fd ps [])
 (hlen:∀ws h w h',rn ws h=.ok w h'->ws.length=ps.length) (ha:SA X.nox (e::es) ga) (hst:(e::es).all zau=true) (hdb:(x==("__debug__" : Str))=false) :
 SX X E (.Expr (.Call (.Name x p) (e::es) [] cpos) pos) (gTel rn ga false gSkip gSkip):=by
 rw[vb1,vaa]at hst
 refine(zk8 (zf2 (E:=E) G hr hg hm hk hb .nil (zm2 F) (PA.nox ha) hdb (zad hst.1) (zbe hst.2)) (by rfl)).imp λD σ H z9=>z9.el λρ h m fl h' f r e k=>?_
 refine zrd (D:=D) hlen f r e k λx h2 e4 v H' m' s' r' q'=>?_
 cases e4
 exact k H' m' s' r' σ (f.stp s')
theorem zs8(F:Fly X E)(G:FnOk X.prog X.w X.K X.mg X.base (CX1 X.prog X.w) k g fd ps (spX X.K ps.length rn))(hr:Room k X.A)(hg:Gl X x)(hm:X.mg x=some (.ref g))(hk:PySem.W.keepIn X.K (.ref g)=true)(hb:Binds X.K fd ps [])
 (hlen:∀ws h w h',rn ws h=.ok w h'->ws.length=ps.length) (ha:SA X.nox (e::es) ga) (hst:(e::es).all zau=true) (hdb:(x==("__debug__" : Str))=false) (hsa:SXs X E sa gs) (hsb:SXs X E sb gt) :
 SX X E (.If (.UnaryOp .Not (.Call (.Name x p) (e::es) [] cpos) p2) sa sb pos) (gTel rn ga true gs gt):=by
 rw[vb1,vaa]at hst
 refine(ps_if (zk7 (zqk (zf2 (E:=E) G hr hg hm hk hb .nil (zm2 F) (PA.nox ha) hdb (zad hst.1) (zbe hst.2)) λ_=>rfl)) hsa hsb).imp λD σ H z9=>z9.el λρ h m fl h' f r e k=>?_
 refine zrd (D:=D) hlen f r e k λx h2 e4 v H' m' s' r' q'=>?_
 unfold telW at e4
 simp only[vbj]at e4
 split at e4
 .cases q'
  exact⟨_,rfl,.mk (f.stp s') r' e4 λH3 m3 s3 r3=>k H3 m3 (s'.trans s3) r3⟩
 .cases q'
  exact⟨_,rfl,.mk (f.stp s') r' e4 λH3 m3 s3 r3=>k H3 m3 (s'.trans s3) r3⟩
 .cases e4
end
end
section
variable{K:vga}{m m':Nat->Addr}{h h1 h2:VH}{H H':Hp}
theorem zs9(e:leave h w h1=.ok w2 h2):w2=w:=by
 unfold leave at e
 split at e<;>cases e<;>rfl
theorem zta(e:leave h (.tup [x]) h1=.ok (.tup [x]) h2):leave h x h1=.ok x h2:=by
 unfold leave at e ⊢
 have hl:W.lt h.n (.tup [x])=W.lt h.n x:=by simp only[W.lt,W.lts,Bool.and_true]
 rw[hl]at e
 split at e
 .rename_i z;cases e;rw[if_pos z]
 .rename_i z;cases e;rw[if_neg z]
theorem zm3{E:XK}(r:Rel K m h H)(s:Stp m h.n H m' h1.n H')(r1:Rel K m' h1 H')(g:Grow ⟨h.n,h.n,h.os⟩ h1)(e:leave h w h1=.ok w2 h2)(k:endX K m h.n H w2 h2 Q E):rtX K m' h1.n H' Q E w:=by
 obtain rfl:=zs9 e
 unfold endX at k
 unfold rtX
 split at k
 .rename_i x
  exact λv hv=>zd2 r s r1 hv g (zta e) k
 .rename_i i
  exact zd2 (v:=.int i) (Q:=λ_ H'=>zel i.toNat E H') r s r1 (.int i) g e (λv H' m' s r _=>k H' m' s r)
 .cases k
end
theorem ztb{P:Program}{w:World}{K:vga}{mg:Str->Option Value}{base:Heap}{F:Nat->Option Fn}{k idx:Nat}{fn:Fn}{x qual:Str}{st:Stmt}{f:Addr}{fd:FuncData}{N ps:List Str}{b:S}(hF:F idx=some fn)(Fu:FunD K x qual st f fd)(S:FnScope N ps (zal st))
 (hn:fn.n=N.length) (hp:fn.ps=ps.length) (hb:fn.body=.seq b (.ret (.cst (.tup [.non]))))
 (hbody:∀(cdv:Value)(A:Around)(outer:List Env)(s:Shared)(H:Hp)(E:XK),Room k (A.deeper (envOfC qual (zal st) s.heap.objs.size f cdv))->SXs (cxOf (CX1 P w) P w K mg base N qual (zal st) f cdv A outer s H E) E (zc1 st) (exs (run F k) b)) :
 FnOk P w K mg base (CX1 P w) (k+1) f fd ps (spX K ps.length (run F (k+1) idx)):=by
 obtain⟨_,_,_,_,_,_,_,cdv,_,_,e,lk,hcd⟩:=Fu.ex
 subst e
 refine fn_of lk hcd S (λvs H Q E h=>h.1) λA outer s H vs Q E hr hsp=>?_
 refine⟨_,hbody cdv A outer s H E hr,?_⟩
 obtain⟨hl,h,m,ws,w2,h2,r,q,e,k2⟩:=hsp
 have hws:=zc9 hF e
 simp only[run,hF]at e
 split at e
 .refine zac e λfl h1 e1 e2=>?_
  have g:=zhn (zbt F k) _ _ _ _ _ e1
  have hN:fn.n-fn.ps=N.length-ws.length:=by rw[hn,hws]
  rw[hN,hb]at e1
  simp only[exs]at e1
  refine zac e1 λfl1 h3 e3 e4=>?_
  refine⟨_,⟨h.n,h.n,h.os⟩,m,fl1,h3,zjk q,zmv r,e3,λH' m' s' r'=>?_⟩
  cases fl1 with
  |nx ρ=>
   cases e4
   have:=zm3 (K:=K) (m:=m) (m':=m') (H:=H) (H':=H') (h:=h) (Q:=Q) (E:=E) r s' r' g e2 k2
   exact λσ' f'=>this .non .non
  |rt w3=>cases e4;exact zm3 r s' r' g e2 k2
  |bk _=>cases e4;cases e2
  |ct _=>cases e4;cases e2
 .cases e
theorem zps{P:Program}{w:World}{K:vga}{mg:Str->Option Value}{base:Heap}{F:Nat->Option Fn}{idx:Nat}{f:Addr}{fd:FuncData}{ps:List Str}:FnOk P w K mg base (CX1 P w) 0 f fd ps (spX K ps.length (run F 0 idx)):=
 ⟨λvs H Q E h=>h.1,λA outer s H args us vs Q E hr he hb hv hs=>by obtain⟨_,h,m,ws,w2,h2,r,q,e,k2⟩:=hs;cases e⟩
noncomputable def oneOf{α:Type}:List α->Option α
 |[a]=>some a
 |_=>none
theorem zbi{α:Type}{l:List α}{a:α}(h:oneOf l=some a):l=[a]:=by
 unfold oneOf at h
 split at h
 .cases h;rfl
 .cases h
noncomputable def nmE:Expr->Option (Str×Pos)
 |.Name x p=>some (x,p)
 |_=>none
theorem zfi{q:Str×Pos}(h:nmE e=some q):e=.Name q.1 q.2:=by
 unfold nmE at h
 split at h
 .cases h;rfl
 .cases h
structure CallQ where
 f:Str
 p:Pos
 args:List Expr
 cp:Pos
noncomputable def zem:Expr->Option CallQ
 |.Call g args [] cp=>(nmE g).map λq=>⟨q.1,q.2,args,cp⟩
 |_=>none
theorem mapS{α β:Type}{o:Option α}{f:α->β}{b:β}(h:o.map f=some b):∃a,o=some a/\f a=b:=by
 cases o with
 |none=>cases h
 |some a=>cases h;exact⟨a,rfl,rfl⟩
theorem bindS{α β:Type}{o:Option α}{f:α->Option β}{b:β}(h:o.bind f=some b):∃a,o=some a/\f a=some b:=by
 cases o with
 |none=>cases h
 |some a=>exact⟨a,rfl,h⟩
theorem zbx{q:CallQ}(h:zem e=some q):e=.Call (.Name q.f q.p) q.args [] q.cp:=by
 unfold zem at h
 split at h
 .obtain⟨z,h1,rfl⟩:=mapS h
  rw[zfi h1]
 .cases h
noncomputable def stE:Stmt->Option (Expr×Pos)
 |.Expr e p=>some (e,p)
 |_=>none
theorem zw0{s:Stmt}{q:Expr×Pos}(h:stE s=some q):s=.Expr q.1 q.2:=by
 unfold stE at h
 split at h
 .cases h;rfl
 .cases h
noncomputable def stR:Stmt->Option (Expr×Pos)
 |.Return o p=>o.map λe=>(e,p)
 |_=>none
theorem zw1{s:Stmt}{q:Expr×Pos}(h:stR s=some q):s=.Return (some q.1) q.2:=by
 unfold stR at h
 split at h
 .obtain⟨e,h1,rfl⟩:=mapS h
  rw[h1]
 .cases h
noncomputable def isWd(n:Str)(q:CallQ):Bool:=q.f==("_law_word" : Str)&& (match(oneOf q.args).bind nmE with
 |some y=>y.1==n
 |none=>false)
theorem zm4{n:Str}{q:CallQ}(h:isWd n q=true):q.f = "_law_word"/\∃yp,q.args=[.Name n yp]:=by
 unfold isWd at h
 rw[vaa,vcr]at h
 obtain⟨h1,h2⟩:=h
 split at h2
 .rename_i y hy
  obtain⟨a,e1,e2⟩:=bindS hy
  rw[vcr]at h2
  exact⟨h1,y.2,by rw[zbi e1,zfi e2,h2]⟩
 .cases h2
noncomputable def strE:Expr->Option (Str×Nat×Pos)
 |.Constant c k p=>(match c with
  |.str t=>some (t,k,p)
  |_=>none)
 |_=>none
theorem ztc{q:Str×Nat×Pos}(h:strE e=some q):e=.Constant (.str q.1) q.2.1 q.2.2:=by
 unfold strE at h
 split at h
 .split at h
  .cases h;rfl
  .cases h
 .cases h
noncomputable def isEq:CmpOp->Bool
 |.Eq=>true
 |_=>false
noncomputable def hForm(n:Str):Expr->Option (Option Str)
 |.Compare a ops cs _=>(match(oneOf ops).map isEq,(oneOf cs).bind strE,zem a with
  |some true,some t,some q=>if isWd n q then some (some t.1)else none
  |_,_,_=>none)
 |e=>(match zem e with
  |some q=>if isWd n q then some none else none
  |none=>none)
theorem zpt{n:Str}{o:Option Str}(h:hForm n e=some o):∃wp yp cp,(o=none/\e=.Call (.Name "_law_word" wp) [.Name n yp] [] cp)\/∃t k kp pos,o=some t/\e=.Compare (.Call (.Name "_law_word" wp) [.Name n yp] [] cp) [.Eq] [.Constant (.str t) k kp] pos:=by
 unfold hForm at h
 split at h
 .split at h
  .rename_i t q h1 h2 h3
   split at h
   .rename_i hw
    cases h
    obtain⟨w1,yp,w2⟩:=zm4 hw
    obtain⟨op,g1,g2⟩:=mapS h1
    obtain⟨c,g3,g4⟩:=bindS h2
    have g5:op=.Eq:=by cases op<;>first|rfl|cases g2
    have g6:=zbx h3
    rw[w1,w2]at g6
    exact⟨q.p,yp,q.cp,.inr ⟨_,_,_,_,rfl,by rw[zbi g1,g5,zbi g3,ztc g4,g6]⟩⟩
   .cases h
  .cases h
 .split at h
  .rename_i q h3
   split at h
   .rename_i hw
    cases h
    obtain⟨w1,yp,w2⟩:=zm4 hw
    have g6:=zbx h3
    rw[w1,w2]at g6
    exact⟨q.p,yp,q.cp,.inl ⟨rfl,g6⟩⟩
   .cases h
  .cases h
noncomputable def hV(o:Option Str)(z:Str):V:=match o with
 |none=>.str z
 |some t=>.bl (decide (V.str z=V.str t))
noncomputable def hW(o:Option Str)(z:Str):W:=match o with
 |none=>.str z
 |some t=>.bl (decide (V.str z=V.str t))
theorem hVW{K:vga}{m:Nat->Addr}{n:Nat}{H:Hp}(o:Option Str)(z:Str):VRep K m n H (hV o z) (hW o z):=by
 cases o with
 |none=>exact .str z
 |some t=>exact .bl _
noncomputable def tHand(tb:List (Nat×Str))(o:Option Str)(i:Nat):TS:=λD σ H=>∃C z x,(C,z)∈tb/\(i<σ.length->σ[i]?=some (some (.ref x)))/\Err C x H/\∀H',Hx H H'->D.rt (hV o z) H'
noncomputable abbrev gTry(g:List W->VH->Res W)(fa:FE)(tb:List (Nat×W)):FS:=λρ h=>(fa ρ h).bind λy h=>match y with
 |.tup ys=>(g ys h).bind λw h=>tryW tb ρ w h
 |_=>.no
noncomputable def Word(X:Cx)(C:Nat)(z:Str):Prop:=∃f fd ps,X.mg "_law_word" = some (.ref f)/\FnOkH X.prog X.w X.K X.mg X.base 2 f fd ps (spWd C z)/\PySem.W.keepIn X.K (.ref f)=true/\Binds X.K fd ps []
theorem zjn{o:Option Str}:∀{tb:List (Nat×Str)} {c:Nat} {w:W},(tb.map λp=>(p.1,hW o p.2)).lookup c=some w->∃z,(c,z)∈tb/\w=hW o z
 |[],_,_,e=>by cases e
 |(d,z)::r,c,w,e=>by
  rw[va0,va2]at e
  by_cases h:(c==d)=true
  .rw[h]at e
   cases e
   exact⟨z,by rw[show c=d by simpa using h];exact vap ..,rfl⟩
  .rw[show(c==d)=false by simpa using h]at e
   obtain⟨z',h1,h2⟩:=zjn e
   exact⟨z',vak _ h1,h2⟩
section
variable{X:Cx}{tb:List (Nat×Str)}{n:Str}{i:Nat}
theorem ztd{o:Option Str}{rp:Pos}{x:Addr}(hf:hForm n hb=some o)(hr:RoomH 2 (X.hand x).A)(hw:∀C z,(C,z)∈tb->Word X C z)(hgw:Gl X "_law_word")(hi:X.N[i]?=some n)(hv:Vis X.env.scope n)(hd:(n==("__debug__" : Str))=false)(hcd:(n==("__classdict__" : Str))=false) :
 PSs (X.hand x) [.Return (some hb) rp] (tHand tb o i):=by
 intro pins s σ H D I ⟨C,z,y,hm,hσ,hx,k⟩
 have hl:i<σ.length:=by rw[I.len];exact(vas.mp hi).1
 obtain⟨f,fd,ps,w1,w2,w3,w4⟩:=hw C z hm
 have pe:∀wp yp cp,PE (X.hand x) (.Call (.Name "_law_word" wp) [.Name n yp] [] cp) _:=λwp yp cp=>zjl (X:=X.hand x) (p:=wp) (pos:=cp) w2 hr hgw w1 w3 w4 (zbc (zi8 (X:=X.hand x) (pos:=yp) hi hv hd hcd) zb6)
 obtain⟨wp,yp,cp,⟨rfl,rfl⟩|⟨t,kk,kp,pos,rfl,rfl⟩⟩:=zpt hf
 .exact(zf1 (zg1 (pe _ _ _))) pins s σ H D I ⟨_,hσ hl,y,rfl,hx,λH' h=>k H' h⟩
 .exact(zf1 (zg1 (zlh op_eq (pe _ _ _) zk4 rfl))) pins s σ H D I ⟨_,hσ hl,y,rfl,hx,λH' h=>⟨rfl,k H' h⟩⟩
theorem zw2{k:Nat}{fa D:Addr}{fd:FuncData}{ps:List Str}{g:List W->VH->Res W}{f xb:Str}{p cpos epos tp hpos pos rp:Pos}{e hb:Expr}{es:List Expr}{ga:FE}{o:Option Str}
 (hs:X.stack=X.env::X.outer) (hf:X.env.frame=some X.env.locals) (F:FnOk X.prog X.w X.K X.mg X.base (CX1 X.prog X.w) k fa fd ps (spX X.K ps.length g)) (hr:Room k X.A) (hr2:∀x,RoomH 2 (X.hand x).A) (hg:Gl X f) (hm:X.mg f=some (.ref fa)) (hk:PySem.W.keepIn X.K (.ref fa)=true) (hbd:Binds X.K fd ps [])
 (hlen:∀ws h w h',g ws h=.ok w h'->ws.length=ps.length) (ha:SA X.nox (e::es) ga) (hst:(e::es).all zau=true) (hgb:Gl X xb) (hmb:X.mg xb=some (.ref D)) (hN:X.N.Nodup) (hi:X.N[i]?=some n) (hl:X.env.kindOf n=some .local) (hx:Loc X.env.scope n) (hv:Vis X.env.scope n) (hfn:X.fn n=true)
 (hfo:hForm n hb=some o) (hw:∀C z,(C,z)∈tb->Word X C z) (hgw:Gl X "_law_word") (hsub:∀C z,(C,z)∈tb->subE X.K C D=true)
 (hdb:(f==("__debug__" : Str))=false) (hdb2:(xb==("__debug__" : Str))=false) (hdb3:(n==("__debug__" : Str))=false) (hcd:(n==("__classdict__" : Str))=false) :
 SS X (.Try [.Expr (.Call (.Name f p) (e::es) [] cpos) epos] [.ExceptHandler (some (.Name xb tp)) (some n) [.Return (some hb) rp] hpos] [] [] pos) (gTry g ga (tb.map λc=>(c.1,hW o c.2))):=by
 rw[vb1,vaa]at hst
 refine(zwx (i:=i) (th:=tHand tb o i) hs hf F hr hg hm hk hbd ha hgb hmb hN hi hl hx hfn (λx=>ztd hfo (hr2 x) hw hgw hi hv hdb3 hcd) hdb hdb2 (zad hst.1) (zbe hst.2) rfl).imp λD0 σ H z9=>z9.el λρ h m fl h' f r e kk=>?_
 refine zac e λy h1 e1 e2=>?_
 cases y with
 |tup ys=>
  refine zac e2 λw h2 e3 e4=>?_
  refine lftA.mk f r e1 λvs H1 m1 s1 r1 q1=>⟨by rw[q1.length,hlen _ _ _ _ e3],h1,m1,ys,w,h2,r1,q1,e3,?_⟩
  unfold tryW at e4
  split at e4
  .cases e4
   exact λv H' m' s' r' _=>kk H' m' (s1.trans s') r' σ (f.stp (s1.trans s'))
  .rename_i ii
   split at e4
   .rename_i w' hlk
    cases e4
    obtain⟨z,hmem,rfl⟩:=zjn hlk
    intro H' m' s' r' H2 dx a hk hx2 hd2
    refine⟨ii.toNat,rfl,hsub _ _ hmem,λx hx'=>⟨ii.toNat,z,x,hmem,λhl'=>vbi (by rwa [vdg]at hl'),⟨dx,hx',hd2⟩,λH'' hh=>?_⟩⟩
    obtain⟨st,r''⟩:=r'.hx (hk.trans hh)
    exact kk H'' m' ((s1.trans s').trans st) r'' _ (hVW o z)
   .cases e4
  .cases e4
 |_=>cases e2
end
set_option genInjectivity false in
structure CC where
 N:List Str
 names:List (Str×NameKind)
 fnAll:Bool
noncomputable def zbl:List Str->Str->Nat->Option Nat
 |[],_,_=>none
 |y::r,x,i=>if y==x then some i else zbl r x (i+1)
theorem zhp:∀{N:List Str} {x:Str} {k i:Nat},zbl N x k=some i->∃j,i=k+j/\N[j]?=some x
 |[],_,_,_,e=>by cases e
 |y::r,x,k,i,e=>by
  unfold zbl at e
  split at e
  .rename_i h
   cases e
   exact⟨0,rfl,by simpa using h⟩
  .obtain⟨j,h1,h2⟩:=zhp e
   exact⟨j+1,by omega,by simpa using h2⟩
theorem zcl{N:List Str}{x:Str}{i:Nat}(e:zbl N x 0=some i):N[i]?=some x:=by
 obtain⟨j,h1,h2⟩:=zhp e
 rw[show i=j by omega];exact h2
noncomputable def visK:Option NameKind->Bool
 |some .local|some .cell|some .free=>true
 |_=>false
noncomputable def locK(all:Bool):Option NameKind->Bool
 |some .local=>true
 |some .cell=>all
 |_=>false
noncomputable def okN(x:Str):Bool:=!(x==("__debug__" : Str)) && !(x==("__classdict__" : Str)) && !(x==("__name__" : Str)) && !(x==("" : Str))
theorem zw3{x:Str}(h:okN x=true):x≠"":=by
 unfold okN at h
 simp only[vaa,vd3]at h
 exact λz=>by rw[z]at h;simp at h
theorem za9{x:Str}(h:okN x=true):(x==("__debug__" : Str))=false/\(x==("__classdict__" : Str))=false/\x≠"__name__":=by
 unfold okN at h
 simp only[vaa,vd3]at h
 exact⟨h.1.1.1,h.1.1.2,λz=>by rw[z]at h;simp at h⟩
noncomputable def cstW(K:vga):Nat->Value->Option W
 |0,_=>none
 |n+1,v=>match v with
  |.none=>some .non
  |.bool b=>some (.bl b)
  |.int i _=>some (.int i)
  |.str x _=>some (.str x)
  |.ref a=>(match K.lookup a with
   |some o=>(match o.cls,o.dict,o.data with
    |.type t,none,.seq its _=>if t == "tuple" && Nat.ble its.size 1000 then(mapO (cstW K n) its.toList).map .tup else none
    |_,_,_=>none)
   |none=>none)
  |_=>none
theorem zm5{K:vga}{f:Value->Option W}(ih:∀v w,f v=some w->∃x,RelV x v/\∀m n H,VRep K m n H x w):∀{us:List Value} {ws:List W},mapO f us=some ws->∃xs,Vals xs us/\∀m n H,VReps K m n H xs ws
 |[],_,e=>by cases e;exact⟨[],.nil,λ_ _ _=>.nil⟩
 |u::us,ws,e=>by
  unfold mapO at e
  split at e
  .rename_i b hb
   split at e
   .rename_i bs hbs
    cases e
    obtain⟨x,h1,h2⟩:=ih u b hb
    obtain⟨xs,h3,h4⟩:=zm5 ih hbs
    exact⟨x::xs,.cons h1 h3,λm n H=>.cons (h2 m n H) (h4 m n H)⟩
   .cases e
  .cases e
theorem zre{K:vga}:∀(n:Nat) (v:Value) (w:W),cstW K n v=some w->∃x,RelV x v/\∀m n H,VRep K m n H x w
 |0,_,_,e=>by cases e
 |n+1,v,w,e=>by
  unfold cstW at e
  split at e
  .cases e;exact⟨.non,rfl,λ_ _ _=>.non⟩
  .cases e;exact⟨.bl _,rfl,λ_ _ _=>.bl _⟩
  .cases e;exact⟨.int _,⟨_,rfl⟩,λ_ _ _=>.int _⟩
  .cases e;exact⟨.str _,⟨_,rfl⟩,λ_ _ _=>.str _⟩
  .rename_i a
   split at e
   .rename_i o ho
    split at e
    .rename_i t its nn hc hdd hd
     split at e
     .rename_i hz
      rw[vaa]at hz
      have ht:t = "tuple":=by simpa using hz.1
      subst ht
      cases z:mapO (cstW K n) its.toList with
      |none=>rw[z]at e;cases e
      |some ws=>
       rw[z]at e
       cases e
       obtain⟨xs,h3,h4⟩:=zm5 (zre n) z
       exact⟨.ref a,rfl,λm n H=>.tup (.inr ⟨o,its,nn,ho,hc,hdd,hd,vdr (zed (va5 hz.2)),h3⟩) (h4 m n H)⟩
     .cases e
    .cases e
   .cases e
  .cases e
noncomputable def cL(f:Expr->Option E):List Expr->Option E
 |[]=>some .nil
 |e::es=>match f e,cL f es with
  |some a,some r=>some (.cons a r)
  |_,_=>none
noncomputable def fnAt(K:vga)(x:Str):Option (Addr×Obj×FuncData):=match refAt K x with
 |some f=>(match K.lookup f with
  |some o=>(match o.data with
   |.func fd=>some (f,o,fd)
   |_=>none)
  |none=>none)
 |none=>none
noncomputable def za2:Arguments->Option (List Arg)
 |⟨[],args,none,[],[],none,_⟩=>some args
 |_=>none
noncomputable def isNone:Value->Bool
 |.none=>true
 |_=>false
noncomputable def zgk:Data->Bool
 |.seq xs _=>(match xs.toList with
  |[v]=>isNone v
  |_=>false)
 |_=>false
noncomputable def noneD(K:vga):Value->Bool
 |.ref t=>(match K.lookup t with
  |some o=>zgk o.data
  |none=>false)
 |_=>false
noncomputable def zen(K:vga)(x:Str)(n:Nat):Bool:=match fnAt K x with
 |some (_,_,fd)=>noneD K fd.defaults&&Nat.beq (n+1) fd.params.args.length
 |none=>false
noncomputable def hasD(K:vga)(x:Str):Bool:=match fnAt K x with
 |some (_,_,fd)=>noneD K fd.defaults
 |none=>false
theorem zks{K:vga}{x:Str}{n:Nat}(h:zen K x n=true):hasD K x=true:=by
 unfold zen at h
 unfold hasD
 split at h
 .rw[vaa]at h;exact h.1
 .cases h
noncomputable def padE:E->E
 |.nil=>.cons (.cst .non) .nil
 |.cons a r=>.cons a (padE r)
 |e=>e
noncomputable def argsE:E->Bool
 |.nil=>true
 |.cons _ r=>argsE r
 |_=>false
theorem zw4:∀{a:E},argsE a=true->∀(ρ:En) (h:VH),ev cl (padE a) ρ h=(ev cl a ρ h).bind λy h=>match y with|.tup ys=>.ok (.tup (ys++[.non])) h|_=>.no:=by
 intro a
 induction a with
 |nil=>intro _ ρ h;rfl
 |cons x r _ ih=>
  intro ha ρ h
  have ih:=ih ha
  simp only[padE,ev]
  cases ev cl x ρ h with
  |no=>rfl
  |ex _ _=>rfl
  |ok w h1=>
   show Res.bind (ev cl (padE r) ρ h1) _=Res.bind (Res.bind (ev cl r ρ h1) _) _
   rw[ih]
   cases ev cl r ρ h1 with
   |no=>rfl
   |ex _ _=>rfl
   |ok y h2=>cases y<;>rfl
 |_=>intro ha;cases ha
theorem zm6{f:Expr->Option E}:∀{es:List Expr} {a:E},cL f es=some a->argsE a=true
 |[],_,h=>by cases h;rfl
 |e::es,a,h=>by
  unfold cL at h
  split at h
  .rename_i x r h1 h2
   cases h
   show argsE r=true
   exact zm6 h2
  .cases h
noncomputable def cPs(f:Expr->Option E):List (Option Expr)->List Expr->Option E
 |[],[]=>some .nil
 |some k::ks,v::vs=>match f k,f v,cPs f ks vs with
  |some a,some b,some r=>some (.cons a (.cons b r))
  |_,_,_=>none
 |_,_=>none
noncomputable def cB(and:Bool)(f:Expr->Option E):List Expr->Option E
 |[]=>none
 |[a]=>f a
 |a::b::r=>match f a,cB and f (b::r)with
  |some x,some y=>some (if and then .and x y else .or x y)
  |_,_=>none
noncomputable def cO(f:Expr->Option E):Option Expr->Option (Bool×E)
 |none=>some (false,.cst .non)
 |some e=>(f e).map λc=>(true,c)
noncomputable def zds(K:vga)(C:CC)(x:Str):Bool:=C.names.lookup x==some .globalImplicit&& (match PySem.W.nsIn K mainGlobals x with|some none=>true|_=>false)
noncomputable def tyOf(x:Str):Option Ty:=
 if x==("int" : Str)then some .int else if x==("bool" : Str)then some .bool else if x==("tuple" : Str)then some .tuple else if x==("list" : Str)then some .list else if x==("str" : Str)then some .str else if x==("dict" : Str)then some .dict else none
noncomputable def lrOf(f:Str)(args:List Expr):Option Expr:=if f==("list" : Str)then(match args with
 |[.Call (.Name g _) [a] [] _]=>if g==("range" : Str)then some a else none
 |_=>none)else none
noncomputable def biOf(x:Str):Option Bi:=
 if x==("len" : Str)then some .len else if x==("list" : Str)then some .list else if x==("tuple" : Str)then some .tuple else if x==("int" : Str)then some .int else if x==("abs" : Str)then some .abs else if x==("str" : Str)then some .str else if x==("min" : Str)then some .min else if x==("all" : Str)then some .all else none
noncomputable def zrf:Expr->Bool
 |.Tuple ..=>true
 |_=>false
noncomputable def okW:Kd->Expr->Bool
 |.enm,t=>zrf t
 |.zip,t=>zrf t
 |_,_=>true
noncomputable def nmIx(C:CC):Expr->Option Nat
 |.Name x _=>if okN x&&locK C.fnAll (C.names.lookup x)then zbl C.N x 0 else none
 |_=>none
noncomputable def cTg(C:CC):Expr->Option Tg
 |.Name x p=>(nmIx C (.Name x p)).map .one
 |.Tuple es _ _=>(mapO (nmIx C) es).map .many
 |_=>none
noncomputable def ownOf(sc:Scope):List Str:=(sc.names.filter λy=>y.2 == .local && !(y.1==(".0" : Str))).map (·.1)
noncomputable def zba(sc:Scope):List Str:=(sc.names.filter λy=>y.2 == .free).map (·.1)
noncomputable def zeo(C:CC)(sc:Scope)(ix:List Nat):Bool:=
 decide (sc.kind=.function)&&sc.names.all (λy=>decide (y.2≠.cell))&&sc.names.all (λy=>decide (y.2=.local->sc.names.lookup y.1=some .local)) &&
 (ownOf sc).all (λx=>decide (sc.names.lookup x=some .local))&&sc.names.all (λy=>decide (y.2=.free->C.names.lookup y.1=some .cell\/C.names.lookup y.1=some .free))&&decide (ix.length=(zba sc).length) &&
 ((List.range (zba sc).length).all λk=>match(zba sc)[k]?,ix[k]? with
   |some x,some j=>decide (C.N[j]?=some x)&&decide (sc.names.lookup x=some .free)
   |_,_=>false)&&decide (ownOf sc++zba sc).Nodup
noncomputable def inC(sc:Scope):CC:=⟨ownOf sc++zba sc,sc.names,false⟩
mutual
noncomputable def cE(K:vga)(T:List Str):Nat->CC->Expr->Option E
 |0,_,_=>none
 |n+1,C,e=>match e with
  |.Name x _=>if okN x then(if visK (C.names.lookup x)then(zbl C.N x 0).map .var
   else if C.names.lookup x==some .globalImplicit then(match PySem.W.nsIn K mainGlobals x with
    |some (some v)=>(cstW K 8 v).map .cst
    |_=>none)else none)else none
  |.Constant c _ _=>(match c with
   |.int i=>some (.cst (.int i))
   |.bool b=>some (.cst (.bl b))
   |.none=>some (.cst .non)
   |.str x=>some (.cst (.str x))
   |_=>none)
  |.Tuple es _ _=>(cL (cE K T n C) es).map .tup
  |.List es _=>(cL (cE K T n C) es).map .lst
  |.Dict ks vs _=>if Nat.ble ks.length 15&&Nat.beq ks.length vs.length&&ks.all (·.isSome)then(cPs (cE K T n C) ks vs).map .dsp else none
  |.BinOp a O b _=>(match opOf O,cE K T n C a,cE K T n C b with
   |some o,some x,some y=>some (.op o x y)
   |_,_,_=>none)
  |.UnaryOp o a _=>(match o with
   |.Not=>(cE K T n C a).map .not
   |.USub=>(cE K T n C a).map .neg
   |_=>none)
  |.BoolOp o es _=>(match o with
   |.And=>cB true (cE K T n C) es
   |.Or=>cB false (cE K T n C) es)
  |.Compare a Os bs _=>(match Os,bs with
   |[O],[b]=>if zb7 b then(match cpOf O,cE K T n C a,cE K T n C b with
   |some c,some x,some y=>some (.cmp c x y)
   |_,_,_=>none)else none
   |[O,O'],[b,c]=>if zb7 c then(match cpOf O,cpOf O',cE K T n C a,cE K T n C b,cE K T n C c with
   |some o,some o',some x,some y,some z=>some (.chn o o' x y z)
   |_,_,_,_,_=>none)else none
   |_,_=>none)
  |.IfExp c a b _=>(match cT K T n C c,cE K T n C a,cE K T n C b with
   |some z,some x,some y=>some (.ite z x y)
   |_,_,_=>none)
  |.Subscript a (.Slice none none (some s) _) _=>(match cE K T n C a,cE K T n C s with
   |some x,some y=>some (.bi .rev (.cons x (.cons y .nil)))
   |_,_=>none)
  |.Subscript a b _=>(match b with
   |.Slice lo hi st _=>(match st with
    |none=>(match cE K T n C a,cO (cE K T n C) lo,cO (cE K T n C) hi with
   |some x,some (bl,l),some (bh,u)=>some (.slc x bl l bh u)
   |_,_,_=>none)
    |some _=>none)
   |b=>if zc8 b then(match cE K T n C a,cE K T n C b with
   |some x,some y=>some (.idx x y)
   |_,_=>none)else none)
  |.Call fn args kw pos=>(match kw with
   |[]=>(match fn with
    |.Name f _=>if okN f&&C.names.lookup f==some .globalImplicit then(match PySem.W.nsIn K mainGlobals f with
     |some none=>if f==("isinstance" : Str)then(match args with
      |[a,.Name t _]=>(match tyOf t,cE K T n C a with
       |some ty,some x=>if okN t&&zds K C t then some (.isi ty x)else none
       |_,_=>none)
      |_=>none)
      else(match biOf f,args with
       |some b,_::_=>(cL (cE K T n C) args).map (.bi b)
       |_,_=>none)
     |some (some _)=>(match zbl T f 0 with
      |some i=>if zen K f args.length && !args.isEmpty then(cL (cE K T n C) args).map (λa=>.call i (padE a))else(cL (cE K T n C) args).map (.call i)
      |none=>none)
     |none=>none)else none
    |.Attribute o mth ap=>if zis o&& (ap.endLine==pos.line)then(match cE K T n C o,args with
     |some x,[a]=>if mth==("append" : Str)then(cE K T n C a).map λy=>.mt .append x (.cons y .nil)else none
     |_,_=>none)else none
    |_=>none)
   |_=>none)
  |.ListComp elt gs sc _=>(match gs with
   |[⟨tg,iter,ifs,0⟩]=>(match mapO (λx=>zbl C.N x 0) (zba sc)with
    |some ix=>if zeo C sc ix then(match cW K T n C iter,cTg (inC sc) tg,(match ifs with|[]=>some (.cst (.bl true))|[c]=>cT K T n (inC sc) c|_=>none),cE K T n (inC sc) elt with
     |some (kd,a),some t,some c,some e=>if okW kd tg then some (.lc kd a t (ownOf sc).length ix c e)else none
     |_,_,_,_=>none)else none
    |none=>none)
   |_=>none)
  |_=>none
noncomputable def cT(K:vga)(T:List Str):Nat->CC->Expr->Option E
 |0,_,_=>none
 |n+1,C,e=>match e with
  |.Compare a Os bs _=>(match Os,bs with
   |[O],[b]=>if zb7 b then(match cpOf O,cE K T n C a,cE K T n C b with
   |some c,some x,some y=>some (.cmp c x y)
   |_,_,_=>none)else none
   |[O,O'],[b,c]=>if zb7 c then(match cpOf O,cpOf O',cE K T n C a,cE K T n C b,cE K T n C c with
   |some o,some o',some x,some y,some z=>some (.chn o o' x y z)
   |_,_,_,_,_=>none)else none
   |_,_=>none)
  |.UnaryOp o a _=>(match o with
   |.Not=>(cT K T n C a).map .not
   |_=>none)
  |.BoolOp o es _=>(match o with
   |.And=>cB true (cT K T n C) es
   |.Or=>cB false (cT K T n C) es)
  |.Name x p=>(cE K T n C (.Name x p)).map .tru
  |.Call f as ks p=>(cE K T n C (.Call f as ks p)).map .tru
  |.Subscript a b p=>(cE K T n C (.Subscript a b p)).map .tru
  |_=>none
noncomputable def cW(K:vga)(T:List Str):Nat->CC->Expr->Option (Kd×E)
 |0,_,_=>none
 |n+1,C,e=>match e with
  |.Call (.Name f p) args [] pos=>if f==("range" : Str)then(if zds K C f then(match args with
   |[a]=>(cE K T n C a).map λx=>(.rng1,.cons x .nil)
   |_=>none)else none)
   else if f==("enumerate" : Str)then(if zds K C f then(match args with
    |[a]=>(cE K T n C a).map λx=>(.enm,x)
    |_=>none)else none)
   else if f==("zip" : Str)then(if zds K C f then(match args with
    |[a,b]=>(match cE K T n C a,cE K T n C b with
     |some x,some y=>some (.zip,.cons x (.cons y .nil))
     |_,_=>none)
    |_=>none)else none)
   else(cE K T n C (.Call (.Name f p) args [] pos)).map λx=>(.seq,x)
  |.Set ..=>none
  |e=>(cE K T n C e).map λx=>(.seq,x)
end
noncomputable def cSs(f:Stmt->Option S):List Stmt->Option S
 |[]=>some .skip
 |s::r=>match f s,cSs f r with
  |some a,some b=>some (.seq a b)
  |_,_=>none
structure RX where
 tel:List Str
 at_:Nat
 tb:List (Nat×Str)
structure TryQ where
 c:CallQ
 ep:Pos
 xb:Str×Pos
 nm:Str
 hb:Expr
 rp:Pos
 hp:Pos
noncomputable def tryOf(b:List Stmt)(hs:List ExceptHandler):Option TryQ:=match((oneOf b).bind stE).bind λe=>(zem e.1).map λq=>(q,e.2),oneOf hs with
 |some q,some (.ExceptHandler t n hb hp)=>(match t.bind nmE,n,(oneOf hb).bind stR with
  |some x,some nm,some r=>some ⟨q.1,q.2,x,nm,r.1,r.2,hp⟩
  |_,_,_=>none)
 |_,_=>none
theorem zpu{hs:List ExceptHandler}{q:TryQ}(h:tryOf b hs=some q):b=[.Expr (.Call (.Name q.c.f q.c.p) q.c.args [] q.c.cp) q.ep]/\hs=[.ExceptHandler (some (.Name q.xb.1 q.xb.2)) (some q.nm) [.Return (some q.hb) q.rp] q.hp]:=by
 unfold tryOf at h
 split at h
 .rename_i qq t n hb hp h1 h2
  split at h
  .rename_i x nm r h3 h4
   cases h
   obtain⟨s,h5,h6⟩:=bindS h1
   obtain⟨z,h7,h8⟩:=mapS h6
   obtain⟨s1,h9,h10⟩:=bindS h5
   obtain⟨te,h11,h12⟩:=bindS h3
   obtain⟨s2,h13,h14⟩:=bindS h4
   cases h8
   rw[zbi h9,zw0 h10,zbx h7,zbi h2,h11,zfi h12,zbi h13,zw1 h14]
   exact⟨rfl,rfl⟩
  .cases h
 .cases h
noncomputable def cTry(K:vga)(T:List Str)(R:RX)(d:Nat)(C:CC)(f:Str)(args:List Expr)(xb nm:Str)(hb:Expr):Option S:=
 if okN f&&C.names.lookup f==some .globalImplicit&&okN xb&&C.names.lookup xb==some .globalImplicit&&okN nm&&C.names.lookup nm==some .local&&C.names.lookup ("_law_word" : Str)==some .globalImplicit then
  (match zbl R.tel f 0,PySem.W.nsIn K mainGlobals xb,zbl C.N nm 0,hForm nm hb,cL (cE K T d C) args with
    |some j,some (some (.ref D)),some _,some o,some a=>if R.tb.all λc=>subE K c.1 D then some (.tryc (R.at_+j) a (R.tb.map λc=>(c.1,hW o c.2)))else none
    |_,_,_,_,_=>none)
 else none
noncomputable def cS(K:vga)(T:List Str)(R:RX)(d:Nat):Nat->CC->Stmt->Option S
 |0,_,_=>none
 |n+1,C,s=>match s with
  |.Pass _=>some .skip
  |.Break _=>some .brk
  |.Continue _=>some .cnt
  |.Raise ..=>some .no
  |.Return r _=>(match r with
   |none=>some (.ret (.cst .non))
   |some e=>(cE K T d C e).map .ret)
  |.Expr e _=>if zfg e then(cE K T d C e).map .expr else none
  |.Assign l e _=>(match l with
   |[t]=>(match t with
    |.Name x p=>(match nmIx C (.Name x p),cE K T d C e with
    |some i,some c=>some (.set i c)
    |_,_=>none)
    |.Tuple ts _ _=>if noTup e then(match mapO (nmIx C) ts,cE K T d C e with
    |some is,some c=>some (.unp is c)
    |_,_=>none)else none
    |.Subscript o i _=>if zc8 i then(match cE K T d C o,cE K T d C i,cE K T d C e with
    |some x,some y,some z=>some (.put x y z)
    |_,_,_=>none)else none
    |_=>none)
   |_=>none)
  |.AugAssign t O e _=>(match t with
   |.Name x p=>(match nmIx C (.Name x p),ipOf O,cE K T d C e with
    |some i,some o,some c=>some (.aug i o c)
    |_,_,_=>none)
   |_=>none)
  |.If c a b _=>(match cT K T d C c,cSs (cS K T R d n C) a,cSs (cS K T R d n C) b with
   |some z,some x,some y=>some (.ite z x y)
   |_,_,_=>none)
  |.For tg it b el _=>(match el with
   |[]=>(match cW K T d C it,cTg C tg,cSs (cS K T R d n C) b with
    |some (kd,a),some t,some x=>if okW kd tg then some (.for kd a t x)else none
    |_,_,_=>none)
   |_=>none)
  |.While c b el _=>(match el with
   |[]=>(match cT K T d C c,cSs (cS K T R d n C) b with
    |some z,some x=>some (.whl z x)
    |_,_=>none)
   |_=>none)
  |.Try b hs el fb _=>(match el,fb with
   |[],[]=>(match tryOf b hs with
    |some q=>if q.c.args.isEmpty then none else cTry K T R d C q.c.f q.c.args q.xb.1 q.nm q.hb
    |none=>none)
   |_,_=>none)
  |_=>none
structure XOk(X:Cx)(C:CC)(T:List Str)(R:RX)(F:Nat->Option Fn)(k:Nat):Prop where
 hN:X.N=C.N
 nd:C.N.Nodup
 vis:∀x,visK (C.names.lookup x)=true->Vis X.env.scope x
 loc:∀x,locK C.fnAll (C.names.lookup x)=true->Loc X.env.scope x/\(X.fn x=true\/X.env.scope.names.lookup x=some .local)
 gl:∀x,C.names.lookup x=some .globalImplicit->Gl X x
 cf:∀x,(C.names.lookup x=some .cell\/C.names.lookup x=some .free)->X.env.kindOf x=some .cell\/X.env.kindOf x=some .free
 calm:X.calm=true
 room:Room k X.A
 xe:X.xe=λ_ _=>False
 kfn:X.env.scope.kind=.function
 mgs:∀x v,PySem.W.nsIn X.K mainGlobals x=some (some v)->X.mg x=some v
 mgn:∀x,PySem.W.nsIn X.K mainGlobals x=some none->X.mg x=none
 fns:∀(i:Nat)(x:Str),T[i]?=some x->x≠""->∃f fd ps fn,refAt X.K x=some f/\FnOk X.prog X.w X.K X.mg X.base CX0 k f fd ps (spV X.K ps.length (run F k i))/\PySem.W.keepIn X.K (.ref f)=true/\Binds X.K fd ps []/\F i=some fn/\fn.ps=ps.length/\(hasD X.K x=true->Binds X.K fd ps [.none])
 rs:∀(j:Nat)(x:Str),R.tel[j]?=some x->∃f fd ps fn,refAt X.K x=some f/\FnOk X.prog X.w X.K X.mg X.base (CX1 X.prog X.w) k f fd ps (spX X.K ps.length (run F k (R.at_+j)))/\PySem.W.keepIn X.K (.ref f)=true/\Binds X.K fd ps []/\F (R.at_+j)=some fn/\fn.ps=ps.length
 wd:∀C z,(C,z)∈R.tb->Word X C z
section
variable{X:Cx}{C:CC}{T:List Str}{R:RX}{F:Nat->Option Fn}{k:Nat}
theorem XOk.u65(O:XOk X C T R F k):X.A.units+65<cLine:=by have:=O.room.un;omega
theorem XOk.u2(O:XOk X C T R F k):X.A.units+2<cLine:=va6 (vcw (by decide:2<=64) _) O.room.units
theorem zcm(O:XOk X C T R F k){x:Str}(h:zds X.K C x=true):Gl X x/\X.mg x=none:=by
 unfold zds at h
 rw[vaa]at h
 refine⟨O.gl x (by simpa using h.1),O.mgn x ?_⟩
 have h2:=h.2
 split at h2
 .assumption
 .cases h2
theorem nm_ok(O:XOk X C T R F k){i:Nat}(h:nmIx C e=some i):NmOk X e i:=by
 unfold nmIx at h
 split at h
 .split at h
  .rename_i hc
   rw[vaa]at hc
   obtain⟨h1,h2⟩:=O.loc _ hc.2
   exact⟨_,_,rfl,by rw[O.hN];exact zcl h,h1,h2⟩
  .cases h
 .cases h
theorem zm7(O:XOk X C T R F k):∀{es:List Expr} {is:List Nat},mapO (nmIx C) es=some is->Paired (NmOk X) es is
 |[],_,h=>by cases h;exact .nil
 |e::es,is,h=>by
  unfold mapO at h
  split at h
  .rename_i b hb
   split at h
   .rename_i bs hbs
    cases h
    exact .cons (nm_ok O hb) (zm7 O hbs)
   .cases h
  .cases h
theorem tg_ok(O:XOk X C T R F k)(h:cTg C e=some t):PG X e (lftG X.K t):=by
 unfold cTg at h
 split at h
 .rename_i x p
  cases z:nmIx C (.Name x p)with
  |none=>rw[z]at h;cases h
  |some i=>
   rw[z]at h;cases h
   obtain⟨x',p',e,h1,h2,h3⟩:=nm_ok O z
   cases e
   exact zwh (O.hN▸O.nd) h1 h2 h3
 .rename_i es kx p
  cases z:mapO (nmIx C) es with
  |none=>rw[z]at h;cases h
  |some is=>rw[z]at h;cases h;exact zmn O.calm (O.hN▸O.nd) (zm7 O z)
 .cases h
theorem cL_ok{f:Expr->Option E}(ih:∀e c,f e=some c->SE X e (ev cl c)/\zau e=true):∀{es:List Expr} {c:E},cL f es=some c->SA X es (ev cl c)/\es.all zau=true
 |[],_,h=>by cases h;exact⟨zmd,rfl⟩
 |e::es,c,h=>by
  unfold cL at h
  split at h
  .rename_i a r ha hr
   cases h
   obtain⟨h1,h2⟩:=ih e a ha
   obtain⟨h3,h4⟩:=cL_ok ih hr
   exact⟨zgb h1 h3 (zad h2),by rw[vb1,h2,h4];rfl⟩
  .cases h
theorem zrg{f:Expr->Option E}(ih:∀e c,f e=some c->SE X e (ev cl c)/\zau e=true):∀{ks:List (Option Expr)} {vs:List Expr} {c:E},cPs f ks vs=some c->SPs X pos ks vs (ev cl c)
 |[],[],_,h=>by cases h;exact zsw
 |[],_::_,_,h=>by cases h
 |none::_,_,_,h=>by cases h
 |some _::_,[],_,h=>by cases h
 |some a::ks,v::vs,c,h=>by
  unfold cPs at h
  split at h
  .rename_i x y r hx hy hr
   cases h
   exact zph (ih _ _ hx).1 (ih _ _ hy).1 (zrg ih hr)
  .cases h
theorem cB_ok{f:Expr->Option E}(ih:∀e c,f e=some c->SE X e (ev cl c)/\zau e=true):∀{es:List Expr} {c:E},(cB true f es=some c->SE X (.BoolOp .And es pos) (ev cl c))/\(cB false f es=some c->SE X (.BoolOp .Or es pos) (ev cl c))
 |[],_=>⟨(λh=>nomatch h),(λh=>nomatch h)⟩
 |[a],c=>⟨λh=>zq1 (ih a c h).1,λh=>zq1 (ih a c h).1⟩
 |a::b::r,c=>by
  refine⟨λh=>?_,λh=>?_⟩
  .unfold cB at h
   split at h
   .rename_i x y hx hy
    cases h
    exact zvv (ih a x hx).1 ((cB_ok ih).1 hy)
   .cases h
  .unfold cB at h
   split at h
   .rename_i x y hx hy
    cases h
    exact se_or (ih a x hx).1 ((cB_ok ih).2 hy)
   .cases h
theorem zjo{f:Expr->Option E}(ih:∀e c,f e=some c->ST X e (ev cl c)):∀{es:List Expr} {c:E},(cB true f es=some c->SW X (.BoolOp .And es pos) (ev cl c))/\(cB false f es=some c->SW X (.BoolOp .Or es pos) (ev cl c))
 |[],_=>⟨(λh=>nomatch h),(λh=>nomatch h)⟩
 |[a],c=>⟨λh=>zq0 (ih a c h),λh=>zq0 (ih a c h)⟩
 |a::b::r,c=>by
  refine⟨λh=>?_,λh=>?_⟩
  .unfold cB at h
   split at h
   .rename_i x y hx hy
    cases h
    exact zvu (ih a x hx) ((zjo ih).1 hy)
   .cases h
  .unfold cB at h
   split at h
   .rename_i x y hx hy
    cases h
    exact sw_or (ih a x hx) ((zjo ih).2 hy)
   .cases h
theorem cO_ok{f:Expr->Option E}(ih:∀e c,f e=some c->SE X e (ev cl c)/\zau e=true){o:Option Expr}{b:Bool}(h:cO f o=some (b,c)):PO X o (lftO X.K b (ev cl c)):=by
 unfold cO at h
 split at h
 .cases h;exact zst
 .rename_i e
  cases z:f e with
  |none=>rw[z]at h;cases h
  |some c'=>rw[z]at h;cases h;exact zmh (ih _ _ z).1
theorem zte{x:Str}{t:Ty}(h:tyOf x=some t):bootBuiltins x=some (.type (tyN t)):=by
 unfold tyOf at h
 split at h
 .rename_i e;cases h;rw[show x = "int" by simpa using e];exact PyProof.Rows.boot_int
 split at h
 .rename_i e;cases h;rw[show x = "bool" by simpa using e];decide +kernel
 split at h
 .rename_i e;cases h;rw[show x = "tuple" by simpa using e];exact PyProof.Rows.boot_tuple
 split at h
 .rename_i e;cases h;rw[show x = "list" by simpa using e];exact PyProof.Rows.boot_list
 split at h
 .rename_i e;cases h;rw[show x = "str" by simpa using e];decide +kernel
 split at h
 .rename_i e;cases h;rw[show x = "dict" by simpa using e];decide +kernel
 .cases h
theorem bi_ok{x:Str}{b:Bi}(h:biOf x=some b)(hg:Gl X x)(hm:X.mg x=none)(hn:okN x=true)(hc:X.calm=true)(ha:SA X (e::es) fa)(hs:(e::es).all zau=true):SE X (.Call (.Name x p) (e::es) [] pos) (gArg fa (biW b)):=by
 obtain⟨n1,_,n2⟩:=za9 hn
 unfold biOf at h
 split at h
 .rename_i z
  cases h
  have z:x = "len":=by simpa using z
  subst z
  exact zd1 zhb zv0 hg hm PySem.boot_len ha hs n2 n1
 split at h
 .rename_i z
  cases h
  have z:x = "list":=by simpa using z
  subst z
  exact zcj zhc zsu hg hm PyProof.Rows.boot_list ha hs n2 n1
 split at h
 .rename_i z
  cases h
  have z:x = "tuple":=by simpa using z
  subst z
  exact zcj zf6 zpf hg hm PyProof.Rows.boot_tuple ha hs n2 n1
 split at h
 .rename_i z
  cases h
  have z:x = "int":=by simpa using z
  subst z
  exact zcj zll zv1 hg hm PyProof.Rows.boot_int ha hs n2 n1
 split at h
 .rename_i z
  cases h
  have z:x = "abs":=by simpa using z
  subst z
  exact zd1 zou zv3 hg hm (by decide +kernel) ha hs n2 n1
 split at h
 .rename_i z
  cases h
  have z:x = "str":=by simpa using z
  subst z
  exact zcj zg4 zv2 hg hm (by decide +kernel) ha hs n2 n1
 split at h
 .rename_i z
  cases h
  have z:x = "min":=by simpa using z
  subst z
  exact zd1 (zlk hc) zv4 hg hm (by decide +kernel) ha hs n2 n1
 split at h
 .rename_i z
  cases h
  have z:x = "all":=by simpa using z
  subst z
  exact zd1 (zpd hc) zv5 hg hm (by decide +kernel) ha hs n2 n1
 .cases h
theorem zfj(h:zc8 b=true):zf4 b:=λo i=>by cases b<;>first|rfl|cases h
end
section
variable{X:Cx}{C:CC}{T:List Str}{R:RX}{F:Nat->Option Fn}{k:Nat}
theorem zaz{env:Env}{kd:NameKind}(hk:kd≠.free):∀{l:List (Str×NameKind)} {x:Str},l.lookup x=some kd->
 (l.map λ(n,k)=>if(k==NameKind.free&&env.scope.kind == .function&&env.kindOf n==some .cell)then(n,NameKind.cell)else(n,k)).lookup x=some kd
 |[],_,h=>by cases h
 |(n,j)::r,x,h=>by
  rw[va0]
  simp only[va2]at h
  by_cases hx:(x==n)=true
  .simp only[hx]at h
   cases h
   have:(kd==NameKind.free)=false:=by simpa using hk
   simp only[this,vdb,vaq,vbo,va2,hx]
  .have hx':(x==n)=false:=by simpa using hx
   simp only[hx']at h
   have ih:=zaz (env:=env) hk (l:=r) (x:=x) h
   by_cases hc':(j==NameKind.free&&env.scope.kind == .function&&env.kindOf n==some .cell)=true
   .simp only[hc',vbj,va2,hx'];exact ih
   .have hcf:(j==NameKind.free&&env.scope.kind == .function&&env.kindOf n==some .cell)=false:=by simpa using hc'
    simp only[hcf,vaq,vbo,va2,hx'];exact ih
theorem zfk(O:XOk X C T R F k){ix:List Nat}(h:zeo C sc ix=true):CompScope X (ownOf sc) (zba sc) ix sc/\(ownOf sc++zba sc).Nodup:=by
 unfold zeo at h
 simp only[vaa,vat,vcb]at h
 obtain⟨⟨⟨⟨⟨⟨⟨h1,h2⟩,h3⟩,h4⟩,h5⟩,h6⟩,h7⟩,h8⟩:=h
 refine⟨⟨h1,h2,h3,h4,λy hy e=>O.cf _ (h5 y hy e),λq x e=>?_,h6⟩,h8⟩
 have hk:q< (zba sc).length:=(vas.mp e).1
 have:=h7 q (vd6.mpr hk)
 rw[e]at this
 cases z:ix[q]? with
 |none=>rw[z]at this;cases this
 |some j=>
  rw[z]at this
  simp only[vaa,vat]at this
  exact⟨j,rfl,by rw[O.hN];exact this.1,this.2⟩
theorem zix(O:XOk X C T R F k){ix:List Nat}(h:zeo C sc ix=true)(D:Addr)(s₀:Shared)(H₀:Hp)(ex:List Addr):XOk (X.comp (ownOf sc++zba sc) sc D s₀ H₀ ex) (inC sc) T R F k:=by
 obtain⟨S,nd⟩:=zfk O h
 refine⟨rfl,nd,λx hx=>?_,λx hx=>?_,λx hx=>?_,λx hx=>?_,O.calm,O.room,rfl,S.kind,O.mgs,O.mgn,O.fns,O.rs,O.wd⟩
 .have hx:visK (sc.names.lookup x)=true:=hx
  cases z:sc.names.lookup x with
  |none=>rw[z]at hx;cases hx
  |some kd=>
   cases kd with
   | «local»=>exact .inl (zaz (by decide) z)
   |cell=>exact .inr (.inl (zaz (by decide) z))
   |free=>
    have:=zbh (env:=X.env) O.kfn z
    by_cases hc:X.env.kindOf x=some .cell
    .rw[if_pos hc]at this;exact .inr (.inl this)
    .rw[if_neg hc]at this;exact .inr (.inr this)
   |globalExplicit=>rw[z]at hx;cases hx
   |globalImplicit=>rw[z]at hx;cases hx
 .have hx:locK false (sc.names.lookup x)=true:=hx
  cases z:sc.names.lookup x with
  |none=>rw[z]at hx;cases hx
  |some kd=>
   cases kd with
   | «local»=>exact⟨.inl (zaz (by decide) z),.inr (zaz (by decide) z)⟩
   |cell=>rw[z]at hx;cases hx
   |free=>rw[z]at hx;cases hx
   |globalExplicit=>rw[z]at hx;cases hx
   |globalImplicit=>rw[z]at hx;cases hx
 .exact zaz (by decide) hx
 .have hx:sc.names.lookup x=some .cell\/sc.names.lookup x=some .free:=hx
  rcases hx with z|z
  .exact .inl (zaz (by decide) z)
  .have:=zbh (env:=X.env) O.kfn z
   by_cases hc:X.env.kindOf x=some .cell
   .rw[if_pos hc]at this;exact .inl this
   .rw[if_neg hc]at this;exact .inr this
end
theorem map_some{α β:Type}{o:Option α}{f:α->β}{b:β}(h:o.map f=some b):∃a,o=some a/\b=f a:=by
 cases o with
 |none=>cases h
 |some a=>cases h;exact⟨a,rfl,rfl⟩
structure Snd(X:Cx)(C:CC)(T:List Str)(F:Nat->Option Fn)(k n:Nat):Prop where
 e:∀e c,cE X.K T n C e=some c->SE X e (ev (run F k) c)/\zau e=true
 t:∀e c,cT X.K T n C e=some c->ST X e (ev (run F k) c)
 w:∀e kd c tg,cW X.K T n C e=some (kd,c)->okW kd tg=true->PI X tg e (lftI X.K kd (ev (run F k) c))/\∀x,foldedSetIterable e X.env x=pure x
section
variable{X:Cx}{C:CC}{T:List Str}{R:RX}{F:Nat->Option Fn}{k n:Nat}
theorem snd_t(O:XOk X C T R F k)(ih:Snd X C T F k n)(e:Expr)(c:E)(h:cT X.K T (n+1) C e=some c):ST X e (ev (run F k) c):=by
 unfold cT at h
 split at h
 .split at h
  .split at h
   .rename_i hs
    split at h
    .rename_i h1 h2 h3
     cases h
     exact zvp O.u65 h1 hs (ih.e _ _ h2).1 (ih.e _ _ h3).1
    .cases h
   .cases h
  .split at h
   .rename_i hs
    split at h
    .rename_i h1 h2 h3 h4 h5
     cases h
     exact zvr O.u65 h1 h2 hs (ih.e _ _ h3).1 (ih.e _ _ h4).1 (ih.e _ _ h5).1
    .cases h
   .cases h
  .cases h
 .split at h
  .obtain⟨a,h1,rfl⟩:=map_some h
   exact zvs (ih.t _ _ h1)
  .cases h
 .split at h
  .exact((zjo ih.t).1 h).pt
  .exact((zjo ih.t).2 h).pt
 .obtain⟨a,h1,rfl⟩:=map_some h
  exact zmg (ih.e _ _ h1).1 λ_=>rfl
 .obtain⟨a,h1,rfl⟩:=map_some h
  exact zmg (ih.e _ _ h1).1 λ_=>rfl
 .obtain⟨a,h1,rfl⟩:=map_some h
  exact zmg (ih.e _ _ h1).1 λ_=>rfl
 .cases h
theorem noSet(h:∀a b c,e≠.Set a b c):∀x,foldedSetIterable e env x=pure x:=by
 intro x
 cases e<;>first|rfl|exact absurd rfl (h _ _ _)
theorem snd_w(O:XOk X C T R F k)(ih:Snd X C T F k n)(e:Expr)(kd:Kd)(c:E)(tg:Expr)(h:cW X.K T (n+1) C e=some (kd,c))(hw:okW kd tg=true):PI X tg e (lftI X.K kd (ev (run F k) c))/\∀x,foldedSetIterable e X.env x=pure x:=by
 unfold cW at h
 split at h
 .rename_i f p args pos
  refine⟨?_,λx=>rfl⟩
  split at h
  .rename_i hf
   have hf:f = "range":=by simpa using hf
   subst hf
   split at h
   .rename_i ha
    obtain⟨g1,g2⟩:=zcm O ha
    split at h
    .rename_i a
     obtain⟨x,h1,h2⟩:=map_some h
     cases h2
     obtain⟨h3,h4⟩:=ih.e _ _ h1
     exact zsz (zgb h3 zmd (zad h4)) h4 g1 g2
    .cases h
   .cases h
  .split at h
   .rename_i hf
    have hf:f = "enumerate":=by simpa using hf
    subst hf
    split at h
    .rename_i ha
     obtain⟨g1,g2⟩:=zcm O ha
     split at h
     .rename_i a
      obtain⟨x,h1,h2⟩:=map_some h
      cases h2
      obtain⟨h3,h4⟩:=ih.e _ _ h1
      cases tg<;>first|exact zwd h3 h4 g1 g2|cases hw
     .cases h
    .cases h
   .split at h
    .rename_i hf
     have hf:f = "zip":=by simpa using hf
     subst hf
     split at h
     .rename_i ha
      obtain⟨g1,g2⟩:=zcm O ha
      split at h
      .rename_i a b
       split at h
       .rename_i x y h1 h2
        cases h
        obtain⟨h3,h4⟩:=ih.e _ _ h1
        obtain⟨h5,h6⟩:=ih.e _ _ h2
        cases tg<;>first|exact zwg (zgb h3 (zgb h5 zmd (zad h6)) (zad h4)) h4 h6 g1 g2|cases hw
       .cases h
      .cases h
     .cases h
    .obtain⟨x,h1,h2⟩:=map_some h
     cases h2
     exact zq2 (ih.e _ _ h1).1
 .cases h
 .rename_i hns
  obtain⟨x,h1,h2⟩:=map_some h
  cases h2
  exact⟨zq2 (ih.e _ _ h1).1,noSet (by first|exact hns|(intro a b c z;exact hns a b c z))⟩
end
section
variable{X:Cx}{C:CC}{T:List Str}{R:RX}{F:Nat->Option Fn}{k n:Nat}
theorem zpv(O:XOk X C T R F k){x:Str}(h:cE X.K T (n+1) C (.Name x p)=some c):SE X (.Name x p) (ev (run F k) c):=by
 simp only[cE]at h
 split at h
 .rename_i hn
  obtain⟨n1,n2,n3⟩:=za9 hn
  split at h
  .rename_i hv
   obtain⟨i,h1,rfl⟩:=map_some h
   exact zvg (by rw[O.hN];exact zcl h1) (O.vis x hv) n1 n2
  .split at h
   .rename_i hg
    split at h
    .rename_i v hv
     obtain⟨w,h1,rfl⟩:=map_some h
     obtain⟨y,h2,h3⟩:=zre 8 v w h1
     exact zhk (zk5 (O.gl x (by simpa using hg)) (O.mgs x v hv) h2 n1) h3
    .cases h
   .cases h
 .cases h
theorem zpw(O:XOk X C T R F k)(ih:Snd X C T F k n){f:Str}(h:cE X.K T (n+1) C (.Call (.Name f p) args [] pos)=some c):SE X (.Call (.Name f p) args [] pos) (ev (run F k) c):=by
 simp only[cE]at h
 split at h
 .rename_i hn
  rw[vaa]at hn
  have hg:=O.gl f (by simpa using hn.2)
  split at h
  .rename_i hm
   have hm:=O.mgn f hm
   split at h
   .rename_i hf
    have hf:f = "isinstance":=by simpa using hf
    subst hf
    split at h
    .rename_i a t pt
     split at h
     .rename_i ty x h1 h2
      split at h
      .rename_i hc
       cases h
       rw[vaa]at hc
       obtain⟨g1,g2⟩:=zcm O hc.2
       obtain⟨h3,h4⟩:=ih.e _ _ h2
       obtain⟨n1,n2,n3⟩:=za9 hc.1
       exact zv7 ty h3 h4 hg hm g1 g2 (zte h1) n3 n1
      .cases h
     .cases h
    .cases h
   .split at h
    .rename_i b e es hb
     obtain⟨a,h1,rfl⟩:=map_some h
     obtain⟨h2,h3⟩:=cL_ok ih.e h1
     exact bi_ok hb hg hm hn.1 O.calm h2 h3
    .cases h
  .rename_i v hv
   split at h
   .rename_i i hi
    obtain⟨fa,fd,ps,fn,q1,q2,q3,q4,q5,q6,q7⟩:=O.fns i f (zcl hi) (zw3 hn.1)
    have q1:=zb2 q1
    split at h
    .rename_i hlv
     rw[vaa]at hlv
     obtain⟨a,h1,rfl⟩:=map_some h
     obtain⟨h2,h3⟩:=cL_ok ih.e h1
     have hl:∀ws h w h',run F k i ws h=.ok w h'->ws.length=ps.length:=λws h w h' e=>by rw[zc9 q5 e,q6]
     have hev:ev (run F k) (.call i (padE a))=gArg (ev (run F k) a) (λws h=>run F k i (ws++[.non]) h):=by
      funext ρ h
      simp only[ev,zw4 (zm6 h1)]
      show Res.bind (Res.bind (ev (run F k) a ρ h) _) _=Res.bind (ev (run F k) a ρ h) _
      cases ev (run F k) a ρ h with
      |no=>rfl
      |ex _ _=>rfl
      |ok y h2=>cases y<;>rfl
     rw[hev]
     cases args with
     |nil=>cases hlv.2
     |cons e es=>exact zpj q2 O.room hg (O.mgs f _ q1) q3 (q7 (zks hlv.1)) h2 h3 (za9 hn.1).1 hl
    obtain⟨a,h1,rfl⟩:=map_some h
    obtain⟨h2,h3⟩:=cL_ok ih.e h1
    have hl:∀ws h w h',run F k i ws h=.ok w h'->ws.length=ps.length:=λws h w h' e=>by rw[zc9 q5 e,q6]
    cases args with
    |nil=>
     simp only[cL]at h1
     cases h1
     exact zpi q2 O.room hg (O.mgs f _ q1) q3 q4 (za9 hn.1).1 hl
    |cons e es=>exact zsy q2 O.room hg (O.mgs f _ q1) q3 q4 h2 h3 (za9 hn.1).1 hl
   .cases h
  .cases h
 .cases h
theorem zpx(O:XOk X C T R F k)(ih:Snd X C T F k n){m:Str}(h:cE X.K T (n+1) C (.Call (.Attribute o m ap) args [] pos)=some c):SE X (.Call (.Attribute o m ap) args [] pos) (ev (run F k) c):=by
 simp only[cE]at h
 split at h
 .rename_i hn
  rw[vaa]at hn
  split at h
  .rename_i x a hx
   split at h
   .rename_i hm
    have hm:m = "append":=by simpa using hm
    subst hm
    obtain⟨y,h1,rfl⟩:=map_some h
    obtain⟨h2,h3⟩:=ih.e _ _ h1
    exact zmj (ih.e _ _ hx).1 h2 hn.1 h3 hn.2
   .cases h
  .cases h
 .cases h
theorem zw5{ow fr:List Str}{ifs:List Expr}{c:E}(O:∀D s₀ H₀ ex,Snd (X.comp (ow++fr) sc D s₀ H₀ ex) (inC sc) T F k n)
 (h:(match ifs with|[]=>some (E.cst (.bl true))|[c]=>cT X.K T n (inC sc) c|_=>none)=some c) (D:Addr) (s₀:Shared) (H₀:Hp) (ex:List Addr):PTs (X.comp (ow++fr) sc D s₀ H₀ ex) ifs (lftT X.K (ev (run F k) c)):=by
 split at h
 .cases h
  exact λpins s σ H Q I z9=>z9.el λρ h m b h' f r e q=>by
   cases e
   exact zsd pins s σ H Q I (q H m .refl r)
 .exact zse ((O D s₀ H₀ ex).t _ _ h)
 .cases h
theorem zrh(O:XOk X C T R F k)(ih:Snd X C T F k n)(ihc:∀{sc:Scope} {ix:List Nat},zeo C sc ix=true->∀D s₀ H₀ ex,Snd (X.comp (ownOf sc++zba sc) sc D s₀ H₀ ex) (inC sc) T F k n)
 {elt tg iter:Expr} {ifs:List Expr} {sc:Scope} {pos:Pos} {c:E} (h:cE X.K T (n+1) C (.ListComp elt [⟨tg,iter,ifs,0⟩] sc pos)=some c) :
 ∃kd a t ix cc ce,c=.lc kd a t (ownOf sc).length ix cc ce/\CompScope X (ownOf sc) (zba sc) ix sc/\PI X tg iter (lftI X.K kd (ev (run F k) a))/\(∀D s₀ H₀ ex,PG (X.comp (ownOf sc++zba sc) sc D s₀ H₀ ex) tg (lftG X.K t))/\
  (∀D s₀ H₀ ex,PTs (X.comp (ownOf sc++zba sc) sc D s₀ H₀ ex) ifs (lftT X.K (ev (run F k) cc)))/\(∀D s₀ H₀ ex,PE (X.comp (ownOf sc++zba sc) sc D s₀ H₀ ex) elt (lft X.K (ev (run F k) ce)))/\∀x,foldedSetIterable iter X.env x=pure x:=by
 simp only[cE]at h
 split at h
 .rename_i ix hix
  split at h
  .rename_i hc
   split at h
   .rename_i kd a t cc ce h1 h2 h3 h4
    split at h
    case isFalse=>cases h
    rename_i hw
    cases h
    obtain⟨w1,w2⟩:=ih.w _ _ _ tg h1 hw
    exact⟨kd,a,t,ix,cc,ce,rfl,(zfk O hc).1,w1,λD s₀ H₀ ex=>tg_ok (zix O hc D s₀ H₀ ex) h2,zw5 (ihc hc) h3,λD s₀ H₀ ex=>((ihc hc D s₀ H₀ ex).e _ _ h4).1,w2⟩
   .cases h
  .cases h
 .cases h
theorem snd_e(O:XOk X C T R F k)(ih:Snd X C T F k n)(ihc:∀{sc:Scope} {ix:List Nat},zeo C sc ix=true->∀D s₀ H₀ ex,Snd (X.comp (ownOf sc++zba sc) sc D s₀ H₀ ex) (inC sc) T F k n)
 (e:Expr) (c:E) (h:cE X.K T (n+1) C e=some c):SE X e (ev (run F k) c)/\zau e=true:=by
 have h0:=h
 unfold cE at h
 split at h
 .exact⟨zpv O h0,rfl⟩
 .refine⟨?_,rfl⟩
  split at h
  .cases h;exact zvh
  .cases h;exact se_bl
  .cases h;exact zvi
  .cases h;exact zvj
  .cases h
 .obtain⟨a,h1,rfl⟩:=map_some h
  exact⟨zvk (cL_ok ih.e h1).1,rfl⟩
 .obtain⟨a,h1,rfl⟩:=map_some h
  exact⟨zvl (cL_ok ih.e h1).1,rfl⟩
 .refine⟨?_,rfl⟩
  rename_i ks vs pos
  split at h
  .rename_i hc
   simp only[vaa]at hc
   obtain⟨a,h1,rfl⟩:=map_some h
   cases ks with
   |nil=>
    cases vs with
    |nil=>simp only[cPs]at h1;cases h1;exact zsx
    |cons _ _=>cases h1
   |cons q ks=>exact zv8 O.u2 (zrg ih.e h1) hc.2 (vcg hc.1.2) (by simp) (va5 hc.1.1)
  .cases h
 .refine⟨?_,rfl⟩
  split at h
  .rename_i h1 h2 h3
   cases h
   exact se_op (op_ok h1) (zvm _) (ih.e _ _ h2).1 (ih.e _ _ h3).1
  .cases h
 .split at h
  .obtain⟨a,h1,rfl⟩:=map_some h
   exact⟨zvt (ih.e _ _ h1).1,rfl⟩
  .obtain⟨a,h1,rfl⟩:=map_some h
   exact⟨zvx (ih.e _ _ h1).1,rfl⟩
  .cases h
 .split at h
  .exact⟨(cB_ok ih.e).1 h,rfl⟩
  .exact⟨(cB_ok ih.e).2 h,rfl⟩
 .split at h
  .refine⟨?_,rfl⟩
   split at h
   .rename_i hs
    split at h
    .rename_i h1 h2 h3
     cases h
     exact zvo O.u65 h1 hs (ih.e _ _ h2).1 (ih.e _ _ h3).1
    .cases h
   .cases h
  .refine⟨?_,rfl⟩
   split at h
   .rename_i hs
    split at h
    .rename_i h1 h2 h3 h4 h5
     cases h
     exact zvq O.u65 h1 h2 hs (ih.e _ _ h3).1 (ih.e _ _ h4).1 (ih.e _ _ h5).1
    .cases h
   .cases h
  .cases h
 .refine⟨?_,rfl⟩
  split at h
  .rename_i h1 h2 h3
   cases h
   exact zvw (ih.t _ _ h1) (ih.e _ _ h2).1 (ih.e _ _ h3).1
  .cases h
 .refine⟨?_,rfl⟩
  split at h
  .rename_i h1 h2
   cases h
   exact zww (ih.e _ _ h1).1 (ih.e _ _ h2).1
  .cases h
 .split at h
  .split at h
   .refine⟨?_,rfl⟩
    split at h
    .rename_i h1 h2 h3
     cases h
     exact zvz (ih.e _ _ h1).1 (cO_ok ih.e h2) (cO_ok ih.e h3)
    .cases h
   .cases h
  .refine⟨?_,rfl⟩
   split at h
   .rename_i hs
    split at h
    .rename_i h1 h2
     cases h
     exact zvy O.u2 (ih.e _ _ h1).1 (ih.e _ _ h2).1 (zfj hs)
    .cases h
   .cases h
 .split at h
  .split at h
   .exact⟨zpw O ih h0,rfl⟩
   .exact⟨zpx O ih h0,rfl⟩
   .cases h
  .cases h
 .split at h
  .refine⟨?_,rfl⟩
   obtain⟨kd,a,t,ix,cc,ce,rfl,S,w1,w2,w3,w4,w5⟩:=zrh O ih ihc h0
   exact se_lc S O.calm w1 w2 w3 w4 w5
  .cases h
 .cases h
end
theorem zcn{T:List Str}{R:RX}{F:Nat->Option Fn}{k:Nat}:∀(n:Nat) {X:Cx} {C:CC},XOk X C T R F k->Snd X C T F k n
 |0,_,_,_=>⟨(λe c h=>nomatch h),(λe c h=>nomatch h),(λe kd c tg h _=>nomatch h)⟩
 |n+1,X,C,O=>by
  have ih:=zcn n O
  have ihc:∀{sc:Scope}{ix:List Nat},zeo C sc ix=true->∀D s₀ H₀ ex,Snd (X.comp (ownOf sc++zba sc) sc D s₀ H₀ ex) (inC sc) T F k n:=λhc D s₀ H₀ ex=>zcn n (zix O hc D s₀ H₀ ex)
  exact⟨snd_e O ih ihc,snd_t O ih,snd_w O ih⟩
section
variable{X:Cx}{C:CC}{T:List Str}{R:RX}{F:Nat->Option Fn}{k d:Nat}
theorem zca{f:Stmt->Option S}(ih:∀st c,f st=some c->SS X st (exs cl c)):∀{sts:List Stmt} {c:S},cSs f sts=some c->SSs X sts (exs cl c)
 |[],_,h=>by cases h;exact zmq
 |s::r,c,h=>by
  unfold cSs at h
  split at h
  .rename_i a b ha hb
   cases h
   exact zji (ih s a ha) (zca ih hb)
  .cases h
theorem zw6{K:vga}{T:List Str}{n:Nat}{C:CC}{elt:Expr}{gs:List Comprehension}{sc:Scope}{lp:Pos}{c:E}(h:cE K T (n+1) C (.ListComp elt gs sc lp)=some c):∃tg iter ifs,gs=[⟨tg,iter,ifs,0⟩]:=by
 match gs,h with
 |[],h=>cases(show(none:Option E)=some c from h)
 |[⟨tg,iter,ifs,0⟩],_=>exact⟨tg,iter,ifs,rfl⟩
 |[⟨_,_,_,.ofNat (k+1)⟩],h=>cases(show(none:Option E)=some c from h)
 |[⟨_,_,_,.negSucc k⟩],h=>cases(show(none:Option E)=some c from h)
 |⟨_,_,_,0⟩::_::_,h=>cases(show(none:Option E)=some c from h)
 |⟨_,_,_,.ofNat (k+1)⟩::_::_,h=>cases(show(none:Option E)=some c from h)
 |⟨_,_,_,.negSucc k⟩::_::_,h=>cases(show(none:Option E)=some c from h)
theorem ztf(O:XOk X C T R F k){x:Str}{p pos:Pos}{e:Expr}{i:Nat}{c:E}(hi:nmIx C (.Name x p)=some i)(h:cE X.K T d C e=some c):SS X (.Assign [.Name x p] e pos) (exs (run F k) (.set i c)):=by
 obtain⟨x',p',ex,h1,h2,h3⟩:=nm_ok O hi
 cases ex
 have nd:X.N.Nodup:=O.hN▸O.nd
 have Sd:=zcn (T:=T) (F:=F) (k:=k) d O
 by_cases hc:zfg e=true
 .exact zq7 nd h1 h2 h3 (Sd.e _ _ h).1 (zgf hc)
 .cases d with
  |zero=>cases h
  |succ n=>
   cases e with
   |ListComp elt gs sc lp=>
    have sw:∃b:Bool,swapsWith (.ListComp elt gs sc lp) (some (.Name x p)) pos.line X.env=pure b:=⟨_,rfl⟩
    obtain⟨b,hb⟩:=sw
    cases b with
    |false=>exact zq7 nd h1 h2 h3 (Sd.e _ _ h).1 hb
    |true=>
     obtain⟨tg,iter,ifs,rfl⟩:=zw6 h
     obtain⟨kd,a,t,ix,cc,ce,rfl,S,w1,w2,w3,w4,w5⟩:=zrh O (zcn n O) (λhc D s₀ H₀ ex=>zcn n (zix O hc D s₀ H₀ ex)) h
     exact zpn nd h1 h2 h3 S O.calm w1 w2 w3 w4 hb w5
   |SetComp _ _ _ _=>unfold cE at h;cases h
   |DictComp _ _ _ _ _=>unfold cE at h;cases h
   |_=>exact absurd rfl hc
structure XTop(X:Cx)(C:CC):Prop where
 stk:X.stack=X.env::X.outer
 fr:X.env.frame=some X.env.locals
 fn:∀x,X.fn x=true
 lc:∀x,C.names.lookup x=some .local->X.env.kindOf x=some .local/\Loc X.env.scope x/\Vis X.env.scope x
theorem ztg(O:XOk X C T R F k)(tp:XTop X C){f xb nm:Str}{p cpos epos t2 hpos pos rp:Pos}(h:cTry X.K T R d C f (e::es) xb nm hb=some c) :
 SS X (.Try [.Expr (.Call (.Name f p) (e::es) [] cpos) epos] [.ExceptHandler (some (.Name xb t2)) (some nm) [.Return (some hb) rp] hpos] [] [] pos) (exs (run F k) c):=by
 unfold cTry at h
 split at h
 case isFalse=>cases h
 rename_i hc
 simp only[vaa,vcr]at hc
 obtain⟨⟨⟨⟨⟨⟨c1,c2⟩,c4⟩,c5⟩,c6⟩,c7⟩,c8⟩:=hc
 split at h
 case h_2=>cases h
 rename_i j D i o a hj hD hi ho ha
 split at h
 case isFalse=>cases h
 rename_i hs
 cases h
 obtain⟨fa,fd,ps,fn,q1,q2,q3,q4,q5,q6⟩:=O.rs j f (zcl hj)
 have Sd:=zcn (T:=T) (F:=F) (k:=k) d O
 obtain⟨h2,h3⟩:=cL_ok Sd.e ha
 obtain⟨l1,l2,l3⟩:=tp.lc nm c7
 refine zw2 (tb:=R.tb) tp.stk tp.fr q2 O.room (λx=>O.room.h) (O.gl f c2) (O.mgs f _ (zb2 q1)) q3 q4 (λws h w h' e=>by rw[zc9 q5 e,q6]) (by
  have e:X.nox=X:=by
   have:=O.xe
   obtain⟨⟩:=X
   cases this
   rfl
  rw[e]
  exact h2) h3 (O.gl xb c5) (O.mgs xb _ hD) (O.hN▸O.nd) (by rw[O.hN];exact zcl hi) l1 l2 l3 (tp.fn nm) ho O.wd (O.gl _ c8) (λC z hm=>?_) (za9 c1).1 (za9 c4).1 (za9 c6).1 (za9 c6).2.1
 exact(vcb.mp hs) _ hm
theorem snd_s(O:XOk X C T R F k)(tp:XTop X C):∀(n:Nat) (st:Stmt) (c:S),cS X.K T R d n C st=some c->SS X st (exs (run F k) c)
 |0,_,_,h=>by cases h
 |n+1,st,c,h=>by
  have nd:X.N.Nodup:=O.hN▸O.nd
  have Sd:=zcn (T:=T) (F:=F) (k:=k) d O
  have ih:=snd_s O tp n
  have hp:PassesOwn (model X.prog X.w) X.A X.env X.xe:=by rw[O.xe];exact PassesOwn.never
  unfold cS at h
  split at h
  .cases h;exact zs1
  .cases h;exact zwl
  .cases h;exact zwm
  .cases h;exact ss_no
  .split at h
   .cases h;exact zs2
   .obtain⟨a,h1,rfl⟩:=map_some h
    exact zwn (Sd.e _ _ h1).1
  .split at h
   .rename_i hc
    obtain⟨a,h1,rfl⟩:=map_some h
    exact zmr (Sd.e _ _ h1).1 hc
   .cases h
  .split at h
   .split at h
    .split at h
     .rename_i i a h1 h2
      cases h
      exact ztf O h1 h2
     .cases h
    .split at h
     .rename_i ht
      split at h
      .rename_i h1 h2
       cases h
       exact zwo O.calm nd (zm7 O h1) (Sd.e _ _ h2).1 ht
      .cases h
     .cases h
    .split at h
     .rename_i hs
      split at h
      .rename_i h1 h2 h3
       cases h
       exact zwp O.u2 (Sd.e _ _ h1).1 (Sd.e _ _ h2).1 (Sd.e _ _ h3).1 hs
      .cases h
     .cases h
    .cases h
   .cases h
  .split at h
   .split at h
    .rename_i h1 h2 h3
     cases h
     obtain⟨x',p',ex,a1,a2,a3⟩:=nm_ok O h1
     cases ex
     exact zws h2 nd a1 a2 a3 (Sd.e _ _ h3).1
    .cases h
   .cases h
  .split at h
   .rename_i h1 h2 h3
    cases h
    exact zq8 (Sd.t _ _ h1) (zca ih h2) (zca ih h3)
   .cases h
  .rename_i tg it b el pos
   split at h
   .split at h
    .rename_i h1 h2 h3
     split at h
     case isFalse=>cases h
     rename_i hw
     cases h
     obtain⟨w1,w2⟩:=Sd.w _ _ _ tg h1 hw
     exact zq9 hp O.calm w1 (tg_ok O h2) (zca ih h3) w2
    .cases h
   .cases h
  .split at h
   .split at h
    .rename_i h1 h2
     cases h
     exact zwu hp (Sd.t _ _ h1) (zca ih h2)
    .cases h
   .cases h
  .split at h
   .split at h
    .rename_i q hq
     split at h
     .cases h
     .rename_i hne
      obtain⟨rfl,rfl⟩:=zpu hq
      generalize q.c.args=as at h hne ⊢
      cases as with
      |nil=>exact absurd rfl hne
      |cons e es=>exact ztg O tp h
    .cases h
   .cases h
  .cases h
end
noncomputable def zep:FuncBody->Option (List Stmt)
 |.stmts b=>some b
 |_=>none
theorem zkt{d:Data}(h:zgk d=true):∃n,d=.seq #[.none] n:=by
 cases d with
 |seq xs n=>
  obtain⟨l⟩:=xs
  unfold zgk at h
  simp only[]at h
  split at h
  .rename_i v
   cases v<;>first|exact⟨n,rfl⟩|cases h
  .cases h
 |_=>cases h
theorem zpy{K:vga}{v:Value}(h:noneD K v=true):∃t o n,v=.ref t/\K.lookup t=some o/\o.data=.seq #[.none] n:=by
 cases v with
 |ref t=>
  have h:(match K.lookup t with|some o=>zgk o.data|none=>false)=true:=h
  cases e:K.lookup t with
  |none=>rw[e]at h;cases h
  |some o=>
   rw[e]at h
   obtain⟨n,q⟩:=zkt h
   exact⟨t,o,n,rfl,e,q⟩
 |_=>cases h
noncomputable def za0(ps:List Str)(sc:Scope):List Str:=ps++(sc.names.filter λy=>(y.2 == .local||y.2 == .cell) && !(ps.contains y.1)).map (·.1)
noncomputable def zdc(N ps:List Str)(sc:Scope):Bool:=
 decide (sc.kind=.function) && !sc.isCoroutine && !sc.isGenerator&&decide N.Nodup&&decide (N.take ps.length=ps)&&ps.all (λx=>decide (sc.names.lookup x=some .local\/sc.names.lookup x=some .cell))&&sc.names.all (λy=>decide (y.2≠.free))&&decide ps.Nodup
theorem zdd{N ps:List Str}(h:zdc N ps sc=true):FnScope N ps sc/\ps.Nodup:=by
 unfold zdc at h
 simp only[vaa,vat,vcb,vd3]at h
 obtain⟨⟨⟨⟨⟨⟨⟨h1,h2⟩,h3⟩,h4⟩,h5⟩,h6⟩,h7⟩,h8⟩:=h
 exact⟨⟨h1,h2,h3,h4,h5,h6,h7⟩,h8⟩
noncomputable def nmOf(x:Str):Str:=(metOf x).getD x
noncomputable def cFg(K:vga)(g:CC->List Stmt->Option S)(x:Str):Option Fn:=match fnAt K x with
 |some (f,o,fd)=>(match za2 fd.params,zep fd.body with
  |some args,some body=>if fd.name==nmOf x&&fd.qualname==x&&Nat.beq fd.globals mainGlobals&&fd.closure.isEmpty&& (isNone fd.defaults||noneD K fd.defaults && !args.isEmpty)&&Nat.beq fd.builtins builtinsNs&&PySem.W.codeIn K fd.code x&&PySem.W.keepIn K (.ref f) &&
   zdc (za0 (args.map (·.arg)) fd.scope) (args.map (·.arg)) fd.scope then
   (g ⟨za0 (args.map (·.arg)) fd.scope,fd.scope.names,true⟩ body).map λb=>⟨(args.map (·.arg)).length,(za0 (args.map (·.arg)) fd.scope).length,b⟩
   else none
  |_,_=>none)
 |none=>none
theorem ziy{x:Str}{args:List Arg}(c1:(fd.name==nmOf x)=true)(c2:(fd.qualname==x)=true)(c3:Nat.beq fd.globals mainGlobals=true)(c4:fd.closure.isEmpty=true)(c6:Nat.beq fd.builtins builtinsNs=true)(ha:za2 fd.params=some args)(hb:zep fd.body=some body) :
 ∃dx,fd=PySem.W.fnOf (nmOf x) x ⟨[],args,none,[],[],none,dx⟩ body fd.scope fd.defaults fd.kwdefaults fd.doc fd.pyModule fd.annotations fd.code fd.closureTuple:=by
 obtain⟨nm,qn,pr,bd,sc,gl,cl,df,kd,dc,pm,an,cdv,ct,bu⟩:=fd
 have e1:nm=nmOf x:=by simpa using c1
 have e2:qn=x:=by simpa using c2
 have e3:gl=mainGlobals:=vcg c3
 have e4:cl=[]:=by simpa using c4
 have e6:bu=builtinsNs:=vcg c6
 have e7:bd=.stmts body:=by
  cases bd with
  |stmts b'=>cases hb;rfl
  |expr _=>cases hb
 obtain⟨dx,e8⟩:∃dx,pr=⟨[],args,none,[],[],none,dx⟩:=by
  unfold za2 at ha
  split at ha
  .cases ha;rename_i z;exact⟨_,z⟩
  .cases ha
 exact⟨dx,by rw[e1,e2,e3,e4,e6,e7,e8]⟩
theorem zgl{K:vga}{x:Str}{fd:FuncData}{args:List Arg}{body:List Stmt}{dx:List Expr}{sc:Scope}{df kd dc pm:Value}{an:Option Addr}{cdv ct:Value}{b:Bool}(e:fd=PySem.W.fnOf (nmOf x) x ⟨[],args,none,[],[],none,dx⟩ body sc df kd dc pm an cdv ct)(nd:(args.map (·.arg)).Nodup)
 (hb:b=noneD K df) (c5:(isNone df||noneD K df && !args.isEmpty)=true):Binds K fd (args.map (·.arg)) []/\(b=true->Binds K fd (args.map (·.arg)) [.none])/\(b=false->∀us:List Value,us.length=(args.map (·.arg)).length->bindArgs fd ⟨us,[]⟩=pure ((args.map (·.arg)).zip us)):=by
 subst e hb
 rw[vcp,vaa]at c5
 rcases c5 with c5|⟨c5,c0⟩
 .have e5:df=.none:=by cases df<;>first|rfl|cases c5
  subst e5
  exact⟨.all λus hl=>zfh hl nd,(λz=>nomatch z),λ_ us hl=>zfh hl nd⟩
 .obtain⟨t,o,n,rfl,hk,hd⟩:=zpy c5
  rw[c5]
  obtain⟨qs,z,hqz⟩:∃qs z,args.map (·.arg)=qs++[z]:=by
   rcases List.eq_nil_or_concat (args.map (·.arg))with q|⟨l,b,q⟩
   .rw[List.map_eq_nil_iff.mp q]at c0;cases c0
   .exact⟨l,b,by rw[q,List.concat_eq_append]⟩
  have nd':=nd
  rw[hqz]at nd'
  refine⟨λs us hK hl=>?_,λ_ s us hK hl=>?_,λz=>nomatch z⟩
  .rw[vbc]at hl ⊢
   rw[hqz]at hl ⊢
   exact zkp hqz nd' (hK _ _ hk) hd hl
  .rw[hqz]at hl ⊢
   exact zkq hqz nd' (hK _ _ hk) hd (by rw[vaj,vaj]at hl;simpa using hl)
theorem zhq{K:vga}{x:Str}{f:Addr}{o:Obj}{fd:FuncData}(h:fnAt K x=some (f,o,fd)):refAt K x=some f/\∃oc od sl,K.lookup f=some ⟨oc,od,.func fd,sl⟩:=by
 unfold fnAt at h
 split at h
 .rename_i f' hn
  split at h
  .rename_i o' ho
   split at h
   .rename_i fd' hd
    cases h
    refine⟨hn,o.cls,o.dict,o.slots,?_⟩
    rw[<-hd];exact ho
   .cases h
  .cases h
 .cases h
theorem zw7{K:vga}{g:CC->List Stmt->Option S}{x:Str}{fn:Fn}:∀(f:Addr) (o:Obj) (fd:FuncData) (args:List Arg) (body:List Stmt) (b:S),fnAt K x=some (f,o,fd)->za2 fd.params=some args->zep fd.body=some body->(fd.name==nmOf x&&fd.qualname==x&&Nat.beq fd.globals mainGlobals&&fd.closure.isEmpty&& (isNone fd.defaults||noneD K fd.defaults && !args.isEmpty)&&Nat.beq fd.builtins builtinsNs&&PySem.W.codeIn K fd.code x&&PySem.W.keepIn K (.ref f) &&
 zdc (za0 (args.map (·.arg)) fd.scope) (args.map (·.arg)) fd.scope)=true->g ⟨za0 (args.map (·.arg)) fd.scope,fd.scope.names,true⟩ body=some b->fn=⟨(args.map (·.arg)).length,(za0 (args.map (·.arg)) fd.scope).length,b⟩->∃f fd st ps N,refAt K x=some f/\FunD K (nmOf x) x st f fd/\FnScope N ps (zal st)/\fn.n=N.length/\fn.ps=ps.length/\(Binds K fd ps []/\(hasD K x=true->Binds K fd ps [.none])/\(hasD K x=false->∀us:List Value,us.length=ps.length->bindArgs fd ⟨us,[]⟩=pure (ps.zip us)))/\
 g ⟨N,(zal st).names,true⟩ (zc1 st)=some fn.body/\∃o' fd' args,fnAt K x=some (f,o',fd')/\za2 fd'.params=some args/\ps=args.map (·.arg):=by
 intro f o fd args body b hf ha hb hc h1 e
 rw[vaa,vaa,vaa,vaa,vaa,vaa,vaa,vaa]at hc
 obtain⟨⟨⟨⟨⟨⟨⟨⟨c1,c2⟩,c3⟩,c4⟩,c5⟩,c6⟩,c7⟩,c8⟩,c9⟩:=hc
 obtain⟨S,nd⟩:=zdd c9
 obtain⟨hn,oc,od,sl,lk⟩:=zhq hf
 obtain⟨dx,ef⟩:=ziy c1 c2 c3 c4 c6 ha hb
 have hh:hasD K x=noneD K fd.defaults:=by unfold hasD;rw[hf]
 exact⟨f,fd,.FunctionDef (nmOf x) ⟨[],args,none,[],[],none,dx⟩ body [] none [] fd.scope none (nmOf x) ⟨0,0,0,0⟩,args.map (·.arg),za0 (args.map (·.arg)) fd.scope,hn,⟨⟨oc,od,_,_,_,_,_,fd.code,_,sl,ef,lk,c7⟩,c8⟩,S,by rw[e],by rw[e],zgl ef nd hh c5,by rw[e];exact h1,o,fd,args,hf,ha,rfl⟩
theorem cF_ok{K:vga}{g:CC->List Stmt->Option S}{x:Str}{fn:Fn}(h:cFg K g x=some fn):∃f fd st ps N,refAt K x=some f/\FunD K (nmOf x) x st f fd/\FnScope N ps (zal st)/\fn.n=N.length/\fn.ps=ps.length/\(Binds K fd ps []/\(hasD K x=true->Binds K fd ps [.none])/\(hasD K x=false->∀us:List Value,us.length=ps.length->bindArgs fd ⟨us,[]⟩=pure (ps.zip us)))/\
 g ⟨N,(zal st).names,true⟩ (zc1 st)=some fn.body/\∃o' fd' args,fnAt K x=some (f,o',fd')/\za2 fd'.params=some args/\ps=args.map (·.arg):=by
 unfold cFg at h
 split at h
 .rename_i f o fd hf
  split at h
  .rename_i args body ha hb
   split at h
   .rename_i hc
    obtain⟨b,h1,e⟩:=map_some h
    exact zw7 f o fd args body b hf ha hb hc h1 e
   .cases h
  .cases h
 .cases h
theorem zgm{α β:Type}{f:α->Option β}:∀{l:List α} {r:List β},mapO f l=some r->∀(i:Nat) (a:α),l[i]?=some a->∃b,r[i]?=some b/\f a=some b
 |[],_,_,i,a,e=>by simp at e
 |x::l,r,h,i,a,e=>by
  unfold mapO at h
  split at h
  .rename_i b hb
   split at h
   .rename_i bs hbs
    cases h
    cases i with
    |zero=>simp at e;subst e;exact⟨b,rfl,hb⟩
    |succ i=>
     obtain⟨c,h1,h2⟩:=zgm hbs i a (by simpa using e)
     exact⟨c,by simpa using h1,h2⟩
   .cases h
  .cases h
inductive MV where
 |exc|bls (bs:List Bool)|sts (xs:List Str)|bl (b:Bool)|int (i:Int)|str (x:Str)
noncomputable def MRep(C:Addr)(H:Hp)(v:V):MV->Prop
 |.exc=>∃a,v=.ref a/\Err C a H
 |.bls bs=>∃l,v=.ref l/\H l=some (.lst (bs.map .bl))
 |.sts xs=>∃l,v=.ref l/\H l=some (.lst (xs.map .str))
 |.bl b=>v=.bl b
 |.int i=>v=.int i
 |.str x=>v=.str x
theorem MRep.mono{C:Addr}{m:MV}(h:MRep C H v m)(k:Hx H H'):MRep C H' v m:=by
 cases m with
 |exc=>obtain⟨a,e,q⟩:=h;exact⟨a,e,q.mono k⟩
 |bls bs=>obtain⟨a,e,q⟩:=h;exact⟨a,e,k _ _ q⟩
 |sts bs=>obtain⟨a,e,q⟩:=h;exact⟨a,e,k _ _ q⟩
 |bl b=>exact h
 |int i=>exact h
 |str x=>exact h
noncomputable def MReps(C:Addr)(H:Hp):List V->List MV->Prop
 |[],[]=>True
 |v::vs,m::ms=>MRep C H v m/\MReps C H vs ms
 |_,_=>False
noncomputable def EnvR(C:Addr)(H:Hp)(σ:L2.St)(ρ:List (Option MV)):Prop:=∀(i:Nat) (m:MV),ρ[i]?=some (some m)->∃v,σ[i]?=some (some v)/\MRep C H v m
theorem EnvR.mono{C:Addr}{σ:L2.St}{ρ:List (Option MV)}(h:EnvR C H σ ρ)(k:Hx H H'):EnvR C H' σ ρ:=λi m e=>let⟨v,a,b⟩:=h i m e;⟨v,a,b.mono k⟩
noncomputable def tM(C:Addr)(ρ:List (Option MV))(m:MV):TE:=λσ H Q=>EnvR C H σ ρ/\∀v H',Hx H H'->MRep C H' v m->Q v H'
noncomputable def tMs(C:Addr)(ρ:List (Option MV))(ms:List MV):TA:=λσ H Q=>EnvR C H σ ρ/\∀vs H',Hx H H'->MReps C H' vs ms->Q vs H'
noncomputable def tMT(C:Addr)(ρ:List (Option MV))(b:Bool):TT:=λσ H Q=>EnvR C H σ ρ/\∀H',Hx H H'->Q b H'
section
variable{X:Cx}{C:Addr}{ρ:List (Option MV)}{a b e:Expr}{es:List Expr}{pos:Pos}
theorem m_var{i:Nat}{x:Str}{m:MV}(hN:X.N[i]?=some x)(hv:Vis X.env.scope x)(hd:(x==("__debug__" : Str))=false)(hcd:(x==("__classdict__" : Str))=false)(hi:ρ[i]?=some (some m)):PE X (.Name x pos) (tM C ρ m):=
 (zi8 hN hv hd hcd).imp λσ H Q ⟨en,k⟩=>let⟨v,e,r⟩:=en i m hi;⟨v,e,k v H .refl r⟩
theorem zw8:PA X [] (tMs C ρ []):=zb6.imp λσ H Q ⟨_,k⟩=>k [] H .refl trivial
theorem zth{m:MV}{ms:List MV}(ha:PE X e (tM C ρ m))(hr:PA X es (tMs C ρ ms))(hs:zau e=true):PA X (e::es) (tMs C ρ (m::ms)):=
 (zbc ha hr (zad hs)).imp λσ H Q ⟨en,k⟩=>⟨en,λv H1 k1 r1=>⟨en.mono k1,λvs H2 k2 r2=>k (v::vs) H2 (k1.trans k2) ⟨r1.mono k2,r2⟩⟩⟩
theorem zjp:∀{vs:List V} {bs:List Bool},MReps C H vs (bs.map .bl)->vs=bs.map .bl
 |[],[],_=>rfl
 |v::vs,b::bs,h=>by rw[va0,zjp (vs:=vs) (bs:=bs) h.2,show v=.bl b from h.1]
 |[],_::_,h=>h.elim
 |_::_,[],h=>h.elim
theorem zhr:∀{vs:List V} {bs:List Str},MReps C H vs (bs.map .str)->vs=bs.map .str
 |[],[],_=>rfl
 |v::vs,b::bs,h=>by rw[va0,zhr (vs:=vs) (bs:=bs) h.2,show v=.str b from h.1]
 |[],_::_,h=>h.elim
 |_::_,[],h=>h.elim
theorem m_bls{bs:List Bool}(ha:PA X es (tMs C ρ (bs.map .bl)))(hz:bs.length<=sizeLine):PE X (.List es pos) (tM C ρ (.bls bs)):=
 (zln ha).imp λσ H Q ⟨en,k⟩=>⟨en,λvs H1 k1 r=>by
   have e:=zjp r
   subst e
   exact⟨by rw[vaf];exact hz,λp hp=>k _ _ (k1.trans (.new hp)) ⟨p,rfl,zai⟩⟩⟩
theorem m_sts{bs:List Str}(ha:PA X es (tMs C ρ (bs.map .str)))(hz:bs.length<=sizeLine):PE X (.List es pos) (tM C ρ (.sts bs)):=
 (zln ha).imp λσ H Q ⟨en,k⟩=>⟨en,λvs H1 k1 r=>by
   have e:=zhr r
   subst e
   exact⟨by rw[vaf];exact hz,λp hp=>k _ _ (k1.trans (.new hp)) ⟨p,rfl,zai⟩⟩⟩
theorem m_cat{x y:List Bool}(ha:PE X a (tM C ρ (.bls x)))(hb:PE X b (tM C ρ (.bls y)))(hz:x.length+y.length<=sizeLine):PE X (.BinOp a .Add b pos) (tM C ρ (.bls (x++y))):=
 (pe_op zlu ha hb).imp λσ H Q ⟨en,k⟩=>⟨en,λv H1 k1 ⟨l,e1,q1⟩=>⟨en.mono k1,λu H2 k2 ⟨l2,e2,q2⟩=>⟨l,l2,_,_,e1,e2,k2 _ _ q1,q2,by rw[vaf,vaf];exact hz,λp hp=>k _ _ ((k1.trans k2).trans (.new hp)) ⟨p,rfl,by rw[zai,vef]⟩⟩⟩⟩
theorem zw9{x y:List Str}(ha:PE X a (tM C ρ (.sts x)))(hb:PE X b (tM C ρ (.sts y)))(hz:x.length+y.length<=sizeLine):PE X (.BinOp a .Add b pos) (tM C ρ (.sts (x++y))):=
 (pe_op zlu ha hb).imp λσ H Q ⟨en,k⟩=>⟨en,λv H1 k1 ⟨l,e1,q1⟩=>⟨en.mono k1,λu H2 k2 ⟨l2,e2,q2⟩=>⟨l,l2,_,_,e1,e2,k2 _ _ q1,q2,by rw[vaf,vaf];exact hz,λp hp=>k _ _ ((k1.trans k2).trans (.new hp)) ⟨p,rfl,by rw[zai,vef]⟩⟩⟩⟩
theorem m_isE{t:Str}{p p2:Pos}{r:Bool}(hc:tyVal cv=some c)(hT:PE X (.Name t p2) (tC cv))(ha:PE X a (tM C ρ .exc))(hs:zau a=true)(hg:Gl X "isinstance")(hm:X.mg "isinstance" = none)(kk:XL.ExcI X.K C)(e:PySem.W.kitOne X.K (.ref C) c=some r) :
 PE X (.Call (.Name "isinstance" p) [a,.Name t p2] [] pos) (tM C ρ (.bl r)):=
 (zf3 (zpq hc) hg hm PyProof.Rows.boot_isinstance (zbc ha (zbc hT zb6) (zad hs)) (by decide) (by decide) (zad hs) rfl).imp λσ H Q ⟨en,k⟩=>⟨en,λv H1 k1 ⟨x,e1,q1⟩=>⟨x,C,r,by rw[e1],q1,kk,e,k _ H1 k1 rfl⟩⟩
theorem zm8{K:vga}{M:Addr->Prop}{H:Hp}:∀bs:List Bool,Rps K M H (bs.map .bl) (bs.map .bool)
 |[]=>.nil
 |b::r=>.cons (.bl b) (zm8 r)
theorem zeq:∀bs:List Bool,(bs.map PyData.bool).all SeqAt.shaped=true
 |[]=>rfl
 |_::r=>by rw[va0,vb1,zeq r];rfl
noncomputable def eqT1(e:PyData):Bool:=PyData.eqv e (.bool true)
theorem m_cnt{bs:List Bool}(hu:X.A.in1.units+64<cLine)(ho:PE X o (tM C ρ (.bls bs)))(ha:PE X a (tM C ρ (.bl true)))(hs:zau a=true)(hb:attributeBase o "count" X.env (eval o X.env)=eval o X.env)(hl:(ap.endLine==pos.line)=true) :
 PE X (.Call (.Attribute o "count" ap) [a] [] pos) (tM C ρ (.int ((bs.map PyData.bool).countP eqT1:Nat))):=
 (pe_bm (X:=X) PySem.F.plainAttrs_list PySem.F.slot_list_count PySem.F.type_list_count (zmc hu) ho (zbc ha zb6 (zad hs)) hb (by rw[zad hs];rfl) hl (zad hs) rfl).imp λσ H Q ⟨en,k⟩=>
   ⟨en,λv H1 k1 ⟨l,e1,q1⟩=>⟨by subst e1;exact .inl ⟨rfl,_,SqL.of q1⟩,en.mono k1,λu H2 k2 r2=>⟨l,_,u,_,.bool true,e1,rfl,SqL.of (k2 _ _ q1),zm8 bs,by rw[show u=.bl true from r2];exact .bl true,zeq bs,rfl,k _ H2 (k1.trans k2) rfl⟩⟩⟩
theorem m_ind{bs:List Bool}{j:Nat}(hu:X.A.in1.units+64<cLine)(ho:PE X o (tM C ρ (.bls bs)))(ha:PE X a (tM C ρ (.bl true)))(hs:zau a=true)(hb:attributeBase o "index" X.env (eval o X.env)=eval o X.env)(hl:(ap.endLine==pos.line)=true)
 (hj:(bs.map PyData.bool).findIdx? eqT1=some j) (hz:(j:Int)<2 ^ 63-1):PE X (.Call (.Attribute o "index" ap) [a] [] pos) (tM C ρ (.int (j:Nat))):=by
 obtain⟨hlt,h1,h2⟩:=List.findIdx?_eq_some_iff_getElem.mp hj
 refine(pe_bm (X:=X) PySem.F.plainAttrs_list PySem.F.slot_list_index PySem.F.type_list_index (zm0 hu) ho (zbc ha zb6 (zad hs)) hb (by rw[zad hs];rfl) hl (zad hs) rfl).imp λσ H Q ⟨en,k⟩=>
  ⟨en,λv H1 k1 ⟨l,e1,q1⟩=>⟨by subst e1;exact .inl ⟨rfl,_,SqL.of q1⟩,en.mono k1,λu H2 k2 r2=>⟨l,_,u,_,.bool true,j,_,e1,rfl,SqL.of (k2 _ _ q1),zm8 bs,by rw[show u=.bl true from r2];exact .bl true,zeq bs,rfl,vao hlt,h1,λm e hm q=>?_,hz,k _ H2 (k1.trans k2) rfl⟩⟩⟩
 have:=h2 m hm
 obtain⟨hq,rfl⟩:=vas.mp q
 simpa[eqT1]using this
theorem zti{α β:Type}{f:α->β}{xs:List α}{i:Int}{v:α}(h:atI xs i=some v):atI (xs.map f) i=some (f v):=by
 unfold atI at h ⊢
 rw[vaf]
 cases e:ixN xs.length i with
 |none=>rw[e]at h;cases h
 |some j=>
  rw[e]at h
  show(xs.map f)[j]?=_
  rw[vbr,show xs[j]?=some v from h];rfl
theorem m_sub{xs:List Str}{i:Int}{z:Str}(ha:PE X a (tM C ρ (.sts xs)))(hb:PE X b (tM C ρ (.int i)))(hs:zf4 b)(hi:atI xs i=some z):PE X (.Subscript a b pos) (tM C ρ (.str z)):=
 (pe_ix zls ha hb hs).imp λσ H Q ⟨en,k⟩=>⟨en,λv H1 k1 ⟨l,e1,q1⟩=>⟨en.mono k1,λu H2 k2 r2=>⟨l,_,i,.str z,e1,r2,SqL.of (k2 _ _ q1),zti hi,k _ H2 (k1.trans k2) rfl⟩⟩⟩
theorem zxa{r:Bool}(ha:PT X a (tMT C ρ r)):PT X (.UnaryOp .Not a pos) (tMT C ρ (!r)):=λpins s σ H Q I ⟨en,k⟩=>zk7 ha pins s σ H Q I ⟨en,λH1 k1=>k H1 k1⟩
theorem zxb{r:Bool}(ha:PE X a (tM C ρ (.bl r)))(he:∀whole,isTrue a X.env whole=(do let v <-whole;standAt a.pos;holding [v] (truthy v))):PT X a (tMT C ρ r):=λpins s σ H Q I ⟨en,k⟩=>
 zqk ha he pins s σ H Q I ⟨en,λv H1 k1 e=>⟨r,e,k H1 k1⟩⟩
theorem mt_ne{i j:Int}(ha:PE X a (tM C ρ (.int i)))(hb:PE X b (tM C ρ (.int j)))(hm:behindInMarks .NotEq b=false):PT X (.Compare a [.NotEq] [b] pos) (tMT C ρ (!decide (V.int i=V.int j))):=λpins s σ H Q I ⟨en,k⟩=>
 zli op_ne ha hb hm pins s σ H Q I ⟨en,λv H1 k1 e1=>⟨en.mono k1,λu H2 k2 e2=>by
  have e1:v=.int i:=e1
  have e2:u=.int j:=e2
  subst e1 e2
  exact⟨rfl,_,rfl,k H2 (k1.trans k2)⟩⟩⟩
theorem mw_or{rest:List Expr}{r r':Bool}(ha:PT X a (tMT C ρ r))(hb:PW X (.BoolOp .Or (b::rest) pos) (tMT C ρ r')):PW X (.BoolOp .Or (a::b::rest) pos) (tMT C ρ (r||r')):=λwh pins s σ H Q I ⟨en,k⟩=>
 pw_or ha hb wh pins s σ H Q I ⟨en,λH1 k1=>by
  cases r with
  |true=>rw[if_pos rfl];exact k H1 k1
  |false=>rw[if_neg va3];exact⟨en.mono k1,λH2 k2=>k H2 (k1.trans k2)⟩⟩
theorem zxc{r:Bool}(ha:PT X a (tMT C ρ r)):PW X (.BoolOp .Or [a] pos) (tMT C ρ r):=zql ha
noncomputable def tMB(C:Addr)(ρ:List (Option MV))(m:MV):TS:=λD σ H=>EnvR C H σ ρ/\∀v H',Hx H H'->MRep C H' v m->D.rt v H'
theorem _root_.L2.PSs.imp'{st:List Stmt}{t t':TS}(h:PSs X st t)(k:∀D σ H,t' D σ H->t D σ H):PSs X st t':=λpins s σ H D I q=>h pins s σ H D I (k D σ H q)
theorem zxd{m:MV}(he:PE X e (tM C ρ m)):PSs X [.Return (some e) pos] (tMB C ρ m):=(zf1 (zg1 he)).imp' λD σ H q=>q
theorem EnvR.set{σ:L2.St}{i:Nat}{m:MV}(en:EnvR C H σ ρ)(hl:i<σ.length)(hi:i<ρ.length)(r:MRep C H v m):EnvR C H (σ.set i (some v)) (ρ.set i (some m)):=λj m' e=>by
 by_cases h:j=i
 .subst h
  rw[vbi hi]at e
  cases e
  exact⟨v,vbi hl,r⟩
 .rw[vci (vbz h)]at e ⊢
  exact en j m' e
end
section
variable{X:Cx}{C:Addr}{ρ:List (Option MV)}{e c:Expr}{pos p:Pos}{rest a:List Stmt}{m m':MV}
theorem zxe{i:Nat}{x:Str}(hN:X.N.Nodup)(hi:X.N[i]?=some x)(hx:Loc X.env.scope x)(he:PE X e (tM C ρ m))(hf:X.fn x=true\/X.env.scope.names.lookup x=some .local)(hr:i<ρ.length)
 (hs:swapsWith e (some (.Name x p)) pos.line X.env=pure false) (h:PSs X rest (tMB C (ρ.set i (some m)) m')):PSs X (.Assign [.Name x p] e pos::rest) (tMB C ρ m'):=λpins s σ H D I ⟨en,k⟩=>
 zcg (zqn hN hi hx he hs hf) h pins s σ H D I ⟨en,λv H1 k1 r1=>⟨(en.mono k1).set (by rw[I.len];exact(vas.mp hi).1) hr r1,λw H2 k2 r2=>k w H2 (k1.trans k2) r2⟩⟩
theorem zri:PSs X l (λ_ _ _=>False):=λ_ _ _ _ _ _ h=>h.elim
theorem zxf(hc:PT X c (tMT C ρ false))(h:PSs X rest (tMB C ρ m)):PSs X (.If c a [] pos::rest) (tMB C ρ m):=
 (zcg (ps_if hc (zri (l:=a)) zii) h).imp' λD σ H ⟨en,k⟩=>⟨en,λH1 k1=>L2.iteF ⟨en.mono k1,λv H2 k2 r=>k v H2 (k1.trans k2) r⟩⟩
theorem zxg(hc:PT X c (tMT C ρ true))(h:PSs X a (tMB C ρ m)):PSs X (.If c a [] pos::rest) (tMB C ρ m):=
 (zcg (ps_if hc h zii) (zri (l:=rest))).imp' λD σ H ⟨en,k⟩=>⟨en,λH1 k1=>L2.iteT ⟨en.mono k1,λv H2 k2 r=>k v H2 (k1.trans k2) r⟩⟩
end
noncomputable def bools:List MV->Option (List Bool)
 |[]=>some []
 |.bl b::r=>(bools r).map (b :: ·)
 |_=>none
noncomputable def texts:List MV->Option (List Str)
 |[]=>some []
 |.str b::r=>(texts r).map (b :: ·)
 |_=>none
theorem zhs:∀{ms:List MV} {bs:List Bool},bools ms=some bs->ms=bs.map .bl
 |[],_,e=>by cases e;rfl
 |.bl b::r,_,e=>by
  simp only[bools]at e
  cases q:bools r with
  |none=>rw[q]at e;cases e
  |some l=>rw[q]at e;cases e;rw[zhs q];rfl
 |.exc::_,_,e=>by cases e
 |.bls _::_,_,e=>by cases e
 |.sts _::_,_,e=>by cases e
 |.int _::_,_,e=>by cases e
 |.str _::_,_,e=>by cases e
theorem zht:∀{ms:List MV} {bs:List Str},texts ms=some bs->ms=bs.map .str
 |[],_,e=>by cases e;rfl
 |.str b::r,_,e=>by
  simp only[texts]at e
  cases q:texts r with
  |none=>rw[q]at e;cases e
  |some l=>rw[q]at e;cases e;rw[zht q];rfl
 |.exc::_,_,e=>by cases e
 |.bls _::_,_,e=>by cases e
 |.sts _::_,_,e=>by cases e
 |.int _::_,_,e=>by cases e
 |.bl _::_,_,e=>by cases e
noncomputable def mList(ms:List MV):Option MV:=if Nat.ble ms.length 1000 then(match bools ms with
 |some bs=>some (.bls bs)
 |none=>(texts ms).map .sts)else none
noncomputable def mAdd:MV->MV->Option MV
 |.bls x,.bls y=>if Nat.ble (x.length+y.length) 1000 then some (.bls (x++y))else none
 |.sts x,.sts y=>if Nat.ble (x.length+y.length) 1000 then some (.sts (x++y))else none
 |_,_=>none
noncomputable def clsN(K:vga)(c:CC)(t:Str):Option (Value×V):=if okN t&&c.names.lookup t==some .globalImplicit then(match PySem.W.nsIn K mainGlobals t with
 |some (some (.ref D))=>some (.ref D,.ref D)
 |some none=>if t==("ValueError" : Str)then some (.type "ValueError",.ty "ValueError")else none
 |_=>none)else none
noncomputable def mMeth(mth:Str):MV->MV->Option MV
 |.bls bs,.bl true=>if mth==("count" : Str)then some (.int ((bs.map PyData.bool).countP eqT1:Nat))else if mth==("index" : Str)then(match(bs.map PyData.bool).findIdx? eqT1 with
  |some j=>if Nat.ble j 1000 then some (.int (j:Nat))else none
  |none=>none)else none
 |_,_=>none
noncomputable def baseE:Expr->Bool
 |.Name .. |.Call (.Name ..) (_::_) _ _=>true
 |_=>false
theorem zjq{m:Str}(h:baseE o=true):attributeBase o m env (eval o env)=eval o env:=by
 unfold baseE at h
 split at h
 .rfl
 .rfl
 .cases h
structure XH(X:Cx)(c:CC):Prop where
 hN:X.N=c.N
 nd:c.N.Nodup
 vis:∀x,visK (c.names.lookup x)=true->Vis X.env.scope x
 loc:∀x,locK c.fnAll (c.names.lookup x)=true->Loc X.env.scope x/\(X.fn x=true\/X.env.scope.names.lookup x=some .local)
 gl:∀x,c.names.lookup x=some .globalImplicit->Gl X x
 mgs:∀x v,PySem.W.nsIn X.K mainGlobals x=some (some v)->X.mg x=some v
 mgn:∀x,PySem.W.nsIn X.K mainGlobals x=some none->X.mg x=none
 un:X.A.units+70<cLine
noncomputable def mE(K:vga)(C:Addr)(kb:Option (List Bool))(c:CC):Nat->List (Option MV)->Expr->Option MV
 |0,_,_=>none
 |n+1,ρ,e=>match e with
  |.Name x _=>if okN x&&visK (c.names.lookup x)then(match zbl c.N x 0 with
   |some i=>(ρ[i]?).join
   |none=>none)else none
  |.Constant k _ _=>(match k with
   |.bool b=>some (.bl b)
   |.int i=>some (.int i)
   |.str x=>some (.str x)
   |_=>none)
  |.List es _=>(mapO (mE K C kb c n ρ) es).bind mList
  |.BinOp a o b _=>(match o with
   |.Add=>(match mE K C kb c n ρ a,mE K C kb c n ρ b with
    |some x,some y=>mAdd x y
    |_,_=>none)
   |_=>none)
  |.Call fn args kw pos=>(match kw with
   |[]=>(match fn with
    |.Name f _=>(match args with
    |[a]=>if f==("_law_kinds" : Str)&&c.names.lookup f==some .globalImplicit then(match mE K C kb c n ρ a with
     |some .exc=>kb.map .bls
     |_=>none)else none
    |[a,b]=>(match nmE b with
     |some t=>if f==("isinstance" : Str)&&zds K c f then(match mE K C kb c n ρ a,clsN K c t.1 with
      |some .exc,some v=>(PySem.W.kitOne K (.ref C) v.1).map .bl
      |_,_=>none)else none
     |none=>none)
    |_=>none)
    |.Attribute o m ap=>(match oneOf args with
    |some a=>if baseE o&& (ap.endLine==pos.line)then(match mE K C kb c n ρ o,mE K C kb c n ρ a with
     |some x,some y=>mMeth m x y
     |_,_=>none)else none
    |none=>none)
    |_=>none)
   |_=>none)
  |.Subscript a b _=>if zc8 b then(match mE K C kb c n ρ a,mE K C kb c n ρ b with
   |some (.sts xs),some (.int i)=>(atI xs i).map .str
   |_,_=>none)else none
  |_=>none
noncomputable def spK(C:Addr)(kb:Option (List Bool)):List V->Hp->VK->Prop:=λvs H Q=>∃a bs,vs=[.ref a]/\Err C a H/\kb=some bs/\∀v H',Hx H H'->MRep C H' v (.bls bs)->Q v H'
structure XK1(X:Cx)(C:Addr)(kb:Option (List Bool))(k:Nat):Prop where
 ex:XL.ExcI X.K C
 kinds:kb.isSome=true->∃f fd ps,X.mg "_law_kinds" = some (.ref f)/\FnOkH X.prog X.w X.K X.mg X.base k f fd ps (spK C kb)/\PySem.W.keepIn X.K (.ref f)=true/\Binds X.K fd ps []/\RoomH k X.A
section
variable{X:Cx}{C:Addr}{kb:Option (List Bool)}{c:CC}{k:Nat}
theorem zgn{n:Nat}(h:Nat.ble n 1000=true):n<=sizeLine:=vdr (zed (va5 h))
theorem ms_ok{n:Nat}{ρ:List (Option MV)}(ih:∀(e:Expr) (m:MV),mE X.K C kb c n ρ e=some m->PE X e (tM C ρ m)/\zau e=true):∀{es:List Expr} {ms:List MV},mapO (mE X.K C kb c n ρ) es=some ms->PA X es (tMs C ρ ms)
 |[],_,h=>by cases h;exact zw8
 |e::es,ms,h=>by
  unfold mapO at h
  split at h
  .rename_i b hb
   split at h
   .rename_i bs hbs
    cases h
    obtain⟨h1,h2⟩:=ih e b hb
    exact zth h1 (ms_ok ih hbs) h2
   .cases h
  .cases h
theorem ztj(O:XH X c){t:Str}{v:Value×V}(h:clsN X.K c t=some v):tyVal v.2=some v.1/\PE X (.Name t p) (tC v.2):=by
 unfold clsN at h
 split at h
 .rename_i hc
  rw[vaa]at hc
  obtain⟨n1,n2,n3⟩:=za9 hc.1
  have hg:Gl X t:=O.gl t (by simpa using hc.2)
  split at h
  .rename_i D hD
   cases h
   exact⟨rfl,zk5 hg (O.mgs t _ hD) rfl n1⟩
  .rename_i hD
   split at h
   .rename_i ht
    cases h
    have ht:t = "ValueError":=by simpa using ht
    subst ht
    exact⟨rfl,zk6 hg (O.mgn _ hD) (u:=.type "ValueError") (by first|rfl|decide +kernel) rfl n3 n1⟩
   .cases h
  .cases h
 .cases h
theorem mE_ok(O:XH X c)(K1:XK1 X C kb k):∀(n:Nat) (ρ:List (Option MV)) (e:Expr) (m:MV),mE X.K C kb c n ρ e=some m->PE X e (tM C ρ m)/\zau e=true
 |0,_,_,_,h=>by cases h
 |n+1,ρ,e,m,h=>by
  have ih:=mE_ok O K1 n ρ
  have hu:X.A.in1.units+64<cLine:=by have:=O.un;show X.A.units+1+64<_;omega
  unfold mE at h
  split at h
  .rename_i x p
   split at h
   .rename_i hc
    rw[vaa]at hc
    obtain⟨n1,n2,n3⟩:=za9 hc.1
    split at h
    .rename_i i hi
     cases q:ρ[i]? with
     |none=>rw[q]at h;cases h
     |some o=>
      rw[q]at h
      have h:o=some m:=h
      subst h
      exact⟨m_var (by rw[O.hN];exact zcl hi) (O.vis x hc.2) n1 n2 q,rfl⟩
    .cases h
   .cases h
  .refine⟨?_,rfl⟩
   split at h<;>cases h
   .exact pe_bl.imp λσ H Q ⟨_,k⟩=>k _ H .refl rfl
   .exact zqj.imp λσ H Q ⟨_,k⟩=>k _ H .refl rfl
   .exact zk4.imp λσ H Q ⟨_,k⟩=>k _ H .refl rfl
  .refine⟨?_,rfl⟩
   rename_i es p
   cases q:mapO (mE X.K C kb c n ρ) es with
   |none=>rw[q]at h;cases h
   |some ms=>
    rw[q]at h
    have h:mList ms=some m:=h
    have ha:=ms_ok ih q
    unfold mList at h
    split at h
    .rename_i hz
     split at h
     .rename_i bs hb
      cases h
      have:=zhs hb
      subst this
      exact m_bls ha (by have:=zgn hz;rwa [vaf]at this)
     .cases q2:texts ms with
      |none=>rw[q2]at h;cases h
      |some xs=>
       rw[q2]at h
       cases h
       have:=zht q2
       subst this
       exact m_sts ha (by have:=zgn hz;rwa [vaf]at this)
    .cases h
  .split at h
   .refine⟨?_,rfl⟩
    split at h
    .rename_i x y hx hy
     unfold mAdd at h
     split at h
     .split at h
      .rename_i hz;cases h;exact m_cat (ih _ _ hx).1 (ih _ _ hy).1 (zgn hz)
      .cases h
     .split at h
      .rename_i hz;cases h;exact zw9 (ih _ _ hx).1 (ih _ _ hy).1 (zgn hz)
      .cases h
     .cases h
    .cases h
   .cases h
  .rename_i fn args kw pos
   split at h
   .split at h
    .refine⟨?_,rfl⟩
     rename_i f p
     split at h
     .rename_i a
      split at h
      .rename_i hc
       rw[vaa]at hc
       have hf:f = "_law_kinds":=by simpa using hc.1
       subst hf
       split at h
       .rename_i hx
        obtain⟨h1,h2⟩:=ih _ _ hx
        cases hkb:kb with
        |none=>rw[hkb]at h;cases h
        |some bs=>
         rw[hkb]at h
         cases h
         obtain⟨fa,fd,ps,g1,g2,g3,g4,g5⟩:=K1.kinds (by rw[hkb];rfl)
         refine(zjl g2 g5 (O.gl _ (by simpa using hc.2)) g1 g3 g4 (zbc h1 zb6 (zad h2)) (by decide +kernel) (zad h2) rfl).imp λσ H Q ⟨en,k⟩=>⟨en,λv H1 k1 ⟨x,e1,q1⟩=>⟨x,bs,by rw[e1],q1,hkb,λw H2 k2 r2=>k w H2 (k1.trans k2) r2⟩⟩
       .cases h
      .cases h
     .rename_i a b
      split at h
      case h_2=>cases h
      rename_i t ht
      rw[zfi ht]
      split at h
      .rename_i hc
       rw[vaa]at hc
       have hf:f = "isinstance":=by simpa using hc.1
       subst hf
       have hab:=hc.2
       unfold zds at hab
       rw[vaa]at hab
       split at h
       .rename_i v hx hv
        obtain⟨h1,h2⟩:=ih _ _ hx
        obtain⟨c1,c2⟩:=ztj (p:=t.2) O hv
        cases q:PySem.W.kitOne X.K (.ref C) v.1 with
        |none=>rw[q]at h;cases h
        |some b=>
         rw[q]at h
         cases h
         refine m_isE c1 c2 h1 h2 (O.gl _ (by simpa using hab.1)) (O.mgn _ ?_) K1.ex q
         have h3:=hab.2
         split at h3
         .assumption
         .cases h3
       .cases h
      .cases h
     .cases h
    .refine⟨?_,rfl⟩
     rename_i o mth ap
     split at h
     case h_2=>cases h
     rename_i a ha
     rw[zbi ha]
     split at h
     .rename_i hc
      rw[vaa]at hc
      split at h
      .rename_i x y hx hy
       obtain⟨h1,_⟩:=ih _ _ hx
       obtain⟨h2,h3⟩:=ih _ _ hy
       unfold mMeth at h
       split at h
       .split at h
        .rename_i hm
         have hm:mth = "count":=by simpa using hm
         subst hm
         cases h
         exact m_cnt hu h1 h2 h3 (zjq hc.1) hc.2
        .split at h
         .rename_i hm
          have hm:mth = "index":=by simpa using hm
          subst hm
          split at h
          .rename_i j hj
           split at h
           .rename_i hz
            cases h
            exact m_ind hu h1 h2 h3 (zjq hc.1) hc.2 hj (by have:=va5 hz;omega)
           .cases h
          .cases h
         .cases h
       .cases h
      .cases h
     .cases h
    .cases h
   .cases h
  .refine⟨?_,rfl⟩
   split at h
   .rename_i hb
    split at h
    .rename_i xs i hx hy
     cases q:atI xs i with
     |none=>rw[q]at h;cases h
     |some z=>
      rw[q]at h
      cases h
      exact m_sub (ih _ _ hx).1 (ih _ _ hy).1 (zfj hb) q
    .cases h
   .cases h
  .cases h
end
noncomputable def orAll:List Bool->Bool
 |[]=>false
 |b::r=>b||orAll r
noncomputable def zrj:Expr->Bool
 |.Constant (.int _) _ _=>true
 |_=>false
noncomputable def mT(K:vga)(C:Addr)(kb:Option (List Bool))(c:CC):Nat->List (Option MV)->Expr->Option Bool
 |0,_,_=>none
 |n+1,ρ,e=>match e with
  |.UnaryOp o a _=>(match o with
   |.Not=>(mT K C kb c n ρ a).map (!·)
   |_=>none)
  |.Compare a Os bs _=>(match Os,bs with
   |[O],[b]=>(match O with
   |.NotEq=>if zrj b then(match mE K C kb c n ρ a,mE K C kb c n ρ b with
    |some (.int i),some (.int j)=>some (!decide (V.int i=V.int j))
    |_,_=>none)else none
   |_=>none)
   |_,_=>none)
  |.Call f as ks p=>(match mE K C kb c n ρ (.Call f as ks p)with
   |some (.bl b)=>some b
   |_=>none)
  |.BoolOp o es _=>(match o with
   |.Or=>if es.isEmpty then none else(mapO (mT K C kb c n ρ) es).map orAll
   |.And=>none)
  |_=>none
section
variable{X:Cx}{C:Addr}{kb:Option (List Bool)}{c:CC}{k:Nat}
theorem zm9{n:Nat}{ρ:List (Option MV)}(ih:∀(e:Expr) (b:Bool),mT X.K C kb c n ρ e=some b->PT X e (tMT C ρ b)):∀{es:List Expr} {bs:List Bool},mapO (mT X.K C kb c n ρ) es=some bs->es≠[]->PW X (.BoolOp .Or es pos) (tMT C ρ (orAll bs))
 |[],_,_,h=>absurd rfl h
 |e::es,bs,h,_=>by
  unfold mapO at h
  split at h
  .rename_i b hb
   split at h
   .rename_i bs' hbs
    cases h
    cases es with
    |nil=>
     cases hbs
     rw[orAll,orAll,Bool.or_false]
     exact zxc (ih e b hb)
    |cons e2 es=>exact mw_or (ih e b hb) (zm9 ih hbs (by simp))
   .cases h
  .cases h
theorem mT_ok(O:XH X c)(K1:XK1 X C kb k):∀(n:Nat) (ρ:List (Option MV)) (e:Expr) (b:Bool),mT X.K C kb c n ρ e=some b->PT X e (tMT C ρ b)
 |0,_,_,_,h=>by cases h
 |n+1,ρ,e,b,h=>by
  have ih:=mT_ok O K1 n ρ
  have ihE:=mE_ok O K1 n ρ
  unfold mT at h
  split at h
  .split at h
   .obtain⟨r,h1,rfl⟩:=map_some h
    exact zxa (ih _ _ h1)
   .cases h
  .split at h
   .split at h
    .split at h
     .rename_i hb
      split at h
      .rename_i i j hx hy
       cases h
       refine mt_ne (ihE _ _ hx).1 (ihE _ _ hy).1 ?_
       unfold zrj at hb
       split at hb
       .rfl
       .cases hb
      .cases h
     .cases h
    .cases h
   .cases h
  .split at h
   .rename_i r hx
    cases h
    exact zxb (ihE _ _ hx).1 λ_=>rfl
   .cases h
  .split at h
   .split at h
    .cases h
    .rename_i hne
     obtain⟨bs,h1,rfl⟩:=map_some h
     exact(zm9 ih h1 (by simpa using hne)).pt
   .cases h
  .cases h
end
noncomputable def mB(K:vga)(C:Addr)(kb:Option (List Bool))(c:CC):Nat->List (Option MV)->List Stmt->Option MV
 |0,_,_=>none
 |n+1,ρ,st=>match st with
  |[]=>none
  |s::rest=>(match s with
   |.Return r _=>(match r,rest with
    |some e,[]=>mE K C kb c n ρ e
    |_,_=>none)
   |.Assign l e _=>(match l with
   |[t]=>(match t with
   |.Name x p=>if zfg e then(match nmIx c (.Name x p),mE K C kb c n ρ e with
    |some i,some m=>if Nat.blt i ρ.length then mB K C kb c n (ρ.set i (some m)) rest else none
    |_,_=>none)else none
   |_=>none)
   |_=>none)
   |.If t a el _=>(match el with
   |[]=>(match mT K C kb c n ρ t with
    |some true=>mB K C kb c n ρ a
    |some false=>mB K C kb c n ρ rest
    |none=>none)
   |_=>none)
   |_=>none)
section
variable{X:Cx}{C:Addr}{kb:Option (List Bool)}{c:CC}{k:Nat}
theorem mB_ok(O:XH X c)(K1:XK1 X C kb k):∀(n:Nat) (ρ:List (Option MV)) (st:List Stmt) (m:MV),mB X.K C kb c n ρ st=some m->PSs X st (tMB C ρ m)
 |0,_,_,_,h=>by cases h
 |n+1,ρ,st,m,h=>by
  unfold mB at h
  split at h
  .cases h
  .split at h
   .split at h
    .exact zxd (mE_ok O K1 n ρ _ _ h).1
    .cases h
   .split at h
    .split at h
     .split at h
      .rename_i hc
       split at h
       .rename_i i m' hi he
        split at h
        .rename_i hl
         simp only[nmIx]at hi
         split at hi
         .rename_i hcc
          rw[vaa]at hcc
          obtain⟨l1,l2⟩:=O.loc _ hcc.2
          exact zxe (by rw[O.hN];exact O.nd) (by rw[O.hN];exact zcl hi) l1 (mE_ok O K1 n ρ _ _ he).1 l2 (zaq.mp hl) (zgf hc) (mB_ok O K1 n _ _ _ h)
         .cases hi
        .cases h
       .cases h
      .cases h
     .cases h
    .cases h
   .split at h
    .split at h
     .rename_i ht
      exact zxg (mT_ok O K1 n ρ _ _ ht) (mB_ok O K1 n _ _ _ h)
     .rename_i ht
      exact zxf (mT_ok O K1 n ρ _ _ ht) (mB_ok O K1 n _ _ _ h)
     .cases h
    .cases h
   .cases h
end
noncomputable def spM(C:Addr)(m:MV):List V->Hp->VK->Prop:=λvs H Q=>∃a,vs=[.ref a]/\Err C a H/\∀v H',Hx H H'->MRep C H' v m->Q v H'
noncomputable def cH(K:vga)(C:Addr)(kb:Option (List Bool))(n:Nat)(x:Str):Option MV:=match fnAt K x with
 |some (f,o,fd)=>(match za2 fd.params,zep fd.body with
  |some args,some body=>if(fd.name==nmOf x&&fd.qualname==x&&Nat.beq fd.globals mainGlobals&&fd.closure.isEmpty&& (isNone fd.defaults||noneD K fd.defaults && !args.isEmpty)&&Nat.beq fd.builtins builtinsNs&&PySem.W.codeIn K fd.code x&&PySem.W.keepIn K (.ref f) &&
   zdc (za0 (args.map (·.arg)) fd.scope) (args.map (·.arg)) fd.scope)&&Nat.beq args.length 1 then
   mB K C kb ⟨za0 (args.map (·.arg)) fd.scope,fd.scope.names,true⟩ n (some .exc::vgc ((za0 (args.map (·.arg)) fd.scope).length-1) none) body
   else none
  |_,_=>none)
 |none=>none
theorem xh_ok{P:Program}{w:World}{K:vga}{mg:Str->Option Value}{base:Heap}{k:Nat}(KX:K.In base)(G:base.Ns mainGlobals mg){x:Str}{sc:Scope}{f:Addr}{N ps:List Str}(S:FnScope N ps sc)
 (cdv:Value) (A:Around) (outer:List Env) (s:Shared) (H:Hp) (hr:RoomH k (A.deeper (envOfC x sc s.heap.objs.size f cdv))):XH (cxH P w K mg base N x sc f cdv A outer s H) ⟨N,sc.names,true⟩:=by
 refine⟨rfl,S.nd,λy hy=>?_,λy hy=>?_,λy hy=>hy,λy v hv=>vea KX G hv,λy hv=>PySem.W.mg_none_of KX G hv,?_⟩
 .have hy:visK (sc.names.lookup y)=true:=hy
  cases z:sc.names.lookup y with
  |none=>rw[z]at hy;cases hy
  |some kd=>cases kd<;>first|exact .inl z|exact .inr (.inl z)|exact .inr (.inr z)|(rw[z]at hy;cases hy)
 .have hy:locK true (sc.names.lookup y)=true:=hy
  cases z:sc.names.lookup y with
  |none=>rw[z]at hy;cases hy
  |some kd=>cases kd<;>first|exact⟨.inl z,.inl rfl⟩|exact⟨.inr z,.inl rfl⟩|(rw[z]at hy;cases hy)
 .have:=hr.un
  show(A.deeper (envOfC x sc s.heap.objs.size f cdv)).units+70<cLine
  omega
theorem cH_ok{P:Program}{w:World}{K:vga}{mg:Str->Option Value}{base:Heap}{C:Addr}{kb:Option (List Bool)}{n k:Nat}{x:Str}{m:MV}(KX:K.In base)(G:base.Ns mainGlobals mg)(h:cH K C kb n x=some m)(ex:XL.ExcI K C)
 (hk:kb.isSome=true->∃f fd ps,mg "_law_kinds" = some (.ref f)/\FnOkH P w K mg base k f fd ps (spK C kb)/\PySem.W.keepIn K (.ref f)=true/\Binds K fd ps []) :
 ∃f fd ps,refAt K x=some f/\FnOkH P w K mg base (k+1) f fd ps (spM C m)/\PySem.W.keepIn K (.ref f)=true/\Binds K fd ps []:=by
 unfold cH at h
 split at h
 .rename_i f o fd hf
  split at h
  .rename_i args body ha hb
   split at h
   .rename_i hc
    rw[vaa]at hc
    obtain⟨hc,h1⟩:=hc
    rw[vaa,vaa,vaa,vaa,vaa,vaa,vaa,vaa]at hc
    obtain⟨⟨⟨⟨⟨⟨⟨⟨c1,c2⟩,c3⟩,c4⟩,c5⟩,c6⟩,c7⟩,c8⟩,c9⟩:=hc
    obtain⟨S,nd⟩:=zdd c9
    obtain⟨hn,oc,od,sl,lk⟩:=zhq hf
    obtain⟨dx,ef⟩:=ziy c1 c2 c3 c4 c6 ha hb
    have hl:(args.map (·.arg)).length=1:=by rw[vaf];exact vcg h1
    have lk':=lk
    rw[ef]at lk'
    refine⟨f,fd,args.map (·.arg),hn,?_,c8,(zgl ef nd rfl c5).1⟩
    rw[ef]
    refine fnH (K:=K) (N:=za0 (args.map (·.arg)) fd.scope) lk' c7 S (λvs H Q ⟨a,e,_⟩=>by rw[e,hl];rfl) λA outer s H vs Q hr hq0=>?_
    obtain⟨a,e,q1,q2⟩:=hq0
    have O:=xh_ok (P:=P) (w:=w) (mg:=mg) (base:=base) KX G (x:=x) (f:=f) S fd.code A outer s H hr
    have K1:XK1 (cxH P w K mg base (za0 (args.map (·.arg)) fd.scope) x fd.scope f fd.code A outer s H) C kb k:=⟨ex,λz=>let⟨g,gd,qs,a1,a2,a3,a4⟩:=hk z;⟨g,gd,qs,a1,a2,a3,a4,hr⟩⟩
    refine⟨_,mB_ok O K1 n _ body m h,?_,q2⟩
    subst e
    intro i mv hi
    cases i with
    |zero=>
     cases hi
     exact⟨.ref a,by unfold L2.start;rfl,a,rfl,q1⟩
    |succ i=>
     rw[vax,vc9]at hi
     split at hi<;>cases hi
   .cases h
  .cases h
 .cases h
noncomputable def varIx(C:CC):Expr->Option Nat
 |.Name x _=>if okN x&&visK (C.names.lookup x)then zbl C.N x 0 else none
 |_=>none
theorem zd3(O:XH X c){x:Str}{i:Nat}(h:varIx c (.Name x p)=some i):PE X (.Name x p) (tVar i):=by
 unfold varIx at h
 simp only at h
 split at h
 .rename_i hc
  rw[vaa]at hc
  exact zi8 (by rw[O.hN];exact zcl h) (O.vis _ hc.2) (za9 hc.1).1 (za9 hc.1).2.1
 .cases h
structure AsgQ where
 a:Str×Pos
 f:Str
 fp:Pos
 b:Str×Pos
 p:Pos
noncomputable def attE:Expr->Option (Expr×Str×Pos)
 |.Attribute o f p=>some (o,f,p)
 |_=>none
theorem ztk{q:Expr×Str×Pos}(h:attE e=some q):e=.Attribute q.1 q.2.1 q.2.2:=by
 unfold attE at h
 split at h
 .cases h;rfl
 .cases h
noncomputable def asgOf:Stmt->Option AsgQ
 |.Assign ts e p=>(match(oneOf ts).bind attE,nmE e with
  |some t,some b=>(nmE t.1).map λa=>⟨a,t.2.1,t.2.2,b,p⟩
  |_,_=>none)
 |_=>none
theorem zjr{s:Stmt}{q:AsgQ}(h:asgOf s=some q):s=.Assign [.Attribute (.Name q.a.1 q.a.2) q.f q.fp] (.Name q.b.1 q.b.2) q.p:=by
 unfold asgOf at h
 split at h
 .split at h
  .rename_i t b h1 h2
   obtain⟨a,h3,rfl⟩:=mapS h
   obtain⟨z,h4,h5⟩:=bindS h1
   rw[zbi h4,ztk h5,zfi h3,zfi h2]
  .cases h
 .cases h
noncomputable def iniB(K:vga)(D:Addr)(C:CC):List Stmt->Bool
 |[s,t]=>(match asgOf s,asgOf t with
  |some x,some y=>varIx C (.Name x.a.1 x.a.2)==some 0&&varIx C (.Name x.b.1 x.b.2)==some 1&&varIx C (.Name y.a.1 y.a.2)==some 0&&varIx C (.Name y.b.1 y.b.2)==some 2&&zek K D x.f&&zek K D y.f
  |_,_=>false)
 |_=>false
noncomputable def isBn(o:Option (Option Value))(s:String):Bool:=match o with
 |some (some (.builtin b))=>b==s
 |_=>false
theorem zna{o:Option (Option Value)}{s:String}(h:isBn o s=true):o=some (some (.builtin s)):=by
 unfold isBn at h
 split at h
 .rename_i b;rw[show b=s by simpa using h]
 .cases h
noncomputable def excKB(K:vga)(C:Addr):Bool:=(PySem.W.clsIn K C).any (λcd=>XL.onlyVE cd.mro)&&isBn (PySem.W.findIn K (.ref C) "__getattribute__") "BaseException.__getattribute__" && zek K C "__getattr__" && isBn (PySem.W.findIn K (.ref C) "__setattr__") "object.__setattr__" && PySem.W.hasDictIn K C
theorem zpz{K:vga}{C:Addr}(h:excKB K C=true):XL.ExcK K C:=by
 unfold excKB at h
 simp only[vaa]at h
 obtain⟨⟨⟨⟨h1,h2⟩,h3⟩,h4⟩,h5⟩:=h
 exact⟨h1,zna h2,zda h3,zna h4,h5⟩
noncomputable abbrev iniX:Str:="Fault.__init__"
noncomputable def iniFd(K:vga)(D f:Addr)(fd:FuncData):Bool:=match za2 fd.params,zep fd.body with
 |some args,some body=>(fd.name==nmOf iniX&&fd.qualname==iniX&&Nat.beq fd.globals mainGlobals&&fd.closure.isEmpty&& (isNone fd.defaults||noneD K fd.defaults && !args.isEmpty)&&Nat.beq fd.builtins builtinsNs&&PySem.W.codeIn K fd.code iniX&&PySem.W.keepIn K (.ref f) &&
  zdc (za0 (args.map (·.arg)) fd.scope) (args.map (·.arg)) fd.scope)&& (Nat.beq args.length 3&&iniB K D ⟨za0 (args.map (·.arg)) fd.scope,fd.scope.names,true⟩ body)
 |_,_=>false
noncomputable def iniAt(K:vga)(D:Addr):Option Addr:=match PySem.W.findIn K (.ref D) "__init__"with
 |some (some (.ref f))=>(match K.lookup f with
  |some o=>(match o.data with
   |.func fd=>if iniFd K D f fd&&XL.excCls K D&&PySem.W.isFn K (.ref f)&&PySem.W.keepIn K (.ref D)&&excKB K D then some f else none
   |_=>none)
  |none=>none)
 |_=>none
noncomputable abbrev Ini(P:Program)(w:World)(K:vga)(mg:Str->Option Value)(base:Heap)(D f:Addr):Prop:=∃fd ps,MkI K D f/\FnOkH P w K mg base 1 f fd ps (spI D)/\Binds K fd ps []
theorem zp0{D:Addr}{a:Addr}{x y:V}{Q:VK}{r:L2.St}(O:XH X c)(ex:XL.ExcK X.K D)(h:iniB X.K D c body=true)(ha:H a=some (excH D none a))
 (k:∀dx fs H',H dx=none->H' a=some (excH D (some dx) a)->H' dx=some (xdH fs dx)->(∀b o,b≠a->H b=some o->H' b=some o)->Q .non H') :
 ∃t,PSs X body t/\t {nx:=λ_ H'=>Q .non H',rt:=Q} (some (.ref a)::some x::some y::r) H:=by
 unfold iniB at h
 split at h
 case h_2=>cases h
 split at h
 .rename_i q1 q2
  rw[zjr q1,zjr q2]
  simp only[vaa,vcr]at h
  obtain⟨⟨⟨⟨⟨h1,h2⟩,h3⟩,h4⟩,h5⟩,h6⟩:=h
  refine⟨_,zcg (zl5 (zd3 O h1) (zd3 O h2) rfl) (zf1 (zl5 (zd3 O h3) (zd3 O h4) rfl)),?_⟩
  refine⟨x,rfl,_,rfl,a,D,rfl,ex,zda h5,.inl ⟨ha,λdx hdx=>?_⟩⟩
  have hne:dx≠a:=λz=>by rw[z,ha]at hdx;cases hdx
  refine⟨y,rfl,_,rfl,a,D,rfl,ex,zda h6,.inr ⟨dx,_,zai,(by rw[zaf hne,zai]),(by show 1<1000;decide),?_⟩⟩
  refine k dx _ _ hdx (by rw[zaf (vbz hne),zai]) zai λb o hb e=>?_
  have hbd:b≠dx:=zag e hdx
  rw[zaf hbd,zaf hb,zaf hbd]
  exact e
 .cases h
theorem zxh{P:Program}{w:World}{K:vga}{mg:Str->Option Value}{base:Heap}{D f:Addr}(KX:K.In base)(G:base.Ns mainGlobals mg)(h:iniAt K D=some f):Ini P w K mg base D f:=by
 unfold iniAt at h
 split at h
 case h_2=>cases h
 rename_i g hi
 split at h
 case h_2=>cases h
 rename_i o ho
 split at h
 case h_2=>cases h
 rename_i fd hd
 split at h
 case isFalse=>cases h
 rename_i hc
 cases h
 simp only[vaa]at hc
 obtain⟨⟨⟨⟨hq,h1⟩,h2⟩,h3⟩,h4⟩:=hc
 unfold iniFd at hq
 split at hq
 case h_2=>cases hq
 rename_i args body ha hb
 rw[vaa]at hq
 rw[vaa (Nat.beq _ _)]at hq
 obtain⟨hc,hl,hB⟩:=hq
 rw[vaa,vaa,vaa,vaa,vaa,vaa,vaa,vaa]at hc
 obtain⟨⟨⟨⟨⟨⟨⟨⟨c1,c2⟩,c3⟩,c4⟩,c5⟩,c6⟩,c7⟩,c8⟩,c9⟩:=hc
 obtain⟨S,nd⟩:=zdd c9
 obtain⟨dx,ef⟩:=ziy c1 c2 c3 c4 c6 ha hb
 have hl:(args.map (·.arg)).length=3:=by rw[vaf];exact vcg hl
 have lk':K.lookup f=some ⟨o.cls,o.dict,.func fd,o.slots⟩:=by rw[<-hd];exact ho
 rw[ef]at lk'
 refine⟨fd,args.map (·.arg),⟨h1,hi,h2,h3⟩,?_,(zgl ef nd rfl c5).1⟩
 rw[ef]
 refine fnH (K:=K) (N:=za0 (args.map (·.arg)) fd.scope) lk' c7 S (λvs H Q ⟨a,x,y,e,_⟩=>by rw[e,hl];rfl) λA outer s H vs Q hr hq0=>?_
 obtain⟨a,x,y,e,q1,q2⟩:=hq0
 have O:=xh_ok (P:=P) (w:=w) (mg:=mg) (base:=base) KX G (x:=iniX) (f:=f) S fd.code A outer s H hr
 subst e
 exact zp0 O (zpz h4) hB q1 q2
noncomputable def mkEB(K:vga)(D:Addr):Bool:=XL.excCls K D&& (match PySem.W.findIn K (.ref D) "__init__"with
 |some (some (.builtin b))=>b == "ValueError.__init__"
 |_=>false)&&PySem.W.keepIn K (.ref D)
theorem ztl{K:vga}{D:Addr}(h:mkEB K D=true):MkE K D:=by
 unfold mkEB at h
 rw[vaa,vaa]at h
 obtain⟨⟨h1,h2⟩,h3⟩:=h
 refine⟨h1,?_,h3⟩
 split at h2
 .rename_i b e
  rw[e,show b = "ValueError.__init__" by simpa using h2]
 .cases h2
noncomputable def excAt(K:vga)(C:CC)(x:Str):Option Addr:=if okN x&&C.names.lookup x==some .globalImplicit then(match PySem.W.nsIn K mainGlobals x with
 |some (some (.ref D))=>if mkEB K D then some D else none
 |_=>none)else none
noncomputable def fltAt(K:vga)(C:CC)(x:Str):Option (Addr×Addr):=if okN x&&C.names.lookup x==some .globalImplicit then(match PySem.W.nsIn K mainGlobals x with
 |some (some (.ref D))=>(iniAt K D).map λf=>(D,f)
 |_=>none)else none
noncomputable def telAt(R:RX)(C:CC)(x:Str):Option Nat:=if okN x&&C.names.lookup x==some .globalImplicit then zbl R.tel x 0 else none
noncomputable def telOf(R:RX)(C:CC)(e:Expr):Option (CallQ×Nat):=match zem e with
 |some q=>if q.args.isEmpty then none else(telAt R C q.f).map λj=>(q,j)
 |none=>none
theorem zjs{R:RX}{q:CallQ×Nat}(h:telOf R C e=some q):telAt R C q.1.f=some q.2/\∃a as,q.1.args=a::as/\e=.Call (.Name q.1.f q.1.p) (a::as) [] q.1.cp:=by
 unfold telOf at h
 split at h
 .rename_i c hc
  split at h
  .cases h
  .rename_i hne
   obtain⟨j,h1,rfl⟩:=mapS h
   have g:=zbx hc
   cases ha:c.args with
   |nil=>rw[ha]at hne;exact absurd rfl hne
   |cons a as=>rw[ha]at g;exact⟨h1,a,as,rfl,g⟩
 .cases h
noncomputable def notE':Expr->Option (Expr×Pos)
 |.UnaryOp o e p=>(match o with
  |.Not=>some (e,p)
  |_=>none)
 |_=>none
theorem zp1{q:Expr×Pos}(h:notE' e=some q):e=.UnaryOp .Not q.1 q.2:=by
 unfold notE' at h
 split at h
 .split at h
  .cases h;rfl
  .cases h
 .cases h
noncomputable def znb(K:vga)(T:List Str)(d:Nat)(C:CC)(q:CallQ):Option S:=match q.args with
 |[]=>(excAt K C q.f).map λD=>.ret (.cst (.int (D:Nat)))
 |[e1,e2]=>(match fltAt K C q.f,cE K T d C e1,cE K T d C e2 with
  |some Df,some a,some b=>some (.seq (.expr (.cons a (.cons b .nil))) (.ret (.cst (.int (Df.1:Nat)))))
  |_,_,_=>none)
 |_=>none
noncomputable def cX(K:vga)(T:List Str)(R:RX)(d:Nat):Nat->CC->Stmt->Option S
 |0,_,_=>none
 |n+1,C,s=>match s with
  |.Raise x none _=>(match x.bind zem with
   |some q=>znb K T d C q
   |none=>none)
  |.Return (some e) _=>(cE K T d C e).map λa=>.ret (.tup (.cons a .nil))
  |.If c a b _=>(match cSs (cX K T R d n C) a,cSs (cX K T R d n C) b with
   |some x,some y=>(match(notE' c).bind λq=>telOf R C q.1 with
    |some q=>(cL (cE K T d C) q.1.args).map λz=>.tel (R.at_+q.2) z true x y
    |none=>(cT K T d C c).map λz=>.ite z x y)
   |_,_=>none)
  |.Expr e _=>(match telOf R C e with
   |some q=>(cL (cE K T d C) q.1.args).map λa=>.tel (R.at_+q.2) a false .skip .skip
   |none=>if zfg e then(cE K T d C e).map .expr else none)
  |.For tg it b [] _=>(match cW K T d C it,cTg C tg,cSs (cX K T R d n C) b with
   |some (kd,a),some t,some x=>if okW kd tg then some (.for kd a t x)else none
   |_,_,_=>none)
  |s=>(match cS K T R d (n+1) C s with
   |some c=>if noRet c then some c else none
   |none=>none)
theorem zp2:exs cl (.ret (.tup (.cons a .nil)))=λρ h=>(ev cl a ρ h).bind λw h=>.ok (.rt (.tup [w])) h:=by
 funext ρ h
 simp only[exs,ev]
 cases ev cl a ρ h<;>rfl
theorem ztm{D:Nat}:exs cl (.seq (.expr (.cons a (.cons b .nil))) (.ret (.cst (.int D))))=λρ h=>(ev cl (.cons a (.cons b .nil)) ρ h).bind λy h=>match y with|.tup [_,_]=>.ok (.rt (.int D)) h|_=>.no:=by
 funext ρ h
 simp only[exs,ev]
 cases ev cl a ρ h with
 |ok x h1=>
  simp only[Res.bind]
  cases ev cl b ρ h1<;>rfl
 |_=>rfl
section
variable{X:Cx}{E:XK}{C:CC}{T:List Str}{R:RX}{F:Nat->Option Fn}{k d:Nat}
theorem zbo{f:Stmt->Option S}(ih:∀st c,f st=some c->SX X E st (exs cl c)):∀{sts:List Stmt} {c:S},cSs f sts=some c->SXs X E sts (exs cl c)
 |[],_,h=>by cases h;exact zmq
 |s::r,c,h=>by
  unfold cSs at h
  split at h
  .rename_i a b ha hb
   cases h
   exact zji (ih s a ha) (zbo ih hb)
  .cases h
theorem znc(O:XOk X.nox C T R F k){x:Str}{j:Nat}(h:telAt R C x=some j):∃g fd ps,FnOk X.prog X.w X.K X.mg X.base (CX1 X.prog X.w) k g fd ps (spX X.K ps.length (run F k (R.at_+j)))/\Gl X x/\X.mg x=some (.ref g)/\PySem.W.keepIn X.K (.ref g)=true/\Binds X.K fd ps []/\(∀ws h w h',run F k (R.at_+j) ws h=.ok w h'->ws.length=ps.length)/\(x==("__debug__" : Str))=false:=by
 unfold telAt at h
 split at h
 .rename_i hc
  simp only[vaa,vcr]at hc
  obtain⟨c1,c2⟩:=hc
  obtain⟨g,fd,ps,fn,q1,q2,q3,q4,q5,q6⟩:=O.rs j x (zcl h)
  exact⟨g,fd,ps,q2,O.gl x c2,O.mgs x _ (zb2 q1),q3,q4,λws h w h' e=>by rw[zc9 q5 e,q6],(za9 c1).1⟩
 .cases h
theorem znd(O:XOk X.nox C T R F k)(fl:Fly X E)(hi:∀D f,iniAt X.K D=some f->Ini X.prog X.w X.K X.mg X.base D f){q:CallQ}(h:znb X.K T d C q=some c):SX X E (.Raise (some (.Call (.Name q.f q.p) q.args [] q.cp)) none pos) (exs (run F k) c):=by
 have Sd:=zcn (T:=T) (F:=F) (k:=k) d O
 unfold znb at h
 split at h
 .rename_i hq
  rw[hq]
  obtain⟨D,h1,rfl⟩:=map_some h
  unfold excAt at h1
  split at h1
  .rename_i hc
   rw[vaa,vcr]at hc
   split at h1
   .rename_i D' hD
    split at h1
    .rename_i hm
     cases h1
     exact zpr fl (ztl hm) O.calm (O.gl q.f hc.2) (O.mgs q.f _ hD) (za9 hc.1).1
    .cases h1
   .cases h1
  .cases h1
 .rename_i e1 e2 hq
  rw[hq]
  split at h
  case h_2=>cases h
  rename_i Df a b hf ha hb
  cases h
  obtain⟨D,f⟩:=Df
  unfold fltAt at hf
  split at hf
  case isFalse=>cases hf
  rename_i hc
  rw[vaa,vcr]at hc
  split at hf
  case h_2=>cases hf
  rename_i D' hD
  obtain⟨f',h1,h2⟩:=map_some hf
  cases h2
  obtain⟨fd,ps,M,G,hbd⟩:=hi _ _ h1
  obtain⟨g1,g2⟩:=cL_ok (es:=[e1,e2]) (c:=.cons a (.cons b .nil)) Sd.e (by simp only[cL,ha,hb])
  rw[ztm]
  exact zm1 fl M G (Room.h2 (k:=k) O.room) hbd O.calm (O.gl q.f hc.2) (O.mgs q.f _ hD) (za9 hc.1).1 g1 g2
 .cases h
theorem snd_x(O:XOk X.nox C T R F k)(tp:XTop X.nox C)(fl:Fly X E)(hi:∀D f,iniAt X.K D=some f->Ini X.prog X.w X.K X.mg X.base D f):∀(n:Nat) (st:Stmt) (c:S),cX X.K T R d n C st=some c->SX X E st (exs (run F k) c)
 |0,_,_,h=>by cases h
 |n+1,st,c,h=>by
  have Sd:=zcn (T:=T) (F:=F) (k:=k) d O
  have ih:=snd_x O tp fl hi n
  unfold cX at h
  split at h
  .split at h
   .rename_i q hq
    obtain⟨e,h1,h2⟩:=bindS hq
    rw[h1,zbx h2]
    exact znd O fl hi h
   .cases h
  .obtain⟨a,h1,rfl⟩:=map_some h
   rw[zp2]
   exact zwz (Sd.e _ _ h1).1
  .split at h
   case h_2=>cases h
   rename_i x y h2 h3
   split at h
   .rename_i q hq
    obtain⟨z,h4,rfl⟩:=map_some h
    obtain⟨e,h5,h6⟩:=bindS hq
    obtain⟨hj,a,as,ha,he⟩:=zjs h6
    rw[zp1 h5,he]
    rw[ha]at h4
    obtain⟨g,fd,ps,q1,q2,q3,q4,q5,q6,q7⟩:=znc O hj
    obtain⟨g1,g2⟩:=cL_ok Sd.e h4
    exact zs8 fl q1 O.room q2 q3 q4 q5 q6 g1 g2 q7 (zbo ih h2) (zbo ih h3)
   .obtain⟨z,h4,rfl⟩:=map_some h
    exact zq8 (PT.nox (Sd.t _ _ h4)) (zbo ih h2) (zbo ih h3)
  .split at h
   .rename_i q hq
    obtain⟨z,h4,rfl⟩:=map_some h
    obtain⟨hj,a,as,ha,he⟩:=zjs hq
    rw[he]
    rw[ha]at h4
    obtain⟨g,fd,ps,q1,q2,q3,q4,q5,q6,q7⟩:=znc O hj
    obtain⟨g1,g2⟩:=cL_ok Sd.e h4
    exact zs7 fl q1 O.room q2 q3 q4 q5 q6 g1 g2 q7
   .split at h
    .rename_i hn
     obtain⟨a,h1,rfl⟩:=map_some h
     exact zjm (zmr (Sd.e _ _ h1).1 hn) rfl
    .cases h
  .rename_i tg it b pos
   split at h
   .rename_i h1 h2 h3
    split at h
    case isFalse=>cases h
    rename_i hw
    cases h
    obtain⟨w1,w2⟩:=Sd.w _ _ _ tg h1 hw
    exact zq9 fl.own O.calm (PI.nox w1) (PG.nox (tg_ok O h2)) (zbo ih h3) w2
   .cases h
  .split at h
   .rename_i c' hc
    split at h
    .rename_i hn
     cases h
     exact zjm (snd_s O tp (n+1) _ _ hc) hn
    .cases h
   .cases h
end
noncomputable abbrev gS(K:vga)(T:List Str)(R:RX)(d n:Nat):CC->List Stmt->Option S:=λC b=>cSs (cS K T R d n C) b
noncomputable abbrev gX(K:vga)(T:List Str)(R:RX)(d n:Nat):CC->List Stmt->Option S:=λC b=>(cSs (cX K T R d n C) b).map λb=>.seq b (.ret (.cst (.tup [.non])))
noncomputable def cF0(K:vga)(T:List Str)(R:RX)(d n:Nat)(x:Str):Option Fn:=if x==("" : Str)then some ⟨0,0,.no⟩else cFg K (gS K T R d n) x
theorem zne{K:vga}{T:List Str}{R:RX}{d n:Nat}{x:Str}{fn:Fn}(h:cF0 K T R d n x=some fn)(hx:x≠""):cFg K (gS K T R d n) x=some fn:=by
 unfold cF0 at h
 rw[if_neg (by simpa using hx)]at h
 exact h
noncomputable def cProg(K:vga)(T:List Str)(R:RX)(d n:Nat):Option (List Fn):=match mapO (cF0 K T R d n) T,mapO (cFg K (gX K T R d n)) R.tel with
 |some a,some b=>if Nat.beq R.at_ T.length then some (a++b)else none
 |_,_=>none
theorem zjt{α β:Type}{f:α->Option β}:∀{l:List α} {r:List β},mapO f l=some r->r.length=l.length
 |[],_,h=>by cases h;rfl
 |x::l,r,h=>by
  unfold mapO at h
  split at h
  .split at h
   .rename_i bs hbs
    cases h
    rw[vai,vai,zjt hbs]
   .cases h
  .cases h
section
variable{K:vga}{T:List Str}{R:RX}{d n:Nat}{Fs:List Fn}
theorem zco(hP:cProg K T R d n=some Fs):(∀(i:Nat) (x:Str),T[i]?=some x->∃fn,Fs[i]?=some fn/\cF0 K T R d n x=some fn)/\∀(j:Nat) (x:Str),R.tel[j]?=some x->∃fn,Fs[R.at_+j]?=some fn/\cFg K (gX K T R d n) x=some fn:=by
 unfold cProg at hP
 split at hP
 .rename_i a b ha hb
  split at hP
  .rename_i hz
   cases hP
   have hl:=zjt ha
   have hz:R.at_=T.length:=vcg hz
   refine⟨λi x e=>?_,λj x e=>?_⟩
   .obtain⟨fn,h1,h2⟩:=zgm ha i x e
    exact⟨fn,by rw[vby (vas.mp h1).1];exact h1,h2⟩
   .obtain⟨fn,h1,h2⟩:=zgm hb j x e
    exact⟨fn,by rw[va4 (by omega),hz,hl,Nat.add_sub_cancel_left];exact h1,h2⟩
  .cases hP
 .cases hP
end
theorem gX_ok{K:vga}{T:List Str}{R:RX}{d n:Nat}{C:CC}{b:List Stmt}{s:S}(h:gX K T R d n C b=some s):∃c,cSs (cX K T R d n C) b=some c/\s=.seq c (.ret (.cst (.tup [.non]))):=by
 obtain⟨c,h1,h2⟩:=map_some h
 exact⟨c,h1,h2⟩
noncomputable def Wd(P:Program)(w:World)(K:vga)(mg:Str->Option Value)(base:Heap)(C:Nat)(z:Str):Prop:=∃f fd ps,mg "_law_word" = some (.ref f)/\FnOkH P w K mg base 2 f fd ps (spWd C z)/\PySem.W.keepIn K (.ref f)=true/\Binds K fd ps []
noncomputable def wordB(K:vga)(C:Nat)(z:Str):Bool:=match cH K C none 60 "_law_kinds"with
 |some (.bls bs)=>(match cH K C (some bs) 60 "_law_word"with
  |some (.str y)=>y==z
  |_=>false)
 |_=>false
theorem _root_.L2.FnOkH.imp{P:Program}{w:World}{K:vga}{mg:Str->Option Value}{base:Heap}{k:Nat}{f:Addr}{fd:FuncData}{ps:List Str}{sp sp':List V->Hp->VK->Prop}(F:FnOkH P w K mg base k f fd ps sp)(h:∀vs H Q,sp' vs H Q->sp vs H Q):FnOkH P w K mg base k f fd ps sp':=
 ⟨λvs H Q q=>F.len _ _ _ (h _ _ _ q),λA o s H args us vs Q hr e hb r q=>F.run A o s H args us vs Q hr e hb r (h _ _ _ q)⟩
theorem wd_ok{P:Program}{w:World}{K:vga}{mg:Str->Option Value}{base:Heap}{C:Nat}{z:Str}(KX:K.In base)(G:base.Ns mainGlobals mg)(h:wordB K C z=true)(ex:XL.ExcI K C):Wd P w K mg base C z:=by
 unfold wordB at h
 split at h
 .rename_i bs h1
  split at h
  .rename_i y h2
   have hy:y=z:=by simpa using h
   subst hy
   obtain⟨f1,fd1,ps1,a1,a2,a3,a4⟩:=cH_ok (P:=P) (w:=w) (k:=0) KX G h1 ex (λz=>nomatch z)
   have a2:FnOkH P w K mg base 1 f1 fd1 ps1 (spK C (some bs)):=a2.imp λvs H Q hq0=>by obtain⟨a,bs',q1,q2,q3,q4⟩:=hq0;cases q3;exact⟨a,q1,q2,q4⟩
   obtain⟨f2,fd2,ps2,b1,b2,b3,b4⟩:=cH_ok (P:=P) (w:=w) (k:=1) KX G h2 ex (λ_=>⟨f1,fd1,ps1,vea KX G (zb2 a1),a2,a3,a4⟩)
   exact⟨f2,fd2,ps2,vea KX G (zb2 b1),b2.imp λvs H Q ⟨a,q1,q2,q3⟩=>⟨a,q1,q2,λv H' k r=>by rw[show v=.str y from r];exact q3 H' k⟩,b3,b4⟩
  .cases h
 .cases h
noncomputable abbrev AF(P:Program)(w:World)(K:vga)(mg:Str->Option Value)(base:Heap)(T:List Str)(Fs:List Fn)(k:Nat):Prop:=∀(i:Nat) (x:Str),T[i]?=some x->x≠""->∃f fd ps fn,refAt K x=some f/\FnOk P w K mg base CX0 k f fd ps (spV K ps.length (run (λi=>Fs[i]?) k i))/\PySem.W.keepIn K (.ref f)=true/\Binds K fd ps []/\Fs[i]?=some fn/\fn.ps=ps.length/\(hasD K x=true->Binds K fd ps [.none])
noncomputable abbrev AR(P:Program)(w:World)(K:vga)(mg:Str->Option Value)(base:Heap)(R:RX)(Fs:List Fn)(k:Nat):Prop:=∀(j:Nat) (x:Str),R.tel[j]?=some x->∃f fd ps fn,refAt K x=some f/\FnOk P w K mg base (CX1 P w) k f fd ps (spX K ps.length (run (λi=>Fs[i]?) k (R.at_+j)))/\PySem.W.keepIn K (.ref f)=true/\Binds K fd ps []/\Fs[R.at_+j]?=some fn/\fn.ps=ps.length
section
variable{P:Program}{w:World}{K:vga}{mg:Str->Option Value}{base:Heap}{T:List Str}{R:RX}{Fs:List Fn}{k d n:Nat}
theorem ziz(KX:K.In base)(G:base.Ns mainGlobals mg){x:Str}{st:Stmt}{f:Addr}{N ps:List Str}(S:FnScope N ps (zal st))(H0:AF P w K mg base T Fs k)(HR:AR P w K mg base R Fs k)(HW:∀C z,(C,z)∈R.tb->Wd P w K mg base C z)
 (cdv:Value) (A:Around) (outer:List Env) (s:Shared) (H:Hp) (E:XK) (hr:Room k (A.deeper (envOfC x (zal st) s.heap.objs.size f cdv))):XOk (cxOf CX0 P w K mg base N x (zal st) f cdv A outer s H E).nox ⟨N,(zal st).names,true⟩ T R (λi=>Fs[i]?) k:=by
 refine⟨rfl,S.nd,λy hy=>?_,λy hy=>?_,λy hy=>hy,λy hy=>hy,rfl,hr,rfl,S.kind,λy v hv=>vea KX G hv,λy hv=>PySem.W.mg_none_of KX G hv,H0,HR,HW⟩
 .have hy:visK ((zal st).names.lookup y)=true:=hy
  cases z:(zal st).names.lookup y with
  |none=>rw[z]at hy;cases hy
  |some kd=>cases kd<;>first|exact .inl z|exact .inr (.inl z)|exact .inr (.inr z)|(rw[z]at hy;cases hy)
 .have hy:locK true ((zal st).names.lookup y)=true:=hy
  cases z:(zal st).names.lookup y with
  |none=>rw[z]at hy;cases hy
  |some kd=>cases kd<;>first|exact⟨.inl z,.inl rfl⟩|exact⟨.inr z,.inl rfl⟩|(rw[z]at hy;cases hy)
theorem znf{CX:CXT}{x:Str}{st:Stmt}{f:Addr}{N:List Str}(cdv:Value)(A:Around)(outer:List Env)(s:Shared)(H:Hp)(E:XK):XTop (cxOf CX P w K mg base N x (zal st) f cdv A outer s H E).nox ⟨N,(zal st).names,true⟩:=
 ⟨rfl,rfl,λ_=>rfl,λy hy=>⟨hy,.inl hy,.inl hy⟩⟩
theorem zng(hP:cProg K T R d n=some Fs)(KX:K.In base)(G:base.Ns mainGlobals mg)(HW:∀C z,(C,z)∈R.tb->Wd P w K mg base C z)(k:Nat):∀(j:Nat),j<=k->AF P w K mg base T Fs j/\AR P w K mg base R Fs j:=by
 induction k with
 |zero=>
  intro j hj
  have:j=0:=Nat.le_zero.mp hj
  subst this
  refine⟨λi x e hx=>?_,λi x e=>?_⟩
  .obtain⟨fn,h1,h2⟩:=(zco hP).1 i x e
   obtain⟨f,fd,st,ps,N,a1,a2,a3,a4,a5,a6,a7,_⟩:=cF_ok (zne h2 hx)
   exact⟨f,fd,ps,fn,a1,zmw,a2.kp,a6.1,h1,a5,a6.2.1⟩
  .obtain⟨fn,h1,h2⟩:=(zco hP).2 i x e
   obtain⟨f,fd,st,ps,N,a1,a2,a3,a4,a5,a6,a7,_⟩:=cF_ok h2
   exact⟨f,fd,ps,fn,a1,zps,a2.kp,a6.1,h1,a5⟩
 |succ k ih=>
  intro j hj
  by_cases hjk:j<=k
  .exact ih j hjk
  .have:j=k+1:=by omega
   subst this
   refine⟨λi x e hx=>?_,λi x e=>?_⟩
   .obtain⟨fn,h1,h2⟩:=(zco hP).1 i x e
    obtain⟨f,fd,st,ps,N,a1,a2,a3,a4,a5,a6,a7,_⟩:=cF_ok (zne h2 hx)
    exact⟨f,fd,ps,fn,a1,zrb (F:=λi=>Fs[i]?) h1 a2 a3 a4 a5 λcdv A outer s H E hr=>zca (snd_s (ziz KX G a3 (ih k (vad _)).1 (ih k (vad _)).2 HW cdv A outer s H E hr) (znf cdv A outer s H E) n) a7,a2.kp,a6.1,h1,a5,a6.2.1⟩
   .obtain⟨fn,h1,h2⟩:=(zco hP).2 i x e
    obtain⟨f,fd,st,ps,N,a1,a2,a3,a4,a5,a6,a7,_⟩:=cF_ok h2
    obtain⟨c,b1,b2⟩:=gX_ok a7
    exact⟨f,fd,ps,fn,a1,ztb (F:=λi=>Fs[i]?) h1 a2 a3 a4 a5 b2 λcdv A outer s H E hr=>zbo (snd_x (X:=cxOf (CX1 P w) P w K mg base N x (zal st) f cdv A outer s H E) (ziz KX G a3 (ih k (vad _)).1 (ih k (vad _)).2 HW cdv A outer s H E hr) (znf cdv A outer s H E) ⟨λe s' z=>zs5 rfl rfl rfl z,PassesOwn.leaving⟩ (λD f h=>zxh KX G h) n) b1,a2.kp,a6.1,h1,a5⟩
end
noncomputable def zcp:Res W->Bool
 |.ok (.bl true) _=>true
 |_=>false
noncomputable def says(K:vga)(T:List Str)(R:RX)(d n k i:Nat)(ns:List Int):Bool:=match cProg K T R d n with
 |some Fs=>zcp (run (λi=>Fs[i]?) k i [.fz (ns.map .int)] ⟨0,0,[]⟩)
 |none=>false
theorem zi0{r:Res W}(h:zcp r=true):∃h',r=.ok (.bl true) h':=by
 cases r with
 |no=>cases h
 |ex _ _=>cases h
 |ok w h'=>cases w<;>first|(rename_i b;cases b<;>first|exact⟨h',rfl⟩|cases h)|cases h
theorem zfl{K:vga}{m:Nat->Addr}{n:Nat}{H:Hp}:∀(ns:List Int),VReps K m n H (ns.map V.int) (ns.map W.int)
 |[]=>.nil
 |i::r=>.cons (.int i) (zfl r)
theorem znh{K:vga}{T:List Str}{R:RX}{d n k i:Nat}{ns:List Int}(h:says K T R d n k i ns=true):∃Fs h',cProg K T R d n=some Fs/\run (λi=>Fs[i]?) k i [.fz (ns.map .int)] ⟨0,0,[]⟩=.ok (.bl true) h':=by
 unfold says at h
 split at h
 .rename_i Fs hF
  obtain⟨h',e⟩:=zi0 h
  exact⟨Fs,h',hF,e⟩
 .cases h
theorem ztn{K:vga}{T:List Str}{R:RX}{d n k i:Nat}{ns:List Int}{Fs:List Fn}(hP:cProg K T R d n=some Fs)(h:zcp (run (λi=>Fs[i]?) k i [.fz (ns.map .int)] ⟨0,0,[]⟩)=true):says K T R d n k i ns=true:=by
 unfold says
 rw[hP]
 exact h
noncomputable def lawOk(K:vga)(x:Str):Bool:=match fnAt K x with
 |some (_,_,fd)=>(match za2 fd.params with
  |some [a]=>a.arg==("_law_script" : Str) && !(noneD K fd.defaults)
  |_=>false)
 |none=>false
theorem zp3{l:PySem.W.OpenLaw}{q:Program}{loose:List Str}{XP:(Str->Option Value)->Heap->Prop}{YP:World->Heap->Prop}{dr:DefRec}{K:Params->vga}(T:List Str)(R:RX)(d n k i:Nat)(hn:l.most=some 63)(hdf:dr.params.defaults=[])(hr:Room k callerA)
 (hY:∀(w:World)(h:Heap),YP w h->(K w.params).In h) (hT:T[i]?=some dr.name) (hne:dr.name≠"") (hS:∀(w:World)(ns:List Int),ns.length<=63->says (K w.params) T R d n k i ns=true) (hL:∀w:World,lawOk (K w.params) dr.name=true) (hW:∀w:World,∀C z,(C,z)∈R.tb->wordB (K w.params) C z=true/\XL.ExcI (K w.params) C) :
 PySem.W.WalkO q loose XP YP l.row.toRowW dr [] (λf vs=>PySem.call f vs):=by
 have any:∀w:World,∃Fs,cProg (K w.params) T R d n=some Fs:=λw=>let⟨Fs,_,h,_⟩:=znh (hS w [] (vbv _));⟨Fs,h⟩
 refine L2.zsb (n:=63) (k:=k) (x:="_law_script") (CX:=λ_=>CX0) (sp:=λw=>spV (K w.params) 1 (run (λj=>(Classical.choose (any w))[j]?) k i)) hn (by decide) hdf hr hY ?_ ?_ λ_ _ _ _ _ z=>z
 .intro w mg fa h KX G hmg
  have hP:=Classical.choose_spec (any w)
  obtain⟨fn',h1,h2⟩:=(zco hP).1 i _ hT
  obtain⟨f',fd',st,ps',N,a1,a2,a3,a4,a5,a6,a7,o',fd'',args,a8,a9,a10⟩:=cF_ok (zne h2 hne)
  have hps:ps'=[("_law_script" : Str)]:=by
   have hl:=hL w
   unfold lawOk at hl
   rw[a8]at hl
   simp only[a9]at hl
   cases args with
   |nil=>cases hl
   |cons z zs=>
    cases zs with
    |nil=>
     rw[vaa]at hl
     have hl:z.arg = "_law_script":=by simpa using hl.1
     rw[a10,va0,hl];rfl
    |cons _ _=>cases hl
  have hnd:hasD (K w.params) dr.name=false:=by
   have hl:=hL w
   unfold lawOk at hl
   rw[a8]at hl
   unfold hasD
   rw[a8]
   simp only[a9]at hl
   split at hl
   .rw[vaa]at hl
    simpa using hl.2
   .cases hl
  have e:=vea KX G (zb2 a1)
  rw[hmg]at e
  cases e
  subst hps
  refine⟨fd',λs u=>.of_eq (a6.2.2 hnd [u] rfl),λbase KB GB=>?_⟩
  have HW:∀C z,(C,z)∈R.tb->Wd l.prog w (K w.params) mg base C z:=λC z hm=>wd_ok KB GB (hW w C z hm).1 (hW w C z hm).2
  cases k with
  |zero=>exact zmw
  |succ k=>exact zrb (F:=λj=>(Classical.choose (any w))[j]?) h1 a2 a3 a4 a5 λcdv A outer s H E hr=>zca (snd_s (ziz KB GB a3 (zng hP KB GB HW k k (vad _)).1 (zng hP KB GB HW k k (vad _)).2 HW cdv A outer s H E hr) (znf cdv A outer s H E) n) a7
 .intro w H a ns hl hO hQ
  obtain⟨Fs,h',e1,e2⟩:=znh (hS w ns hl)
  have hP:=Classical.choose_spec (any w)
  rw[hP]at e1
  cases e1
  refine⟨rfl,⟨0,0,[]⟩,λ_=>0,_,_,h',⟨λi hi=>absurd hi (Nat.not_lt_zero _),λi j hi=>absurd hi (Nat.not_lt_zero _),rfl⟩,.cons (.fz ?_ (zfl ns)) .nil,e2,λv H' m' _ _ q=>by cases q;rfl⟩
  rcases hQ with(q|⟨o,q⟩)|q
  .rcases hO a with z|⟨o,xs,z⟩
   .rw[z]at q;cases q
   .rw[z]at q;cases q
  .exact .inl ⟨o,q⟩
  .exact .inr q
noncomputable def fn0:Fn:=⟨1,1,(.seq (.ret (.and (.isi .int (.var 0)) (.not (.isi .bool (.var 0))))) .skip)⟩
noncomputable def fn1:Fn:=⟨3,3,(.seq (.ret (.and (.call 0 (.cons (.var 0) .nil)) (.chn .le .le (.var 1) (.var 0) (.var 2)))) .skip)⟩
noncomputable def fn2:Fn:=⟨2,2,(.seq (.ite (.cmp .eq (.bi .len (.cons (.var 0) .nil)) (.cst (.int (0)))) (.seq (.ret (.op .add (.op .mul (.cst (.int (7))) (.var 1)) (.cst (.int (3))))) .skip) .skip) (.seq (.ret (.bi .abs (.cons (.idx (.var 0) (.op .mod (.var 1) (.bi .len (.cons (.var 0) .nil)))) .nil))) .skip))⟩
noncomputable def zdt:E:=(.cmp .ge (.bi .abs (.cons (.var 0) .nil)) (.op .pow (.cst (.int (10))) (.cst (.int (18)))))
noncomputable def zdu:E:=(.bi .abs (.cons (.var 0) .nil))
noncomputable def fn3:Fn:=⟨1,1,(.seq (.ret (.lst (.cons (.var 0) (.cons (.lc .seq (.var 0) (.one 0) 1 [] zdt zdu) (.cons (.cst (.int (0))) (.cons (.cst (.int (0))) .nil)))))) .skip)⟩
noncomputable def fn4:Fn:=⟨3,4,(.seq (.set 3 (.op .mod (.op .pow (.op .add (.op .mul (.op .add (.op .mod (.call 2 (.cons (.var 0) (.cons (.var 1) .nil))) (.cst (.int (1000003)))) (.cst (.int (5)))) (.op .add (.var 1) (.cst (.int (2))))) (.op .mul (.cst (.int (7919))) (.var 1))) (.cst (.int (5)))) (.cst (.int (2147483647))))) (.seq (.ret (.op .mod (.op .fdiv (.var 3) (.cst (.int (13)))) (.var 2))) .skip))⟩
noncomputable def zhu:E:=(.cmp .lt (.idx (.var 0) (.cst (.int (2)))) (.bi .len (.cons (.idx (.var 0) (.cst (.int (1)))) .nil)))
noncomputable def zer:S:=(.seq (.set 2 (.idx (.idx (.var 0) (.cst (.int (1)))) (.idx (.var 0) (.cst (.int (2)))))) (.seq (.ite (.cmp .gt (.var 2) (.cst (.int (0)))) (.seq (.put (.idx (.var 0) (.cst (.int (1)))) (.idx (.var 0) (.cst (.int (2)))) (.op .fdiv (.var 2) (.var 1))) (.seq (.ret (.op .mod (.var 2) (.var 1))) .skip)) .skip) (.seq (.put (.var 0) (.cst (.int (2))) (.op .add (.idx (.var 0) (.cst (.int (2)))) (.cst (.int (1))))) .skip)))
noncomputable def fn5:Fn:=⟨2,3,(.seq (.whl zhu zer) (.seq (.put (.var 0) (.cst (.int (3))) (.op .add (.idx (.var 0) (.cst (.int (3)))) (.cst (.int (1))))) (.seq (.ret (.call 4 (.cons (.idx (.var 0) (.cst (.int (0)))) (.cons (.idx (.var 0) (.cst (.int (3)))) (.cons (.var 1) .nil))))) .skip)))⟩
noncomputable def fn6:Fn:=⟨3,3,(.seq (.ret (.and (.isi .tuple (.var 0)) (.chn .le .le (.var 1) (.bi .len (.cons (.var 0) .nil)) (.var 2)))) .skip)⟩
noncomputable def zju:S:=(.seq (.ite (.not (.tru (.call 1 (.cons (.var 5) (.cons (.var 3) (.cons (.var 4) .nil)))))) (.seq (.ret (.cst (.bl false))) .skip) .skip) .skip)
noncomputable def fn7:Fn:=⟨5,6,(.seq (.ite (.not (.tru (.call 6 (.cons (.var 0) (.cons (.var 1) (.cons (.var 2) .nil)))))) (.seq (.ret (.cst (.bl false))) .skip) .skip) (.seq (.«for» .seq (.var 0) (.one 5) zju) (.seq (.ret (.cst (.bl true))) .skip)))⟩
noncomputable def zjv:S:=(.seq (.ite (.not (.tru (.call 11 (.cons (.var 3) (.cons (.var 2) .nil))))) (.seq (.ret (.cst (.bl false))) .skip) .skip) .skip)
noncomputable def fn8:Fn:=⟨3,4,(.seq (.ite (.not (.tru (.call 6 (.cons (.var 0) (.cons (.var 1) (.cons (.var 1) .nil)))))) (.seq (.ret (.cst (.bl false))) .skip) .skip) (.seq (.«for» .seq (.var 0) (.one 3) zjv) (.seq (.ret (.cst (.bl true))) .skip)))⟩
noncomputable def zjw:S:=(.seq (.ite (.not (.tru (.call 6 (.cons (.var 2) (.cons (.var 1) (.cons (.var 1) .nil)))))) (.seq (.ret (.cst (.bl false))) .skip) .skip) .skip)
noncomputable def fn9:Fn:=⟨2,3,(.seq (.ite (.not (.tru (.call 6 (.cons (.var 0) (.cons (.cst (.int (0))) (.cons (.cst (.int (60))) .nil)))))) (.seq (.ret (.cst (.bl false))) .skip) .skip) (.seq (.«for» .seq (.var 0) (.one 2) zjw) (.seq (.ret (.cst (.bl true))) .skip)))⟩
noncomputable def fn10:Fn:=⟨1,6,(.seq (.ite (.not (.tru (.call 6 (.cons (.var 0) (.cons (.cst (.int (5))) (.cons (.cst (.int (5))) .nil)))))) (.seq (.ret (.cst (.bl false))) .skip) .skip) (.seq (.unp [1,2,3,4,5] (.var 0)) (.seq (.ite (.or (.not (.tru (.call 1 (.cons (.var 1) (.cons (.cst (.int (1))) (.cons (.cst (.int (40))) .nil)))))) (.not (.tru (.call 1 (.cons (.var 2) (.cons (.cst (.int (0))) (.cons (.cst (.int (8))) .nil))))))) (.seq (.ret (.cst (.bl false))) .skip) .skip) (.seq (.ite (.not (.tru (.call 7 (.cons (.var 4) (.cons (.cst (.int (1))) (.cons (.cst (.int (4))) (.cons (.cst (.int (0))) (.cons (.op .sub (.var 1) (.cst (.int (1)))) .nil)))))))) (.seq (.ret (.cst (.bl false))) .skip) .skip) (.seq (.ret (.and (.call 9 (.cons (.var 3) (.cons (.var 1) .nil))) (.call 8 (.cons (.var 5) (.cons (.var 1) (.cons (.bi .len (.cons (.var 4) .nil)) .nil)))))) .skip)))))⟩
noncomputable def fn11:Fn:=⟨2,4,(.seq (.ite (.not (.tru (.call 6 (.cons (.var 0) (.cons (.cst (.int (2))) (.cons (.cst (.int (2))) .nil)))))) (.seq (.ret (.cst (.bl false))) .skip) .skip) (.seq (.unp [2,3] (.var 0)) (.seq (.ret (.and (.call 1 (.cons (.var 2) (.cons (.cst (.int (0))) (.cons (.cst (.int (99))) .nil)))) (.call 12 (.cons (.var 3) (.cons (.var 1) .nil))))) .skip)))⟩
noncomputable def fn12:Fn:=⟨2,2,(.seq (.ret (.or (.cmp .isn (.var 0) (.cst .non)) (.call 1 (.cons (.var 0) (.cons (.cst (.int (0))) (.cons (.op .sub (.var 1) (.cst (.int (1)))) .nil)))))) .skip)⟩
noncomputable def fn13:Fn:=⟨2,4,(.seq (.ite (.not (.tru (.call 6 (.cons (.var 0) (.cons (.cst (.int (2))) (.cons (.cst (.int (2))) .nil)))))) (.seq (.ret (.cst (.bl false))) .skip) .skip) (.seq (.unp [2,3] (.var 0)) (.seq (.ret (.and (.call 1 (.cons (.var 2) (.cons (.cst (.int (0))) (.cons (.op .sub (.var 1) (.cst (.int (1)))) .nil)))) (.call 1 (.cons (.var 3) (.cons (.cst (.int (0))) (.cons (.cst (.int (1))) .nil)))))) .skip)))⟩
noncomputable def zgo:S:=(.seq (.ite (.not (.tru (.call 15 (.cons (.var 7) (.cons (.var 6) (.cons (.var 1) (.cons (.var 2) .nil))))))) (.seq .no .skip) .skip) .skip)
noncomputable def zgp:S:=(.seq (.«for» .enm (.var 5) (.many [6,7]) zgo) .skip)
noncomputable def fn14:Fn:=⟨1,8,(.seq (.ite (.not (.tru (.call 10 (.cons (.var 0) .nil)))) (.seq .no .skip) .skip) (.seq (.unp [1,2,3] (.slc (.var 0) false (.cst .non) true (.cst (.int (3))))) (.seq (.«for» .enm (.var 3) (.many [4,5]) zgp) .skip)))⟩
noncomputable def fn15:Fn:=⟨4,4,(.seq (.ite (.or (.cmp .eq (.var 0) (.cst (.str (vgb "x")))) (.tru (.call 13 (.cons (.var 0) (.cons (.var 3) .nil))))) (.seq (.ret (.chn .lt .lt (.cst (.int (0))) (.var 1) (.op .sub (.var 2) (.cst (.int (1)))))) .skip) .skip) (.seq (.ite (.cmp .eq (.var 0) (.cst (.str (vgb "<")))) (.seq (.ret (.cmp .gt (.var 1) (.cst (.int (0))))) .skip) .skip) (.seq (.ite (.cmp .eq (.var 0) (.cst (.str (vgb ">")))) (.seq (.ret (.cmp .lt (.var 1) (.op .sub (.var 2) (.cst (.int (1)))))) .skip) .skip) (.seq (.ret (.or (.cmp .eq (.var 0) (.cst (.str (vgb ".")))) (.cmp .eq (.var 0) (.cst (.str (vgb "s")))))) .skip))))⟩
noncomputable def fn21:Fn:=⟨4,6,(.seq (.set 4 (.call 5 (.cons (.var 0) (.cons (.cst (.int (10))) .nil)))) (.seq (.set 5 (.idx (.lst (.cons (.cst (.str (vgb "."))) (.cons (.cst (.str (vgb "<"))) (.cons (.cst (.str (vgb ">"))) (.cons (.cst (.str (vgb "x"))) (.cons (.cst (.str (vgb "."))) (.cons (.cst (.str (vgb "."))) .nil))))))) (.bi .min (.cons (.var 4) (.cons (.cst (.int (5))) .nil))))) (.seq (.ite (.and (.cmp .gt (.var 4) (.cst (.int (4)))) (.cmp .gt (.var 3) (.cst (.int (0))))) (.seq (.set 5 (.tup (.cons (.call 5 (.cons (.var 0) (.cons (.var 3) .nil))) (.cons (.call 5 (.cons (.var 0) (.cons (.cst (.int (2))) .nil))) .nil)))) .skip) .skip) (.seq (.ite (.and (.cmp .eq (.var 4) (.cst (.int (4)))) (.cmp .eq (.call 5 (.cons (.var 0) (.cons (.cst (.int (4))) .nil))) (.cst (.int (0))))) (.seq (.ret (.cst (.str (vgb "s")))) .skip) .skip) (.seq (.ite (.or (.and (.cmp .eq (.var 1) (.cst (.int (0)))) (.cmp .nin (.var 5) (.tup (.cons (.cst (.str (vgb "."))) (.cons (.cst (.str (vgb ">"))) .nil))))) (.and (.cmp .eq (.var 1) (.op .sub (.var 2) (.cst (.int (1))))) (.cmp .nin (.var 5) (.tup (.cons (.cst (.str (vgb "."))) (.cons (.cst (.str (vgb "<"))) .nil)))))) (.seq (.ret (.idx (.lst (.cons (.cst (.str (vgb ">"))) (.cons (.cst (.str (vgb "<"))) (.cons (.cst (.str (vgb "."))) .nil)))) (.bi .min (.cons (.op .add (.bi .int (.cons (.cmp .gt (.var 1) (.cst (.int (0)))) .nil)) (.op .mul (.cst (.int (2))) (.bi .int (.cons (.cmp .eq (.var 2) (.cst (.int (1)))) .nil)))) (.cons (.cst (.int (2))) .nil))))) .skip) .skip) (.seq (.ret (.var 5)) .skip))))))⟩
noncomputable def fn23:Fn:=⟨2,4,(.seq (.set 2 (.idx (.lst (.cons (.call 5 (.cons (.var 0) (.cons (.cst (.int (3))) .nil))) (.cons (.call 5 (.cons (.var 0) (.cons (.cst (.int (100))) .nil))) .nil))) (.bi .int (.cons (.cmp .eq (.call 5 (.cons (.var 0) (.cons (.cst (.int (4))) .nil))) (.cst (.int (0)))) .nil)))) (.seq (.set 3 (.call 5 (.cons (.var 0) (.cons (.var 1) .nil)))) (.seq (.ite (.cmp .eq (.call 5 (.cons (.var 0) (.cons (.cst (.int (8))) .nil))) (.cst (.int (0)))) (.seq (.ret (.tup (.cons (.var 2) (.cons (.cst .non) .nil)))) .skip) .skip) (.seq (.ret (.tup (.cons (.var 2) (.cons (.var 3) .nil)))) .skip))))⟩
noncomputable def zgq:E:=(.call 21 (.cons (.var 1) (.cons (.var 0) (.cons (.var 3) (.cons (.var 2) .nil)))))
noncomputable def fn25:Fn:=⟨3,3,(.seq (.ret (.bi .tuple (.cons (.lc .rng1 (.cons (.var 1) .nil) (.one 0) 1 [0,2,1] (.cst (.bl true)) zgq) .nil))) .skip)⟩
noncomputable def zni:E:=(.call 25 (.cons (.var 1) (.cons (.var 3) (.cons (.var 2) .nil))))
noncomputable def znj:E:=(.call 5 (.cons (.var 1) (.cons (.var 2) .nil)))
noncomputable def znk:E:=(.call 23 (.cons (.var 1) (.cons (.bi .len (.cons (.var 2) .nil)) .nil)))
noncomputable def fn26:Fn:=⟨4,9,(.seq (.set 4 (.op .add (.cst (.int (1))) (.call 5 (.cons (.var 0) (.cons (.var 1) .nil))))) (.seq (.set 5 (.call 5 (.cons (.var 0) (.cons (.op .add (.var 3) (.cst (.int (1)))) .nil)))) (.seq (.set 6 (.lc .rng1 (.cons (.call 5 (.cons (.var 0) (.cons (.op .add (.var 2) (.cst (.int (1)))) .nil))) .nil) (.one 0) 1 [0,5,4] (.cst (.bl true)) zni)) (.seq (.set 7 (.bi .tuple (.cons (.lc .rng1 (.cons (.op .add (.cst (.int (1))) (.call 5 (.cons (.var 0) (.cons (.cst (.int (4))) .nil)))) .nil) (.one 0) 1 [0,4] (.cst (.bl true)) znj) .nil))) (.seq (.set 8 (.bi .tuple (.cons (.lc .rng1 (.cons (.var 4) .nil) (.one 0) 1 [0,7] (.cst (.bl true)) znk) .nil))) (.seq (.ret (.tup (.cons (.var 4) (.cons (.var 5) (.cons (.bi .tuple (.cons (.var 6) .nil)) (.cons (.var 7) (.cons (.var 8) .nil))))))) .skip))))))⟩
noncomputable def fin(h:VH)(r:Res Fl):Res W:=r.bind λfl h'=>match fl with
 |.nx _=>leave h .non h'
 |.rt w=>leave h w h'
 |_=>.no
theorem zak{k f:Nat}{h:VH}(hF:F f=some fn)(hl:ws.length=fn.ps) :
 run F (k+1) f ws h=fin h (exs (run F k) fn.body (ws.map some++vgc (fn.n-fn.ps) none) ⟨h.n,h.n,h.os⟩):=by
 simp only[run,hF]
 rw[if_pos (by rw[hl];exact Nat.beq_refl _)]
 rfl
theorem zfm(h1:h.n<=h'.lo)(h2:W.lt h.n w=true):leave h w h'=.ok w h:=by
 unfold leave
 rw[if_pos (by rw[vaa];exact⟨veb.mpr h1,h2⟩)]
theorem zah(h1:h.n<=h'.lo)(h2:W.lt h.n w=true):fin h (.ok (.rt w) h')=.ok w h:=zfm h1 h2
theorem znl{ρ:En}(h1:h.n<=h'.lo):fin h (.ok (.nx ρ) h')=.ok .non h:=zfm h1 (by simp only[W.lt])
@[simp] theorem bindok {α β:Type} {a:α} {h:VH} {f:α->VH->Res β}:(Res.ok a h).bind f=f a h:=rfl
@[simp] theorem bindno {α β:Type} {f:α->VH->Res β}:(Res.no:Res α).bind f=.no:=rfl
@[simp] theorem ofsome {α:Type} {a:α} {h:VH}:Res.of (some a) h=.ok a h:=rfl
@[simp] theorem ofnone {α:Type} {h:VH}:Res.of (none:Option α) h=.no:=rfl
@[simp] theorem lt_non {n:Nat}:W.lt n .non=true:=by simp only[W.lt]
@[simp] theorem lt_bl {n:Nat} {b:Bool}:W.lt n (.bl b)=true:=by simp only[W.lt]
@[simp] theorem lt_int {n:Nat} {b:Int}:W.lt n (.int b)=true:=by simp only[W.lt]
@[simp] theorem lt_str {n:Nat} {b:Str}:W.lt n (.str b)=true:=by simp only[W.lt]
@[simp] theorem lt_tup {n:Nat} {b:List W}:W.lt n (.tup b)=W.lts n b:=by simp only[W.lt]
@[simp] theorem lts_nil {n:Nat}:W.lts n []=true:=by simp only[W.lts]
@[simp] theorem lts_cons {n:Nat} {b:W} {r:List W}:W.lts n (b::r)=(W.lt n b&&W.lts n r):=by simp only[W.lts]
@[simp] theorem ty_int_int:((Ty.int==Ty.int):Bool)=true:=rfl
@[simp] theorem ty_int_bool:((Ty.int==Ty.bool):Bool)=false:=rfl
@[simp] theorem ty_int_tuple:((Ty.int==Ty.tuple):Bool)=false:=rfl
@[simp] theorem ty_int_list:((Ty.int==Ty.list):Bool)=false:=rfl
@[simp] theorem ty_int_str:((Ty.int==Ty.str):Bool)=false:=rfl
@[simp] theorem ty_int_dict:((Ty.int==Ty.dict):Bool)=false:=rfl
@[simp] theorem ty_bool_int:((Ty.bool==Ty.int):Bool)=false:=rfl
@[simp] theorem ty_bool_bool:((Ty.bool==Ty.bool):Bool)=true:=rfl
@[simp] theorem ty_bool_tuple:((Ty.bool==Ty.tuple):Bool)=false:=rfl
@[simp] theorem ty_bool_list:((Ty.bool==Ty.list):Bool)=false:=rfl
@[simp] theorem ty_bool_str:((Ty.bool==Ty.str):Bool)=false:=rfl
@[simp] theorem ty_bool_dict:((Ty.bool==Ty.dict):Bool)=false:=rfl
@[simp] theorem ty_tuple_int:((Ty.tuple==Ty.int):Bool)=false:=rfl
@[simp] theorem ty_tuple_bool:((Ty.tuple==Ty.bool):Bool)=false:=rfl
@[simp] theorem ty_tuple_tuple:((Ty.tuple==Ty.tuple):Bool)=true:=rfl
@[simp] theorem ty_tuple_list:((Ty.tuple==Ty.list):Bool)=false:=rfl
@[simp] theorem ty_tuple_str:((Ty.tuple==Ty.str):Bool)=false:=rfl
@[simp] theorem ty_tuple_dict:((Ty.tuple==Ty.dict):Bool)=false:=rfl
@[simp] theorem ty_list_int:((Ty.list==Ty.int):Bool)=false:=rfl
@[simp] theorem ty_list_bool:((Ty.list==Ty.bool):Bool)=false:=rfl
@[simp] theorem ty_list_tuple:((Ty.list==Ty.tuple):Bool)=false:=rfl
@[simp] theorem ty_list_list:((Ty.list==Ty.list):Bool)=true:=rfl
@[simp] theorem ty_list_str:((Ty.list==Ty.str):Bool)=false:=rfl
@[simp] theorem ty_list_dict:((Ty.list==Ty.dict):Bool)=false:=rfl
@[simp] theorem ty_str_int:((Ty.str==Ty.int):Bool)=false:=rfl
@[simp] theorem ty_str_bool:((Ty.str==Ty.bool):Bool)=false:=rfl
@[simp] theorem ty_str_tuple:((Ty.str==Ty.tuple):Bool)=false:=rfl
@[simp] theorem ty_str_list:((Ty.str==Ty.list):Bool)=false:=rfl
@[simp] theorem ty_str_str:((Ty.str==Ty.str):Bool)=true:=rfl
@[simp] theorem ty_str_dict:((Ty.str==Ty.dict):Bool)=false:=rfl
@[simp] theorem ty_dict_int:((Ty.dict==Ty.int):Bool)=false:=rfl
@[simp] theorem ty_dict_bool:((Ty.dict==Ty.bool):Bool)=false:=rfl
@[simp] theorem ty_dict_tuple:((Ty.dict==Ty.tuple):Bool)=false:=rfl
@[simp] theorem ty_dict_list:((Ty.dict==Ty.list):Bool)=false:=rfl
@[simp] theorem ty_dict_str:((Ty.dict==Ty.str):Bool)=false:=rfl
@[simp] theorem ty_dict_dict:((Ty.dict==Ty.dict):Bool)=true:=rfl
@[simp] theorem isi_non {t:Ty} {h:VH}:tyIs t h .non=some false:=rfl
@[simp] theorem isi_bl {t:Ty} {h:VH} {b:Bool}:tyIs t h (.bl b)=some (t == .int||t == .bool):=rfl
@[simp] theorem isi_int {t:Ty} {h:VH} {i:Int}:tyIs t h (.int i)=some (t == .int):=rfl
@[simp] theorem isi_str {t:Ty} {h:VH} {x:Str}:tyIs t h (.str x)=some (t == .str):=rfl
@[simp] theorem isi_tup {t:Ty} {h:VH} {x:List W}:tyIs t h (.tup x)=some (t == .tuple):=rfl
@[simp] theorem get_lo {h:VH} {l i:Nat}:VH.get ⟨h.n,l,h.os⟩ i=h.get i:=by unfold VH.get;rfl
@[simp] theorem tru_bl {h:VH} {b:Bool}:truW h (.bl b)=some b:=rfl
noncomputable def forL(tg:W->VH->En->Option En)(b:FS):List W->En->VH->Res Fl
 |[],ρ,h=>.ok (.nx ρ) h
 |w::r,ρ,h=>match tg w h ρ with
  |none=>.no
  |some ρ=>(b ρ h).bind λfl h=>match fl with
   |.nx ρ=>forL tg b r ρ h
   |.ct ρ=>forL tg b r ρ h
   |.bk ρ=>.ok (.nx ρ) h
   |.rt w=>.ok (.rt w) h
noncomputable def lcL(tg:W->VH->En->Option En)(c e:FE):List W->En->VH->Res (List W)
 |[],_,h=>.ok [] h
 |w::r,ρ,h=>match tg w h ρ with
  |none=>.no
  |some ρ=>(c ρ h).bind λb h=>match b with
   |.bl true=>(e ρ h).bind λy h=>(lcL tg c e r ρ h).bind λys h=>.ok (y::ys) h
   |.bl false=>lcL tg c e r ρ h
   |_=>.no
theorem zfn{α β γ:Type}{r:Res α}{f:α->VH->Res β}{g:β->VH->Res γ}:(r.bind f).bind g=r.bind λa h=>(f a h).bind g:=by cases r<;>rfl
theorem zcq{nx:Nat->VH->Option (Option W)}{tg:W->VH->En->Option En}{b:FS}{ws:List W}(hx:∀i h,nx i h=some ws[i]?):∀(fu i:Nat) (ρ:En) (h:VH),i<=ws.length->ws.length<fu+i->forG nx tg b fu i ρ h=forL tg b (ws.drop i) ρ h
 |0,i,ρ,h,hi,hl=>by omega
 |fu+1,i,ρ,h,hi,hl=>by
  simp only[forG,hx]
  cases q:ws[i]? with
  |none=>
   rw[List.drop_eq_nil_of_le (vbb.mp q)]
   rfl
  |some w=>
   obtain⟨hi,e⟩:=vas.mp q
   rw[List.drop_eq_getElem_cons hi,e]
   simp only[forL]
   cases tg w h ρ with
   |none=>rfl
   |some ρ'=>
    simp only
    congr 1
    funext fl h1
    cases fl<;>simp only[zcq hx fu (i+1) _ _ hi (by omega)]
theorem zcr{nx:Nat->VH->Option (Option W)}{tg:W->VH->En->Option En}{c e:FE}{ws:List W}(hx:∀i h,nx i h=some ws[i]?):∀(fu i:Nat) (ρ:En) (h:VH) (acc:List W),i<=ws.length->ws.length<fu+i->
 lcG nx tg c e fu i ρ h acc=(lcL tg c e (ws.drop i) ρ h).bind λys h=>.ok (acc.reverse++ys) h
 |0,i,ρ,h,acc,hi,hl=>by omega
 |fu+1,i,ρ,h,acc,hi,hl=>by
  simp only[lcG,hx]
  cases q:ws[i]? with
  |none=>
   rw[List.drop_eq_nil_of_le (vbb.mp q)]
   simp[lcL]
  |some w=>
   obtain⟨hi,ee⟩:=vas.mp q
   rw[List.drop_eq_getElem_cons hi,ee]
   simp only[lcL]
   cases tg w h ρ with
   |none=>rfl
   |some ρ'=>
    simp only[zfn]
    congr 1
    funext bv h1
    cases bv<;>try rfl
    rename_i bb
    cases bb with
    |true=>
     simp only[zfn]
     congr 1
     funext y h2
     rw[zcr hx fu (i+1) _ _ _ hi (by omega)]
     congr 1
     funext ys h3
     simp
    |false=>simp only[zcr hx fu (i+1) _ _ _ hi (by omega)]
theorem zde{ws:List W}{tg:W->VH->En->Option En}{b:FS}{ρ:En}{h:VH}(hl:ws.length<1000000):forG (nxt .seq (.tup ws)) tg b fuel 0 ρ h=forL tg b ws ρ h:=by
 have:=zcq (nx:=nxt .seq (.tup ws)) (tg:=tg) (b:=b) (ws:=ws) (λi h=>rfl) fuel 0 ρ h (vbv _) (by simpa[fuel]using hl)
 simpa using this
noncomputable def enumW:Nat->List W->List W
 |_,[]=>[]
 |i,w::r=>.tup [.int i,w]::enumW (i+1) r
theorem zhv:∀(ws:List W) (i j:Nat),(enumW j ws)[i]?=(ws[i]?).map λw=>.tup [.int ((j+i:Nat):Int),w]
 |[],i,j=>by simp[enumW]
 |w::r,0,j=>by simp[enumW]
 |w::r,i+1,j=>by
  simp only[enumW,vax]
  rw[zhv r i (j+1)]
  congr 1
  funext w
  rw[show j+1+i=j+ (i+1) by omega]
theorem zhw:∀(ws:List W) (j:Nat),(enumW j ws).length=ws.length
 |[],_=>rfl
 |_::r,j=>by simp[enumW,zhw r]
theorem zcs{ws:List W}{tg:W->VH->En->Option En}{b:FS}{ρ:En}{h:VH}(hl:ws.length<1000000):forG (nxt .enm (.tup ws)) tg b fuel 0 ρ h=forL tg b (enumW 0 ws) ρ h:=by
 have:=zcq (nx:=nxt .enm (.tup ws)) (tg:=tg) (b:=b) (ws:=enumW 0 ws) (λi h=>by rw[zhv];simp[nxt,seqW]) fuel 0 ρ h (vbv _) (by simpa[fuel,zhw]using hl)
 simpa using this
noncomputable def zax(a:Int):Nat->List W
 |0=>[]
 |n+1=>.int a::zax (a+1) n
theorem zdf:∀(n i:Nat) (a:Int),(zax a n)[i]?=if i<n then some (.int (a+i))else none
 |0,i,a=>by simp[zax]
 |n+1,0,a=>by simp[zax]
 |n+1,i+1,a=>by
  simp only[zax,vax]
  rw[zdf n i (a+1)]
  by_cases q:i<n
  .rw[if_pos q,if_pos (by omega)]
   congr 2
   push_cast
   omega
  .rw[if_neg q,if_neg (by omega)]
theorem zdg:∀(n:Nat) (a:Int),(zax a n).length=n
 |0,_=>rfl
 |n+1,a=>by simp[zax,zdg n]
theorem zto{n:Nat}{tg:W->VH->En->Option En}{b:FS}{ρ:En}{h:VH}(hl:n<1000000):forG (nxt .rng1 (.tup [.int n])) tg b fuel 0 ρ h=forL tg b (zax 0 n) ρ h:=by
 have hf:fits (n:Int)=true:=by simp[fits];omega
 have:=zcq (nx:=nxt .rng1 (.tup [.int n])) (tg:=tg) (b:=b) (ws:=zax 0 n) (λi h=>by rw[zdf];simp[nxt,hf]) fuel 0 ρ h (vbv _) (by simpa[fuel,zdg]using hl)
 simpa using this
theorem zxi{n:Nat}{tg:W->VH->En->Option En}{c e:FE}{ρ:En}{h:VH}(hl:n<1000000):lcG (nxt .rng1 (.tup [.int n])) tg c e fuel 0 ρ h []=lcL tg c e (zax 0 n) ρ h:=by
 have hf:fits (n:Int)=true:=by simp[fits];omega
 have:=zcr (nx:=nxt .rng1 (.tup [.int n])) (tg:=tg) (c:=c) (e:=e) (ws:=zax 0 n) (λi h=>by rw[zdf];simp[nxt,hf]) fuel 0 ρ h [] (vbv _) (by simpa[fuel,zdg]using hl)
 rw[this]
 simp only[List.drop_zero,List.reverse_nil,vc4]
 cases lcL tg c e (zax 0 n) ρ h<;>rfl
noncomputable def isInt:W->Bool
 |.int _=>true
 |_=>false
noncomputable def Kn(h:VH)(w:W):Prop:=tyIs .int h w≠none
theorem kn_lo{l:Nat}:Kn ⟨h.n,l,h.os⟩ w↔Kn h w:=by
 unfold Kn
 cases w<;>simp[tyIs]
structure CoreA(F:Nat->Option Fn):Prop where
 f0:F 0=some fn0
 f1:F 1=some fn1
 f6:F 6=some fn6
 f7:F 7=some fn7
section
variable{F:Nat->Option Fn}(C:CoreA F)
include C
theorem zp4{k:Nat}(hw:Kn h w):run F (k+1) 0 [w] h=.ok (.bl (isInt w)) h:=by
 rw[zak C.f0 rfl]
 cases w<;>try(simp[fn0,exs,ev,isInt,zah];done)
 .exact absurd rfl hw
 .rename_i i
  unfold Kn at hw
  simp only[tyIs]at hw
  cases g:h.get i with
  |none=>rw[g]at hw;exact absurd rfl hw
  |some o=>cases o<;>first|(simp[fn0,exs,ev,isInt,zah,tyIs,g];done)|(simp[g]at hw)
noncomputable def within(w:W)(lo hi:Int):Bool:=match w with
 |.int i=>decide (lo<=i)&&decide (i<=hi)
 |_=>false
theorem zan{k:Nat}{lo hi:Int}(hw:Kn h w):run F (k+2) 1 [w,.int lo,.int hi] h=.ok (.bl (within w lo hi)) h:=by
 rw[zak C.f1 rfl]
 have e:=zp4 C (k:=k) (h:=⟨h.n,h.n,h.os⟩) (w:=w) (kn_lo.mpr hw)
 cases w<;>simp[fn1,exs,ev,e,isInt,within,zah,cmpW,cmpI]
 rename_i i
 by_cases h1:lo<=i<;>simp[h1,zah]
noncomputable def zat(w:W)(lo hi:Int):Bool:=match w with
 |.tup ws=>decide (lo<=ws.length)&&decide ((ws.length:Int)<=hi)
 |_=>false
theorem zao{k:Nat}{lo hi:Int}(hw:Kn h w):run F (k+1) 6 [w,.int lo,.int hi] h=.ok (.bl (zat w lo hi)) h:=by
 rw[zak C.f6 rfl]
 cases w<;>try(simp[fn6,exs,ev,zat,zah];done)
 .rename_i ws
  simp[fn6,exs,ev,zat,zah,cmpW,cmpI,biW,lenW,seqW]
  by_cases h1:lo<=ws.length<;>simp[h1,zah]
 .exact absurd rfl hw
 .rename_i i
  unfold Kn at hw
  simp only[tyIs]at hw
  cases g:h.get i with
  |none=>rw[g]at hw;exact absurd rfl hw
  |some o=>cases o<;>first|(simp[fn6,exs,ev,zat,zah,tyIs,g];done)|(simp[g]at hw)
theorem loop7{k:Nat}{lo hi:Int}:∀(ws:List W) (x:Option W),(∀w∈ws,Kn h w)->∃y,forL (tgW (.one 5)) (exs (run F (k+2)) zju) ws [some t,some a,some b,some (.int lo),some (.int hi),x] h =
 if ws.all (within · lo hi)then .ok (.nx [some t,some a,some b,some (.int lo),some (.int hi),y]) h else .ok (.rt (.bl false)) h
 |[],x,_=>⟨x,by simp[forL]⟩
 |w::r,x,hk=>by
  obtain⟨y,e⟩:=loop7 (t:=t) (a:=a) (b:=b) (k:=k) (lo:=lo) (hi:=hi) r (some w) λz hz=>hk z (vak _ hz)
  refine⟨y,?_⟩
  have e1:=zan C (k:=k) (lo:=lo) (hi:=hi) (hk w vap)
  have eb:exs (run F (k+2)) zju [some t,some a,some b,some (.int lo),some (.int hi),some w] h=if within w lo hi then .ok (.nx [some t,some a,some b,some (.int lo),some (.int hi),some w]) h else .ok (.rt (.bl false)) h:=by
   cases q:within w lo hi<;>simp[zju,exs,ev,e1,q]
  simp only[forL,tgW,List.set,eb]
  cases q:within w lo hi<;>simp[q,e]
noncomputable def za6(w:W)(a b lo hi:Int):Bool:=match w with
 |.tup ws=>zat w a b&&ws.all (within · lo hi)
 |_=>false
theorem za7{k:Nat}{a b lo hi:Int}(hw:Kn h w)(hp:∀ws,w=.tup ws->ws.length<1000000/\∀x∈ws,Kn h x):run F (k+3) 7 [w,.int a,.int b,.int lo,.int hi] h=.ok (.bl (za6 w a b lo hi)) h:=by
 rw[zak C.f7 rfl]
 have e1:=zao C (k:=k+1) (h:=⟨h.n,h.n,h.os⟩) (w:=w) (lo:=a) (hi:=b) (kn_lo.mpr hw)
 cases q:zat w a b with
 |false=>
  have:za6 w a b lo hi=false:=by cases w<;>simp[za6,q]
  simp[fn7,exs,ev,e1,q,this,zah]
 |true=>
  cases w<;>try(simp[zat]at q;done)
  rename_i ws
  obtain⟨hl,hk⟩:=hp ws rfl
  obtain⟨y,e2⟩:=loop7 C (k:=k) (h:=⟨h.n,h.n,h.os⟩) (t:=.tup ws) (a:=.int a) (b:=.int b) (lo:=lo) (hi:=hi) ws none λx hx=>kn_lo.mpr (hk x hx)
  have e3:za6 (.tup ws) a b lo hi=ws.all (within · lo hi):=by simp[za6,q]
  rw[e3]
  cases q2:ws.all (within · lo hi)with
  |true=>simp[fn7,exs,ev,e1,q,zde hl,e2,q2,zah]
  |false=>simp[fn7,exs,ev,e1,q,zde hl,e2,q2,zah]
end
noncomputable def za3:Nat->W->Bool
 |0,_=>false
 |n+1,w=>match w with
  |.non=>true
  |.bl _=>true
  |.int _=>true
  |.str x=>PyData.strOk x
  |.tup ws=>ws.all (za3 n)
  |_=>false
theorem zjx{f:W->Option PyData}{p:W->Bool}{n:Nat}(h:∀w,p w=true->∃d,f w=some d/\d.canLay0=true/\d.depth<=n):∀ws:List W,ws.all p=true->∃ds,mapO f ws=some ds/\PyData.canLayAll0 ds=true/\PyData.depthAll ds<=n
 |[],_=>⟨[],rfl,rfl,vbv _⟩
 |w::r,e=>by
  rw[vb1,vaa]at e
  obtain⟨d,h1,h2,h3⟩:=h w e.1
  obtain⟨ds,h4,h5,h6⟩:=zjx h r e.2
  refine⟨d::ds,by simp[mapO,h1,h4],?_,?_⟩
  .show(d.canLay0&&PyData.canLayAll0 ds)=true
   rw[h2,h5];rfl
  .show max d.depth (PyData.depthAll ds)<=n
   omega
theorem zes(h:VH):∀(n:Nat) (w:W),za3 n w=true->∃d,toD h n w=some d/\d.canLay0=true/\d.depth<=n
 |0,_,e=>by cases e
 |n+1,w,e=>by
  cases w<;>simp only[za3]at e<;>try(cases e;done)
  .exact⟨.none,rfl,rfl,vbv _⟩
  .exact⟨.bool _,rfl,rfl,vbv _⟩
  .exact⟨.int _,rfl,rfl,vbv _⟩
  .exact⟨.str _,rfl,e,vbv _⟩
  .obtain⟨ds,h1,h2,h3⟩:=zjx (zes h n) _ e
   exact⟨.tuple ds,by simp[toD,h1],h2,by show PyData.depthAll ds+1<=n+1;omega⟩
mutual
theorem zjy:∀d:PyData,d.canLay0=true->PyData.eqv d d=true
 |.none,_=>rfl
 |.bool b,_=>by simp[PyData.eqv]
 |.int i,_=>by simp[PyData.eqv]
 |.str x,_=>by simp[PyData.eqv]
 |.list xs,h=>by
  simp only[PyData.eqv]
  exact zcb xs h
 |.tuple xs,h=>by
  simp only[PyData.eqv]
  exact zcb xs h
 |.dict _,h=>by cases h
theorem zcb:∀ds:List PyData,PyData.canLayAll0 ds=true->PyData.eqvAll ds ds=true
 |[],_=>rfl
 |d::ds,h=>by
  have h:(d.canLay0&&PyData.canLayAll0 ds)=true:=h
  rw[vaa]at h
  simp only[PyData.eqvAll,zjy d h.1,zcb ds h.2,Bool.and_self]
end
theorem zjz(p:za3 24 w=true):eqW h w w=some true:=by
 obtain⟨d,h1,h2,h3⟩:=zes h 24 w p
 have hs:SeqAt.shaped d=true:=by
  unfold SeqAt.shaped
  rw[h2,Bool.true_and,vat];omega
 unfold eqW
 rw[h1]
 simp[hs,zjy d h2]
noncomputable def isS(w:W)(x:Str):Bool:=match w with
 |.str y=>y==x
 |_=>false
theorem zcc{x:Str}(p:za3 24 w=true)(hx:PyData.strOk x=true):eqW h w (.str x)=some (isS w x):=by
 obtain⟨d,h1,h2,h3⟩:=zes h 24 w p
 have hs:SeqAt.shaped d=true:=by
  unfold SeqAt.shaped
  rw[h2,Bool.true_and,vat];omega
 have hs2:SeqAt.shaped (.str x)=true:=by
  unfold SeqAt.shaped
  show(PyData.strOk x&&_)=true
  rw[hx];rfl
 unfold eqW
 rw[h1]
 have h4:toD h 24 (.str x)=some (.str x):=rfl
 rw[h4]
 simp only[hs,hs2,Bool.and_self,vbj]
 cases w<;>simp only[toD]at h1<;>try(cases h1;done)
 .cases h1;simp[isS,PyData.eqv]
 .cases h1;simp[isS,PyData.eqv]
 .cases h1;simp[isS,PyData.eqv]
 .cases h1;simp[isS,PyData.eqv]
 .obtain⟨ds,h5,h6⟩:=Option.map_eq_some_iff.mp h1
  subst h6
  simp[isS,PyData.eqv]
 .simp[za3]at p
 .simp[za3]at p
theorem znm{n:Nat}:za3 (n+1) (.tup ws)=ws.all (za3 n):=rfl
theorem zgr{n:Nat}(p:za3 n w=true):Kn h w:=by
 unfold Kn
 cases n with
 |zero=>cases p
 |succ n=>cases w<;>simp[za3,tyIs]at p ⊢
structure CoreB(F:Nat->Option Fn):Prop extends CoreA F where
 f8:F 8=some fn8
 f9:F 9=some fn9
 f10:F 10=some fn10
 f11:F 11=some fn11
 f12:F 12=some fn12
 f13:F 13=some fn13
 f14:F 14=some fn14
 f15:F 15=some fn15
theorem znn:isNon .non=true:=rfl
noncomputable def fon(w:W)(n:Int):Bool:=isNon w||within w 0 (n-1)
noncomputable def door(w:W)(n:Int):Bool:=match w with
 |.tup [a,b]=>within a 0 99&&fon b n
 |_=>false
noncomputable def zbm(w:W)(g:Int):Bool:=match w with
 |.tup [a,b]=>within a 0 (g-1)&&within b 0 1
 |_=>false
noncomputable def zaj(w:W)(c wd g:Int):Bool:=
 if isS w "x" || zbm w g then decide (0<c)&&decide (c<wd-1)else if isS w "<"then decide (0<c)else if isS w ">"then decide (c<wd-1)else isS w "." || isS w "s"
section
variable{F:Nat->Option Fn}(C:CoreB F)
include C
theorem zdh{k:Nat}{n:Int}(hw:Kn h w):run F (k+3) 12 [w,.int n] h=.ok (.bl (fon w n)) h:=by
 rw[zak C.f12 rfl]
 have e:=zan C.toCoreA (k:=k) (h:=⟨h.n,h.n,h.os⟩) (w:=w) (lo:=0) (hi:=n-1) (kn_lo.mpr hw)
 cases q:isNon w<;>simp[fn12,exs,ev,e,cmpW,znn,q,fon,zah,opW,opI]
theorem ztp{k:Nat}{n:Int}(hw:Kn h w)(hp:∀a b,w=.tup [a,b]->Kn h a/\Kn h b):run F (k+4) 11 [w,.int n] h=.ok (.bl (door w n)) h:=by
 rw[zak C.f11 rfl]
 have e1:=zao C.toCoreA (k:=k+2) (h:=⟨h.n,h.n,h.os⟩) (w:=w) (lo:=2) (hi:=2) (kn_lo.mpr hw)
 cases q:zat w 2 2 with
 |false=>
  have:door w n=false:=by
   cases w<;>simp[door]
   rename_i ws
   rcases ws with _|⟨a,_|⟨b,_|_⟩⟩<;>simp[zat]at q ⊢
  simp[fn11,exs,ev,e1,q,this,zah]
 |true=>
  cases w<;>try(simp[zat]at q;done)
  rename_i ws
  have hl:ws.length=2:=by simp[zat]at q;omega
  rcases ws with _|⟨a,_|⟨b,_|_⟩⟩<;>simp at hl
  obtain⟨ka,kb⟩:=hp a b rfl
  have e2:=zan C.toCoreA (k:=k+1) (h:=⟨h.n,h.n,h.os⟩) (w:=a) (lo:=0) (hi:=99) (kn_lo.mpr ka)
  have e3:=zdh C (k:=k) (h:=⟨h.n,h.n,h.os⟩) (w:=b) (n:=n) (kn_lo.mpr kb)
  cases q2:within a 0 99<;>simp[fn11,exs,ev,e1,q,e2,e3,q2,door,zah,tgW,seqW,za1]
theorem zno{k:Nat}{n:Int}(hw:Kn h w)(hp:∀a b,w=.tup [a,b]->Kn h a/\Kn h b):run F (k+3) 13 [w,.int n] h=.ok (.bl (zbm w n)) h:=by
 rw[zak C.f13 rfl]
 have e1:=zao C.toCoreA (k:=k+1) (h:=⟨h.n,h.n,h.os⟩) (w:=w) (lo:=2) (hi:=2) (kn_lo.mpr hw)
 cases q:zat w 2 2 with
 |false=>
  have:zbm w n=false:=by
   cases w<;>simp[zbm]
   rename_i ws
   rcases ws with _|⟨a,_|⟨b,_|_⟩⟩<;>simp[zat]at q ⊢
  simp[fn13,exs,ev,e1,q,this,zah]
 |true=>
  cases w<;>try(simp[zat]at q;done)
  rename_i ws
  have hl:ws.length=2:=by simp[zat]at q;omega
  rcases ws with _|⟨a,_|⟨b,_|_⟩⟩<;>simp at hl
  obtain⟨ka,kb⟩:=hp a b rfl
  have e2:=zan C.toCoreA (k:=k) (h:=⟨h.n,h.n,h.os⟩) (w:=a) (lo:=0) (hi:=n-1) (kn_lo.mpr ka)
  have e3:=zan C.toCoreA (k:=k) (h:=⟨h.n,h.n,h.os⟩) (w:=b) (lo:=0) (hi:=1) (kn_lo.mpr kb)
  cases q2:within a 0 (n-1)<;>simp[fn13,exs,ev,e1,q,e2,e3,q2,zbm,zah,tgW,seqW,za1,opW,opI]
theorem zet{k:Nat}{c wd g:Int}(p:za3 24 w=true):run F (k+4) 15 [w,.int c,.int wd,.int g] h=.ok (.bl (zaj w c wd g)) h:=by
 rw[zak C.f15 rfl]
 have hp:∀a b,w=.tup [a,b]->Kn ⟨h.n,h.n,h.os⟩ a/\Kn ⟨h.n,h.n,h.os⟩ b:=λa b e=>by
  subst e
  have p:za3 (23+1) (.tup [a,b])=true:=p
  rw[znm,vb1,vb1,vaa,vaa]at p
  exact⟨zgr p.1,zgr p.2.1⟩
 have e1:=zno C (k:=k) (h:=⟨h.n,h.n,h.os⟩) (w:=w) (n:=g) (zgr p) hp
 have sx:=zcc (h:=⟨h.n,h.n,h.os⟩) (x:=Str.ofString "x") p (by decide +kernel)
 have sl:=zcc (h:=⟨h.n,h.n,h.os⟩) (x:=Str.ofString "<") p (by decide +kernel)
 have sg:=zcc (h:=⟨h.n,h.n,h.os⟩) (x:=Str.ofString ">") p (by decide +kernel)
 have sd:=zcc (h:=⟨h.n,h.n,h.os⟩) (x:=Str.ofString ".") p (by decide +kernel)
 have ss:=zcc (h:=⟨h.n,h.n,h.os⟩) (x:=Str.ofString "s") p (by decide +kernel)
 unfold zaj
 cases q1:isS w (Str.ofString "x")<;>cases q2:zbm w g<;>cases q3:isS w (Str.ofString "<")<;>cases q4:isS w (Str.ofString ">")<;>cases q5:isS w (Str.ofString ".")<;>by_cases h1:0<c<;>
  simp[fn15,exs,ev,cmpW,cmpI,sx,sl,sg,sd,ss,e1,opW,opI,q1,q2,q3,q4,q5,h1,zah]
theorem zb8{k:Nat}{n:Int}:∀(ws:List W) (x:Option W),(∀w∈ws,Kn h w/\∀a b,w=.tup [a,b]->Kn h a/\Kn h b)->∃y,forL (tgW (.one 3)) (exs (run F (k+4)) zjv) ws [some t,some a,some (.int n),x] h =
 if ws.all (door · n)then .ok (.nx [some t,some a,some (.int n),y]) h else .ok (.rt (.bl false)) h
 |[],x,_=>⟨x,by simp[forL]⟩
 |w::r,x,hk=>by
  obtain⟨y,e⟩:=zb8 (t:=t) (a:=a) (k:=k) (n:=n) r (some w) λz hz=>hk z (vak _ hz)
  refine⟨y,?_⟩
  obtain⟨k1,k2⟩:=hk w vap
  have e1:=ztp C (k:=k) (n:=n) k1 k2
  have eb:exs (run F (k+4)) zjv [some t,some a,some (.int n),some w] h=if door w n then .ok (.nx [some t,some a,some (.int n),some w]) h else .ok (.rt (.bl false)) h:=by
   cases q:door w n<;>simp[zjv,exs,ev,e1,q]
  simp only[forL,tgW,List.set,eb]
  cases q:door w n<;>simp[q,e]
theorem znp{k:Nat}{wd n:Int}(hl:ws.length=wd)(hz:ws.length<1000000)(hd:∀w∈ws,door w n=true):run F (k+5) 8 [.tup ws,.int wd,.int n] h=.ok (.bl true) h:=by
 rw[zak C.f8 rfl]
 have e1:=zao C.toCoreA (k:=k+3) (h:=⟨h.n,h.n,h.os⟩) (w:=.tup ws) (lo:=wd) (hi:=wd) (by unfold Kn;simp)
 have q:zat (.tup ws) wd wd=true:=by simp[zat,hl]
 have kn:∀w∈ws,Kn ⟨h.n,h.n,h.os⟩ w/\∀a b,w=.tup [a,b]->Kn ⟨h.n,h.n,h.os⟩ a/\Kn ⟨h.n,h.n,h.os⟩ b:=λw hw=>by
  have:=hd w hw
  cases w<;>simp only[door]at this<;>try(cases this;done)
  rename_i us
  refine⟨by unfold Kn;simp,λa b e=>?_⟩
  cases e
  simp only[vaa]at this
  obtain⟨h1,h2⟩:=this
  refine⟨?_,?_⟩
  .cases a<;>simp[within]at h1
   unfold Kn;simp
  .unfold fon at h2
   cases b<;>simp[within,isNon]at h2
   .unfold Kn;simp
   .unfold Kn;simp
 obtain⟨y,e2⟩:=zb8 C (k:=k) (h:=⟨h.n,h.n,h.os⟩) (t:=.tup ws) (a:=.int wd) (n:=n) ws none kn
 have ha:ws.all (door · n)=true:=vcb.mpr hd
 simp[fn8,exs,ev,e1,q,zde hz,e2,ha,zah]
theorem zct{k:Nat}{wd:Int}:∀(ws:List W) (x:Option W),(∀w∈ws,∃us,w=.tup us/\us.length=wd)->∃y,forL (tgW (.one 2)) (exs (run F (k+1)) zjw) ws [some t,some (.int wd),x] h=.ok (.nx [some t,some (.int wd),y]) h
 |[],x,_=>⟨x,by simp[forL]⟩
 |w::r,x,hk=>by
  obtain⟨y,e⟩:=zct (h:=h) (t:=t) (k:=k) (wd:=wd) r (some w) λz hz=>hk z (vak _ hz)
  refine⟨y,?_⟩
  obtain⟨us,rfl,hl⟩:=hk w vap
  have e1:=zao C.toCoreA (k:=k) (h:=h) (w:=.tup us) (lo:=wd) (hi:=wd) (by unfold Kn;simp)
  have q:zat (.tup us) wd wd=true:=by simp[zat,hl]
  have eb:exs (run F (k+1)) zjw [some t,some (.int wd),some (.tup us)] h=.ok (.nx [some t,some (.int wd),some (.tup us)]) h:=by
   simp[zjw,exs,ev,e1,q]
  simp only[forL,tgW,List.set,eb,bindok,e]
theorem zp5{k:Nat}{wd:Int}(hl:ws.length<=60)(hd:∀w∈ws,∃us,w=.tup us/\us.length=wd):run F (k+2) 9 [.tup ws,.int wd] h=.ok (.bl true) h:=by
 rw[zak C.f9 rfl]
 have e1:=zao C.toCoreA (k:=k) (h:=⟨h.n,h.n,h.os⟩) (w:=.tup ws) (lo:=0) (hi:=60) (by unfold Kn;simp)
 have q:zat (.tup ws) 0 60=true:=by simp[zat];omega
 obtain⟨y,e2⟩:=zct C (k:=k) (h:=⟨h.n,h.n,h.os⟩) (t:=.tup ws) (wd:=wd) ws none hd
 simp[fn9,exs,ev,e1,q,zde (show ws.length<1000000 by omega),e2,zah]
end
structure Bd where
 wd:Int
 gr:Int
 rows:List (List W)
 fd:List W
 dr:List W
noncomputable def Bd.w(B:Bd):W:=.tup [.int B.wd,.int B.gr,.tup (B.rows.map .tup),.tup B.fd,.tup B.dr]
noncomputable def rowOk(wd g:Int):Int->List W->Prop
 |_,[]=>True
 |c,w::r=>zaj w c wd g=true/\rowOk wd g (c+1) r
structure Bd.Ok(B:Bd):Prop where
 w1:1<=B.wd
 w2:B.wd<=40
 g1:0<=B.gr
 g2:B.gr<=8
 r1:B.rows.length<=60
 r2:∀r∈B.rows,(r.length:Int)=B.wd/\rowOk B.wd B.gr 0 r
 f1:1<=B.fd.length
 f2:B.fd.length<=4
 f3:∀f∈B.fd,within f 0 (B.wd-1)=true
 d1:(B.dr.length:Int)=B.wd
 d2:∀d∈B.dr,door d B.fd.length=true
structure Bd.Ok0(B:Bd):Prop where
 w1:1<=B.wd
 w2:B.wd<=40
 g1:0<=B.gr
 g2:B.gr<=8
 r1:B.rows.length<=60
 r2:∀r∈B.rows,(r.length:Int)=B.wd
 f1:1<=B.fd.length
 f2:B.fd.length<=4
 f3:∀f∈B.fd,within f 0 (B.wd-1)=true
 d1:(B.dr.length:Int)=B.wd
 d2:∀d∈B.dr,door d B.fd.length=true
theorem Bd.Ok.ok0{B:Bd}(b:B.Ok):B.Ok0:=⟨b.w1,b.w2,b.g1,b.g2,b.r1,λr hr=>(b.r2 r hr).1,b.f1,b.f2,b.f3,b.d1,b.d2⟩
theorem zhx{g:Int}(h:zbm w g=true)(n:Nat):za3 (n+2) w=true:=by
 cases w<;>simp only[zbm]at h<;>try(cases h;done)
 rename_i us
 rcases us with _|⟨a,_|⟨b,_|_⟩⟩<;>simp at h
 obtain⟨h1,h2⟩:=h
 cases a<;>simp[within]at h1
 cases b<;>simp[within]at h2
 rfl
theorem zfo{x:Str}(h:isS w x=true):w=.str x:=by
 cases w<;>simp[isS]at h
 rw[h]
theorem zb9{c wd g:Int}(h:zaj w c wd g=true)(n:Nat):za3 (n+2) w=true:=by
 have st:∀x:Str,PyData.strOk x=true->isS w x=true->za3 (n+2) w=true:=λx hx e=>by rw[zfo e];exact hx
 unfold zaj at h
 split at h
 .rename_i q
  rw[vcp]at q
  rcases q with q|q
  .exact st _ (by decide +kernel) q
  .exact zhx q n
 .split at h
  .rename_i q;exact st _ (by decide +kernel) q
  .split at h
   .rename_i q;exact st _ (by decide +kernel) q
   .rw[vcp]at h
    rcases h with q|q
    .exact st _ (by decide +kernel) q
    .exact st _ (by decide +kernel) q
section
variable{F:Nat->Option Fn}(C:CoreB F)
include C
theorem zhy{k:Nat}{h:VH}{B:Bd}(b:B.Ok0):run F (k+6) 10 [B.w] h=.ok (.bl true) h:=by
 rw[zak C.f10 rfl]
 have e1:=zao C.toCoreA (k:=k+4) (h:=⟨h.n,h.n,h.os⟩) (w:=B.w) (lo:=5) (hi:=5) (by unfold Kn Bd.w;simp)
 have q1:zat B.w 5 5=true:=by simp[zat,Bd.w]
 have e2:=zan C.toCoreA (k:=k+3) (h:=⟨h.n,h.n,h.os⟩) (w:=.int B.wd) (lo:=1) (hi:=40) (by unfold Kn;simp)
 have q2:within (.int B.wd) 1 40=true:=by simp[within,b.w1,b.w2]
 have e3:=zan C.toCoreA (k:=k+3) (h:=⟨h.n,h.n,h.os⟩) (w:=.int B.gr) (lo:=0) (hi:=8) (by unfold Kn;simp)
 have q3:within (.int B.gr) 0 8=true:=by simp[within,b.g1,b.g2]
 have kf:∀x∈B.fd,Kn ⟨h.n,h.n,h.os⟩ x:=λx hx=>by
  have:=b.f3 x hx
  cases x<;>simp[within]at this
  unfold Kn;simp
 have hf:=b.f2
 have e4:=za7 C.toCoreA (k:=k+2) (h:=⟨h.n,h.n,h.os⟩) (w:=.tup B.fd) (a:=1) (b:=4) (lo:=0) (hi:=B.wd-1) (by unfold Kn;simp) (λws e=>by cases e;exact⟨by omega,kf⟩)
 have q4:za6 (.tup B.fd) 1 4 0 (B.wd-1)=true:=by
  have h1:=b.f1
  simp only[za6,zat,vaa,vat]
  exact⟨⟨by omega,by omega⟩,vcb.mpr b.f3⟩
 have e5:=zp5 C (k:=k+3) (h:=⟨h.n,h.n,h.os⟩) (ws:=B.rows.map .tup) (wd:=B.wd) (by rw[vaf];exact b.r1) (λw hw=>by
  obtain⟨r,hr,e⟩:=vc5.mp hw
  exact⟨r,e.symm,b.r2 r hr⟩)
 have hd:=b.d1
 have h40:=b.w2
 have e6:=znp C (k:=k) (h:=⟨h.n,h.n,h.os⟩) (ws:=B.dr) (wd:=B.wd) (n:=B.fd.length) hd (by omega) b.d2
 unfold Bd.w at e1 q1 ⊢
 simp[fn10,exs,ev,e1,q1,e2,q2,e3,q3,e4,q4,e5,e6,zah,tgW,seqW,za1,opW,opI,biW,lenW]
theorem zp6{k:Nat}{h:VH}{B:Bd}(b:B.Ok):run F (k+6) 10 [B.w] h=.ok (.bl true) h:=zhy C b.ok0
theorem znq{k:Nat}{wd g r0:Int}:∀(ws:List W) (c:Int) (j:Nat) (x y:Option W),c=j->rowOk wd g c ws->∃x' y',forL (tgW (.many [6,7])) (exs (run F (k+4)) zgo) (enumW j ws) [some t,some (.int wd),some (.int g),some rs,some (.int r0),some pl,x,y] h =
 .ok (.nx [some t,some (.int wd),some (.int g),some rs,some (.int r0),some pl,x',y']) h
 |[],c,j,x,y,_,_=>⟨x,y,by simp[forL,enumW]⟩
 |w::r,c,j,x,y,hc,ho=>by
  obtain⟨h1,h2⟩:=ho
  obtain⟨x',y',e⟩:=znq (h:=h) (t:=t) (rs:=rs) (pl:=pl) (k:=k) (wd:=wd) (g:=g) (r0:=r0) r (c+1) (j+1) (some (.int j)) (some w) (by rw[hc];push_cast;rfl) h2
  refine⟨x',y',?_⟩
  have e1:=zet C (k:=k) (h:=h) (c:=j) (wd:=wd) (g:=g) (zb9 h1 22)
  rw[<-hc,h1]at e1
  have eb:exs (run F (k+4)) zgo [some t,some (.int wd),some (.int g),some rs,some (.int r0),some pl,some (.int j),some w] h=.ok (.nx [some t,some (.int wd),some (.int g),some rs,some (.int r0),some pl,some (.int j),some w]) h:=by
   rw[hc]at e1
   simp[zgo,exs,ev,e1]
  simp only[forL,enumW,tgW,seqW,za1,List.set,eb,bindok,e]
theorem zj0{k:Nat}{wd g:Int}:∀(ws:List (List W)) (j:Nat) (x y z u:Option W),(∀r∈ws,(r.length:Int)<1000000/\rowOk wd g 0 r)->∃x' y' z' u',forL (tgW (.many [4,5])) (exs (run F (k+4)) zgp) (enumW j (ws.map .tup)) [some t,some (.int wd),some (.int g),some rs,x,y,z,u] h =
 .ok (.nx [some t,some (.int wd),some (.int g),some rs,x',y',z',u']) h
 |[],j,x,y,z,u,_=>⟨x,y,z,u,by simp[forL,enumW]⟩
 |w::r,j,x,y,z,u,ho=>by
  obtain⟨h1,h2⟩:=ho w vap
  obtain⟨z1,u1,e1⟩:=znq C (k:=k) (h:=h) (t:=t) (rs:=rs) (pl:=.tup w) (wd:=wd) (g:=g) (r0:=j) w 0 0 z u rfl h2
  obtain⟨x',y',z',u',e⟩:=zj0 (h:=h) (t:=t) (rs:=rs) (k:=k) (wd:=wd) (g:=g) r (j+1) (some (.int j)) (some (.tup w)) z1 u1 λq hq=>ho q (vak _ hq)
  refine⟨x',y',z',u',?_⟩
  have eb:exs (run F (k+4)) zgp [some t,some (.int wd),some (.int g),some rs,some (.int j),some (.tup w),z,u] h=.ok (.nx [some t,some (.int wd),some (.int g),some rs,some (.int j),some (.tup w),z1,u1]) h:=by
   simp[zgp,exs,ev,zcs (show w.length<1000000 by omega),e1]
  simp only[forL,va0,enumW,tgW,seqW,za1,List.set,eb,bindok,e]
theorem zgs{k:Nat}{h:VH}{B:Bd}(b:B.Ok):run F (k+7) 14 [B.w] h=.ok .non h:=by
 rw[zak C.f14 rfl]
 have e1:=zp6 C (k:=k) (h:=⟨h.n,h.n,h.os⟩) b
 have h40:=b.w2
 have h60:=b.r1
 obtain⟨x',y',z',u',e2⟩:=zj0 C (k:=k+2) (h:=⟨h.n,h.n,h.os⟩) (t:=B.w) (rs:=.tup (B.rows.map .tup)) (wd:=B.wd) (g:=B.gr) B.rows 0 none none none none λr hr=>⟨by have:=(b.r2 r hr).1;omega,(b.r2 r hr).2⟩
 unfold Bd.w at e1 e2 ⊢
 simp[fn14,exs,ev,e1,znl,tgW,seqW,za1,partW,cutW,HT.sIx,zcs (show(B.rows.map W.tup).length<1000000 by rw[vaf];omega),e2]
end
structure CoreD(F:Nat->Option Fn):Prop where
 f2:F 2=some fn2
 f3:F 3=some fn3
 f4:F 4=some fn4
 f5:F 5=some fn5
theorem zav{i j:Int}:eqW h (.int i) (.int j)=some (decide (i=j)):=by
 unfold eqW
 simp only[toD]
 show some (i==j)=_
 by_cases q:i=j<;>simp[q]
theorem zd4{i:Int}(h1:-(2 ^ 63)<=i)(h2:i<2 ^ 63):zbj i=true:=by
 unfold zbj
 simp only[vaa,vat]
 omega
theorem zbb{h:VH}{i:Nat}{o o0:VO}(g:h.get i=some o0):(h.set i o).get i=some o:=by
 have hi:=zas g
 unfold VH.get at g
 rw[if_pos (zaq.mpr hi)]at g
 have hl:=(vas.mp g).1
 unfold VH.get VH.set
 simp only[if_pos (zaq.mpr hi)]
 rw[vbi hl]
theorem zap{h:VH}{i j:Nat}{o o0:VO}(g:h.get i=some o0)(hj:j≠i):(h.set i o).get j=h.get j:=zc4 (zas g) hj
structure Dk(h:VH)(d c:Nat)(b:Nat):Prop where
 ne:d≠c
 st:∃(ns cells:List Int) (p q:Int),h.get d=some (.lst [.fz (ns.map .int),.ref c,.int p,.int q])/\h.get c=some (.lst (cells.map .int))/\(∀x∈cells,(0:Int)<=x)/\0<=p/\0<=q/\q<=b/\cells.length<=63
theorem Dk.mono{d c b b':Nat}(D:Dk h d c b)(hb:b<=b'):Dk h d c b':=by
 obtain⟨ne,ns,cells,p,q,a1,a2,a3,a4,a5,a6,a7⟩:=D
 exact⟨ne,ns,cells,p,q,a1,a2,a3,a4,a5,by omega,a7⟩
structure Keep(h h':VH)(d c:Nat):Prop where
 le:h.n<=h'.n
 get:∀i o,i≠d->i≠c->h.get i=some o->h'.get i=some o
theorem Keep.refl{d c:Nat}:Keep h h d c:=⟨vad _,λ_ _ _ _ e=>e⟩
theorem Keep.trans{d c:Nat}(a:Keep h h1 d c)(b:Keep h1 h2 d c):Keep h h2 d c:=⟨van a.le b.le,λi o h1 h2 e=>b.get i o h1 h2 (a.get i o h1 h2 e)⟩
theorem zdi(i:Int):(if i<0 then -i else i)=(i.natAbs:Int):=by
 split<;>omega
section
variable{F:Nat->Option Fn}(C:CoreD F)
include C
theorem cell{k:Nat}{h:VH}{ns:List Int}{j:Int}(hj:0<=j):∃r,run F (k+1) 2 [.fz (ns.map .int),.int j] h=.ok (.int r) h/\0<=r:=by
 rw[zak C.f2 rfl]
 cases ns with
 |nil=>
  refine⟨7*j+3,?_,by omega⟩
  simp[fn2,exs,ev,biW,lenW,seqW,cmpW,zav,opW,opI,zd4,zah]
 |cons n0 ns0=>
  have hl:(0:Int)< ((n0::ns0).length:Int):=by simp only[vai];omega
  have hm1:=veg j (show((n0::ns0).length:Int)≠0 by omega)
  have hm2:=vd1 j hl
  obtain⟨m,hm⟩:=vau hm1
  have hml:m< (n0::ns0).length:=by omega
  have ha:atI (List.map W.int (n0::ns0)) (j % ((n0::ns0).length:Int))=some (.int ((n0::ns0)[m])):=by
   rw[hm]
   exact zbd (by rw[vbr,vao hml];rfl)
  have hb:¬(((ns0.length:Int)+1)=0):=by omega
  have hp:(0:Int)< (ns0.length:Int)+1:=by omega
  refine⟨(((n0::ns0)[m]).natAbs:Int),?_,by omega⟩
  simp only[vai,Int.natCast_add,Int.cast_ofNat_Int,va0]at ha
  simp[fn2,exs,ev,biW,lenW,seqW,cmpW,zav,opW,opI,zah,idxW,absW,hb,hp,ha,zdi]
theorem mixed{k:Nat}{h:VH}{ns:List Int}{j m:Int}(hj:0<=j)(hj2:j<=1000000000)(hm:0<m):∃r,run F (k+2) 4 [.fz (ns.map .int),.int j,.int m] h=.ok (.int r) h/\0<=r/\r<m:=by
 rw[zak C.f4 rfl]
 obtain⟨c,e1,hc⟩:=cell C (k:=k) (h:=⟨h.n,h.n,h.os⟩) (ns:=ns) hj
 have h1:=veg c (show(1000003:Int)≠0 by decide)
 have h2:=vd1 c (show(0:Int)<1000003 by decide)
 generalize hx:c % 1000003=x at h1 h2
 have s1:zbj (x+5)=true:=zd4 (by omega) (by omega)
 have s2:zbj 7919=true:=zd4 (by decide) (by decide)
 have hb:(x+5)* (j+2)<=1000008*1000000002:=Int.mul_le_mul (by omega) (by omega) (by omega) (by omega)
 have hb0:0<=(x+5)* (j+2):=Int.mul_nonneg (by omega) (by omega)
 generalize hy:(x+5)* (j+2)=y at hb hb0
 have hn:(y+7919*j).natAbs<2 ^ 64:=by omega
 refine⟨(y+7919*j) ^ 5 % 2147483647/13 % m,?_,veg _ (by omega),vd1 _ hm⟩
 have hn':(y+7919*j).natAbs<18446744073709551616:=by omega
 simp[fn4,exs,ev,e1,opW,opI,hx,s1,s2,hy,hn',hm,zah]
theorem zhz{k:Nat}{d c:Nat}{m q:Int}{ns:List Int}(hdc:d≠c)(hm:0<m)(hm2:m<1073741824):∀(n f:Nat) (g:VH) (x:Option W) (cells:List Int) (p:Int),n<f->(cells.length:Int)-p<=n->0<=p->(∀y∈cells,(0:Int)<=y)->
 g.get d=some (.lst [.fz (ns.map .int),.ref c,.int p,.int q])->g.get c=some (.lst (cells.map .int))->
 ∃(g':VH) (cells':List Int) (p':Int),0<=p'/\(∀y∈cells',(0:Int)<=y)/\cells'.length=cells.length/\g'.get d=some (.lst [.fz (ns.map .int),.ref c,.int p',.int q])/\g'.get c=some (.lst (cells'.map .int))/\g'.n=g.n/\(∀i,i≠d->i≠c->g'.get i=g.get i)/\
  ((∃r,whlG (ev (run F (k+2)) zhu) (exs (run F (k+2)) zer) f [some (.ref d),some (.int m),x] g=.ok (.rt (.int r)) g'/\0<=r/\r<m)\/∃y,whlG (ev (run F (k+2)) zhu) (exs (run F (k+2)) zer) f [some (.ref d),some (.int m),x] g=.ok (.nx [some (.ref d),some (.int m),y]) g')
 |n,0,g,x,cells,p,hf,_,_,_,_,_=>by omega
 |n,f+1,g,x,cells,p,hf,hn,hp,hnn,gd,gc=>by
  have ec:ev (run F (k+2)) zhu [some (.ref d),some (.int m),x] g=.ok (.bl (decide (p<cells.length))) g:=by
   simp[zhu,ev,idxW,gd,atI,ixN,biW,lenW,seqW,gc,cmpW,cmpI]
  by_cases hlt:p<cells.length
  .obtain⟨pn,rfl⟩:=vau hp
   have hpl:pn<cells.length:=by omega
   have hat:atI (cells.map W.int) (pn:Int)=some (.int cells[pn]):=zbd (by rw[vbr,vao hpl];rfl)
   by_cases hpos:0<cells[pn]
   .refine⟨g.set c (.lst ((cells.set pn (cells[pn]/m)).map .int)),cells.set pn (cells[pn]/m),pn,hp,?_,by simp,?_,zbb gc,rfl,λi _ hi=>zap gc hi,.inl ⟨cells[pn] % m,?_,veg _ (by omega),vd1 _ hm⟩⟩
    .intro y hy
     rcases List.mem_or_eq_of_mem_set hy with hy|rfl
     .exact hnn y hy
     .exact Int.ediv_nonneg (by omega) (by omega)
    .rw[zap gc hdc];exact gd
    .have hix:ixN (cells.map W.int).length (pn:Int)=some pn:=by
      unfold ixN
      rw[if_pos (by omega),if_pos (by rw[vaf];omega)];simp
     have eb:exs (run F (k+2)) zer [some (.ref d),some (.int m),x] g=.ok (.rt (.int (cells[pn] % m))) (g.set c (.lst ((cells.set pn (cells[pn]/m)).map .int))):=by
      have h2:atI [W.fz (ns.map .int),.ref c,.int pn,.int q] 2=some (.int pn):=rfl
      have h1:atI [W.fz (ns.map .int),.ref c,.int pn,.int q] 1=some (.ref c):=rfl
      simp[zer,exs,ev,idxW,gd,h1,h2,gc,hat,cmpW,cmpI,hpos,opW,opI,hm,hm2]at hix ⊢
      simp[hix,hm,List.map_set]
     simp[whlG,ec,hlt,eb]
   .have gs:(g.set d (.lst [.fz (ns.map .int),.ref c,.int ((pn:Int)+1),.int q])).get c=some (.lst (cells.map .int)):=by rw[zap gd (vbz hdc)];exact gc
    cases n with
    |zero=>omega
    |succ n=>
     obtain⟨g',cells',p',a1,a2,a3,a4,a5,a6,a7,a8⟩:=zhz (k:=k) hdc hm hm2 n f (g.set d (.lst [.fz (ns.map .int),.ref c,.int ((pn:Int)+1),.int q])) (some (.int cells[pn])) cells (pn+1) (by omega) (by omega) (by omega) hnn (zbb gd) gs
     have eb:exs (run F (k+2)) zer [some (.ref d),some (.int m),x] g=.ok (.nx [some (.ref d),some (.int m),some (.int cells[pn])]) (g.set d (.lst [.fz (ns.map .int),.ref c,.int ((pn:Int)+1),.int q])):=by
      have h2:atI [W.fz (ns.map .int),.ref c,.int pn,.int q] 2=some (.int pn):=rfl
      have h1:atI [W.fz (ns.map .int),.ref c,.int pn,.int q] 1=some (.ref c):=rfl
      have h3:ixN 4 2=some 2:=rfl
      simp[zer,exs,ev,idxW,gd,h1,h2,h3,gc,hat,cmpW,cmpI,hpos,opW,opI]
     refine⟨g',cells',p',a1,a2,a3,a4,a5,a6,λi h1 h2=>by rw[a7 i h1 h2,zap gd h1],?_⟩
     rcases a8 with⟨r,e,h3⟩|⟨y,e⟩
     .exact .inl ⟨r,by simp[whlG,ec,hlt,eb,e],h3⟩
     .exact .inr ⟨y,by simp[whlG,ec,hlt,eb,e]⟩
  .exact⟨g,cells,p,hp,hnn,rfl,gd,gc,rfl,λ_ _ _=>rfl,.inr ⟨x,by simp[whlG,ec,hlt]⟩⟩
omit C in
theorem zh0(g:Grow ⟨h.n,h.n,h.os⟩ h'):∃h2,leave h w h'=.ok w h2/\h.n<=h2.n/\∀i,i<h.n->h2.get i=h'.get i:=by
 unfold leave
 split
 .rename_i q
  rw[vaa]at q
  have hlo:=va5 q.1
  exact⟨h,rfl,vad _,λi hi=>by
   rw[g.2.2 i hi (vae hi hlo)]
   exact get_lo.symm⟩
 .exact⟨_,rfl,g.1,λi hi=>get_lo⟩
theorem take{k:Nat}{h:VH}{d c b:Nat}{m:Int}(D:Dk h d c b)(hb:b<1000000000)(hm:0<m)(hm2:m<1073741824):∃r h',run F (k+3) 5 [.ref d,.int m] h=.ok (.int r) h'/\0<=r/\r<m/\Dk h' d c (b+1)/\Keep h h' d c:=by
 rw[zak C.f5 rfl]
 obtain⟨hne,ns,cells,p,q,gd,gc,hnn,hp,hq,hqb,hl⟩:=D
 have gd0:VH.get ⟨h.n,h.n,h.os⟩ d=some (.lst [.fz (ns.map .int),.ref c,.int p,.int q]):=by rw[get_lo];exact gd
 have gc0:VH.get ⟨h.n,h.n,h.os⟩ c=some (.lst (cells.map .int)):=by rw[get_lo];exact gc
 obtain⟨g',cells',p',a1,a2,a3,a4,a5,a6,a7,a8⟩:=zhz C (k:=k) hne hm hm2 63 fuel ⟨h.n,h.n,h.os⟩ none cells p (by decide) (by omega) hp hnn gd0 gc0
 have key:∀(g2:VH)(r:Int)(cells2:List Int)(p2 q2:Int),exs (run F (k+2)) fn5.body [some (.ref d),some (.int m),none] ⟨h.n,h.n,h.os⟩=.ok (.rt (.int r)) g2->0<=r->r<m->0<=p2->0<=q2->q2<=b+1->cells2.length<=63->(∀y∈cells2,(0:Int)<=y)->
  g2.get d=some (.lst [.fz (ns.map .int),.ref c,.int p2,.int q2])->g2.get c=some (.lst (cells2.map .int))->(∀i,i<h.n->i≠d->i≠c->g2.get i=h.get i)->
  ∃r h',fin h (exs (run F (k+2)) fn5.body ([W.ref d,W.int m].map some++vgc (fn5.n-fn5.ps) none) ⟨h.n,h.n,h.os⟩)=.ok (.int r) h'/\0<=r/\r<m/\Dk h' d c (b+1)/\Keep h h' d c:=by
  intro g2 r cells2 p2 q2 e r1 r2 b1 b2 b3 b4 b5 b6 b7 b8
  obtain⟨h2,e2,hn2,hg2⟩:=zh0 (w:=.int r) (zhn (zbt F (k+2)) _ _ _ _ _ e)
  refine⟨r,h2,?_,r1,r2,⟨hne,ns,cells2,p2,q2,?_,?_,b5,b1,b2,by omega,b4⟩,⟨hn2,λi o h1 h3 e3=>?_⟩⟩
  .show fin h (exs (run F (k+2)) fn5.body [some (.ref d),some (.int m),none] ⟨h.n,h.n,h.os⟩)=_
   rw[e]
   exact e2
  .rw[hg2 d (zas gd)];exact b6
  .rw[hg2 c (zas gc)];exact b7
  .rw[hg2 i (zas e3),b8 i (zas e3) h1 h3];exact e3
 rcases a8 with⟨r,e,r1,r2⟩|⟨y,e⟩
 .refine key g' r cells' p' q ?_ r1 r2 a1 hq (by omega) (by omega) a2 a4 a5 λi hi h1 h2=>by rw[a7 i h1 h2,get_lo]
  simp[fn5,exs,e]
 .obtain⟨r,e2,r1,r2⟩:=mixed C (k:=k) (h:=g'.set d (.lst [.fz (ns.map .int),.ref c,.int p',.int (q+1)])) (ns:=ns) (j:=q+1) (m:=m) (by omega) (by omega) hm
  refine key (g'.set d (.lst [.fz (ns.map .int),.ref c,.int p',.int (q+1)])) r cells' p' (q+1) ?_ r1 r2 a1 (by omega) (by omega) (by omega) a2 (zbb a4) (by rw[zap a4 (vbz hne)];exact a5) λi hi h1 h2=>by rw[zap a4 h1,a7 i h1 h2,get_lo]
  have h3:atI [W.fz (ns.map .int),.ref c,.int p',.int q] 3=some (.int q):=rfl
  have h30:atI [W.fz (ns.map .int),.ref c,.int p',.int (q+1)] 3=some (.int (q+1)):=rfl
  have h00:atI [W.fz (ns.map .int),.ref c,.int p',.int (q+1)] 0=some (.fz (ns.map .int)):=rfl
  have h33:ixN 4 3=some 3:=rfl
  have hs:=zbb (o:=.lst [.fz (ns.map .int),.ref c,.int p',.int (q+1)]) a4
  simp[fn5,exs,e,ev,idxW,a4,h3,opW,opI,h33,hs,h30,h00,e2]
end
theorem zaa{ρ ρ':En}(e:exs cl a ρ h=.ok (.nx ρ') h'):exs cl (.seq a b) ρ h=exs cl b ρ' h':=by
 simp only[exs,e,bindok]
theorem zab{ρ:En}(e:exs cl a ρ h=.ok (.rt w) h'):exs cl (.seq a b) ρ h=.ok (.rt w) h':=by
 simp only[exs,e,bindok]
@[simp] theorem exs_skip {cl:Call} {ρ:En} {h:VH}:exs cl .skip ρ h=.ok (.nx ρ) h:=rfl
theorem Dk.new{d c b:Nat}(D:Dk h d c b):Dk (h.new o) d c b:=by
 obtain⟨ne,ns,cells,p,q,a1,a2,a3⟩:=D
 exact⟨ne,ns,cells,p,q,by rw[zae (zas a1)];exact a1,by rw[zae (zas a2)];exact a2,a3⟩
theorem Keep.new{d c:Nat}(K:Keep h h' d c):Keep h (h'.new o) d c:=⟨vd5 K.le,λi o' h1 h2 e=>by
 have:=K.get i o' h1 h2 e
 rw[zae (zas this)];exact this⟩
theorem Dk.lo{d c b l:Nat}(D:Dk h d c b):Dk ⟨h.n,l,h.os⟩ d c b:=by
 obtain⟨ne,ns,cells,p,q,a1,a2,a3⟩:=D
 exact⟨ne,ns,cells,p,q,by rw[get_lo];exact a1,by rw[get_lo];exact a2,a3⟩
theorem zbp{cl:Call}{d c b:Nat}{fl:Fl}{ρ:En}{k:Nat}(e:exs (run F k) body ρ ⟨h.n,h.n,h.os⟩=.ok (.rt w) h')(D0:Dk h d c 0\/∃b,Dk h d c b)(D:Dk h' d c b)(K:Keep ⟨h.n,h.n,h.os⟩ h' d c) :
 ∃h2,fin h (exs (run F k) body ρ ⟨h.n,h.n,h.os⟩)=.ok w h2/\Dk h2 d c b/\Keep h h2 d c:=by
 obtain⟨h2,e2,hn2,hg2⟩:=zh0 (w:=w) (zhn (zbt F k) _ _ _ _ _ e)
 have hd:d<h.n/\c<h.n:=by
  rcases D0 with⟨_,ns,cells,p,q,a1,a2,_⟩|⟨b,_,ns,cells,p,q,a1,a2,_⟩<;>exact⟨zas a1,zas a2⟩
 refine⟨h2,by rw[e];exact e2,?_,⟨hn2,λi o h1 h3 e3=>?_⟩⟩
 .obtain⟨ne,ns,cells,p,q,a1,a2,a3⟩:=D
  exact⟨ne,ns,cells,p,q,by rw[hg2 d hd.1];exact a1,by rw[hg2 c hd.2];exact a2,a3⟩
 .rw[hg2 i (zas e3)]
  exact K.get i o h1 h3 (by rw[get_lo];exact e3)
theorem andB{ρ:En}{x y:Bool}(ea:ev cl a ρ h=.ok (.bl x) h)(eb:ev cl b ρ h=.ok (.bl y) h):ev cl (.and a b) ρ h=.ok (.bl (x&&y)) h:=by
 rw[ev,ea,bindok]
 cases x
 .rfl
 .exact eb
theorem orB{ρ:En}{x y:Bool}(ea:ev cl a ρ h=.ok (.bl x) h)(eb:ev cl b ρ h=.ok (.bl y) h):ev cl (.or a b) ρ h=.ok (.bl (x||y)) h:=by
 rw[ev,ea,bindok]
 cases x
 .exact eb
 .rfl
structure CoreP(F:Nat->Option Fn):Prop extends CoreD F where
 f21:F 21=some fn21
 f23:F 23=some fn23
 f25:F 25=some fn25
noncomputable abbrev sDot:Str:=Str.ofString "."
noncomputable abbrev sLt:Str:=Str.ofString "<"
noncomputable abbrev sGt:Str:=Str.ofString ">"
noncomputable abbrev sX:Str:=Str.ofString "x"
noncomputable abbrev sS:Str:=Str.ofString "s"
theorem znr{c wd g:Int}:zaj (.str sDot) c wd g=true:=rfl
theorem may_s{c wd g:Int}:zaj (.str sS) c wd g=true:=rfl
theorem zrk{c wd g:Int}(h:0<c):zaj (.str sLt) c wd g=true:=by
 have:zaj (.str sLt) c wd g=decide (0<c):=rfl
 rw[this];simpa using h
theorem zrl{c wd g:Int}(h:c<wd-1):zaj (.str sGt) c wd g=true:=by
 have:zaj (.str sGt) c wd g=decide (c<wd-1):=rfl
 rw[this];simpa using h
theorem may_x{c wd g:Int}(h:0<c)(h2:c<wd-1):zaj (.str sX) c wd g=true:=by
 have:zaj (.str sX) c wd g=(decide (0<c)&&decide (c<wd-1)):=rfl
 rw[this];simp[h,h2]
theorem zxj{c wd g a b:Int}(a0:0<=a)(a1:a<g)(b0:0<=b)(b1:b<2)(h:0<c)(h2:c<wd-1):zaj (.tup [.int a,.int b]) c wd g=true:=by
 have h3:zbm (.tup [.int a,.int b]) g=true:=by
  simp only[zbm,within,vaa,vat]
  omega
 unfold zaj
 rw[h3,veq,if_pos rfl]
 simp[h,h2]
inductive Raw(g:Int):W->Prop
 |dot:Raw g (.str sDot)
 |lt:Raw g (.str sLt)
 |gt:Raw g (.str sGt)
 |x:Raw g (.str sX)
 |rk {a b:Int}:0<=a->a<g->0<=b->b<2->Raw g (.tup [.int a,.int b])
theorem za4{x y z:Str}(hx:PyData.strOk x=true)(hy:PyData.strOk y=true)(hz:PyData.strOk z=true):inW h (.str x) (.tup [.str y,.str z])=some (y==x||z==x):=by
 have sx:SeqAt.shaped (.str x)=true:=by unfold SeqAt.shaped;show(PyData.strOk x&&_)=true;rw[hx];rfl
 have sy:SeqAt.shaped (.str y)=true:=by unfold SeqAt.shaped;show(PyData.strOk y&&_)=true;rw[hy];rfl
 have sz:SeqAt.shaped (.str z)=true:=by unfold SeqAt.shaped;show(PyData.strOk z&&_)=true;rw[hz];rfl
 simp[inW,seqW,toD,mapO,sx,sy,sz,anyEq,PyData.eqv]
theorem zgt{a b:Int}{y z:Str}(hy:PyData.strOk y=true)(hz:PyData.strOk z=true):inW h (.tup [.int a,.int b]) (.tup [.str y,.str z])=some false:=by
 have sy:SeqAt.shaped (.str y)=true:=by unfold SeqAt.shaped;show(PyData.strOk y&&_)=true;rw[hy];rfl
 have sz:SeqAt.shaped (.str z)=true:=by unfold SeqAt.shaped;show(PyData.strOk z&&_)=true;rw[hz];rfl
 have st:SeqAt.shaped (.tuple [.int a,.int b])=true:=rfl
 simp[inW,seqW,toD,mapO,sy,sz,st,anyEq,PyData.eqv]
noncomputable def pCond:E:=(.or (.and (.cmp .eq (.var 1) (.cst (.int (0)))) (.cmp .nin (.var 5) (.tup (.cons (.cst (.str sDot)) (.cons (.cst (.str sGt)) .nil))))) (.and (.cmp .eq (.var 1) (.op .sub (.var 2) (.cst (.int (1))))) (.cmp .nin (.var 5) (.tup (.cons (.cst (.str sDot)) (.cons (.cst (.str sLt)) .nil))))))
noncomputable def pIdx:E:=(.idx (.lst (.cons (.cst (.str sGt)) (.cons (.cst (.str sLt)) (.cons (.cst (.str sDot)) .nil)))) (.bi .min (.cons (.op .add (.bi .int (.cons (.cmp .gt (.var 1) (.cst (.int (0)))) .nil)) (.op .mul (.cst (.int (2))) (.bi .int (.cons (.cmp .eq (.var 2) (.cst (.int (1)))) .nil)))) (.cons (.cst (.int (2))) .nil))))
noncomputable def pTail:S:=(.seq (.ite pCond (.seq (.ret pIdx) .skip) .skip) (.seq (.ret (.var 5)) .skip))
section
variable{F:Nat->Option Fn}(C:CoreP F)
include C
theorem piece{k:Nat}{d c b:Nat}{co wd g:Int}(D:Dk h d c b)(hb:b+5<1000000000)(h0:0<=co)(h1:co<wd)(g0:0<=g)(g1:g<=8) :
 ∃w h',run F (k+4) 21 [.ref d,.int co,.int wd,.int g] h=.ok w h'/\zaj w co wd g=true/\Dk h' d c (b+5)/\Keep h h' d c:=by
 rw[zak C.f21 rfl]
 have D0:Dk ⟨h.n,h.n,h.os⟩ d c b:=D.lo
 have tail:∀(w5:W)(lot:Int)(h3:VH),Raw g w5->∃w h4,exs (run F (k+3)) pTail
  [some (.ref d),some (.int co),some (.int wd),some (.int g),some (.int lot),some w5] h3=.ok (.rt w) h4/\zaj w co wd g=true/\(h4=h3\/∃o,h4=h3.new o):=by
  intro w5 lot h3 R
  have two:zbj 2=true:=zd4 (by decide) (by decide)
  have i0:atI [W.str sGt,.str sLt,.str sDot] 0=some (.str sGt):=rfl
  have i1:atI [W.str sGt,.str sLt,.str sDot] 1=some (.str sLt):=rfl
  have i2:atI [W.str sGt,.str sLt,.str sDot] 2=some (.str sDot):=rfl
  have eC:∀(b1 b2:Bool),inW h3 w5 (.tup [.str sDot,.str sGt])=some b1->inW h3 w5 (.tup [.str sDot,.str sLt])=some b2->ev (run F (k+3)) pCond [some (.ref d),some (.int co),some (.int wd),some (.int g),some (.int lot),some w5] h3=.ok (.bl ((decide (co=0) && !b1)|| (decide (co=wd-1) && !b2))) h3:=by
   intro b1 b2 n1 n2
   refine orB (andB ?_ ?_) (andB ?_ ?_)
   .simp only[ev,vba,vax,va1,ofsome,bindok,cmpW,zav,vav]
   .simp[ev,cmpW,n1]
   .simp only[ev,vba,vax,va1,ofsome,bindok,cmpW,zav,vav,opW,opI]
   .simp[ev,cmpW,n2]
  have fin1:∀(b1 b2:Bool),inW h3 w5 (.tup [.str sDot,.str sGt])=some b1->inW h3 w5 (.tup [.str sDot,.str sLt])=some b2->(co≠0\/b1=true)->(co≠wd-1\/b2=true)->zaj w5 co wd g=true->∃w h4,exs (run F (k+3)) pTail
   [some (.ref d),some (.int co),some (.int wd),some (.int g),some (.int lot),some w5] h3=.ok (.rt w) h4/\zaj w co wd g=true/\(h4=h3\/∃o,h4=h3.new o):=by
   intro b1 b2 n1 n2 o1 o2 hm
   refine⟨w5,h3,?_,hm,.inl rfl⟩
   have cond:=eC b1 b2 n1 n2
   rw[show((decide (co=0) && !b1)|| (decide (co=wd-1) && !b2))=false by rcases o1 with z|z<;>rcases o2 with z'|z'<;>simp[z,z']]at cond
   unfold pTail
   rw[exs,exs,cond,bindok]
   simp[exs,ev]
  have fin2:∀(b1 b2:Bool),inW h3 w5 (.tup [.str sDot,.str sGt])=some b1->inW h3 w5 (.tup [.str sDot,.str sLt])=some b2->((co=0/\b1=false)\/(co=wd-1/\b2=false))->∃w h4,exs (run F (k+3)) pTail
   [some (.ref d),some (.int co),some (.int wd),some (.int g),some (.int lot),some w5] h3=.ok (.rt w) h4/\zaj w co wd g=true/\(h4=h3\/∃o,h4=h3.new o):=by
   intro b1 b2 n1 n2 o
   have cond:ev (run F (k+3)) pCond [some (.ref d),some (.int co),some (.int wd),some (.int g),some (.int lot),some w5] h3=.ok (.bl true) h3:=by
    rw[eC b1 b2 n1 n2,show((decide (co=0) && !b1)|| (decide (co=wd-1) && !b2))=true by rcases o with⟨z,z'⟩|⟨z,z'⟩<;>simp[z,z']]
   have r1:∀(x:Str)(j:Int),(if(2:Int)< (if 0<co then 1 else 0)+2* (if wd=1 then 1 else 0)then 2 else(if 0<co then 1 else 0)+2* (if wd=1 then 1 else 0))=j->atI [W.str sGt,.str sLt,.str sDot] j=some (.str x)->ev (run F (k+3)) pIdx [some (.ref d),some (.int co),some (.int wd),some (.int g),some (.int lot),some w5] h3=.ok (.str x) (h3.new (.lst [W.str sGt,.str sLt,.str sDot])):=by
    intro x j hj ha
    have hg:=zam (h:=h3) (o:=.lst [W.str sGt,.str sLt,.str sDot])
    by_cases c0:0<co<;>by_cases c1:wd=1<;>simp[c0,c1]at hj<;>subst hj<;>simp[pIdx,ev,cmpW,cmpI,zav,opW,opI,two,biW,intW,minW,idxW,hg,ha,c0,c1]
   have fin:∀x:Str,ev (run F (k+3)) pIdx [some (.ref d),some (.int co),some (.int wd),some (.int g),some (.int lot),some w5] h3=.ok (.str x) (h3.new (.lst [W.str sGt,.str sLt,.str sDot]))->zaj (.str x) co wd g=true->
    ∃w h4,exs (run F (k+3)) pTail [some (.ref d),some (.int co),some (.int wd),some (.int g),some (.int lot),some w5] h3=.ok (.rt w) h4/\zaj w co wd g=true/\(h4=h3\/∃o,h4=h3.new o):=
    λx e hm=>⟨.str x,h3.new (.lst [W.str sGt,.str sLt,.str sDot]),by simp only[pTail,exs,cond,bindok,e],hm,.inr ⟨_,rfl⟩⟩
   by_cases w1:wd=1
   .exact fin sDot (r1 sDot 2 (by rw[if_neg (by omega:¬0<co)];simp[w1]) i2) znr
   .by_cases c0:co=0
    .exact fin sGt (r1 sGt 0 (by rw[if_neg (by omega:¬0<co)];simp[w1]) i0) (zrl (by omega))
    .exact fin sLt (r1 sLt 1 (by rw[if_pos (by omega:0<co)];simp[w1]) i1) (zrk (by omega))
  have d1:(sDot==sLt)=false:=by decide +kernel
  have d2:(sGt==sLt)=false:=by decide +kernel
  have d3:(sDot==sGt)=false:=by decide +kernel
  have d4:(sLt==sGt)=false:=by decide +kernel
  have d5:(sDot==sX)=false:=by decide +kernel
  have d6:(sGt==sX)=false:=by decide +kernel
  have d7:(sLt==sX)=false:=by decide +kernel
  have k1:PyData.strOk sDot=true:=by decide +kernel
  have k2:PyData.strOk sLt=true:=by decide +kernel
  have k3:PyData.strOk sGt=true:=by decide +kernel
  have k4:PyData.strOk sX=true:=by decide +kernel
  cases R with
  |dot=>exact fin1 true true (by rw[za4 k1 k1 k3];simp) (by rw[za4 k1 k1 k2];simp) (.inr rfl) (.inr rfl) znr
  |lt=>
   by_cases c0:co=0
   .exact fin2 false true (by rw[za4 k2 k1 k3,d1,d2];rfl) (by rw[za4 k2 k1 k2];simp) (.inl ⟨c0,rfl⟩)
   .exact fin1 false true (by rw[za4 k2 k1 k3,d1,d2];rfl) (by rw[za4 k2 k1 k2];simp) (.inl c0) (.inr rfl) (zrk (by omega))
  |gt=>
   by_cases c0:co=wd-1
   .exact fin2 true false (by rw[za4 k3 k1 k3];simp) (by rw[za4 k3 k1 k2,d3,d4];rfl) (.inr ⟨c0,rfl⟩)
   .exact fin1 true false (by rw[za4 k3 k1 k3];simp) (by rw[za4 k3 k1 k2,d3,d4];rfl) (.inr rfl) (.inl c0) (zrl (by omega))
  |x=>
   by_cases c0:co=0\/co=wd-1
   .exact fin2 false false (by rw[za4 k4 k1 k3,d5,d6];rfl) (by rw[za4 k4 k1 k2,d5,d7];rfl) (c0.elim (λz=>.inl ⟨z,rfl⟩) λz=>.inr ⟨z,rfl⟩)
   .exact fin1 false false (by rw[za4 k4 k1 k3,d5,d6];rfl) (by rw[za4 k4 k1 k2,d5,d7];rfl) (.inl (by omega)) (.inl (by omega)) (may_x (by omega) (by omega))
  |rk a0 a1 b0 b1=>
   by_cases c0:co=0\/co=wd-1
   .exact fin2 false false (zgt k1 k3) (zgt k1 k2) (c0.elim (λz=>.inl ⟨z,rfl⟩) λz=>.inr ⟨z,rfl⟩)
   .exact fin1 false false (zgt k1 k3) (zgt k1 k2) (.inl (by omega)) (.inl (by omega)) (zxj a0 a1 b0 b1 (by omega) (by omega))
 obtain⟨lot,h1',e1,l0,l1,D1,K1⟩:=take C.toCoreD (k:=k) (m:=10) D0 (by omega) (by decide) (by decide)
 have done:∀(w5:W)(h3:VH),Raw g w5->Dk h3 d c (b+5)->Keep ⟨h.n,h.n,h.os⟩ h3 d c->exs (run F (k+3)) fn21.body [some (.ref d),some (.int co),some (.int wd),some (.int g),none,none] ⟨h.n,h.n,h.os⟩=exs (run F (k+3)) pTail [some (.ref d),some (.int co),some (.int wd),some (.int g),some (.int lot),some w5] h3->
  ∃w h',fin h (exs (run F (k+3)) fn21.body [some (.ref d),some (.int co),some (.int wd),some (.int g),none,none] ⟨h.n,h.n,h.os⟩)=.ok w h'/\zaj w co wd g=true/\Dk h' d c (b+5)/\Keep h h' d c:=by
  intro w5 h3 R D3 K3 e
  obtain⟨w,h4,e4,hm,hh⟩:=tail w5 lot h3 R
  have D4:Dk h4 d c (b+5)/\Keep ⟨h.n,h.n,h.os⟩ h4 d c:=by
   rcases hh with rfl|⟨o,rfl⟩
   .exact⟨D3,K3⟩
   .exact⟨D3.new,K3.new⟩
  obtain⟨h5,e5,D5,K5⟩:=zbp (cl:=run F (k+3)) (fl:=.nx []) (e.trans e4) (.inr ⟨b,D⟩) D4.1 D4.2
  exact⟨w,h5,e5,hm,D5,K5⟩
 have hg1:=zam (h:=h1') (o:=.lst [W.str sDot,.str sLt,.str sGt,.str sX,.str sDot,.str sDot])
 have two:∀(x:Str)(j:Int),(if(5:Int)<lot then 5 else lot)=j->atI [W.str sDot,.str sLt,.str sGt,.str sX,.str sDot,.str sDot] j=some (.str x)->∀rest:S,exs (run F (k+3)) (.seq (.set 4 (.call 5 (.cons (.var 0) (.cons (.cst (.int (10))) .nil)))) (.seq (.set 5 (.idx (.lst (.cons (.cst (.str sDot)) (.cons (.cst (.str sLt)) (.cons (.cst (.str sGt)) (.cons (.cst (.str sX)) (.cons (.cst (.str sDot)) (.cons (.cst (.str sDot)) .nil))))))) (.bi .min (.cons (.var 4) (.cons (.cst (.int (5))) .nil))))) rest)) [some (.ref d),some (.int co),some (.int wd),some (.int g),none,none] ⟨h.n,h.n,h.os⟩ =
  exs (run F (k+3)) rest [some (.ref d),some (.int co),some (.int wd),some (.int g),some (.int lot),some (.str x)] (h1'.new (.lst [W.str sDot,.str sLt,.str sGt,.str sX,.str sDot,.str sDot])):=by
  intro x j hj ha rest
  refine(zaa (ρ':=[some (.ref d),some (.int co),some (.int wd),some (.int g),some (.int lot),none]) (h':=h1') (by simp[exs,ev,e1])).trans ?_
  refine zaa ?_
  by_cases q:(5:Int)<lot
  .rw[if_pos q]at hj
   subst hj
   simp[exs,ev,biW,minW,q,idxW,hg1,ha]
  .rw[if_neg q]at hj
   subst hj
   simp[exs,ev,biW,minW,q,idxW,hg1,ha]
 have low:∀(x:Str),lot<=3->atI [W.str sDot,.str sLt,.str sGt,.str sX,.str sDot,.str sDot] lot=some (.str x)->Raw g (.str x)->_:=λx hl ha R=>done (.str x) (h1'.new (.lst [W.str sDot,.str sLt,.str sGt,.str sX,.str sDot,.str sDot])) R (D1.new.mono (by omega)) K1.new (by
  refine(two x lot (if_neg (by omega)) ha _).trans ?_
  have n1:¬(4<lot):=by omega
  have n2:¬(lot=4):=by omega
  refine(zaa (ρ':=[some (.ref d),some (.int co),some (.int wd),some (.int g),some (.int lot),some (.str x)]) (h':=h1'.new (.lst [W.str sDot,.str sLt,.str sGt,.str sX,.str sDot,.str sDot])) (by simp[exs,ev,cmpW,cmpI,n1])).trans ?_
  refine(zaa (ρ':=[some (.ref d),some (.int co),some (.int wd),some (.int g),some (.int lot),some (.str x)]) (h':=h1'.new (.lst [W.str sDot,.str sLt,.str sGt,.str sX,.str sDot,.str sDot])) (by simp[exs,ev,cmpW,zav,n2])).trans ?_
  rfl)
 by_cases l4:lot<=3
 .have:lot=0\/lot=1\/lot=2\/lot=3:=by omega
  rcases this with z|z|z|z
  .exact low sDot l4 (by rw[z];rfl) .dot
  .exact low sLt l4 (by rw[z];rfl) .lt
  .exact low sGt l4 (by rw[z];rfl) .gt
  .exact low sX l4 (by rw[z];rfl) .x
 .by_cases l5:lot=4
  ·-- a blind place,or nothing
   obtain⟨r4,h4,e4,_,_,D4,K4⟩:=take C.toCoreD (k:=k) (m:=4) (D1.new (o:=.lst [W.str sDot,.str sLt,.str sGt,.str sX,.str sDot,.str sDot])) (by omega) (by decide) (by decide)
   have n1:¬(4<lot):=by omega
   have s3:∀rest:S,exs (run F (k+3)) (.seq (.ite (.and (.cmp .gt (.var 4) (.cst (.int (4)))) (.cmp .gt (.var 3) (.cst (.int (0))))) (.seq (.set 5 (.tup (.cons (.call 5 (.cons (.var 0) (.cons (.var 3) .nil))) (.cons (.call 5 (.cons (.var 0) (.cons (.cst (.int (2))) .nil))) .nil)))) .skip) .skip) rest) [some (.ref d),some (.int co),some (.int wd),some (.int g),some (.int lot),some (.str sDot)] (h1'.new (.lst [W.str sDot,.str sLt,.str sGt,.str sX,.str sDot,.str sDot]))=exs (run F (k+3)) rest [some (.ref d),some (.int co),some (.int wd),some (.int g),some (.int lot),some (.str sDot)] (h1'.new (.lst [W.str sDot,.str sLt,.str sGt,.str sX,.str sDot,.str sDot])):=λrest=>zaa (by simp[exs,ev,cmpW,cmpI,n1])
   by_cases r0:r4=0
   .obtain⟨h5,e5,D5,K5⟩:=zbp (cl:=run F (k+3)) (fl:=.nx []) (w:=.str sS) (body:=fn21.body) (ρ:=[some (.ref d),some (.int co),some (.int wd),some (.int g),none,none]) (F:=F) (k:=k+3) (h:=h) (h':=h4) (b:=b+5) ((two sDot 4 (by rw[l5];rfl) rfl _).trans ((s3 _).trans (zab (by simp[exs,ev,cmpW,zav,l5,e4,r0])))) (.inr ⟨b,D⟩) (D4.mono (by omega)) (K1.new.trans K4)
    exact⟨_,h5,e5,may_s,D5,K5⟩
   .exact done (.str sDot) h4 .dot (D4.mono (by omega)) (K1.new.trans K4) ((two sDot 4 (by rw[l5];rfl) rfl _).trans ((s3 _).trans (zaa (by simp[exs,ev,cmpW,zav,l5,e4,r0]))))
  ·-- a zbm,if there are groups
   have n1:4<lot:=by omega
   have n2:¬(lot=4):=by omega
   have ha:∃j:Int,(if(5:Int)<lot then 5 else lot)=j/\atI [W.str sDot,.str sLt,.str sGt,.str sX,.str sDot,.str sDot] j=some (.str sDot):=⟨5,by split<;>omega,rfl⟩
   obtain⟨j,hj,ha⟩:=ha
   by_cases hg:0<g
   .obtain⟨ra,h4,e4,a0,a1,D4,K4⟩:=take C.toCoreD (k:=k) (m:=g) (D1.new (o:=.lst [W.str sDot,.str sLt,.str sGt,.str sX,.str sDot,.str sDot])) (by omega) hg (by omega)
    obtain⟨rb,h5,e5,b0,b1,D5,K5⟩:=take C.toCoreD (k:=k) (m:=2) D4 (by omega) (by decide) (by decide)
    exact done (.tup [.int ra,.int rb]) h5 (.rk a0 a1 b0 b1) (D5.mono (by omega)) ((K1.new.trans K4).trans K5) ((two sDot j hj ha _).trans ((zaa (ρ':=[some (.ref d),some (.int co),some (.int wd),some (.int g),some (.int lot),some (.tup [.int ra,.int rb])]) (h':=h5) (by simp[exs,ev,cmpW,cmpI,n1,hg,e4,e5])).trans (zaa (by simp[exs,ev,cmpW,zav,n2]))))
   .exact done (.str sDot) (h1'.new (.lst [W.str sDot,.str sLt,.str sGt,.str sX,.str sDot,.str sDot])) .dot (D1.new.mono (by omega)) K1.new ((two sDot j hj ha _).trans ((zaa (ρ':=[some (.ref d),some (.int co),some (.int wd),some (.int g),some (.int lot),some (.str sDot)]) (h':=h1'.new (.lst [W.str sDot,.str sLt,.str sGt,.str sX,.str sDot,.str sDot])) (by simp[exs,ev,cmpW,cmpI,n1,hg])).trans (zaa (by simp[exs,ev,cmpW,zav,n2]))))
end
noncomputable def allF(P:Int->W->Prop):Int->List W->Prop
 |_,[]=>True
 |a,w::r=>P a w/\allF P (a+1) r
theorem zcu{P:W->Prop}:∀{ws:List W} {a:Int},allF (λ_ w=>P w) a ws->∀w∈ws,P w
 |[],_,_,w,h=>by cases h
 |x::r,a,⟨h1,h2⟩,w,h=>by
  rcases vaw.mp h with rfl|h
  .exact h1
  .exact zcu h2 w h
theorem zdj{P:Int->W->Prop}{d c m lim:Nat}(hs:∀(i:Int) (h:VH) (b:Nat),0<=i->i<lim->Dk h d c b->b+m<1000000000->∃w h',ev cl e (some (.int i)::tl) h=.ok w h'/\P i w/\Dk h' d c (b+m)/\Keep h h' d c) :
 ∀(n:Nat)(a:Int)(x:Option W)(h:VH)(b:Nat),0<=a->a+n<=lim->Dk h d c b->b+m*n<1000000000->
  ∃ws h',lcL (tgW (.one 0)) (λ_ h=>.ok (.bl true) h) (ev cl e) (zax a n) (x::tl) h=.ok ws h'/\allF P a ws/\ws.length=n/\Dk h' d c (b+m*n)/\Keep h h' d c
 |0,a,x,h,b,_,_,D,_=>⟨[],h,rfl,trivial,rfl,by simpa using D,.refl⟩
 |n+1,a,x,h,b,ha,hl,D,hb=>by
  have e1:m* (n+1)=m*n+m:=Nat.mul_succ m n
  obtain⟨w,h1,e2,p1,D1,K1⟩:=hs a h b ha (by omega) D (by omega)
  obtain⟨ws,h2,e3,p2,l2,D2,K2⟩:=zdj hs n (a+1) (some (.int a)) h1 (b+m) (by omega) (by omega) D1 (by omega)
  refine⟨w::ws,h2,?_,⟨p1,p2⟩,by rw[vai,l2],D2.mono (by omega),K1.trans K2⟩
  simp only[zax,lcL,tgW,List.set,ev,bindok,e2,e3]
theorem zbq{n:Nat}(h:n<=1000000):Nat.ble n big=true:=veb.mpr (van h (by decide))
theorem zrm{ρ:En}{n ow:Nat}{ix:List Nat}(ea:ev cl a ρ h=.ok (.tup [.int n]) h1)(hn:n<1000000)(el:lcL (tgW (.one 0)) (λ_ h=>.ok (.bl true) h) (ev cl e) (zax 0 n) (inner ow ix ρ) h1=.ok ys h2)(hy:ys.length<=1000000) :
 ev cl (.lc .rng1 a (.one 0) ow ix (.cst (.bl true)) e) ρ h=.ok (.ref h2.n) (h2.new (.lst ys)):=by
 have l:=zxi (n:=n) (tg:=tgW (.one 0)) (c:=λ_ h=>.ok (.bl true) h) (e:=ev cl e) (ρ:=inner ow ix ρ) (h:=h1) hn
 rw[el]at l
 have q:ev cl (.lc .rng1 a (.one 0) ow ix (.cst (.bl true)) e) ρ h=(ev cl a ρ h).bind λx h=>(lcG (nxt .rng1 x) (tgW (.one 0)) (ev cl (.cst (.bl true))) (ev cl e) fuel 0 (inner ow ix ρ) h []).bind λys h=>if Nat.ble ys.length big then .ok (.ref h.n) (h.new (.lst ys))else .no:=by rw[ev]
 rw[q,ea,bindok]
 show(lcG (nxt .rng1 (.tup [.int n])) (tgW (.one 0)) (λ_ h=>.ok (.bl true) h) (ev cl e) fuel 0 (inner ow ix ρ) h1 []).bind _=_
 rw[l,bindok,if_pos (zbq hy)]
theorem zrn{ρ:En}{i:Nat}(e:ev cl x ρ h=.ok (.ref i) h1)(g:h1.get i=some (.lst ys)):ev cl (.bi .tuple (.cons x .nil)) ρ h=.ok (.tup ys) h1:=by
 simp only[ev,e,bindok,biW,zei,seqW,g,vav,ofsome]
theorem zj1{ρ:En}{n ow:Nat}{ix:List Nat}(ea:ev cl a ρ h=.ok (.tup [.int n]) h1)(hn:n<1000000)(el:lcL (tgW (.one 0)) (λ_ h=>.ok (.bl true) h) (ev cl e) (zax 0 n) (inner ow ix ρ) h1=.ok ys h2)(hy:ys.length<=1000000) :
 ev cl (.bi .tuple (.cons (.lc .rng1 a (.one 0) ow ix (.cst (.bl true)) e) .nil)) ρ h=.ok (.tup ys) (h2.new (.lst ys)):=zrn (zrm ea hn el hy) zam
theorem zfp{wd g:Int}:∀{ws:List W} {c:Int},allF (λi w=>zaj w i wd g=true) c ws->rowOk wd g c ws
 |[],_,_=>trivial
 |_::_,_,⟨h1,h2⟩=>⟨h1,zfp h2⟩
section
variable{F:Nat->Option Fn}(C:CoreP F)
include C
theorem row{k:Nat}{d c b:Nat}{wd:Nat}{g:Int}(D:Dk h d c b)(hb:b+200<1000000000)(h1:wd<=40)(g0:0<=g)(g1:g<=8) :
 ∃ws h',run F (k+5) 25 [.ref d,.int wd,.int g] h=.ok (.tup ws) h'/\ws.length=wd/\rowOk wd g 0 ws/\Dk h' d c (b+200)/\Keep h h' d c:=by
 rw[zak C.f25 rfl]
 have D0:Dk ⟨h.n,h.n,h.os⟩ d c b:=D.lo
 obtain⟨ws,h2,e2,p2,l2,D2,K2⟩:=zdj (cl:=run F (k+4)) (P:=λi w=>zaj w i wd g=true) (e:=zgq) (tl:=[some (.ref d),some (.int g),some (.int wd)]) (m:=5) (lim:=wd) (λi h b h0 hl D hb=>by
  obtain⟨w,h',e,a1,a2,a3⟩:=piece C (k:=k) (co:=i) (wd:=wd) (g:=g) D hb h0 hl g0 g1
  exact⟨w,h',by simp[zgq,ev,e],a1,a2,a3⟩) wd 0 none ⟨h.n,h.n,h.os⟩ b (by omega) (by omega) D0 (by omega)
 have e3:=zj1 (cl:=run F (k+4)) (a:=.cons (.var 1) .nil) (ρ:=[some (.ref d),some (.int wd),some (.int g)]) (h:=⟨h.n,h.n,h.os⟩) (ow:=1) (ix:=[0,2,1]) (e:=zgq) (by simp[ev]) (by omega) e2 (by omega)
 obtain⟨h5,e5,D5,K5⟩:=zbp (cl:=run F (k+4)) (fl:=.nx []) (w:=.tup ws) (body:=fn25.body) (ρ:=[some (.ref d),some (.int wd),some (.int g)]) (F:=F) (k:=k+4) (h:=h) (h':=h2.new (.lst ws)) (by simp only[fn25,exs,e3,bindok]) (.inr ⟨b,D⟩) (D2.new.mono (show _<=b+200 by omega)) K2.new
 exact⟨ws,h5,e5,l2,zfp p2,D5,K5⟩
theorem zku{k:Nat}{d c b:Nat}{nf:Int}(D:Dk h d c b)(hb:b+5<1000000000)(n0:1<=nf)(n1:nf<=4) :
 ∃w h',run F (k+4) 23 [.ref d,.int nf] h=.ok w h'/\door w nf=true/\Dk h' d c (b+5)/\Keep h h' d c:=by
 rw[zak C.f23 rfl]
 have D0:Dk ⟨h.n,h.n,h.os⟩ d c b:=D.lo
 obtain⟨r1,h1,e1,a1,b1,D1,K1⟩:=take C.toCoreD (k:=k) (m:=3) D0 (by omega) (by decide) (by decide)
 obtain⟨r2,h2,e2,a2,b2,D2,K2⟩:=take C.toCoreD (k:=k) (m:=100) D1 (by omega) (by decide) (by decide)
 have hg:=zam (h:=h2) (o:=.lst [.int r1,.int r2])
 obtain⟨r3,h3,e3,a3,b3,D3,K3⟩:=take C.toCoreD (k:=k) (m:=4) (D2.new (o:=.lst [.int r1,.int r2])) (by omega) (by decide) (by decide)
 obtain⟨r4,h4,e4,a4,b4,D4,K4⟩:=take C.toCoreD (k:=k) (m:=nf) D3 (by omega) (by omega) (by omega)
 obtain⟨r5,h5,e5,a5,b5,D5,K5⟩:=take C.toCoreD (k:=k) (m:=8) D4 (by omega) (by decide) (by decide)
 obtain⟨_,ns,cells,p,q,gd,gc,_⟩:=D2
 have hg3:h3.get h2.n=some (.lst [.int r1,.int r2]):=K3.get _ _ (va8 (zas gd)) (va8 (zas gc)) hg
 have KK:Keep ⟨h.n,h.n,h.os⟩ h5 d c:=((((K1.trans K2).new (o:=.lst [.int r1,.int r2])).trans K3).trans K4).trans K5
 have nm:∃x:Int,0<=x/\x<=99/\exs (run F (k+3)) (.set 2 (.idx (.lst (.cons (.call 5 (.cons (.var 0) (.cons (.cst (.int (3))) .nil))) (.cons (.call 5 (.cons (.var 0) (.cons (.cst (.int (100))) .nil))) .nil))) (.bi .int (.cons (.cmp .eq (.call 5 (.cons (.var 0) (.cons (.cst (.int (4))) .nil))) (.cst (.int (0)))) .nil)))) [some (.ref d),some (.int nf),none,none] ⟨h.n,h.n,h.os⟩=.ok (.nx [some (.ref d),some (.int nf),some (.int x),none]) h3:=by
  have i0:atI [W.int r1,.int r2] 0=some (.int r1):=rfl
  have i1:atI [W.int r1,.int r2] 1=some (.int r2):=rfl
  by_cases z:r3=0
  .exact⟨r2,a2,by omega,by simp[exs,ev,e1,e2,e3,cmpW,zav,z,biW,intW,idxW,hg3,i1]⟩
  .exact⟨r1,a1,by omega,by simp[exs,ev,e1,e2,e3,cmpW,zav,z,biW,intW,idxW,hg3,i0]⟩
 obtain⟨x,x0,x1,ex⟩:=nm
 have e6:exs (run F (k+3)) (.set 3 (.call 5 (.cons (.var 0) (.cons (.var 1) .nil)))) [some (.ref d),some (.int nf),some (.int x),none] h3=.ok (.nx [some (.ref d),some (.int nf),some (.int x),some (.int r4)]) h4:=by simp[exs,ev,e4]
 have hd:∀w:W,w=.tup [.int x,.non]\/w=.tup [.int x,.int r4]->door w nf=true:=by
  intro w hw
  rcases hw with rfl|rfl
  .simp[door,within,fon,isNon,x0,x1]
  .simp only[door,within,fon,isNon,vaa,vat,Bool.false_or]
   omega
 have body:∃w,exs (run F (k+3)) fn23.body [some (.ref d),some (.int nf),none,none] ⟨h.n,h.n,h.os⟩=.ok (.rt w) h5/\door w nf=true:=by
  by_cases z:r5=0
  .exact⟨.tup [.int x,.non],(zaa ex).trans ((zaa e6).trans (by simp[exs,ev,e5,cmpW,zav,z])),hd _ (.inl rfl)⟩
  .exact⟨.tup [.int x,.int r4],(zaa ex).trans ((zaa e6).trans (by simp[exs,ev,e5,cmpW,zav,z])),hd _ (.inr rfl)⟩
 obtain⟨w,eb,hw⟩:=body
 obtain⟨h6,e7,D6,K6⟩:=zbp (cl:=run F (k+3)) (fl:=.nx []) eb (.inr ⟨b,D⟩) (D5.mono (show _<=b+5 by omega)) KK
 exact⟨w,h6,e7,hw,D6,K6⟩
theorem ztq{k:Nat}{d c wd n b:Nat}{g:Int}{x:Option W}(D:Dk h d c b)(hb:b+200*n<1000000000)(h1:wd<=40)(g0:0<=g)(g1:g<=8) :
 ∃(rs:List (List W)) (h':VH),lcL (tgW (.one 0)) (λ_ h=>.ok (.bl true) h) (ev (run F (k+5)) (.call 25 (.cons (.var 1) (.cons (.var 3) (.cons (.var 2) .nil))))) (zax 0 n) [x,some (.ref d),some (.int g),some (.int wd)] h=.ok (rs.map .tup) h'/\rs.length=n/\(∀r∈rs,(r.length:Int)=wd/\rowOk wd g 0 r)/\Dk h' d c (b+200*n)/\Keep h h' d c:=by
 obtain⟨ws,h',e,p,l,D',K'⟩:=zdj (cl:=run F (k+5)) (P:=λ_ w=>∃r,w=.tup r/\(r.length:Int)=wd/\rowOk wd g 0 r) (e:=.call 25 (.cons (.var 1) (.cons (.var 3) (.cons (.var 2) .nil)))) (tl:=[some (.ref d),some (.int g),some (.int wd)]) (m:=200) (lim:=n) (λi h b _ _ D hb=>by
  obtain⟨ws,h',e,a1,a2,a3,a4⟩:=row C (k:=k) (wd:=wd) (g:=g) D hb h1 g0 g1
  exact⟨.tup ws,h',by simp[ev,e],⟨ws,rfl,by omega,a2⟩,a3,a4⟩) n 0 x h b (by omega) (by omega) D hb
 replace p:=zcu p
 have hr:∃rs:List (List W),ws=rs.map .tup/\∀r∈rs,(r.length:Int)=wd/\rowOk wd g 0 r:=by
  clear e l
  induction ws with
  |nil=>exact⟨[],rfl,λr hr=>by cases hr⟩
  |cons w ws ih=>
   obtain⟨rs,e1,e2⟩:=ih λw hw=>p w (vak _ hw)
   obtain⟨r,e3,e4⟩:=p w vap
   refine⟨r::rs,by rw[e3,e1];rfl,λq hq=>?_⟩
   rcases vaw.mp hq with rfl|hq
   .exact e4
   .exact e2 q hq
 obtain⟨rs,rfl,hrs⟩:=hr
 exact⟨rs,h',e,by rw[<-l,vaf],hrs,D',K'⟩
theorem zkv{k:Nat}{d c wd n b:Nat}{x:Option W}(D:Dk h d c b)(hb:b+1*n<1000000000)(h0:1<=wd)(h1:wd<=40) :
 ∃(fs:List W) (h':VH),lcL (tgW (.one 0)) (λ_ h=>.ok (.bl true) h) (ev (run F (k+3)) (.call 5 (.cons (.var 1) (.cons (.var 2) .nil)))) (zax 0 n) [x,some (.ref d),some (.int wd)] h=.ok fs h'/\fs.length=n/\(∀f∈fs,within f 0 ((wd:Int)-1)=true)/\Dk h' d c (b+1*n)/\Keep h h' d c:=by
 obtain⟨ws,h',e,p,l,D',K'⟩:=zdj (cl:=run F (k+3)) (P:=λ_ w=>within w 0 ((wd:Int)-1)=true) (e:=.call 5 (.cons (.var 1) (.cons (.var 2) .nil))) (tl:=[some (.ref d),some (.int wd)]) (m:=1) (lim:=n) (λi h b _ _ D hb=>by
  obtain⟨r,h',e,a1,a2,a3,a4⟩:=take C.toCoreD (k:=k) (m:=wd) D (by omega) (by omega) (by omega)
  exact⟨.int r,h',by simp[ev,e],by simp only[within,vaa,vat];omega,a3,a4⟩) n 0 x h b (by omega) (by omega) D hb
 exact⟨ws,h',e,l,zcu p,D',K'⟩
theorem zp7{k:Nat}{d c n b:Nat}{x:Option W}(D:Dk h d c b)(hb:b+5*n<1000000000)(h0:1<=fs.length)(h1:fs.length<=4) :
 ∃(ds:List W) (h':VH),lcL (tgW (.one 0)) (λ_ h=>.ok (.bl true) h) (ev (run F (k+4)) (.call 23 (.cons (.var 1) (.cons (.bi .len (.cons (.var 2) .nil)) .nil)))) (zax 0 n) [x,some (.ref d),some (.tup fs)] h=.ok ds h'/\ds.length=n/\(∀w∈ds,door w fs.length=true)/\Dk h' d c (b+5*n)/\Keep h h' d c:=by
 obtain⟨ws,h',e,p,l,D',K'⟩:=zdj (cl:=run F (k+4)) (P:=λ_ w=>door w fs.length=true) (e:=.call 23 (.cons (.var 1) (.cons (.bi .len (.cons (.var 2) .nil)) .nil))) (tl:=[some (.ref d),some (.tup fs)]) (m:=5) (lim:=n) (λi h b _ _ D hb=>by
  obtain⟨w,h',e,a1,a2,a3⟩:=zku C (k:=k) (nf:=fs.length) D hb (by omega) (by omega)
  exact⟨w,h',by simp[ev,e,biW,lenW,seqW],a1,a2,a3⟩) n 0 x h b (by omega) (by omega) D hb
 exact⟨ws,h',e,l,zcu p,D',K'⟩
end
structure CoreQ(F:Nat->Option Fn):Prop extends CoreP F where
 f26:F 26=some fn26
theorem lb{b n k:Nat}(hb:b+n<1000000000)(h:k<=n):b+k<1000000000:=by omega
theorem bd0{m:Int}(h:m<=60):m+1<1073741824:=by omega
theorem bd1{t m:Int}(a:0<=t)(b:t<m)(h:m<=40):∃n:Nat,1+t=n/\1<=n/\n<=40/\(n:Int)<=m:=⟨(1+t).toNat,by omega,by omega,by omega,by omega⟩
theorem bd3{b c n k m:Nat}(h:n<=m):b+c+k*n<=b+ (c+k*m):=by
 rw[Nat.add_assoc]
 exact vcw (vcw (Nat.mul_le_mul_left k h) c) b
section
variable{F:Nat->Option Fn}(C:CoreQ F)
include C
theorem zi1{k:Nat}{d c b:Nat}{mw mr mg:Int}(D:Dk h d c b)(hb:b+13000<1000000000)(w0:1<=mw)(w1:mw<=40)(r0:0<=mr)(r1:mr<=60)(g0:0<=mg)(g1:mg<=8) :
 ∃B h',run F (k+6) 26 [.ref d,.int mw,.int mr,.int mg] h=.ok (Bd.w B) h'/\B.Ok/\B.wd<=mw/\B.gr<=mg/\(B.rows.length:Int)<=mr/\Dk h' d c (b+13000)/\Keep h h' d c:=by
 rw[zak C.f26 rfl]
 have D0:Dk ⟨h.n,h.n,h.os⟩ d c b:=D.lo
 obtain⟨t1,h1,e1,a1,b1,D1,K1⟩:=take C.toCoreD (k:=k+2) (m:=mw) D0 (lb (k:=0) hb (by decide)) (Int.lt_of_lt_of_le (by decide) w0) (Int.lt_of_le_of_lt w1 (by decide))
 obtain⟨wd,hwd,wd1,wd2,wd3⟩:=bd1 a1 b1 w1
 obtain⟨gr,h2,e2,a2,b2,D2,K2⟩:=take C.toCoreD (k:=k+2) (m:=mg+1) D1 (lb (k:=1) hb (by decide)) (Int.lt_add_one_of_le g0) (bd0 (vei g1 (by decide)))
 have b2:=Int.le_of_lt_add_one b2
 have g2:=vei b2 g1
 obtain⟨t3,h3,e3,a3,b3,D3,K3⟩:=take C.toCoreD (k:=k+2) (m:=mr+1) D2 (lb (k:=2) hb (by decide)) (Int.lt_add_one_of_le r0) (bd0 r1)
 obtain⟨nr,hnr⟩:=vau a3
 have nr1:(nr:Int)<=mr:=hnr▸Int.le_of_lt_add_one b3
 have nr2:nr<=60:=vej.mp (vei nr1 r1)
 obtain⟨rs,h4,e4,l4,p4,D4,K4⟩:=ztq C.toCoreP (k:=k) (n:=nr) (wd:=wd) (g:=gr) (x:=none) D3 (va6 (bd3 (c:=3) nr2) (lb hb (by decide))) wd2 a2 g2
 have D4:=D4.mono (bd3 (c:=3) nr2)
 have D4':=D4.new (o:=.lst (rs.map .tup))
 obtain⟨t5,h5,e5,a5,b5,D5,K5⟩:=take C.toCoreD (k:=k+2) (m:=4) D4' (lb hb (by decide)) (by decide) (by decide)
 obtain⟨nf,hnf,nf1,_,nf2⟩:=bd1 a5 b5 (by decide)
 have nf2:=vej.mp nf2
 obtain⟨fs,h6,e6,l6,p6,D6,K6⟩:=zkv C.toCoreP (k:=k+2) (n:=nf) (wd:=wd) (x:=none) D5 (va6 (bd3 (c:=12004) nf2) (lb hb (by decide))) wd1 wd2
 have D6:=D6.mono (bd3 (c:=12004) nf2)
 have D6':=D6.new (o:=.lst fs)
 obtain⟨ds,h7,e7,l7,p7,D7,K7⟩:=zp7 C.toCoreP (k:=k+1) (n:=wd) (fs:=fs) (x:=none) D6' (va6 (bd3 (c:=12008) wd2) (lb hb (by decide))) (l6▸nf1) (l6▸nf2)
 obtain⟨hne,ns,cells,p,q,gd,gc,_⟩:=D4
 have gl:(h7.new (.lst ds)).get h4.n=some (.lst (rs.map .tup)):=by
  have n1:h4.n≠d:=va8 (zas gd)
  have n2:h4.n≠c:=va8 (zas gc)
  have q1:=K5.get h4.n _ n1 n2 zam
  have q2:=K6.get h4.n _ n1 n2 q1
  have q3:(h6.new (.lst fs)).get h4.n=some (.lst (rs.map .tup)):=by rw[zae (zas q2)];exact q2
  have q4:=K7.get h4.n _ n1 n2 q3
  rw[zae (zas q4)];exact q4
 have s1:exs (run F (k+5)) (.set 4 (.op .add (.cst (.int (1))) (.call 5 (.cons (.var 0) (.cons (.var 1) .nil))))) [some (.ref d),some (.int mw),some (.int mr),some (.int mg),none,none,none,none,none] ⟨h.n,h.n,h.os⟩=.ok (.nx [some (.ref d),some (.int mw),some (.int mr),some (.int mg),some (.int wd),none,none,none,none]) h1:=by
  simp[exs,ev,e1,opW,opI,hwd]
 have s2:exs (run F (k+5)) (.set 5 (.call 5 (.cons (.var 0) (.cons (.op .add (.var 3) (.cst (.int (1)))) .nil)))) [some (.ref d),some (.int mw),some (.int mr),some (.int mg),some (.int wd),none,none,none,none] h1=.ok (.nx [some (.ref d),some (.int mw),some (.int mr),some (.int mg),some (.int wd),some (.int gr),none,none,none]) h2:=by
  simp[exs,ev,e2,opW,opI]
 have s3:=zrm (cl:=run F (k+5)) (a:=.cons (.call 5 (.cons (.var 0) (.cons (.op .add (.var 2) (.cst (.int (1)))) .nil))) .nil) (ρ:=[some (.ref d),some (.int mw),some (.int mr),some (.int mg),some (.int wd),some (.int gr),none,none,none]) (h:=h2) (h1:=h3) (n:=nr) (ow:=1) (ix:=[0,5,4]) (by simp[ev,opW,opI,e3,hnr]) (va6 nr2 (by decide)) e4 (by rw[vaf,l4];exact van nr2 (by decide))
 have s4:=zj1 (cl:=run F (k+5)) (a:=.cons (.op .add (.cst (.int (1))) (.call 5 (.cons (.var 0) (.cons (.cst (.int (4))) .nil)))) .nil) (ρ:=[some (.ref d),some (.int mw),some (.int mr),some (.int mg),some (.int wd),some (.int gr),some (.ref h4.n),none,none]) (h:=h4.new (.lst (rs.map .tup))) (h1:=h5) (n:=nf) (ow:=1) (ix:=[0,4]) (by simp[ev,opW,opI,e5,hnf]) (va6 nf2 (by decide)) e6 (by rw[l6];exact van nf2 (by decide))
 have s5:=zj1 (cl:=run F (k+5)) (a:=.cons (.var 4) .nil) (ρ:=[some (.ref d),some (.int mw),some (.int mr),some (.int mg),some (.int wd),some (.int gr),some (.ref h4.n),some (.tup fs),none]) (h:=h6.new (.lst fs)) (h1:=h6.new (.lst fs)) (n:=wd) (ow:=1) (ix:=[0,7]) (by simp[ev]) (va6 wd2 (by decide)) e7 (by rw[l7];exact van wd2 (by decide))
 have body:exs (run F (k+5)) fn26.body [some (.ref d),some (.int mw),some (.int mr),some (.int mg),none,none,none,none,none] ⟨h.n,h.n,h.os⟩=.ok (.rt (Bd.w ⟨wd,gr,rs,fs,ds⟩)) (h7.new (.lst ds)):=by
  refine(zaa s1).trans ((zaa s2).trans ?_)
  refine(zaa (ρ':=[some (.ref d),some (.int mw),some (.int mr),some (.int mg),some (.int wd),some (.int gr),some (.ref h4.n),none,none]) (h':=h4.new (.lst (rs.map .tup))) (by unfold zni;simp only[exs,s3,bindok];rfl)).trans ?_
  refine(zaa (ρ':=[some (.ref d),some (.int mw),some (.int mr),some (.int mg),some (.int wd),some (.int gr),some (.ref h4.n),some (.tup fs),none]) (h':=h6.new (.lst fs)) (by unfold znj;simp only[exs,s4,bindok];rfl)).trans ?_
  refine(zaa (ρ':=[some (.ref d),some (.int mw),some (.int mr),some (.int mg),some (.int wd),some (.int gr),some (.ref h4.n),some (.tup fs),some (.tup ds)]) (h':=h7.new (.lst ds)) (by unfold znk;simp only[exs,s5,bindok];rfl)).trans ?_
  simp[exs,ev,biW,zei,seqW,gl,Bd.w]
 have KK:Keep ⟨h.n,h.n,h.os⟩ (h7.new (.lst ds)) d c:=((((((K1.trans K2).trans K3).trans K4).new.trans K5).trans K6).new.trans K7).new
 obtain⟨h8,e8,D8,K8⟩:=zbp (cl:=run F (k+5)) (fl:=.nx []) body (.inr ⟨b,D⟩) (D7.new.mono (van (bd3 (c:=12008) wd2) (vcw (show _<=13000 by decide) b))) KK
 refine⟨⟨wd,gr,rs,fs,ds⟩,h8,e8,⟨vej.mpr wd1,vej.mpr wd2,a2,g2,by show rs.length<=60;rw[l4];exact nr2,p4,by show 1<=fs.length;rw[l6];exact nf1,by show fs.length<=4;rw[l6];exact nf2,p6,vdn _ l7,p7⟩,wd3,b2,by show(rs.length:Int)<=mr;rw[l4];exact nr1,D8,K8⟩
end
structure Gw(h h':VH):Prop where
 le:h.n<=h'.n
 lo:h'.lo=h.lo
 get:∀i o,h.get i=some o->h'.get i=some o
theorem ztr{n:Nat}(h:n<=1000000):Nat.blt n big=true:=zaq.mpr (va6 h (by decide))
theorem rep1:∀n:Nat,(vgc n [w]).flatten=vgc n w
 |0=>rfl
 |n+1=>by rw[vbe,vcl,rep1 n,vbe];rfl
theorem zts{n:Nat}(hn:n<=1000000):opW .mul (.tup [w]) (.int n) h=.ok (.tup (vgc n w)) h:=by
 have hf:fits (n:Int)=true:=by unfold fits;rw[vaa,vat,vat];omega
 have:repW .mul [w] n=some (vgc n w):=by
  unfold repW
  rw[if_pos (by
   rw[vaa]
   exact⟨hf,zbq (by rw[vbt,Nat.one_mul,vck];exact hn)⟩)]
  rw[vck,rep1]
 simp only[opW,this,vav,ofsome]
theorem zby{i l:Nat}{ρ:En}(hρ:ρ[i]?=some (some (.ref l)))(g0:h.get l=some (.lst acc0))(e:ev cl x ρ h=.ok w h1)(g:h1.get l=some (.lst acc))(hl:acc.length<=1000000) :
 ev cl (.mt .append (.var i) (.cons x .nil)) ρ h=.ok .non (h1.set l (.lst (acc++[w]))):=by
 have hk:zhi .append h (.ref l)=true:=by simp only[zhi,g0]
 have hm:mtW .append (.ref l) [w] h1=.ok .non (h1.set l (.lst (acc++[w]))):=by
  simp only[mtW,g]
  rw[if_pos (ztr hl)]
 simp only[ev,hρ,vba,ofsome,bindok,hk,vbj,e,hm]
theorem zi2{g:Int}(h:zbm w g=true):∃a b:Int,w=.tup [.int a,.int b]/\0<=a/\a<g/\0<=b/\b<2:=by
 cases w<;>simp only[zbm]at h<;>try(cases h;done)
 rename_i us
 rcases us with _|⟨a,_|⟨b,_|_⟩⟩<;>simp at h
 obtain⟨h1,h2⟩:=h
 cases a<;>simp[within]at h1
 cases b<;>simp[within]at h2
 exact⟨_,_,rfl,by omega,by omega,by omega,by omega⟩
noncomputable def stepP(w:W)(hd:Int)(ls:List Int):Option (Int×List Int×List Int):=match w with
 |.tup [.int g,.int s]=>some (if ls.getD g.toNat 0=s then -1 else 1,[g],ls.set g.toNat (1-ls.getD g.toNat 0))
 |.str x=>if x==sS then none else if x==sX then some (hd,[],ls)else if x==sDot then some (0,[],ls)else some (if x==sLt then -1 else 1,[],ls)
 |_=>none
noncomputable def colAt(r:List W)(c:Int):W:=(r[c.toNat]?).getD .non
structure Fa where
 cs:List Int
 ts:List Int
 ls:List Int
 st:Bool
noncomputable def fallP:List (List W)->Int->Int->List Int->Fa
 |[],_,_,ls=>⟨[],[],ls,false⟩
 |r::rs,c,hd,ls=>match stepP (colAt r c) hd ls with
  |none=>⟨[],[],ls,true⟩
  |some (d,t,l)=>⟨(c+d):: (fallP rs (c+d) d l).cs,t++(fallP rs (c+d) d l).ts,(fallP rs (c+d) d l).ls,(fallP rs (c+d) d l).st⟩
noncomputable def lastC:Int->List Int->Int
 |c,[]=>c
 |_,x::r=>lastC x r
noncomputable def Bits(ls:List Int):Prop:=∀x∈ls,x=0\/x=1
theorem zbz{c wd g:Int}(h:zaj w c wd g=true):(w=.str sX/\0<c/\c<wd-1)\/(w=.str sLt/\0<c)\/(w=.str sGt/\c<wd-1)\/w=.str sDot\/w=.str sS\/∃a b:Nat,w=.tup [.int a,.int b]/\(a:Int)<g/\b<2/\0<c/\c<wd-1:=by
 unfold zaj at h
 split at h
 .rename_i q
  rw[vaa,vat,vat]at h
  rw[vcp]at q
  rcases q with q|q
  .exact .inl ⟨zfo q,h⟩
  .obtain⟨a,b,rfl,h1,h2,h3,h4⟩:=zi2 q
   obtain⟨a,rfl⟩:=vau h1
   obtain⟨b,rfl⟩:=vau h3
   exact .inr (.inr (.inr (.inr (.inr ⟨a,b,rfl,h2,by omega,h⟩))))
 .split at h
  .rename_i q;exact .inr (.inl ⟨zfo q,by simpa using h⟩)
  .split at h
   .rename_i q;exact .inr (.inr (.inl ⟨zfo q,by simpa using h⟩))
   .rw[vcp]at h
    rcases h with q|q
    .exact .inr (.inr (.inr (.inl (zfo q))))
    .exact .inr (.inr (.inr (.inr (.inl (zfo q)))))
theorem zh6{hd:Int}:stepP (.str sX) hd ls=some (hd,[],ls):=rfl
theorem zeu{hd:Int}:stepP (.str sLt) hd ls=some (-1,[],ls):=rfl
theorem zev{hd:Int}:stepP (.str sGt) hd ls=some (1,[],ls):=rfl
theorem zcv{hd:Int}:stepP (.str sDot) hd ls=some (0,[],ls):=rfl
theorem zh7{hd:Int}:stepP (.str sS) hd ls=none:=rfl
theorem zew{hd:Int}{a b:Nat}:stepP (.tup [.int a,.int b]) hd ls=some (if ls.getD a 0=b then -1 else 1,[(a:Int)],ls.set a (1-ls.getD a 0)):=rfl
theorem zp8(h:Bits ls)(a:Nat):ls.getD a 0=0\/ls.getD a 0=1:=by
 rw[vcy]
 cases q:ls[a]? with
 |none=>exact .inl rfl
 |some x=>exact h x (vcs q)
theorem zgu{c wd g hd:Int}(h:zaj w c wd g=true)(c0:0<=c)(c1:c<wd)(h1:-1<=hd)(h2:hd<=1)(b:Bits ls){d:Int}(e:stepP w hd ls=some (d,t,l)):-1<=d/\d<=1/\0<=c+d/\c+d<wd/\l.length=ls.length/\Bits l/\t.length<=1:=by
 rcases zbz h with⟨rfl,h3,h4⟩|⟨rfl,h3⟩|⟨rfl,h3⟩|rfl|rfl|⟨p,q,rfl,h3,h4,h5,h6⟩
 .rw[zh6]at e;cases e;exact⟨h1,h2,by omega,by omega,rfl,b,by simp⟩
 .rw[zeu]at e;cases e;exact⟨by omega,by omega,by omega,by omega,rfl,b,by simp⟩
 .rw[zev]at e;cases e;exact⟨by omega,by omega,by omega,by omega,rfl,b,by simp⟩
 .rw[zcv]at e;cases e;exact⟨by omega,by omega,by omega,by omega,rfl,b,by simp⟩
 .rw[zh7]at e;cases e
 .rw[zew]at e;cases e
  refine⟨by split<;>omega,by split<;>omega,by split<;>omega,by split<;>omega,by simp,λx hx=>?_,by simp⟩
  rcases List.mem_or_eq_of_mem_set hx with hx|rfl
  .exact b x hx
  .rcases zp8 b p with q|q<;>rw[q]<;>omega
noncomputable def zfq(wd g:Int)(rs:List (List W)):Prop:=∀r∈rs,(r.length:Int)=wd/\rowOk wd g 0 r
theorem zj2{wd g:Int}:∀{ws:List W} {c:Int} (i:Nat) {w:W},rowOk wd g c ws->ws[i]?=some w->zaj w (c+i) wd g=true
 |[],_,_,_,_,e=>by simp at e
 |x::r,c,0,w,⟨h1,h2⟩,e=>by
  simp at e;subst e;simpa using h1
 |x::r,c,i+1,w,⟨h1,h2⟩,e=>by
  have:=zj2 i h2 (by simpa using e)
  rw[show c+ ((i+1:Nat):Int)=c+1+i by push_cast;omega]
  exact this
theorem zex{wd g c:Int}(h:(r.length:Int)=wd/\rowOk wd g 0 r)(c0:0<=c)(c1:c<wd):r[c.toNat]?=some (colAt r c)/\zaj (colAt r c) c wd g=true:=by
 obtain⟨n,rfl⟩:=vau c0
 have hn:n<r.length:=by omega
 have e:r[n]?=some r[n]:=vao hn
 have e2:colAt r n=r[n]:=by
  unfold colAt
  rw[vck,e];rfl
 rw[e2,vck]
 refine⟨e,?_⟩
 have:=zj2 n h.2 e
 simpa using this
structure Fa.Ok(q:Fa)(wd:Int)(c:Int)(m n:Nat):Prop where
 l1:q.ls.length=n
 l2:Bits q.ls
 c1:∀x∈q.cs,0<=x/\x<wd
 c2:q.cs.length<=m
 c3:q.st=false->q.cs.length=m
 c5:q.st=true->q.cs.length<m
 c4:0<=lastC c q.cs/\lastC c q.cs<wd
 t1:q.ts.length<=m
theorem zns{wd g:Int}:∀(rs:List (List W)) (c hd:Int) (ls:List Int),zfq wd g rs->0<=c->c<wd->-1<=hd->hd<=1->Bits ls->(fallP rs c hd ls).Ok wd c rs.length ls.length
 |[],c,hd,ls,_,c0,c1,_,_,b=>⟨rfl,b,by simp[fallP],by simp[fallP],by simp[fallP],by simp[fallP],⟨c0,c1⟩,by simp[fallP]⟩
 |r::rs,c,hd,ls,ok,c0,c1,h1,h2,b=>by
  obtain⟨_,hm⟩:=zex (ok r vap) c0 c1
  unfold fallP
  cases e:stepP (colAt r c) hd ls with
  |none=>exact⟨rfl,b,by simp,by simp,by simp,by simp,⟨c0,c1⟩,by simp⟩
  |some q=>
   obtain⟨d,t,l⟩:=q
   obtain⟨a1,a2,a3,a4,a5,a6,a7⟩:=zgu hm c0 c1 h1 h2 b e
   have ih:=zns rs (c+d) d l (λr hr=>ok r (vak _ hr)) a3 a4 a1 a2 a6
   refine⟨ih.l1.trans a5,ih.l2,λx hx=>?_,?_,λh=>?_,λh=>?_,ih.c4,?_⟩
   .rcases vaw.mp hx with rfl|hx
    .exact⟨a3,a4⟩
    .exact ih.c1 x hx
   .simp only[vai];have:=ih.c2;omega
   .simp only[vai];have:=ih.c3 h;omega
   .simp only[vai];have:=ih.c5 h;omega
   .simp only[vai,vaj];have:=ih.t1;omega
theorem zh8{rs:List (List W)}{c hd:Int}(e:stepP (colAt r c) hd ls=none):fallP (r::rs) c hd ls=⟨[],[],ls,true⟩:=by
 unfold fallP
 rw[e]
theorem zh9{rs:List (List W)}{c hd d:Int}(e:stepP (colAt r c) hd ls=some (d,t,l)):fallP (r::rs) c hd ls=⟨(c+d):: (fallP rs (c+d) d l).cs,t++(fallP rs (c+d) d l).ts,(fallP rs (c+d) d l).ls,(fallP rs (c+d) d l).st⟩:=by
 rw[fallP,e]
noncomputable def st3(h:VH)(gs:List VO)(c t l:List W):VH:=⟨h.n+3+gs.length,h.n,gs++(.lst l :: .lst t :: .lst c::h.os)⟩
theorem st_c:(st3 h gs c t l).get h.n=some (.lst c):=by
 unfold st3 VH.get
 rw[if_pos (zaq.mpr (by show h.n<h.n+3+gs.length;omega))]
 show(gs++(.lst l :: .lst t :: .lst c::h.os))[h.n+3+gs.length-1-h.n]?=_
 rw[va4 (by omega),show h.n+3+gs.length-1-h.n-gs.length=2 by omega]
 rfl
theorem st_t:(st3 h gs c t l).get (h.n+1)=some (.lst t):=by
 unfold st3 VH.get
 rw[if_pos (zaq.mpr (by show h.n+1<h.n+3+gs.length;omega))]
 show(gs++(.lst l :: .lst t :: .lst c::h.os))[h.n+3+gs.length-1- (h.n+1)]?=_
 rw[va4 (by omega),show h.n+3+gs.length-1- (h.n+1)-gs.length=1 by omega]
 rfl
theorem st_l:(st3 h gs c t l).get (h.n+2)=some (.lst l):=by
 unfold st3 VH.get
 rw[if_pos (zaq.mpr (by show h.n+2<h.n+3+gs.length;omega))]
 show(gs++(.lst l :: .lst t :: .lst c::h.os))[h.n+3+gs.length-1- (h.n+2)]?=_
 rw[va4 (by omega),show h.n+3+gs.length-1- (h.n+2)-gs.length=0 by omega]
 rfl
theorem zfr{a b:Nat}(h:b<=a):Nat.blt a b=false:=by
 cases q:Nat.blt a b with
 |false=>rfl
 |true=>have:=zaq.mp q;omega
theorem znt:(st3 h gs c t l).set h.n (.lst c')=st3 h gs c' t l:=by
 unfold st3 VH.set
 simp only[zfr (vad h.n)]
 rw[vdk _ _ (by omega),show h.n+3+gs.length-1-h.n-gs.length=2 by omega]
 rfl
theorem znu:(st3 h gs c t l).set (h.n+1) (.lst t')=st3 h gs c t' l:=by
 unfold st3 VH.set
 simp only[zfr (vd4 h.n)]
 rw[vdk _ _ (by omega),show h.n+3+gs.length-1- (h.n+1)-gs.length=1 by omega]
 rfl
theorem ztt:(st3 h gs c t l).set (h.n+2) (.lst l')=st3 h gs c t l':=by
 unfold st3 VH.set
 simp only[zfr (show h.n<=h.n+2 by omega)]
 rw[vdk _ _ (by omega),show h.n+3+gs.length-1- (h.n+2)-gs.length=0 by omega]
 rfl
theorem znv:(st3 h gs c t l).new o=st3 h (o::gs) c t l:=by
 unfold st3 VH.new
 simp only[vai,vda]
 rw[show h.n+3+gs.length+1=h.n+3+ (gs.length+1) by omega]
noncomputable def fn17:Fn:=⟨2,2,(.seq (.ret (.call 7 (.cons (.var 0) (.cons (.var 1) (.cons (.var 1) (.cons (.cst (.int (0))) (.cons (.cst (.int (1))) .nil))))))) .skip)⟩
noncomputable def zgv:E:=(.call 5 (.cons (.var 1) (.cons (.cst (.int (2))) .nil)))
noncomputable def fn20:Fn:=⟨2,2,(.seq (.ret (.bi .tuple (.cons (.lc .rng1 (.cons (.var 1) .nil) (.one 0) 1 [0] (.cst (.bl true)) zgv) .nil))) .skip)⟩
noncomputable def fn22:Fn:=⟨2,2,(.seq (.expr (.call 14 (.cons (.var 0) .nil))) (.seq (.ret (.call 17 (.cons (.var 1) (.cons (.idx (.var 0) (.cst (.int (1)))) .nil)))) .skip))⟩
noncomputable def fn24:Fn:=⟨2,2,(.seq (.ite (.not (.tru (.call 22 (.cons (.var 0) (.cons (.var 1) .nil))))) (.seq .no .skip) .skip) .skip)⟩
noncomputable def zdk:S:=(.seq (.set 8 (.idx (.var 7) (.idx (.var 4) (.neg (.cst (.int (1))))))) (.seq (.ite (.cmp .eq (.var 8) (.cst (.str (vgb "s")))) (.seq (.ret (.lst (.cons (.bi .tuple (.cons (.var 4) .nil)) (.cons (.bi .tuple (.cons (.var 5) .nil)) (.cons (.bi .tuple (.cons (.var 1) .nil)) (.cons (.cst (.bl true)) .nil)))))) .skip) .skip) (.seq (.ite (.or (.cmp .eq (.var 8) (.cst (.str (vgb ".")))) (.or (.cmp .eq (.var 8) (.cst (.str (vgb "<")))) (.cmp .eq (.var 8) (.cst (.str (vgb ">")))))) (.seq (.set 6 (.idx (.dsp (.cons (.cst (.str (vgb "."))) (.cons (.cst (.int (0))) (.cons (.cst (.str (vgb "<"))) (.cons (.neg (.cst (.int (1)))) (.cons (.cst (.str (vgb ">"))) (.cons (.cst (.int (1))) .nil))))))) (.var 8))) .skip) (.seq (.ite (.cmp .ne (.var 8) (.cst (.str (vgb "x")))) (.seq (.set 6 (.op .sub (.cst (.int (1))) (.op .mul (.cst (.int (2))) (.bi .int (.cons (.cmp .eq (.idx (.var 1) (.idx (.var 8) (.cst (.int (0))))) (.idx (.var 8) (.cst (.int (1))))) .nil))))) (.seq (.expr (.mt .append (.var 5) (.cons (.idx (.var 8) (.cst (.int (0)))) .nil))) (.seq (.put (.var 1) (.idx (.var 8) (.cst (.int (0)))) (.op .sub (.cst (.int (1))) (.idx (.var 1) (.idx (.var 8) (.cst (.int (0))))))) .skip))) .skip) .skip)) (.seq (.expr (.mt .append (.var 4) (.cons (.op .add (.idx (.var 4) (.neg (.cst (.int (1))))) (.var 6)) .nil))) .skip))))
noncomputable def fn38:Fn:=⟨3,9,(.seq (.set 3 (.idx (.idx (.var 0) (.cst (.int (3)))) (.var 2))) (.seq (.set 4 (.lst (.cons (.var 3) .nil))) (.seq (.set 5 (.lst .nil)) (.seq (.set 1 (.bi .list (.cons (.var 1) .nil))) (.seq (.set 6 (.cst (.int (0)))) (.seq (.«for» .seq (.idx (.var 0) (.cst (.int (2)))) (.one 7) zdk) (.seq (.ret (.lst (.cons (.bi .tuple (.cons (.var 4) .nil)) (.cons (.bi .tuple (.cons (.var 5) .nil)) (.cons (.bi .tuple (.cons (.var 1) .nil)) (.cons (.cst (.bl false)) .nil)))))) .skip)))))))⟩
noncomputable def fn39:Fn:=⟨2,2,(.seq (.ret (.and (.isi .int (.var 0)) (.and (.not (.isi .bool (.var 0))) (.cmp .eq (.var 0) (.var 1))))) .skip)⟩
noncomputable def zi3:E:=(.call 59 (.cons (.var 0) (.cons (.var 1) .nil)))
noncomputable def fn59:Fn:=⟨2,2,(.seq (.ite (.tru (.isi .tuple (.var 1))) (.seq (.ite (.not (.tru (.call 6 (.cons (.var 0) (.cons (.bi .len (.cons (.var 1) .nil)) (.cons (.bi .len (.cons (.var 1) .nil)) .nil)))))) (.seq (.ret (.cst (.bl false))) .skip) .skip) (.seq (.ret (.bi .all (.cons (.lc .zip (.cons (.var 0) (.cons (.var 1) .nil)) (.many [0,1]) 2 [] (.cst (.bl true)) zi3) .nil))) .skip)) .skip) (.seq (.ret (.and (.not (.isi .bool (.var 0))) (.cmp .eq (.var 0) (.var 1)))) .skip))⟩
noncomputable def fn73:Fn:=⟨3,3,(.seq (.expr (.call 24 (.cons (.var 0) (.cons (.var 1) .nil)))) (.seq (.ite (.not (.tru (.call 1 (.cons (.var 2) (.cons (.cst (.int (0))) (.cons (.op .sub (.bi .len (.cons (.idx (.var 0) (.cst (.int (3)))) .nil)) (.cst (.int (1)))) .nil)))))) (.seq .no .skip) .skip) .skip))⟩
noncomputable def fn173:Fn:=⟨4,7,(.seq (.ite (.tru (.isi .tuple (.var 0))) (.seq (.unp [4,5] (.var 0)) (.seq (.set 6 (.idx (.var 2) (.var 4))) (.seq (.ite (.cmp .ne (.var 4) (.var 3)) (.seq (.put (.var 2) (.var 4) (.op .sub (.cst (.int (1))) (.var 6))) .skip) .skip) (.seq (.ret (.ite (.cmp .eq (.var 6) (.var 5)) (.cst (.int (-1))) (.cst (.int (1))))) .skip)))) .skip) (.seq (.ite (.cmp .eq (.var 0) (.cst (.str (vgb "s")))) (.seq (.ret (.cst .non)) .skip) .skip) (.seq (.ite (.cmp .eq (.var 0) (.cst (.str (vgb "x")))) (.seq (.ret (.var 1)) .skip) .skip) (.seq (.ite (.cmp .eq (.var 0) (.cst (.str (vgb ".")))) (.seq (.ret (.cst (.int (0)))) .skip) .skip) (.seq (.ret (.ite (.cmp .eq (.var 0) (.cst (.str (vgb "<")))) (.cst (.int (-1))) (.cst (.int (1))))) .skip)))))⟩
noncomputable def zcw:S:=(.seq (.set 10 (.idx (.var 9) (.var 4))) (.seq (.set 8 (.call 173 (.cons (.var 10) (.cons (.var 8) (.cons (.var 7) (.cons (.var 3) .nil)))))) (.seq (.ite (.cmp .isn (.var 8) (.cst .non)) (.seq .brk .skip) .skip) (.seq (.ite (.and (.tru (.isi .tuple (.var 10))) (.cmp .ne (.idx (.var 10) (.cst (.int (0)))) (.var 3))) (.seq (.expr (.mt .append (.var 6) (.cons (.idx (.var 10) (.cst (.int (0)))) .nil))) .skip) .skip) (.seq (.aug 4 .add (.var 8)) (.seq (.expr (.mt .append (.var 5) (.cons (.var 4) .nil))) .skip))))))
noncomputable def fn174:Fn:=⟨4,11,(.seq (.set 4 (.idx (.idx (.var 0) (.cst (.int (3)))) (.var 2))) (.seq (.set 5 (.lst (.cons (.var 4) .nil))) (.seq (.set 6 (.lst .nil)) (.seq (.set 7 (.bi .list (.cons (.var 1) .nil))) (.seq (.set 8 (.cst (.int (0)))) (.seq (.«for» .seq (.idx (.var 0) (.cst (.int (2)))) (.one 9) zcw) (.seq (.ret (.tup (.cons (.bi .tuple (.cons (.var 5) .nil)) (.cons (.bi .tuple (.cons (.var 6) .nil)) (.cons (.bi .tuple (.cons (.var 7) .nil)) .nil))))) .skip)))))))⟩
theorem eqS{x y:Str}(hx:PyData.strOk x=true)(hy:PyData.strOk y=true):eqW h (.str x) (.str y)=some (x==y):=by
 rw[zcc (x:=y) (by exact hx) hy];rfl
@[simp] theorem eq_X_X {h:VH}:eqW h (.str sX) (.str (vgb "x"))=some true:=(eqS (by decide +kernel) (by decide +kernel)).trans (by decide +kernel)
@[simp] theorem eq_X_Lt {h:VH}:eqW h (.str sX) (.str (vgb "<"))=some false:=(eqS (by decide +kernel) (by decide +kernel)).trans (by decide +kernel)
@[simp] theorem eq_X_Gt {h:VH}:eqW h (.str sX) (.str (vgb ">"))=some false:=(eqS (by decide +kernel) (by decide +kernel)).trans (by decide +kernel)
@[simp] theorem eq_X_Dot {h:VH}:eqW h (.str sX) (.str (vgb "."))=some false:=(eqS (by decide +kernel) (by decide +kernel)).trans (by decide +kernel)
@[simp] theorem eq_X_S {h:VH}:eqW h (.str sX) (.str (vgb "s"))=some false:=(eqS (by decide +kernel) (by decide +kernel)).trans (by decide +kernel)
@[simp] theorem eq_Lt_X {h:VH}:eqW h (.str sLt) (.str (vgb "x"))=some false:=(eqS (by decide +kernel) (by decide +kernel)).trans (by decide +kernel)
@[simp] theorem eq_Lt_Lt {h:VH}:eqW h (.str sLt) (.str (vgb "<"))=some true:=(eqS (by decide +kernel) (by decide +kernel)).trans (by decide +kernel)
@[simp] theorem eq_Lt_Gt {h:VH}:eqW h (.str sLt) (.str (vgb ">"))=some false:=(eqS (by decide +kernel) (by decide +kernel)).trans (by decide +kernel)
@[simp] theorem eq_Lt_Dot {h:VH}:eqW h (.str sLt) (.str (vgb "."))=some false:=(eqS (by decide +kernel) (by decide +kernel)).trans (by decide +kernel)
@[simp] theorem eq_Lt_S {h:VH}:eqW h (.str sLt) (.str (vgb "s"))=some false:=(eqS (by decide +kernel) (by decide +kernel)).trans (by decide +kernel)
@[simp] theorem eq_Gt_X {h:VH}:eqW h (.str sGt) (.str (vgb "x"))=some false:=(eqS (by decide +kernel) (by decide +kernel)).trans (by decide +kernel)
@[simp] theorem eq_Gt_Lt {h:VH}:eqW h (.str sGt) (.str (vgb "<"))=some false:=(eqS (by decide +kernel) (by decide +kernel)).trans (by decide +kernel)
@[simp] theorem eq_Gt_Gt {h:VH}:eqW h (.str sGt) (.str (vgb ">"))=some true:=(eqS (by decide +kernel) (by decide +kernel)).trans (by decide +kernel)
@[simp] theorem eq_Gt_Dot {h:VH}:eqW h (.str sGt) (.str (vgb "."))=some false:=(eqS (by decide +kernel) (by decide +kernel)).trans (by decide +kernel)
@[simp] theorem eq_Gt_S {h:VH}:eqW h (.str sGt) (.str (vgb "s"))=some false:=(eqS (by decide +kernel) (by decide +kernel)).trans (by decide +kernel)
@[simp] theorem eq_Dot_X {h:VH}:eqW h (.str sDot) (.str (vgb "x"))=some false:=(eqS (by decide +kernel) (by decide +kernel)).trans (by decide +kernel)
@[simp] theorem eq_Dot_Lt {h:VH}:eqW h (.str sDot) (.str (vgb "<"))=some false:=(eqS (by decide +kernel) (by decide +kernel)).trans (by decide +kernel)
@[simp] theorem eq_Dot_Gt {h:VH}:eqW h (.str sDot) (.str (vgb ">"))=some false:=(eqS (by decide +kernel) (by decide +kernel)).trans (by decide +kernel)
@[simp] theorem eq_Dot_Dot {h:VH}:eqW h (.str sDot) (.str (vgb "."))=some true:=(eqS (by decide +kernel) (by decide +kernel)).trans (by decide +kernel)
@[simp] theorem eq_Dot_S {h:VH}:eqW h (.str sDot) (.str (vgb "s"))=some false:=(eqS (by decide +kernel) (by decide +kernel)).trans (by decide +kernel)
@[simp] theorem eq_S_X {h:VH}:eqW h (.str sS) (.str (vgb "x"))=some false:=(eqS (by decide +kernel) (by decide +kernel)).trans (by decide +kernel)
@[simp] theorem eq_S_Lt {h:VH}:eqW h (.str sS) (.str (vgb "<"))=some false:=(eqS (by decide +kernel) (by decide +kernel)).trans (by decide +kernel)
@[simp] theorem eq_S_Gt {h:VH}:eqW h (.str sS) (.str (vgb ">"))=some false:=(eqS (by decide +kernel) (by decide +kernel)).trans (by decide +kernel)
@[simp] theorem eq_S_Dot {h:VH}:eqW h (.str sS) (.str (vgb "."))=some false:=(eqS (by decide +kernel) (by decide +kernel)).trans (by decide +kernel)
@[simp] theorem eq_S_S {h:VH}:eqW h (.str sS) (.str (vgb "s"))=some true:=(eqS (by decide +kernel) (by decide +kernel)).trans (by decide +kernel)
theorem zp9:leave (st3 h0 gs c t l) w (VH.set ⟨(st3 h0 gs c t l).n,(st3 h0 gs c t l).n,(st3 h0 gs c t l).os⟩ (h0.n+2) (.lst l'))=.ok w (st3 h0 gs c t l'):=by
 have hb:Nat.blt (h0.n+2) (h0.n+3+gs.length)=true:=zaq.mpr (by omega)
 have hn:Nat.ble (h0.n+3+gs.length) (h0.n+2)=false:=by
  cases q:Nat.ble (h0.n+3+gs.length) (h0.n+2)with
  |false=>rfl
  |true=>have:=va5 q;omega
 have hl:Nat.ble h0.n (h0.n+2)=true:=veb.mpr (by omega)
 unfold leave VH.set st3
 simp only[hb,vbj,hn,vdb,hl]
 rw[if_neg (by simp),vdk _ _ (by omega),show h0.n+3+gs.length-1- (h0.n+2)-gs.length=0 by omega]
 rfl
theorem zro{ls:List Int}{a:Nat}(h:a<ls.length):atI (ls.map W.int) (a:Int)=some (.int (ls.getD a 0)):=
 zbd (by rw[vbr,vao h,vcy,vao h];rfl)
theorem znw{n a:Nat}(h:a<n):ixN n (a:Int)=some a:=by
 unfold ixN
 rw[if_pos (by omega),if_pos (by omega)];simp
theorem zdl{ρ ρ':En}(e:exs cl a ρ h=.ok (.bk ρ') h'):exs cl (.seq a b) ρ h=.ok (.bk ρ') h':=by
 simp only[exs,e,bindok]
theorem zrp{wd g c:Int}(ok:(r.length:Int)=wd/\rowOk wd g 0 r)(c0:0<=c)(c1:c<wd):atI r c=some (colAt r c):=by
 have:=(zex ok c0 c1).1
 obtain⟨n,rfl⟩:=vau c0
 rw[vck]at this
 exact zbd this
noncomputable def iW(ls:List Int):W:=.tup (ls.map .int)
theorem iW_lt{n:Nat}:W.lt n (iW ls)=true:=by
 unfold iW
 rw[lt_tup]
 induction ls with
 |nil=>simp
 |cons x r ih=>rw[va0,lts_cons,ih,lt_int];rfl
theorem Bd.Ok.feeder{B:Bd}(b:B.Ok){f:Nat}(hf:f<B.fd.length):∃c:Int,B.fd[f]?=some (.int c)/\0<=c/\c<B.wd:=by
 have h:=b.f3 _ (vcj hf)
 have e:B.fd[f]?=some B.fd[f]:=vao hf
 generalize B.fd[f]=w at h e
 cases w<;>simp only[within]at h<;>try(cases h;done)
 rename_i c
 rw[vaa,vat,vat]at h
 exact⟨c,e,h.1,by omega⟩
noncomputable def Bd.col(B:Bd)(f:Nat):Int:=match B.fd[f]? with
 |some (.int c)=>c
 |_=>0
theorem Bd.Ok.col{B:Bd}(b:B.Ok){f:Nat}(hf:f<B.fd.length):B.fd[f]?=some (.int (B.col f))/\0<=B.col f/\B.col f<B.wd:=by
 obtain⟨c,e,h⟩:=b.feeder hf
 have:B.col f=c:=by unfold Bd.col;rw[e]
 rw[this];exact⟨e,h⟩
noncomputable def Bd.fall(B:Bd)(ls:List Int)(f:Nat):Fa:=fallP B.rows (B.col f) 0 ls
theorem Bd.Ok.rows{B:Bd}(b:B.Ok){ls:List Int}(hl:(ls.length:Int)=B.gr):zfq B.wd (ls.length:Int) B.rows:=by
 rw[hl];exact b.r2
theorem Bd.Ok.fall{B:Bd}(b:B.Ok){ls:List Int}{f:Nat}(hf:f<B.fd.length)(hl:(ls.length:Int)=B.gr)(bi:Bits ls):(B.fall ls f).Ok B.wd (B.col f) B.rows.length ls.length:=
 zns _ _ _ _ (b.rows hl) (b.col hf).2.1 (b.col hf).2.2 (by decide) (by decide) bi
noncomputable def wayW(B:Bd)(ls:List Int)(f:Nat):W:=.tup [iW (B.col f:: (B.fall ls f).cs),iW (B.fall ls f).ts,iW (B.fall ls f).ls]
theorem ztu{f n:Nat}:W.lt n (wayW B ls f)=true:=by
 unfold wayW
 simp[iW_lt]
theorem zdm{i l:Nat}{ρ:En}(hρ:ρ[i]?=some (some (.ref l)))(g:h.get l=some (.lst ws)):ev cl (.bi .tuple (.cons (.var i) .nil)) ρ h=.ok (.tup ws) h:=by
 simp only[ev,hρ,vba,ofsome,bindok,biW,zei,seqW,g,vav]
theorem tup3{ρ:En}(ea:ev cl a ρ h=.ok x h)(eb:ev cl b ρ h=.ok y h)(ec:ev cl c ρ h=.ok z h):ev cl (.tup (.cons a (.cons b (.cons c .nil)))) ρ h=.ok (.tup [x,y,z]) h:=by
 rw[ev,ev,ea,bindok,ev,eb,bindok,ev,ec,bindok,ev]
 rfl
theorem zey{g:Int}(hl:(ls.length:Int)=g)(b:Bits ls):za6 (iW ls) g g 0 1=true:=by
 unfold iW za6 zat
 simp only[vaf,vaa,vat,vcb]
 refine⟨⟨by omega,by omega⟩,λw hw=>?_⟩
 obtain⟨x,hx,rfl⟩:=vc5.mp hw
 rcases b x hx with rfl|rfl<;>rfl
structure CoreY1(F:Nat->Option Fn):Prop where
 f173:F 173=some fn173
 f174:F 174=some fn174
structure CoreZ(F:Nat->Option Fn):Prop extends CoreY1 F where
 f17:F 17=some fn17
 f22:F 22=some fn22
 f24:F 24=some fn24
 f73:F 73=some fn73
theorem varE0{i:Nat}{ρ:En}(e:ρ[i]?=some (some x)):ev cl (.var i) ρ h=.ok x h:=by
 rw[ev,e];rfl
theorem idxE0{ρ:En}(ea:ev cl a ρ h=.ok x h1)(eb:ev cl b ρ h1=.ok y h2)(e:idxW h2 x y=some z):ev cl (.idx a b) ρ h=.ok z h2:=by
 rw[ev,ea,bindok,eb,bindok,e];rfl
theorem setE0{i:Nat}{ρ:En}(ea:ev cl a ρ h=.ok x h1):exs cl (.set i a) ρ h=.ok (.nx (ρ.set i (some x))) h1:=by
 rw[exs,ea];rfl
theorem znx:idxW h (.tup (x::r)) (.int 0)=some x:=zbd (j:=0) (xs:=x::r) rfl
theorem zgw{i:Int}:eqW h (.int i) .non=some false:=rfl
section
variable{F:Nat->Option Fn}(C:CoreY1 F)
include C
theorem zqa{k:Nat}{h0:VH}{gs:List VO}{cs ts:List W}{c wd hd:Int}(hm:zaj w c wd (ls.length:Int)=true) :
 run F (k+1) 173 [w,.int hd,.ref (h0.n+2),.non] (st3 h0 gs cs ts (ls.map .int))=match stepP w hd ls with
  |none=>.ok .non (st3 h0 gs cs ts (ls.map .int))
  |some (d,_,l)=>.ok (.int d) (st3 h0 gs cs ts (l.map .int)):=by
 rw[zak C.f173 rfl]
 rcases zbz hm with⟨rfl,h3,h4⟩|⟨rfl,h3⟩|⟨rfl,h3⟩|rfl|rfl|⟨p,q,rfl,h3,h4,h5,h6⟩
 .rw[zh6];simp[fn173,exs,ev,cmpW,zah]
 .rw[zeu];simp[fn173,exs,ev,cmpW,zah]
 .rw[zev];simp[fn173,exs,ev,cmpW,zah]
 .rw[zcv];simp[fn173,exs,ev,cmpW,zah]
 .rw[zh7];simp[fn173,exs,ev,cmpW,zah]
 .rw[zew]
  have hp:p<ls.length:=by omega
  have e1:=zro hp
  have g:VH.get ⟨(st3 h0 gs cs ts (ls.map .int)).n,(st3 h0 gs cs ts (ls.map .int)).n,(st3 h0 gs cs ts (ls.map .int)).os⟩ (h0.n+2)=some (.lst (ls.map .int)):=by rw[get_lo];exact st_l
  have e2:ixN (ls.map W.int).length (p:Int)=some p:=znw (by rw[vaf];exact hp)
  have e3:exs (run F k) fn173.body [some (.tup [.int p,.int q]),some (.int hd),some (.ref (h0.n+2)),some .non,none,none,none] ⟨(st3 h0 gs cs ts (ls.map .int)).n,(st3 h0 gs cs ts (ls.map .int)).n,(st3 h0 gs cs ts (ls.map .int)).os⟩=.ok (.rt (.int (if ls.getD p 0=q then -1 else 1))) (VH.set ⟨(st3 h0 gs cs ts (ls.map .int)).n,(st3 h0 gs cs ts (ls.map .int)).n,(st3 h0 gs cs ts (ls.map .int)).os⟩ (h0.n+2) (.lst ((ls.set p (1-ls.getD p 0)).map .int))):=by
   rw[List.map_set]
   generalize ls.getD p 0=y at e1 ⊢
   by_cases z:y=(q:Int)
   .simp only[fn173,exs,ev,tgW,seqW,za1,vba,vax,va1,ofsome,bindok,isi_tup,vav,tru_bl,ty_tuple_tuple,vbm,vbh,idxW,g,e1,opW,opI,e2,cmpW,zav,zgw,vel,z,decide_true,vbj]
   .simp only[fn173,exs,ev,tgW,seqW,za1,vba,vax,va1,ofsome,bindok,isi_tup,vav,tru_bl,ty_tuple_tuple,vbm,vbh,idxW,g,e1,opW,opI,e2,cmpW,zav,zgw,vel,z,decide_false,vbo]
  show fin _ (exs (run F k) fn173.body [some (.tup [.int p,.int q]),some (.int hd),some (.ref (h0.n+2)),some .non,none,none,none] _)=_
  rw[e3]
  exact zp9
theorem ztv{k:Nat}{h0:VH}{b l f:W}{c wd hd:Int}{y:Option W}(ok:(r.length:Int)=wd/\rowOk wd (ls.length:Int) 0 r)(c0:0<=c)(c1:c<wd)(hc:cs.length<=1000)(ht:ts.length<=1000) :
 exs (run F (k+1)) zcw [some b,some l,some f,some .non,some (.int c),some (.ref h0.n),some (.ref (h0.n+1)),some (.ref (h0.n+2)),some (.int hd),some (.tup r),y] (st3 h0 [] cs ts (ls.map .int))=match stepP (colAt r c) hd ls with
  |none=>.ok (.bk [some b,some l,some f,some .non,some (.int c),some (.ref h0.n),some (.ref (h0.n+1)),some (.ref (h0.n+2)),some .non,some (.tup r),some (colAt r c)]) (st3 h0 [] cs ts (ls.map .int))
  |some (d,t,l')=>.ok (.nx [some b,some l,some f,some .non,some (.int (c+d)),some (.ref h0.n),some (.ref (h0.n+1)),some (.ref (h0.n+2)),some (.int d),some (.tup r),some (colAt r c)]) (st3 h0 [] (cs++[.int (c+d)]) (ts++t.map .int) (l'.map .int)):=by
 obtain⟨_,hm⟩:=zex ok c0 c1
 have e0:=zrp ok c0 c1
 generalize colAt r c=w at hm e0 ⊢
 have e1:=zqa C (k:=k) (h0:=h0) (gs:=[]) (cs:=cs) (ts:=ts) (hd:=hd) hm
 unfold zcw
 rw[zaa (ρ':=[some b,some l,some f,some .non,some (.int c),some (.ref h0.n),some (.ref (h0.n+1)),some (.ref (h0.n+2)),some (.int hd),some (.tup r),some w]) (h':=st3 h0 [] cs ts (ls.map .int)) (setE0 (idxE0 (x:=.tup r) (y:=.int c) (varE0 rfl) (varE0 rfl) e0))]
 have key:∀(d:Int)(l':List Int)(t:List Int),stepP w hd ls=some (d,t,l')->exs (run F (k+1)) (.seq (.ite (.and (.tru (.isi .tuple (.var 10))) (.cmp .ne (.idx (.var 10) (.cst (.int (0)))) (.var 3))) (.seq (.expr (.mt .append (.var 6) (.cons (.idx (.var 10) (.cst (.int (0)))) .nil))) .skip) .skip) (.seq (.aug 4 .add (.var 8)) (.seq (.expr (.mt .append (.var 5) (.cons (.var 4) .nil))) .skip))) [some b,some l,some f,some .non,some (.int c),some (.ref h0.n),some (.ref (h0.n+1)),some (.ref (h0.n+2)),some (.int d),some (.tup r),some w] (st3 h0 [] cs ts (l'.map .int))=.ok (.nx [some b,some l,some f,some .non,some (.int (c+d)),some (.ref h0.n),some (.ref (h0.n+1)),some (.ref (h0.n+2)),some (.int d),some (.tup r),some w]) (st3 h0 [] (cs++[.int (c+d)]) (ts++t.map .int) (l'.map .int)):=by
  intro d l' t es
  have fin:∀ts':List W,exs (run F (k+1)) (.seq (.aug 4 .add (.var 8)) (.seq (.expr (.mt .append (.var 5) (.cons (.var 4) .nil))) .skip)) [some b,some l,some f,some .non,some (.int c),some (.ref h0.n),some (.ref (h0.n+1)),some (.ref (h0.n+2)),some (.int d),some (.tup r),some w] (st3 h0 [] cs ts' (l'.map .int))=.ok (.nx [some b,some l,some f,some .non,some (.int (c+d)),some (.ref h0.n),some (.ref (h0.n+1)),some (.ref (h0.n+2)),some (.int d),some (.tup r),some w]) (st3 h0 [] (cs++[.int (c+d)]) ts' (l'.map .int)):=by
   intro ts'
   rw[zaa (ρ':=[some b,some l,some f,some .non,some (.int (c+d)),some (.ref h0.n),some (.ref (h0.n+1)),some (.ref (h0.n+2)),some (.int d),some (.tup r),some w]) (h':=st3 h0 [] cs ts' (l'.map .int)) rfl]
   have ea:=zby (cl:=run F (k+1)) (i:=5) (l:=h0.n) (x:=.var 4) (ρ:=[some b,some l,some f,some .non,some (.int (c+d)),some (.ref h0.n),some (.ref (h0.n+1)),some (.ref (h0.n+2)),some (.int d),some (.tup r),some w]) (h:=st3 h0 [] cs ts' (l'.map .int)) (h1:=st3 h0 [] cs ts' (l'.map .int)) (w:=.int (c+d)) (acc:=cs) (acc0:=cs) rfl st_c (by simp[ev]) st_c (by omega)
   rw[znt]at ea
   simp only[exs,ea,bindok]
  rcases zbz hm with⟨rfl,h3,h4⟩|⟨rfl,h3⟩|⟨rfl,h3⟩|rfl|rfl|⟨p,q,rfl,h3,h4,h5,h6⟩
  .rw[zh6]at es;cases es
   rw[zaa (ρ':=[some b,some l,some f,some .non,some (.int c),some (.ref h0.n),some (.ref (h0.n+1)),some (.ref (h0.n+2)),some (.int hd),some (.tup r),some (.str sX)]) (h':=st3 h0 [] cs ts (ls.map .int)) rfl,fin];simp
  .rw[zeu]at es;cases es
   rw[zaa (ρ':=[some b,some l,some f,some .non,some (.int c),some (.ref h0.n),some (.ref (h0.n+1)),some (.ref (h0.n+2)),some (.int (-1)),some (.tup r),some (.str sLt)]) (h':=st3 h0 [] cs ts (ls.map .int)) rfl,fin];simp
  .rw[zev]at es;cases es
   rw[zaa (ρ':=[some b,some l,some f,some .non,some (.int c),some (.ref h0.n),some (.ref (h0.n+1)),some (.ref (h0.n+2)),some (.int 1),some (.tup r),some (.str sGt)]) (h':=st3 h0 [] cs ts (ls.map .int)) rfl,fin];simp
  .rw[zcv]at es;cases es
   rw[zaa (ρ':=[some b,some l,some f,some .non,some (.int c),some (.ref h0.n),some (.ref (h0.n+1)),some (.ref (h0.n+2)),some (.int 0),some (.tup r),some (.str sDot)]) (h':=st3 h0 [] cs ts (ls.map .int)) rfl,fin];simp
  .rw[zh7]at es;cases es
  .rw[zew]at es;cases es
   have ea:=zby (cl:=run F (k+1)) (i:=6) (l:=h0.n+1) (x:=.idx (.var 10) (.cst (.int 0))) (ρ:=[some b,some l,some f,some .non,some (.int c),some (.ref h0.n),some (.ref (h0.n+1)),some (.ref (h0.n+2)),some (.int (if ls.getD p 0=q then -1 else 1)),some (.tup r),some (.tup [.int p,.int q])]) (h:=st3 h0 [] cs ts ((ls.set p (1-ls.getD p 0)).map .int)) (h1:=st3 h0 [] cs ts ((ls.set p (1-ls.getD p 0)).map .int)) (w:=.int p) (acc:=ts) (acc0:=ts) rfl st_t (by simp[ev,idxW];rfl) st_t (by omega)
   rw[znu]at ea
   have eb:exs (run F (k+1)) (.ite (.and (.tru (.isi .tuple (.var 10))) (.cmp .ne (.idx (.var 10) (.cst (.int (0)))) (.var 3))) (.seq (.expr (.mt .append (.var 6) (.cons (.idx (.var 10) (.cst (.int (0)))) .nil))) .skip) .skip) [some b,some l,some f,some .non,some (.int c),some (.ref h0.n),some (.ref (h0.n+1)),some (.ref (h0.n+2)),some (.int (if ls.getD p 0=q then -1 else 1)),some (.tup r),some (.tup [.int p,.int q])] (st3 h0 [] cs ts ((ls.set p (1-ls.getD p 0)).map .int))=.ok (.nx [some b,some l,some f,some .non,some (.int c),some (.ref h0.n),some (.ref (h0.n+1)),some (.ref (h0.n+2)),some (.int (if ls.getD p 0=q then -1 else 1)),some (.tup r),some (.tup [.int p,.int q])]) (st3 h0 [] cs (ts++[.int p]) ((ls.set p (1-ls.getD p 0)).map .int)):=by
    rw[exs]
    have e5:ev (run F (k+1)) (.and (.tru (.isi .tuple (.var 10))) (.cmp .ne (.idx (.var 10) (.cst (.int (0)))) (.var 3))) [some b,some l,some f,some .non,some (.int c),some (.ref h0.n),some (.ref (h0.n+1)),some (.ref (h0.n+2)),some (.int (if ls.getD p 0=q then -1 else 1)),some (.tup r),some (.tup [.int p,.int q])] (st3 h0 [] cs ts ((ls.set p (1-ls.getD p 0)).map .int))=.ok (.bl true) (st3 h0 [] cs ts ((ls.set p (1-ls.getD p 0)).map .int)):=by simp[ev,znx,cmpW,zgw]
    rw[e5,bindok]
    simp only[exs,ea,bindok]
   rw[zaa eb,fin]
   rfl
 cases es:stepP w hd ls with
 |none=>
  rw[es]at e1
  rw[zaa (ρ':=[some b,some l,some f,some .non,some (.int c),some (.ref h0.n),some (.ref (h0.n+1)),some (.ref (h0.n+2)),some .non,some (.tup r),some w]) (h':=st3 h0 [] cs ts (ls.map .int)) (by simp only[exs,ev,vba,vax,va1,ofsome,bindok,e1,vbm,vbh])]
  exact zdl rfl
 |some q=>
  obtain⟨d,t,l'⟩:=q
  rw[es]at e1
  rw[zaa (ρ':=[some b,some l,some f,some .non,some (.int c),some (.ref h0.n),some (.ref (h0.n+1)),some (.ref (h0.n+2)),some (.int d),some (.tup r),some w]) (h':=st3 h0 [] cs ts (l'.map .int)) (by simp only[exs,ev,vba,vax,va1,ofsome,bindok,e1,vbm,vbh])]
  rw[zaa (ρ':=[some b,some l,some f,some .non,some (.int c),some (.ref h0.n),some (.ref (h0.n+1)),some (.ref (h0.n+2)),some (.int d),some (.tup r),some w]) (h':=st3 h0 [] cs ts (l'.map .int)) rfl]
  exact key d l' t es
theorem zfs{k:Nat}{h0:VH}{b l f:W}{wd:Int}:∀(rs:List (List W)) (c hd:Int) (cs ts:List W) (ls:List Int) (x y:Option W),zfq wd (ls.length:Int) rs->0<=c->c<wd->-1<=hd->hd<=1->Bits ls->cs.length+rs.length<=1000->ts.length+rs.length<=1000->
 ∃c' hd' x' y',forL (tgW (.one 9)) (exs (run F (k+1)) zcw) (rs.map .tup) [some b,some l,some f,some .non,some (.int c),some (.ref h0.n),some (.ref (h0.n+1)),some (.ref (h0.n+2)),some (.int hd),x,y] (st3 h0 [] cs ts (ls.map .int)) =
  .ok (.nx [some b,some l,some f,some .non,c',some (.ref h0.n),some (.ref (h0.n+1)),some (.ref (h0.n+2)),hd',x',y']) (st3 h0 [] (cs++(fallP rs c hd ls).cs.map .int) (ts++(fallP rs c hd ls).ts.map .int) ((fallP rs c hd ls).ls.map .int))
 |[],c,hd,cs,ts,ls,x,y,_,_,_,_,_,_,_,_=>⟨some (.int c),some (.int hd),x,y,by simp[forL,fallP]⟩
 |r::rs,c,hd,cs,ts,ls,x,y,ok,c0,c1,h1,h2,bi,hc,ht=>by
  have hc':cs.length+rs.length+1<=1000:=by rw[vai]at hc;omega
  have ht':ts.length+rs.length+1<=1000:=by rw[vai]at ht;omega
  have eb:=ztv C (k:=k) (h0:=h0) (b:=b) (l:=l) (f:=f) (hd:=hd) (cs:=cs) (ts:=ts) (y:=y) (ok r vap) c0 c1 (by omega) (by omega)
  obtain⟨_,hm⟩:=zex (ok r vap) c0 c1
  cases e:stepP (colAt r c) hd ls with
  |none=>
   rw[e]at eb
   rw[zh8 e]
   refine⟨some (.int c),some .non,some (.tup r),some (colAt r c),?_⟩
   simp only[va0,forL,tgW,vbm,vbh,eb,bindok,vdh,vbc]
  |some q=>
   obtain⟨d,t,l'⟩:=q
   rw[e]at eb
   obtain⟨a1,a2,a3,a4,a5,a6,a7⟩:=zgu hm c0 c1 h1 h2 bi e
   obtain⟨c',hd',x',y',ih⟩:=zfs (k:=k) (h0:=h0) (b:=b) (l:=l) (f:=f) rs (c+d) d (cs++[.int (c+d)]) (ts++t.map .int) l' (some (.tup r)) (some (colAt r c)) (λr hr=>by rw[a5];exact ok r (vak _ hr)) a3 a4 a1 a2 a6 (by simp only[vaj,vbt];omega) (by simp only[vaj,vaf];omega)
   rw[zh9 e]
   refine⟨c',hd',x',y',?_⟩
   simp only[va0,forL,tgW,vbm,vbh,eb,bindok,ih,vef,List.append_assoc,List.singleton_append]
theorem zny{k:Nat}{f:Nat}(b:B.Ok)(hf:f<B.fd.length)(hl:(ls.length:Int)=B.gr)(bi:Bits ls):run F (k+2) 174 [B.w,iW ls,.int f,.non] h=.ok (wayW B ls f) h:=by
 rw[zak C.f174 rfl]
 obtain⟨e0,c0,c1⟩:=b.col hf
 have hr:=b.r1
 obtain⟨c',hd',x',y',el⟩:=zfs C (k:=k) (h0:=h) (b:=B.w) (l:=iW ls) (f:=.int f) B.rows (B.col f) 0 [.int (B.col f)] [] ls none none (b.rows hl) c0 c1 (by decide) (by decide) bi (by rw[vbt];omega) (by rw[vdi];omega)
 have e1:atI B.fd (f:Int)=some (.int (B.col f)):=zbd e0
 have i3:atI [W.int B.wd,.int B.gr,.tup (B.rows.map .tup),.tup B.fd,.tup B.dr] 3=some (.tup B.fd):=rfl
 have i2:atI [W.int B.wd,.int B.gr,.tup (B.rows.map .tup),.tup B.fd,.tup B.dr] 2=some (.tup (B.rows.map .tup)):=rfl
 have hz:(B.rows.map W.tup).length<1000000:=by rw[vaf];omega
 have eb:exs (run F (k+1)) fn174.body [some B.w,some (iW ls),some (.int f),some .non,none,none,none,none,none,none,none] ⟨h.n,h.n,h.os⟩=.ok (.rt (wayW B ls f)) (st3 h [] (([.int (B.col f)]:List W)++(fallP B.rows (B.col f) 0 ls).cs.map .int) (([]:List W)++(fallP B.rows (B.col f) 0 ls).ts.map .int) ((fallP B.rows (B.col f) 0 ls).ls.map .int)):=by
  show exs (run F (k+1)) (.seq _ _) _ _=_
  rw[zaa (ρ':=[some B.w,some (iW ls),some (.int f),some .non,some (.int (B.col f)),none,none,none,none,none,none]) (h':=⟨h.n,h.n,h.os⟩) (by unfold Bd.w;simp[exs,ev,idxW,i3,e1])]
  rw[zaa (ρ':=[some B.w,some (iW ls),some (.int f),some .non,some (.int (B.col f)),some (.ref h.n),none,none,none,none,none]) (h':=VH.new ⟨h.n,h.n,h.os⟩ (.lst [.int (B.col f)])) (by simp[exs,ev])]
  rw[zaa (ρ':=[some B.w,some (iW ls),some (.int f),some .non,some (.int (B.col f)),some (.ref h.n),some (.ref (h.n+1)),none,none,none,none]) (h':=VH.new (VH.new ⟨h.n,h.n,h.os⟩ (.lst [.int (B.col f)])) (.lst [])) (by simp[exs,ev,VH.new])]
  rw[zaa (ρ':=[some B.w,some (iW ls),some (.int f),some .non,some (.int (B.col f)),some (.ref h.n),some (.ref (h.n+1)),some (.ref (h.n+2)),none,none,none]) (h':=st3 h [] [.int (B.col f)] [] (ls.map .int)) (by unfold iW;simp[exs,ev,VH.new,biW,listW,seqW,st3])]
  rw[zaa (ρ':=[some B.w,some (iW ls),some (.int f),some .non,some (.int (B.col f)),some (.ref h.n),some (.ref (h.n+1)),some (.ref (h.n+2)),some (.int 0),none,none]) (h':=st3 h [] [.int (B.col f)] [] (ls.map .int)) (by simp[exs,ev])]
  have ei:ev (run F (k+1)) (.idx (.var 0) (.cst (.int (2)))) [some B.w,some (iW ls),some (.int f),some .non,some (.int (B.col f)),some (.ref h.n),some (.ref (h.n+1)),some (.ref (h.n+2)),some (.int 0),none,none] (st3 h [] [.int (B.col f)] [] (ls.map .int))=.ok (.tup (B.rows.map .tup)) (st3 h [] [.int (B.col f)] [] (ls.map .int)):=by
   unfold Bd.w;simp[ev,idxW,i2]
  have ef:=zde (tg:=tgW (.one 9)) (b:=exs (run F (k+1)) zcw) (ρ:=[some B.w,some (iW ls),some (.int f),some .non,some (.int (B.col f)),some (.ref h.n),some (.ref (h.n+1)),some (.ref (h.n+2)),some (.int 0),none,none]) (h:=st3 h [] [.int (B.col f)] [] (ls.map .int)) hz
  rw[el]at ef
  refine(zaa (by rw[exs,ei,bindok,ef])).trans ?_
  have et:=tup3 (cl:=run F (k+1)) (zdm (i:=5) (ρ:=[some B.w,some (iW ls),some (.int f),some .non,c',some (.ref h.n),some (.ref (h.n+1)),some (.ref (h.n+2)),hd',x',y']) rfl (st_c (h:=h) (gs:=[]) (c:=([.int (B.col f)]:List W)++(fallP B.rows (B.col f) 0 ls).cs.map .int) (t:=([]:List W)++(fallP B.rows (B.col f) 0 ls).ts.map .int) (l:=(fallP B.rows (B.col f) 0 ls).ls.map .int))) (zdm (i:=6) rfl st_t) (zdm (i:=7) rfl st_l)
  simp only[exs,et,bindok]
  rfl
 show fin h (exs (run F (k+1)) fn174.body [some B.w,some (iW ls),some (.int f),some .non,none,none,none,none,none,none,none] ⟨h.n,h.n,h.os⟩)=_
 rw[eb]
 exact zah (vad _) ztu
end
section
variable{F:Nat->Option Fn}(C:CoreZ F)(B':CoreB F)
include C B'
theorem ze2{k:Nat}{h:VH}{B:Bd}{ls:List Int}(b:B.Ok)(hl:(ls.length:Int)=B.gr)(bi:Bits ls):run F (k+9) 24 [B.w,iW ls] h=.ok .non h:=by
 have hg:=b.g2
 have w0:∀h:VH,run F (k+7) 17 [iW ls,.int B.gr] h=.ok (.bl true) h:=by
  intro h
  rw[zak C.f17 rfl]
  have e:=za7 B'.toCoreA (k:=k+3) (h:=⟨h.n,h.n,h.os⟩) (w:=iW ls) (a:=B.gr) (b:=B.gr) (lo:=0) (hi:=1) (by unfold Kn iW;simp) (λws e=>by
   cases e
   refine⟨by rw[vaf];omega,λx hx=>?_⟩
   obtain⟨y,_,rfl⟩:=vc5.mp hx
   unfold Kn;simp)
  rw[zey hl bi]at e
  simp[fn17,exs,ev,e,zah]
 have w1:∀h:VH,run F (k+8) 22 [B.w,iW ls] h=.ok (.bl true) h:=by
  intro h
  rw[zak C.f22 rfl]
  have e:=zgs B' (k:=k) (h:=⟨h.n,h.n,h.os⟩) b
  have i0:idxW ⟨h.n,h.n,h.os⟩ B.w (.int 1)=some (.int B.gr):=rfl
  have e2:=w0 ⟨h.n,h.n,h.os⟩
  simp[fn22,exs,ev,e,i0,e2,zah]
 rw[zak C.f24 rfl]
 simp[fn24,exs,ev,w1,znl]
theorem zez{k:Nat}{h:VH}{B:Bd}{ls:List Int}{f:Nat}(b:B.Ok)(hf:f<B.fd.length)(hl:(ls.length:Int)=B.gr)(bi:Bits ls):run F (k+10) 73 [B.w,iW ls,.int f] h=.ok .non h:=by
 rw[zak C.f73 rfl]
 have e1:=ze2 C B' (k:=k) (h:=⟨h.n,h.n,h.os⟩) b hl bi
 have e2:=zan B'.toCoreA (k:=k+7) (h:=⟨h.n,h.n,h.os⟩) (w:=.int f) (lo:=0) (hi:=(B.fd.length:Int)-1) (by unfold Kn;simp)
 have e3:within (.int f) 0 ((B.fd.length:Int)-1)=true:=by
  simp only[within,vaa,vat];omega
 rw[e3]at e2
 have i3:idxW ⟨h.n,h.n,h.os⟩ B.w (.int 3)=some (.tup B.fd):=rfl
 simp[fn73,exs,ev,e1,i3,biW,lenW,seqW,opW,opI,e2,znl]
end
noncomputable def dirD:List (Key×W):=[(.inr sDot,.int 0),(.inr sLt,.int (-1)),(.inr sGt,.int 1)]
theorem znz:zdq [] [(.inr sDot,.int 0),(.inr sLt,.int (-1)),(.inr sGt,.int 1)]=dirD:=by rfl
theorem ztw:lookK dirD (.inr sDot)=some (.int 0):=by rfl
theorem zxk:lookK dirD (.inr sLt)=some (.int (-1)):=by rfl
theorem zxl:lookK dirD (.inr sGt)=some (.int 1):=by rfl
noncomputable abbrev dspE:E:=.dsp (.cons (.cst (.str (vgb "."))) (.cons (.cst (.int (0))) (.cons (.cst (.str (vgb "<"))) (.cons (.neg (.cst (.int (1)))) (.cons (.cst (.str (vgb ">"))) (.cons (.cst (.int (1))) .nil))))))
theorem zxm{ρ:En}:ev cl dspE ρ h=.ok (.ref h.n) (h.new (.dk dirD)):=by
 simp only[dspE,ev,bindok,zdp,keyW]
 rw[if_pos (by decide)]
 show Res.ok _ (h.new (.dk (zdq [] _)))=_
 rw[znz]
theorem zn0{h:VH}{o:VO}:(h.new o).get h.n=some o:=by
 unfold VH.get VH.new
 rw[if_pos (zaq.mpr (by show h.n<h.n+1;omega))]
 show(o::h.os)[h.n+1-1-h.n]?=_
 rw[show h.n+1-1-h.n=0 by omega]
 rfl
theorem zxn{cl:Call}{ρ:En}{h:VH}{x:Str}{d:Int}(hρ:ρ[8]?=some (some (.str x)))(e:lookK dirD (.inr x)=some (.int d)):ev cl (.idx dspE (.var 8)) ρ h=.ok (.int d) (h.new (.dk dirD)):=by
 rw[ev,zxm,bindok,ev,hρ]
 show(Res.of (idxW (h.new (.dk dirD)) (.ref h.n) (.str x)) (h.new (.dk dirD)))=_
 unfold idxW
 simp only[zn0,e]
 rfl
theorem zbn{p q:Int}{x:Str}(hx:PyData.strOk x=true):eqW h (.tup [.int p,.int q]) (.str x)=some false:=by
 rw[zcc (x:=x) rfl hx];rfl
noncomputable def endE(st:Bool):E:=.lst (.cons (.bi .tuple (.cons (.var 4) .nil)) (.cons (.bi .tuple (.cons (.var 5) .nil)) (.cons (.bi .tuple (.cons (.var 1) .nil)) (.cons (.cst (.bl st)) .nil))))
theorem zrq{cl:Call}{st:Bool}{ρ:En}{gs:List VO}{cs ts ls:List W}(r4:ρ[4]?=some (some (.ref h0.n)))(r5:ρ[5]?=some (some (.ref (h0.n+1))))(r1:ρ[1]?=some (some (.ref (h0.n+2)))) :
 ev cl (endE st) ρ (st3 h0 gs cs ts ls)=.ok (.ref (h0.n+3+gs.length)) (st3 h0 (.lst [.tup cs,.tup ts,.tup ls,.bl st]::gs) cs ts ls):=by
 unfold endE
 rw[ev,ev,zdm r4 st_c,bindok,ev,zdm r5 st_t,bindok,ev,zdm r1 st_l,bindok,ev,ev,bindok,ev]
 simp only[bindok]
 rw[if_pos (by rfl),znv]
 rfl
theorem zia{cl:Call}{h0:VH}{gs:List VO}{cs ts ls:List W}{b l f:W}{a r:W}{w:W}{c d:Int}(hc:atI cs (-1)=some (.int c))(hl:cs.length<=1000000) :
 exs cl (.seq (.expr (.mt .append (.var 4) (.cons (.op .add (.idx (.var 4) (.neg (.cst (.int (1))))) (.var 6)) .nil))) .skip) [some b,some l,some f,some a,some (.ref h0.n),some (.ref (h0.n+1)),some (.int d),some r,some w] (st3 h0 gs cs ts ls)=.ok (.nx [some b,some l,some f,some a,some (.ref h0.n),some (.ref (h0.n+1)),some (.int d),some r,some w]) (st3 h0 gs (cs++[.int (c+d)]) ts ls):=by
 have g:=st_c (h:=h0) (gs:=gs) (c:=cs) (t:=ts) (l:=ls)
 have ea:=zby (cl:=cl) (i:=4) (l:=h0.n) (x:=.op .add (.idx (.var 4) (.neg (.cst (.int (1))))) (.var 6)) (ρ:=[some b,some l,some f,some a,some (.ref h0.n),some (.ref (h0.n+1)),some (.int d),some r,some w]) (h:=st3 h0 gs cs ts ls) (h1:=st3 h0 gs cs ts ls) (w:=.int (c+d)) (acc:=cs) (acc0:=cs) rfl g (by simp only[ev,vba,vax,va1,ofsome,bindok,idxW,g,hc,opW,opI,vav]) g hl
 rw[znt]at ea
 simp only[exs,ea,bindok]
noncomputable abbrev sE:E:=.cst (.str (vgb "s"))
noncomputable def midS:S:=(.ite (.or (.cmp .eq (.var 8) (.cst (.str (vgb ".")))) (.or (.cmp .eq (.var 8) (.cst (.str (vgb "<")))) (.cmp .eq (.var 8) (.cst (.str (vgb ">")))))) (.seq (.set 6 (.idx dspE (.var 8))) .skip) (.seq (.ite (.cmp .ne (.var 8) (.cst (.str (vgb "x")))) (.seq (.set 6 (.op .sub (.cst (.int (1))) (.op .mul (.cst (.int (2))) (.bi .int (.cons (.cmp .eq (.idx (.var 1) (.idx (.var 8) (.cst (.int (0))))) (.idx (.var 8) (.cst (.int (1))))) .nil))))) (.seq (.expr (.mt .append (.var 5) (.cons (.idx (.var 8) (.cst (.int (0)))) .nil))) (.seq (.put (.var 1) (.idx (.var 8) (.cst (.int (0)))) (.op .sub (.cst (.int (1))) (.idx (.var 1) (.idx (.var 8) (.cst (.int (0))))))) .skip))) .skip) .skip))
theorem zi4{cl:Call}{h0:VH}{gs:List VO}{cs ts ls:List W}{b l f a r:W}{hd d:Int}{x:Str}(e1:(.str x:W)=.str sDot\/(.str x:W)=.str sLt\/(.str x:W)=.str sGt)(e:lookK dirD (.inr x)=some (.int d)) :
 exs cl midS [some b,some l,some f,some a,some (.ref h0.n),some (.ref (h0.n+1)),some (.int hd),some r,some (.str x)] (st3 h0 gs cs ts ls)=.ok (.nx [some b,some l,some f,some a,some (.ref h0.n),some (.ref (h0.n+1)),some (.int d),some r,some (.str x)]) (st3 h0 (.dk dirD::gs) cs ts ls):=by
 have ed:=zxn (cl:=cl) (ρ:=[some b,some l,some f,some a,some (.ref h0.n),some (.ref (h0.n+1)),some (.int hd),some r,some (.str x)]) (h:=st3 h0 gs cs ts ls) rfl e
 rw[znv]at ed
 have ec:ev cl (.or (.cmp .eq (.var 8) (.cst (.str (vgb ".")))) (.or (.cmp .eq (.var 8) (.cst (.str (vgb "<")))) (.cmp .eq (.var 8) (.cst (.str (vgb ">")))))) [some b,some l,some f,some a,some (.ref h0.n),some (.ref (h0.n+1)),some (.int hd),some r,some (.str x)] (st3 h0 gs cs ts ls)=.ok (.bl true) (st3 h0 gs cs ts ls):=by
  rcases e1 with e1|e1|e1<;>rw[e1]<;>simp[ev,cmpW]
 unfold midS
 rw[exs,ec,bindok]
 simp only[exs,ed,bindok,vbm,vbh]
theorem mid_x{cl:Call}{h0:VH}{gs:List VO}{cs ts ls:List W}{b l f a r:W}{hd:Int} :
 exs cl midS [some b,some l,some f,some a,some (.ref h0.n),some (.ref (h0.n+1)),some (.int hd),some r,some (.str sX)] (st3 h0 gs cs ts ls)=.ok (.nx [some b,some l,some f,some a,some (.ref h0.n),some (.ref (h0.n+1)),some (.int hd),some r,some (.str sX)]) (st3 h0 gs cs ts ls):=by
 simp[midS,exs,ev,cmpW]
theorem zxo{cl:Call}{h0:VH}{gs:List VO}{cs ts:List W}{ls:List Int}{b f a r:W}{hd:Int}{p q:Nat}(hp:p<ls.length)(ht:ts.length<=1000000) :
 exs cl midS [some b,some (.ref (h0.n+2)),some f,some a,some (.ref h0.n),some (.ref (h0.n+1)),some (.int hd),some r,some (.tup [.int p,.int q])] (st3 h0 gs cs ts (ls.map .int))=.ok (.nx [some b,some (.ref (h0.n+2)),some f,some a,some (.ref h0.n),some (.ref (h0.n+1)),some (.int (if ls.getD p 0=q then -1 else 1)),some r,some (.tup [.int p,.int q])]) (st3 h0 gs cs (ts++[.int p]) ((ls.set p (1-ls.getD p 0)).map .int)):=by
 have e1:=zro hp
 have e2:ixN (ls.map W.int).length (p:Int)=some p:=znw (by rw[vaf];exact hp)
 have i0:atI [W.int p,.int q] 0=some (.int p):=rfl
 have i1:atI [W.int p,.int q] 1=some (.int q):=rfl
 have n1:∀h,eqW h (.tup [.int (p:Int),.int (q:Int)]) (.str (vgb "."))=some false:=λh=>zbn (by decide +kernel)
 have n2:∀h,eqW h (.tup [.int (p:Int),.int (q:Int)]) (.str (vgb "<"))=some false:=λh=>zbn (by decide +kernel)
 have n3:∀h,eqW h (.tup [.int (p:Int),.int (q:Int)]) (.str (vgb ">"))=some false:=λh=>zbn (by decide +kernel)
 have n4:∀h,eqW h (.tup [.int (p:Int),.int (q:Int)]) (.str (vgb "x"))=some false:=λh=>zbn (by decide +kernel)
 have g:=st_l (h:=h0) (gs:=gs) (c:=cs) (t:=ts) (l:=ls.map .int)
 have s1:exs cl (.set 6 (.op .sub (.cst (.int (1))) (.op .mul (.cst (.int (2))) (.bi .int (.cons (.cmp .eq (.idx (.var 1) (.idx (.var 8) (.cst (.int (0))))) (.idx (.var 8) (.cst (.int (1))))) .nil))))) [some b,some (.ref (h0.n+2)),some f,some a,some (.ref h0.n),some (.ref (h0.n+1)),some (.int hd),some r,some (.tup [.int p,.int q])] (st3 h0 gs cs ts (ls.map .int))=.ok (.nx [some b,some (.ref (h0.n+2)),some f,some a,some (.ref h0.n),some (.ref (h0.n+1)),some (.int (if ls.getD p 0=q then -1 else 1)),some r,some (.tup [.int p,.int q])]) (st3 h0 gs cs ts (ls.map .int)):=by
  generalize ls.getD p 0=y at e1 ⊢
  have sm:zbj 2=true:=by decide
  by_cases z:y=(q:Int)
  .simp only[exs,ev,vba,vax,va1,ofsome,bindok,idxW,i0,i1,g,e1,cmpW,zav,z,decide_true,vbj,vav,biW,intW,opW,opI,sm,Bool.true_or,vbm,vbh]
   rfl
  .simp only[exs,ev,vba,vax,va1,ofsome,bindok,idxW,i0,i1,g,e1,cmpW,zav,z,decide_false,vbo,vav,biW,intW,opW,opI,sm,Bool.true_or,vbm,vbh]
   rfl
 generalize hy:(if ls.getD p 0=(q:Int)then(-1:Int)else 1)=dd at s1 ⊢
 have ea:=zby (cl:=cl) (i:=5) (l:=h0.n+1) (x:=.idx (.var 8) (.cst (.int 0))) (ρ:=[some b,some (.ref (h0.n+2)),some f,some a,some (.ref h0.n),some (.ref (h0.n+1)),some (.int dd),some r,some (.tup [.int p,.int q])]) (h:=st3 h0 gs cs ts (ls.map .int)) (h1:=st3 h0 gs cs ts (ls.map .int)) (w:=.int p) (acc:=ts) (acc0:=ts) rfl st_t (by simp only[ev,vba,vax,va1,ofsome,bindok,idxW,i0]) st_t ht
 rw[znu]at ea
 have g2:=st_l (h:=h0) (gs:=gs) (c:=cs) (t:=ts++[.int p]) (l:=ls.map .int)
 have s3:exs cl (.put (.var 1) (.idx (.var 8) (.cst (.int (0)))) (.op .sub (.cst (.int (1))) (.idx (.var 1) (.idx (.var 8) (.cst (.int (0))))))) [some b,some (.ref (h0.n+2)),some f,some a,some (.ref h0.n),some (.ref (h0.n+1)),some (.int dd),some r,some (.tup [.int p,.int q])] (st3 h0 gs cs (ts++[.int p]) (ls.map .int))=.ok (.nx [some b,some (.ref (h0.n+2)),some f,some a,some (.ref h0.n),some (.ref (h0.n+1)),some (.int dd),some r,some (.tup [.int p,.int q])]) (st3 h0 gs cs (ts++[.int p]) ((ls.set p (1-ls.getD p 0)).map .int)):=by
  simp only[exs,ev,vba,vax,va1,ofsome,bindok,idxW,i0,g2,e1,opW,opI,vav,e2,ztt,List.map_set]
 unfold midS
 have ec:ev cl (.or (.cmp .eq (.var 8) (.cst (.str (vgb ".")))) (.or (.cmp .eq (.var 8) (.cst (.str (vgb "<")))) (.cmp .eq (.var 8) (.cst (.str (vgb ">")))))) [some b,some (.ref (h0.n+2)),some f,some a,some (.ref h0.n),some (.ref (h0.n+1)),some (.int hd),some r,some (.tup [.int p,.int q])] (st3 h0 gs cs ts (ls.map .int))=.ok (.bl false) (st3 h0 gs cs ts (ls.map .int)):=by
  simp[ev,cmpW,n1,n2,n3]
 have ed:ev cl (.cmp .ne (.var 8) (.cst (.str (vgb "x")))) [some b,some (.ref (h0.n+2)),some f,some a,some (.ref h0.n),some (.ref (h0.n+1)),some (.int hd),some r,some (.tup [.int p,.int q])] (st3 h0 gs cs ts (ls.map .int))=.ok (.bl true) (st3 h0 gs cs ts (ls.map .int)):=by
  simp[ev,cmpW,n4]
 rw[exs,ec,bindok]
 simp only
 have s0:exs cl (.ite (.cmp .ne (.var 8) (.cst (.str (vgb "x")))) (.seq (.set 6 (.op .sub (.cst (.int (1))) (.op .mul (.cst (.int (2))) (.bi .int (.cons (.cmp .eq (.idx (.var 1) (.idx (.var 8) (.cst (.int (0))))) (.idx (.var 8) (.cst (.int (1))))) .nil))))) (.seq (.expr (.mt .append (.var 5) (.cons (.idx (.var 8) (.cst (.int (0)))) .nil))) (.seq (.put (.var 1) (.idx (.var 8) (.cst (.int (0)))) (.op .sub (.cst (.int (1))) (.idx (.var 1) (.idx (.var 8) (.cst (.int (0))))))) .skip))) .skip) [some b,some (.ref (h0.n+2)),some f,some a,some (.ref h0.n),some (.ref (h0.n+1)),some (.int hd),some r,some (.tup [.int p,.int q])] (st3 h0 gs cs ts (ls.map .int))=.ok (.nx [some b,some (.ref (h0.n+2)),some f,some a,some (.ref h0.n),some (.ref (h0.n+1)),some (.int dd),some r,some (.tup [.int p,.int q])]) (st3 h0 gs cs (ts++[.int p]) ((ls.set p (1-ls.getD p 0)).map .int)):=by
  rw[exs,ed,bindok]
  simp only
  rw[zaa s1,zaa (ρ':=[some b,some (.ref (h0.n+2)),some f,some a,some (.ref h0.n),some (.ref (h0.n+1)),some (.int dd),some r,some (.tup [.int p,.int q])]) (h':=st3 h0 gs cs (ts++[.int p]) (ls.map .int)) (by rw[exs,ea,bindok]),zaa s3]
  rfl
 rw[zaa s0]
 rfl
structure CoreL(F:Nat->Option Fn):Prop where
 f38:F 38=some fn38
theorem zkw:zdk=.seq (.set 8 (.idx (.var 7) (.idx (.var 4) (.neg (.cst (.int (1))))))) (.seq (.ite (.cmp .eq (.var 8) sE) (.seq (.ret (endE true)) .skip) .skip) (.seq midS (.seq (.expr (.mt .append (.var 4) (.cons (.op .add (.idx (.var 4) (.neg (.cst (.int (1))))) (.var 6)) .nil))) .skip))):=rfl
theorem ztx:fn38=⟨3,9,.seq (.set 3 (.idx (.idx (.var 0) (.cst (.int (3)))) (.var 2))) (.seq (.set 4 (.lst (.cons (.var 3) .nil))) (.seq (.set 5 (.lst .nil)) (.seq (.set 1 (.bi .list (.cons (.var 1) .nil))) (.seq (.set 6 (.cst (.int (0)))) (.seq (.«for» .seq (.idx (.var 0) (.cst (.int (2)))) (.one 7) zdk) (.seq (.ret (endE false)) .skip))))))⟩:=rfl
theorem zxp{cl:Call}{h0:VH}{gs:List VO}{b f a:W}{c wd hd:Int}{y:Option W}(ok:(r.length:Int)=wd/\rowOk wd (ls.length:Int) 0 r)(c0:0<=c)(c1:c<wd)(hc:cs.length<=1000)(ht:ts.length<=1000)(hlast:atI cs (-1)=some (.int c)) :
 ∃gs',exs cl zdk [some b,some (.ref (h0.n+2)),some f,some a,some (.ref h0.n),some (.ref (h0.n+1)),some (.int hd),some (.tup r),y] (st3 h0 gs cs ts (ls.map .int))=match stepP (colAt r c) hd ls with
  |none=>.ok (.rt (.ref (h0.n+3+gs.length))) (st3 h0 (.lst [.tup cs,.tup ts,iW ls,.bl true]::gs) cs ts (ls.map .int))
  |some (d,t,l')=>.ok (.nx [some b,some (.ref (h0.n+2)),some f,some a,some (.ref h0.n),some (.ref (h0.n+1)),some (.int d),some (.tup r),some (colAt r c)]) (st3 h0 gs' (cs++[.int (c+d)]) (ts++t.map .int) (l'.map .int)):=by
 obtain⟨_,hm⟩:=zex ok c0 c1
 have e0:=zrp ok c0 c1
 generalize colAt r c=w at hm e0 ⊢
 have g:=st_c (h:=h0) (gs:=gs) (c:=cs) (t:=ts) (l:=ls.map .int)
 have s1:exs cl (.set 8 (.idx (.var 7) (.idx (.var 4) (.neg (.cst (.int (1))))))) [some b,some (.ref (h0.n+2)),some f,some a,some (.ref h0.n),some (.ref (h0.n+1)),some (.int hd),some (.tup r),y] (st3 h0 gs cs ts (ls.map .int))=.ok (.nx [some b,some (.ref (h0.n+2)),some f,some a,some (.ref h0.n),some (.ref (h0.n+1)),some (.int hd),some (.tup r),some w]) (st3 h0 gs cs ts (ls.map .int)):=by
  simp only[exs,ev,vba,vax,va1,ofsome,bindok,idxW,g,hlast,e0,vbm,vbh]
 have no:∀_:Unit,eqW (st3 h0 gs cs ts (ls.map .int)) w (.str sS)=some false->exs cl (.ite (.cmp .eq (.var 8) sE) (.seq (.ret (endE true)) .skip) .skip) [some b,some (.ref (h0.n+2)),some f,some a,some (.ref h0.n),some (.ref (h0.n+1)),some (.int hd),some (.tup r),some w] (st3 h0 gs cs ts (ls.map .int))=.ok (.nx [some b,some (.ref (h0.n+2)),some f,some a,some (.ref h0.n),some (.ref (h0.n+1)),some (.int hd),some (.tup r),some w]) (st3 h0 gs cs ts (ls.map .int)):=by
  intro _ e
  simp only[exs,ev,vba,vax,va1,ofsome,bindok,cmpW,e,vav]
 rw[zkw,zaa s1]
 rcases zbz hm with⟨rfl,h3,h4⟩|⟨rfl,h3⟩|⟨rfl,h3⟩|rfl|rfl|⟨p,q,rfl,h3,h4,h5,h6⟩
 .refine⟨gs,?_⟩
  rw[zh6,zaa (no () eq_X_S),zaa mid_x,zia hlast (by omega)]
  simp
 .refine⟨.dk dirD::gs,?_⟩
  rw[zeu,zaa (no () eq_Lt_S),zaa (zi4 (.inr (.inl rfl)) zxk),zia hlast (by omega)]
  simp
 .refine⟨.dk dirD::gs,?_⟩
  rw[zev,zaa (no () eq_Gt_S),zaa (zi4 (.inr (.inr rfl)) zxl),zia hlast (by omega)]
  simp
 .refine⟨.dk dirD::gs,?_⟩
  rw[zcv,zaa (no () eq_Dot_S),zaa (zi4 (.inl rfl) ztw),zia hlast (by omega)]
  simp
 .refine⟨gs,?_⟩
  rw[zh7]
  have ee:=zrq (cl:=cl) (st:=true) (ρ:=[some b,some (.ref (h0.n+2)),some f,some a,some (.ref h0.n),some (.ref (h0.n+1)),some (.int hd),some (.tup r),some (.str sS)]) (h0:=h0) (gs:=gs) (cs:=cs) (ts:=ts) (ls:=ls.map .int) rfl rfl rfl
  refine zab ?_
  have ec:ev cl (.cmp .eq (.var 8) sE) [some b,some (.ref (h0.n+2)),some f,some a,some (.ref h0.n),some (.ref (h0.n+1)),some (.int hd),some (.tup r),some (.str sS)] (st3 h0 gs cs ts (ls.map .int))=.ok (.bl true) (st3 h0 gs cs ts (ls.map .int)):=by
   simp only[ev,vba,vax,va1,ofsome,bindok,cmpW,eq_S_S,vav]
  rw[exs,ec,bindok]
  simp only[exs,ee,bindok]
  rfl
 .refine⟨gs,?_⟩
  rw[zew,zaa (no () (zbn (by decide +kernel))),zaa (zxo (by omega) (by omega)),zia hlast (by omega)]
  rfl
theorem zrr{cl:Call}{h0:VH}{b f a:W}{wd:Int}:∀(rs:List (List W)) (c hd:Int) (gs:List VO) (cs ts:List W) (ls:List Int) (x y:Option W),zfq wd (ls.length:Int) rs->0<=c->c<wd->-1<=hd->hd<=1->Bits ls->cs.length+rs.length<=1000->ts.length+rs.length<=1000->atI cs (-1)=some (.int c)->
 ∃gs' hd' x' y',forL (tgW (.one 7)) (exs cl zdk) (rs.map .tup) [some b,some (.ref (h0.n+2)),some f,some a,some (.ref h0.n),some (.ref (h0.n+1)),some (.int hd),x,y] (st3 h0 gs cs ts (ls.map .int)) =
  if(fallP rs c hd ls).st then .ok (.rt (.ref (h0.n+3+gs'.length))) (st3 h0 (.lst [.tup (cs++(fallP rs c hd ls).cs.map .int),.tup (ts++(fallP rs c hd ls).ts.map .int),iW (fallP rs c hd ls).ls,.bl true]::gs') (cs++(fallP rs c hd ls).cs.map .int) (ts++(fallP rs c hd ls).ts.map .int) ((fallP rs c hd ls).ls.map .int))
  else .ok (.nx [some b,some (.ref (h0.n+2)),some f,some a,some (.ref h0.n),some (.ref (h0.n+1)),hd',x',y']) (st3 h0 gs' (cs++(fallP rs c hd ls).cs.map .int) (ts++(fallP rs c hd ls).ts.map .int) ((fallP rs c hd ls).ls.map .int))
 |[],c,hd,gs,cs,ts,ls,x,y,_,_,_,_,_,_,_,_,_=>⟨gs,some (.int hd),x,y,by simp[forL,fallP]⟩
 |r::rs,c,hd,gs,cs,ts,ls,x,y,ok,c0,c1,h1,h2,bi,hc,ht,hlast=>by
  have hc':cs.length+rs.length+1<=1000:=by rw[vai]at hc;omega
  have ht':ts.length+rs.length+1<=1000:=by rw[vai]at ht;omega
  obtain⟨gs1,eb⟩:=zxp (cl:=cl) (h0:=h0) (gs:=gs) (b:=b) (f:=f) (a:=a) (hd:=hd) (cs:=cs) (ts:=ts) (y:=y) (ok r vap) c0 c1 (by omega) (by omega) hlast
  obtain⟨_,hm⟩:=zex (ok r vap) c0 c1
  cases e:stepP (colAt r c) hd ls with
  |none=>
   rw[e]at eb
   rw[zh8 e]
   refine⟨gs,some (.int hd),x,y,?_⟩
   simp only[va0,forL,tgW,vbm,vbh,eb,bindok,vdh,vbc,vbj]
  |some q=>
   obtain⟨d,t,l'⟩:=q
   rw[e]at eb
   obtain⟨a1,a2,a3,a4,a5,a6,a7⟩:=zgu hm c0 c1 h1 h2 bi e
   obtain⟨gs',hd',x',y',ih⟩:=zrr (cl:=cl) (h0:=h0) (b:=b) (f:=f) (a:=a) rs (c+d) d gs1 (cs++[.int (c+d)]) (ts++t.map .int) l' (some (.tup r)) (some (colAt r c)) (λr hr=>by rw[a5];exact ok r (vak _ hr)) a3 a4 a1 a2 a6 (by simp only[vaj,vbt];omega) (by simp only[vaj,vaf];omega) (zoy _ _)
   rw[zh9 e]
   refine⟨gs',hd',x',y',?_⟩
   simp only[va0,forL,tgW,vbm,vbh,eb,bindok,ih,vef,List.append_assoc,List.singleton_append]
theorem zxq{i:Nat}(hi:i<h.n):(st3 h gs c t l).get i=h.get i:=by
 unfold st3 VH.get
 rw[if_pos (zaq.mpr (by show i<h.n+3+gs.length;omega)),if_pos (zaq.mpr hi)]
 show(gs++(.lst l :: .lst t :: .lst c::h.os))[h.n+3+gs.length-1-i]?=_
 rw[va4 (by omega),show h.n+3+gs.length-1-i-gs.length=(h.n-1-i)+3 by omega]
 rfl
theorem zxr:(st3 h (o::gs) c t l).get (h.n+3+gs.length)=some o:=by
 rw[<-znv]
 exact zn0
section
variable{F:Nat->Option Fn}(C:CoreL F)
include C
theorem zqb{k:Nat}{h:VH}{B:Bd}{ls:List Int}{f:Nat}{c:Int}(hlo:h.lo<=h.n)(hf:B.fd[f]?=some (.int c))(c0:0<=c)(c1:c<B.wd)(hr:zfq B.wd (ls.length:Int) B.rows)(h60:B.rows.length<=60)(bi:Bits ls) :
 ∃i h',run F (k+1) 38 [B.w,iW ls,.int f] h=.ok (.ref i) h'/\h'.get i=some (.lst [iW (c:: (fallP B.rows c 0 ls).cs),iW (fallP B.rows c 0 ls).ts,iW (fallP B.rows c 0 ls).ls,.bl (fallP B.rows c 0 ls).st])/\Gw h h':=by
 rw[zak C.f38 rfl]
 have e1:atI B.fd (f:Int)=some (.int c):=zbd hf
 have i3:atI [W.int B.wd,.int B.gr,.tup (B.rows.map .tup),.tup B.fd,.tup B.dr] 3=some (.tup B.fd):=rfl
 have i2:atI [W.int B.wd,.int B.gr,.tup (B.rows.map .tup),.tup B.fd,.tup B.dr] 2=some (.tup (B.rows.map .tup)):=rfl
 have hz:(B.rows.map W.tup).length<1000000:=by rw[vaf];omega
 obtain⟨gs,hd',x',y',el⟩:=zrr (cl:=run F k) (h0:=h) (b:=B.w) (f:=.int f) (a:=.int c) B.rows c 0 [] [.int c] [] ls none none hr c0 c1 (by decide) (by decide) bi (by rw[vbt];omega) (by rw[vdi];omega) rfl
 have key:exs (run F k) fn38.body [some B.w,some (iW ls),some (.int f),none,none,none,none,none,none] ⟨h.n,h.n,h.os⟩=.ok (.rt (.ref (h.n+3+gs.length))) (st3 h (.lst [iW (c:: (fallP B.rows c 0 ls).cs),iW (fallP B.rows c 0 ls).ts,iW (fallP B.rows c 0 ls).ls,.bl (fallP B.rows c 0 ls).st]::gs) (([.int c]:List W)++(fallP B.rows c 0 ls).cs.map .int) (([]:List W)++(fallP B.rows c 0 ls).ts.map .int) ((fallP B.rows c 0 ls).ls.map .int)):=by
  rw[ztx]
  show exs (run F k) (.seq _ _) _ _=_
  rw[zaa (ρ':=[some B.w,some (iW ls),some (.int f),some (.int c),none,none,none,none,none]) (h':=⟨h.n,h.n,h.os⟩) (by unfold Bd.w;simp[exs,ev,idxW,i3,e1])]
  rw[zaa (ρ':=[some B.w,some (iW ls),some (.int f),some (.int c),some (.ref h.n),none,none,none,none]) (h':=VH.new ⟨h.n,h.n,h.os⟩ (.lst [.int c])) (by simp[exs,ev])]
  rw[zaa (ρ':=[some B.w,some (iW ls),some (.int f),some (.int c),some (.ref h.n),some (.ref (h.n+1)),none,none,none]) (h':=VH.new (VH.new ⟨h.n,h.n,h.os⟩ (.lst [.int c])) (.lst [])) (by simp[exs,ev,VH.new])]
  rw[zaa (ρ':=[some B.w,some (.ref (h.n+2)),some (.int f),some (.int c),some (.ref h.n),some (.ref (h.n+1)),none,none,none]) (h':=st3 h [] [.int c] [] (ls.map .int)) (by unfold iW;simp[exs,ev,VH.new,biW,listW,seqW,st3])]
  rw[zaa (ρ':=[some B.w,some (.ref (h.n+2)),some (.int f),some (.int c),some (.ref h.n),some (.ref (h.n+1)),some (.int 0),none,none]) (h':=st3 h [] [.int c] [] (ls.map .int)) (by simp[exs,ev])]
  have ei:ev (run F k) (.idx (.var 0) (.cst (.int (2)))) [some B.w,some (.ref (h.n+2)),some (.int f),some (.int c),some (.ref h.n),some (.ref (h.n+1)),some (.int 0),none,none] (st3 h [] [.int c] [] (ls.map .int))=.ok (.tup (B.rows.map .tup)) (st3 h [] [.int c] [] (ls.map .int)):=by
   unfold Bd.w;simp[ev,idxW,i2]
  have ef:=zde (tg:=tgW (.one 7)) (b:=exs (run F k) zdk) (ρ:=[some B.w,some (.ref (h.n+2)),some (.int f),some (.int c),some (.ref h.n),some (.ref (h.n+1)),some (.int 0),none,none]) (h:=st3 h [] [.int c] [] (ls.map .int)) hz
  rw[el]at ef
  cases z:(fallP B.rows c 0 ls).st with
  |true=>
   rw[z]at ef
   refine(zab (by rw[exs,ei,bindok,ef];rfl)).trans ?_
   rfl
  |false=>
   rw[z]at ef
   refine(zaa (by rw[exs,ei,bindok,ef];rfl)).trans ?_
   have ee:=zrq (cl:=run F k) (st:=false) (ρ:=[some B.w,some (.ref (h.n+2)),some (.int f),some (.int c),some (.ref h.n),some (.ref (h.n+1)),hd',x',y']) (h0:=h) (gs:=gs) (cs:=([.int c]:List W)++(fallP B.rows c 0 ls).cs.map .int) (ts:=([]:List W)++(fallP B.rows c 0 ls).ts.map .int) (ls:=(fallP B.rows c 0 ls).ls.map .int) rfl rfl rfl
   simp only[exs,ee,bindok]
   rfl
 show ∃i h',fin h (exs (run F k) fn38.body [some B.w,some (iW ls),some (.int f),none,none,none,none,none,none] ⟨h.n,h.n,h.os⟩)=.ok (.ref i) h'/\_/\_
 rw[key]
 generalize (([.int c]:List W)++(fallP B.rows c 0 ls).cs.map .int)=c1'
 generalize (([]:List W)++(fallP B.rows c 0 ls).ts.map .int)=t1'
 generalize ((fallP B.rows c 0 ls).ls.map W.int)=l1'
 generalize W.bl (fallP B.rows c 0 ls).st=s1'
 refine⟨h.n+3+gs.length,⟨h.n+3+ (gs.length+1),h.lo,(.lst [iW (c:: (fallP B.rows c 0 ls).cs),iW (fallP B.rows c 0 ls).ts,iW (fallP B.rows c 0 ls).ls,s1']::gs)++(.lst l1' :: .lst t1' :: .lst c1'::h.os)⟩,?_,?_,?_,rfl,?_⟩
 .show leave _ _ _=_
  unfold leave
  rw[if_neg (by rw[W.lt,zfr (by omega)];simp)]
  show Res.ok _ ⟨_,if Nat.ble h.lo h.n then h.lo else h.n,_⟩=_
  rw[if_pos (veb.mpr hlo)]
  rfl
 .exact(get_lo (h:=st3 h (.lst [iW (c:: (fallP B.rows c 0 ls).cs),iW (fallP B.rows c 0 ls).ts,iW (fallP B.rows c 0 ls).ls,s1']::gs) c1' t1' l1')).trans zxr
 .show h.n<=h.n+3+ (gs.length+1);omega
 .intro i o e
  exact((get_lo (h:=st3 h (.lst [iW (c:: (fallP B.rows c 0 ls).cs),iW (fallP B.rows c 0 ls).ts,iW (fallP B.rows c 0 ls).ls,s1']::gs) c1' t1' l1')).trans (zxq (zas e))).trans e
end
section
variable{F:Nat->Option Fn}(C:CoreD F)
include C
theorem zft{k:Nat}:∀(ns:List Int) (x:Option W) (h:VH),∃cells:List Int,lcL (tgW (.one 0)) (ev (run F k) zdt) (ev (run F k) zdu) (ns.map .int) [x] h=.ok (cells.map .int) h/\(∀y∈cells,(0:Int)<=y)/\cells.length<=ns.length
 |[],x,h=>⟨[],rfl,(λy hy=>by cases hy),vad _⟩
 |n::ns,x,h=>by
  obtain⟨cells,e,h1,h2⟩:=zft (k:=k) ns (some (.int n)) h
  have s10:((10:Int).natAbs<2 ^ 64):=by decide
  have ec:ev (run F k) zdt [some (.int n)] h=.ok (.bl (decide (1000000000000000000<=(n.natAbs:Int)))) h:=by
   simp[zdt,ev,biW,absW,opW,opI,cmpW,cmpI,zdi]
  have ee:ev (run F k) zdu [some (.int n)] h=.ok (.int (n.natAbs:Int)) h:=by
   simp[zdu,ev,biW,absW,zdi]
  by_cases q:1000000000000000000<=(n.natAbs:Int)
  .refine⟨(n.natAbs:Int)::cells,?_,λy hy=>?_,by rw[vai,vai];omega⟩
   .simp only[lcL,va0,tgW,List.set,ec,bindok,q,decide_true,ee,e]
   .rcases vaw.mp hy with rfl|hy
    .omega
    .exact h1 y hy
  .refine⟨cells,?_,h1,by rw[vai];omega⟩
   simp only[lcL,va0,tgW,List.set,ec,bindok,q,decide_false,e]
theorem deck{k:Nat}{h:VH}{ns:List Int}(hl:ns.length<=63):∃h',run F (k+1) 3 [.fz (ns.map .int)] h=.ok (.ref (h.n+1)) h'/\Dk h' (h.n+1) h.n 0:=by
 rw[zak C.f3 rfl]
 obtain⟨cells,e,h1,h2⟩:=zft C (k:=k) ns none ⟨h.n,h.n,h.os⟩
 have l:=zcr (nx:=nxt .seq (.fz (ns.map .int))) (tg:=tgW (.one 0)) (c:=ev (run F k) zdt) (e:=ev (run F k) zdu) (ws:=ns.map .int) (λi h=>rfl) fuel 0 [none] ⟨h.n,h.n,h.os⟩ [] (vbv _) (by rw[vaf];unfold fuel;omega)
 rw[List.drop_zero,e]at l
 have l:lcG (nxt .seq (.fz (ns.map .int))) (tgW (.one 0)) (ev (run F k) zdt) (ev (run F k) zdu) fuel 0 [none] ⟨h.n,h.n,h.os⟩ []=.ok (cells.map .int) ⟨h.n,h.n,h.os⟩:=l
 have q:ev (run F k) (.lc .seq (.var 0) (.one 0) 1 [] zdt zdu) [some (.fz (ns.map .int))] ⟨h.n,h.n,h.os⟩=.ok (.ref h.n) (VH.new ⟨h.n,h.n,h.os⟩ (.lst (cells.map .int))):=by
  rw[ev]
  have:ev (run F k) (.var 0) [some (.fz (ns.map .int))] ⟨h.n,h.n,h.os⟩=.ok (.fz (ns.map .int)) ⟨h.n,h.n,h.os⟩:=rfl
  rw[this,bindok]
  show(lcG (nxt .seq (.fz (ns.map .int))) (tgW (.one 0)) (ev (run F k) zdt) (ev (run F k) zdu) fuel 0 [none] ⟨h.n,h.n,h.os⟩ []).bind _=_
  rw[l,bindok,if_pos (zbq (by rw[vaf];omega))]
 let h1':VH:=VH.new ⟨h.n,h.n,h.os⟩ (.lst (cells.map .int))
 let o:VO:=.lst [.fz (ns.map .int),.ref h.n,.int 0,.int 0]
 have eb:exs (run F k) fn3.body [some (.fz (ns.map .int))] ⟨h.n,h.n,h.os⟩=.ok (.rt (.ref (h.n+1))) (h1'.new o):=by
  simp only[fn3,exs,ev,bindok,ofsome,va1,vba]at q ⊢
  rw[q]
  rfl
 refine⟨⟨h.n+2,if Nat.ble h.lo h.n then h.lo else h.n,(h1'.new o).os⟩,?_,?_⟩
 .show fin h (exs (run F k) fn3.body [some (.fz (ns.map .int))] ⟨h.n,h.n,h.os⟩)=_
  rw[eb]
  show leave h (.ref (h.n+1)) (h1'.new o)=_
  unfold leave
  rw[if_neg (by
   rw[vaa]
   intro z
   have:=z.2
   simp only[W.lt]at this
   have:=zaq.mp this
   omega)]
  rfl
 .refine⟨by omega,ns,cells,0,0,?_,?_,h1,by omega,by omega,by omega,by omega⟩
  .show VH.get ⟨(h1'.new o).n,_,(h1'.new o).os⟩ (h.n+1)=_
   rw[get_lo]
   exact zam (h:=h1')
  .show VH.get ⟨(h1'.new o).n,_,(h1'.new o).os⟩ h.n=_
   rw[get_lo,zae (h:=h1') (by show h.n<h.n+1;omega)]
   exact zam (h:=⟨h.n,h.n,h.os⟩)
end
noncomputable def zipW(ws zs:List W):List W:=List.zipWith (λa b=>W.tup [a,b]) ws zs
theorem zqc(i:Nat)(h:VH):nxt .zip (.tup [.tup ws,.tup zs]) i h=some (zipW ws zs)[i]?:=by
 simp only[nxt,seqW,zipW,List.getElem?_zipWith]
 cases ws[i]?<;>cases zs[i]?<;>rfl
theorem zn1{ρ:En}{ow:Nat}{ix:List Nat}(ea:ev cl a ρ h=.ok (.tup [.tup ws,.tup zs]) h1)(hn:(zipW ws zs).length<1000000)(el:lcL (tgW t) (λ_ h=>.ok (.bl true) h) (ev cl e) (zipW ws zs) (inner ow ix ρ) h1=.ok ys h2)(hy:ys.length<=1000000) :
 ev cl (.lc .zip a t ow ix (.cst (.bl true)) e) ρ h=.ok (.ref h2.n) (h2.new (.lst ys)):=by
 have l:=zcr (nx:=nxt .zip (.tup [.tup ws,.tup zs])) (tg:=tgW t) (c:=λ_ h=>.ok (.bl true) h) (e:=ev cl e) (ws:=zipW ws zs) (λi h=>zqc i h) fuel 0 (inner ow ix ρ) h1 [] (vbv _) (by simpa[fuel]using hn)
 rw[List.drop_zero,el]at l
 have q:ev cl (.lc .zip a t ow ix (.cst (.bl true)) e) ρ h=(ev cl a ρ h).bind λx h=>(lcG (nxt .zip x) (tgW t) (ev cl (.cst (.bl true))) (ev cl e) fuel 0 (inner ow ix ρ) h []).bind λys h=>if Nat.ble ys.length big then .ok (.ref h.n) (h.new (.lst ys))else .no:=by rw[ev]
 rw[q,ea,bindok]
 show(lcG (nxt .zip (.tup [.tup ws,.tup zs])) (tgW t) (λ_ h=>.ok (.bl true) h) (ev cl e) fuel 0 (inner ow ix ρ) h1 []).bind _=_
 rw[l]
 show(if Nat.ble ([].reverse++ys).length big then _ else _)=_
 rw[List.reverse_nil,vc4,if_pos (zbq hy)]
theorem opE{ρ:En}{r:Res W}(ea:ev cl a ρ h=.ok x h1)(eb:ev cl b ρ h1=.ok y h2)(e:opW o x y h2=r):ev cl (.op o a b) ρ h=r:=by
 rw[ev,ea,bindok,eb,bindok,e]
theorem retE{ρ:En}(ea:ev cl a ρ h=.ok x h1):exs cl (.ret a) ρ h=.ok (.rt x) h1:=by
 rw[exs,ea,bindok]
theorem setE{i:Nat}{ρ:En}(ea:ev cl a ρ h=.ok x h1):exs cl (.set i a) ρ h=.ok (.nx (ρ.set i (some x))) h1:=by
 rw[exs,ea,bindok]
theorem varE{i:Nat}{ρ:En}(e:ρ[i]?=some (some x)):ev cl (.var i) ρ h=.ok x h:=by
 rw[ev,e];rfl
theorem idxE{ρ:En}(ea:ev cl a ρ h=.ok x h1)(eb:ev cl b ρ h1=.ok y h2)(e:idxW h2 x y=some z):ev cl (.idx a b) ρ h=.ok z h2:=by
 rw[ev,ea,bindok,eb,bindok,e];rfl
theorem lenE{ρ:En}(ea:ev cl a ρ h=.ok x h1)(e:seqW h1 x=some ws):ev cl (.bi .len (.cons a .nil)) ρ h=.ok (.int ws.length) h1:=by
 rw[ev,ev,ea,bindok,ev,bindok]
 show lenW [x] h1=_
 simp only[lenW,e,ofsome]
theorem zfu{ρ:En}{n:Nat}(ea:ev cl a ρ h=.ok x h1)(e:cl n [x] h1=.ok w h'):ev cl (.call n (.cons a .nil)) ρ h=.ok w h':=by
 rw[ev,ev,ea,bindok,ev]
 exact e
theorem za5{ρ:En}{n:Nat}(ea:ev cl a ρ h=.ok x h1)(eb:ev cl b ρ h1=.ok y h2)(e:cl n [x,y] h2=.ok w h'):ev cl (.call n (.cons a (.cons b .nil))) ρ h=.ok w h':=by
 rw[ev,ev,ea,bindok,ev,eb,bindok,ev]
 exact e
theorem zfv{ρ:En}{n:Nat}(ea:ev cl a ρ h=.ok x h1)(eb:ev cl b ρ h1=.ok y h2)(ec:ev cl c ρ h2=.ok z h3)(e:cl n [x,y,z] h3=.ok w h'):ev cl (.call n (.cons a (.cons b (.cons c .nil)))) ρ h=.ok w h':=by
 rw[ev,ev,ea,bindok,ev,eb,bindok,ev,ec,bindok,ev]
 exact e
theorem zfw{ρ:En}{n:Nat}(ea:ev cl a ρ h=.ok x h1)(eb:ev cl b ρ h1=.ok y h2)(ec:ev cl c ρ h2=.ok z h3)(ed:ev cl d ρ h3=.ok u h4)(e:cl n [x,y,z,u] h4=.ok w h'):ev cl (.call n (.cons a (.cons b (.cons c (.cons d .nil))))) ρ h=.ok w h':=by
 rw[ev,ev,ea,bindok,ev,eb,bindok,ev,ec,bindok,ev,ed,bindok,ev]
 exact e
theorem slcE{lo:E}{bl bh:Bool}{ρ:En}{l' u':Option Int}(ea:ev cl a ρ h=.ok x h1)(el:ev cl lo ρ h1=.ok l h2)(eu:ev cl hi ρ h2=.ok u h3)(pl:partW bl l=some l')(pu:partW bh u=some u')(e:slcW x l' u' h3=.ok w h4):ev cl (.slc a bl lo bh hi) ρ h=.ok w h4:=by
 rw[ev,ea,bindok,el,bindok,eu,bindok,pl,pu]
 exact e
theorem iteF{ρ:En}(e:ev cl c ρ h=.ok (.bl false) h1):exs cl (.ite c a b) ρ h=exs cl b ρ h1:=by
 rw[exs,e];rfl
theorem iteT{ρ:En}(e:ev cl c ρ h=.ok (.bl true) h1):exs cl (.ite c a b) ρ h=exs cl a ρ h1:=by
 rw[exs,e];rfl
theorem truE{ρ:En}{b:Bool}(e:ev cl a ρ h=.ok (.bl b) h1):ev cl (.tru a) ρ h=.ok (.bl b) h1:=by
 rw[ev,e,bindok];rfl
theorem exprE{ρ:En}(ea:ev cl a ρ h=.ok x h1):exs cl (.expr a) ρ h=.ok (.nx ρ) h1:=by
 rw[exs,ea,bindok]
theorem zn2{P:Int->Prop}:∀{ws:List W},(∀w∈ws,∃x:Int,w=.int x/\P x)->∃xs:List Int,ws=xs.map .int/\∀x∈xs,P x
 |[],_=>⟨[],rfl,by simp⟩
 |w::r,h=>by
  obtain⟨x,rfl,hx⟩:=h w vap
  obtain⟨xs,rfl,hs⟩:=zn2 λw hw=>h w (vak _ hw)
  refine⟨x::xs,rfl,λy hy=>?_⟩
  rcases vaw.mp hy with rfl|hy
  .exact hx
  .exact hs y hy
section
variable{F:Nat->Option Fn}(C:CoreD F)
include C
theorem zi5{k:Nat}{d c b g:Nat}(f20:F 20=some fn20)(D:Dk h d c b)(hb:b+10<1000000000)(hg:g<=8) :
 ∃ls h',run F (k+4) 20 [.ref d,.int g] h=.ok (iW ls) h'/\ls.length=g/\Bits ls/\Dk h' d c (b+10)/\Keep h h' d c:=by
 rw[zak f20 rfl]
 have D0:Dk ⟨h.n,h.n,h.os⟩ d c b:=D.lo
 obtain⟨ws,h2,e2,p2,l2,D2,K2⟩:=zdj (cl:=run F (k+3)) (P:=λ_ w=>∃x:Int,w=.int x/\(x=0\/x=1)) (e:=zgv) (tl:=[some (.ref d)]) (m:=1) (lim:=g) (λi h b h0 hl D hb=>by
  obtain⟨r,h',e,r0,r1,D',K'⟩:=take C (k:=k) (m:=2) D (by omega) (by decide) (by decide)
  exact⟨.int r,h',by simp[zgv,ev,e],⟨r,rfl,by omega⟩,D',K'⟩) g 0 none ⟨h.n,h.n,h.os⟩ b (by omega) (by omega) D0 (by omega)
 obtain⟨ls,rfl,hbits⟩:=zn2 (zcu p2)
 have e3:=zj1 (cl:=run F (k+3)) (a:=.cons (.var 1) .nil) (ρ:=[some (.ref d),some (.int g)]) (h:=⟨h.n,h.n,h.os⟩) (ow:=1) (ix:=[0]) (e:=zgv) (by simp[ev]) (by omega) e2 (by rw[l2];omega)
 obtain⟨h5,e5,D5,K5⟩:=zbp (cl:=run F (k+3)) (fl:=.nx []) (w:=iW ls) (body:=fn20.body) (ρ:=[some (.ref d),some (.int g)]) (F:=F) (k:=k+3) (h:=h) (h':=h2.new (.lst (ls.map .int))) (by simp only[fn20,exs,e3,bindok];rfl) (.inr ⟨b,D⟩) (D2.new.mono (show _<=b+10 by omega)) K2.new
 exact⟨ls,h5,e5,by rw[vaf]at l2;exact l2,hbits,D5,K5⟩
end
theorem eqT{ρ:En}(ea:ev cl a ρ h=.ok w h1)(eb:ev cl b ρ h1=.ok w h2)(p:za3 24 w=true):ev cl (.cmp .eq a b) ρ h=.ok (.bl true) h2:=by
 rw[ev,ea,bindok,eb,bindok]
 simp only[cmpW,zjz p,vav,ofsome]
theorem neF{ρ:En}(ea:ev cl a ρ h=.ok w h1)(eb:ev cl b ρ h1=.ok w h2)(p:za3 24 w=true):ev cl (.cmp .ne a b) ρ h=.ok (.bl false) h2:=by
 rw[ev,ea,bindok,eb,bindok]
 simp only[cmpW,zjz p,vav,ofsome,vd0]
theorem notT{ρ:En}{b:Bool}(ea:ev cl a ρ h=.ok (.bl b) h1):ev cl (.not (.tru a)) ρ h=.ok (.bl (!b)) h1:=by
 rw[ev,truE ea,bindok]
theorem orF{ρ:En}{r:Bool}(ea:ev cl a ρ h=.ok (.bl false) h1)(eb:ev cl b ρ h1=.ok (.bl r) h2):ev cl (.or a b) ρ h=.ok (.bl r) h2:=by
 rw[ev,ea,bindok];exact eb
section
variable{cl:Call}{ρ:En}{h h1 h2 h3 h':VH}{a b r:E}
theorem consE(ea:ev cl a ρ h=.ok x h1)(er:ev cl r ρ h1=.ok (.tup xs) h2):ev cl (.cons a r) ρ h=.ok (.tup (x::xs)) h2:=by
 rw[ev,ea,bindok,er];rfl
theorem orT(ea:ev cl a ρ h=.ok (.bl true) h1):ev cl (.or a b) ρ h=.ok (.bl true) h1:=by rw[ev,ea,bindok]
theorem nilE:ev cl .nil ρ h=.ok (.tup []) h:=by rw[ev]
theorem cstE:ev cl (.cst w) ρ h=.ok w h:=by rw[ev]
theorem lstE(ea:ev cl a ρ h=.ok (.tup ys) h1)(hl:Nat.ble ys.length 1000=true):ev cl (.lst a) ρ h=.ok (.ref h1.n) (h1.new (.lst ys)):=by
 rw[ev,ea,bindok]
 show(if Nat.ble ys.length 1000=true then _ else _)=_
 rw[if_pos hl]
theorem tupE(ea:ev cl a ρ h=.ok (.tup ys) h1)(hl:Nat.ble ys.length 1000=true):ev cl (.tup a) ρ h=.ok (.tup ys) h1:=by
 rw[ev,ea,bindok]
 show(if Nat.ble ys.length 1000=true then _ else _)=_
 rw[if_pos hl]
theorem listE(ea:ev cl a ρ h=.ok x h1)(e:seqW h1 x=some ws):ev cl (.bi .list (.cons a .nil)) ρ h=.ok (.ref h1.n) (h1.new (.lst ws)):=by
 rw[ev,consE ea nilE,bindok]
 show listW [x] h1=_
 simp only[listW,e]
theorem zxs{n:Nat}(ea:ev cl a ρ h=.ok (.tup ys) h1)(e:cl n ys h1=.ok w h'):ev cl (.call n a) ρ h=.ok w h':=by
 rw[ev,ea,bindok];exact e
variable{f:Nat}{ys:List W}{s t:S}{c:Bool}
theorem telX{i:Int}(ea:ev cl a ρ h=.ok (.tup ys) h1)(ec:cl f ys h1=.ok (.int i) h2):exs cl (.tel f a c s t) ρ h=.ok (.rt (.int i)) h2:=by
 rw[exs,ea,bindok]
 show(cl f ys h1).bind _=_
 rw[ec];rfl
theorem telS(ea:ev cl a ρ h=.ok (.tup ys) h1)(ec:cl f ys h1=.ok (.tup [x]) h2):exs cl (.tel f a false s t) ρ h=exs cl s ρ h2:=by
 rw[exs,ea,bindok]
 show(cl f ys h1).bind _=_
 rw[ec];rfl
theorem telF(ea:ev cl a ρ h=.ok (.tup ys) h1)(ec:cl f ys h1=.ok (.tup [.bl false]) h2):exs cl (.tel f a true s t) ρ h=exs cl s ρ h2:=by
 rw[exs,ea,bindok]
 show(cl f ys h1).bind _=_
 rw[ec];rfl
theorem telT(ea:ev cl a ρ h=.ok (.tup ys) h1)(ec:cl f ys h1=.ok (.tup [.bl true]) h2):exs cl (.tel f a true s t) ρ h=exs cl t ρ h2:=by
 rw[exs,ea,bindok]
 show(cl f ys h1).bind _=_
 rw[ec];rfl
end
noncomputable def tB_b0(ft:Int):S:=(.seq (.ite (.not (.tru (.call 15 (.cons (.var 7) (.cons (.var 6) (.cons (.var 1) (.cons (.var 2) .nil))))))) (.seq (.seq (.expr (.cons (.var 4) (.cons (.var 6) .nil))) (.ret (.cst (.int ft)))) .skip) .skip) .skip)
noncomputable def tB_b1(ft:Int):S:=(.seq (.«for» .enm (.var 5) (.many [6,7]) (tB_b0 ft)) .skip)
noncomputable def tB(nb ft:Int):Fn:=⟨1,8,(.seq (.seq (.ite (.not (.tru (.call 10 (.cons (.var 0) .nil)))) (.seq (.ret (.cst (.int nb))) .skip) .skip) (.seq (.unp [1,2,3] (.slc (.var 0) false (.cst .non) true (.cst (.int (3))))) (.seq (.«for» .enm (.var 3) (.many [4,5]) (tB_b1 ft)) .skip))) (.ret (.cst (.tup [.non]))))⟩
noncomputable def tI(a:Nat):Fn:=⟨2,2,(.seq (.seq (.tel a (.cons (.var 0) .nil) false .skip .skip) (.seq (.ret (.tup (.cons (.call 17 (.cons (.var 1) (.cons (.idx (.var 0) (.cst (.int (1)))) .nil))) .nil))) .skip)) (.ret (.cst (.tup [.non]))))⟩
noncomputable def tL(a:Nat)(nl:Int):Fn:=⟨2,2,(.seq (.seq (.tel a (.cons (.var 0) (.cons (.var 1) .nil)) true (.seq (.ret (.cst (.int nl))) .skip) .skip) .skip) (.ret (.cst (.tup [.non]))))⟩
structure TelA(F:Nat->Option Fn)(a:Nat)(nb ft nl:Int):Prop where
 t0:F a=some (tB nb ft)
 t1:F (a+1)=some (tI a)
 t2:F (a+2)=some (tL (a+1) nl)
noncomputable def LKn(h:VH)(l:W):Prop:=Kn h l/\∀ws,l=.tup ws->ws.length<1000000/\∀x∈ws,Kn h x
theorem LKn.lo(k:LKn h l):LKn ⟨h.n,h.n,h.os⟩ l:=⟨kn_lo.mpr k.1,λws e=>⟨(k.2 ws e).1,λx hx=>kn_lo.mpr ((k.2 ws e).2 x hx)⟩⟩
section
variable{F:Nat->Option Fn}{a:Nat}{nb ft:Int}(B':CoreB F)(t0:F a=some (tB nb ft))
include B' t0
omit B' in
theorem zib{k:Nat}(e1:run F (k+6) 10 [w] ⟨h.n,h.n,h.os⟩=.ok (.bl false) ⟨h.n,h.n,h.os⟩):run F (k+7) a [w] h=.ok (.int nb) h:=by
 rw[zak t0 rfl]
 show fin h (exs (run F (k+6)) (tB nb ft).body [some w,none,none,none,none,none,none,none] ⟨h.n,h.n,h.os⟩)=_
 rw[show exs (run F (k+6)) (tB nb ft).body [some w,none,none,none,none,none,none,none] ⟨h.n,h.n,h.os⟩=.ok (.rt (.int nb)) ⟨h.n,h.n,h.os⟩from zab (zab ((iteT (notT (zfu (varE rfl) e1))).trans (zab (retE cstE))))]
 exact zah (vad _) lt_int
omit t0 in
theorem zrs{k:Nat}{wd g r0:Int}:∀(ws:List W) (c:Int) (j:Nat) (x y:Option W),c=j->rowOk wd g c ws->∃x' y',forL (tgW (.many [6,7])) (exs (run F (k+4)) (tB_b0 ft)) (enumW j ws) [some t,some (.int wd),some (.int g),some rs,some (.int r0),some pl,x,y] h =
 .ok (.nx [some t,some (.int wd),some (.int g),some rs,some (.int r0),some pl,x',y']) h
 |[],c,j,x,y,_,_=>⟨x,y,by simp[forL,enumW]⟩
 |w::r,c,j,x,y,hc,ho=>by
  obtain⟨h1,h2⟩:=ho
  obtain⟨x',y',e⟩:=zrs (h:=h) (t:=t) (rs:=rs) (pl:=pl) (k:=k) (wd:=wd) (g:=g) (r0:=r0) r (c+1) (j+1) (some (.int j)) (some w) (by rw[hc];push_cast;rfl) h2
  refine⟨x',y',?_⟩
  have e1:=zet B' (k:=k) (h:=h) (c:=j) (wd:=wd) (g:=g) (zb9 h1 22)
  rw[<-hc,h1,hc]at e1
  have eb:exs (run F (k+4)) (tB_b0 ft) [some t,some (.int wd),some (.int g),some rs,some (.int r0),some pl,some (.int j),some w] h=.ok (.nx [some t,some (.int wd),some (.int g),some rs,some (.int r0),some pl,some (.int j),some w]) h:=
   (zaa ((iteF (notT (zfw (varE rfl) (varE rfl) (varE rfl) (varE rfl) e1))).trans rfl)).trans rfl
  simp only[forL,enumW,tgW,seqW,za1,List.set,eb,bindok,e]
omit t0 in
theorem zn3{k:Nat}{wd g:Int}:∀(ws:List (List W)) (j:Nat) (x y z u:Option W),(∀r∈ws,(r.length:Int)<1000000/\rowOk wd g 0 r)->∃x' y' z' u',forL (tgW (.many [4,5])) (exs (run F (k+4)) (tB_b1 ft)) (enumW j (ws.map .tup)) [some t,some (.int wd),some (.int g),some rs,x,y,z,u] h =
 .ok (.nx [some t,some (.int wd),some (.int g),some rs,x',y',z',u']) h
 |[],j,x,y,z,u,_=>⟨x,y,z,u,by simp[forL,enumW]⟩
 |w::r,j,x,y,z,u,ho=>by
  obtain⟨h1,h2⟩:=ho w vap
  obtain⟨z1,u1,e1⟩:=zrs B' (ft:=ft) (k:=k) (h:=h) (t:=t) (rs:=rs) (pl:=.tup w) (wd:=wd) (g:=g) (r0:=j) w 0 0 z u rfl h2
  obtain⟨x',y',z',u',e⟩:=zn3 (h:=h) (t:=t) (rs:=rs) (k:=k) (wd:=wd) (g:=g) r (j+1) (some (.int j)) (some (.tup w)) z1 u1 λq hq=>ho q (vak _ hq)
  refine⟨x',y',z',u',?_⟩
  have eb:exs (run F (k+4)) (tB_b1 ft) [some t,some (.int wd),some (.int g),some rs,some (.int j),some (.tup w),z,u] h=.ok (.nx [some t,some (.int wd),some (.int g),some rs,some (.int j),some (.tup w),z1,u1]) h:=by
   refine(zaa (h':=h) ?_).trans rfl
   rw[exs,varE (x:=.tup w) rfl,bindok,zcs (show w.length<1000000 by omega)]
   exact e1
  simp only[forL,va0,enumW,tgW,seqW,za1,List.set,eb,bindok,e]
theorem zj3{k:Nat}{h:VH}{B:Bd}{fl:Fl}(b:B.Ok0)(e2:forL (tgW (.many [4,5])) (exs (run F (k+6)) (tB_b1 ft)) (enumW 0 (B.rows.map .tup)) [some B.w,some (.int B.wd),some (.int B.gr),some (.tup (B.rows.map .tup)),none,none,none,none] ⟨h.n,h.n,h.os⟩=.ok fl ⟨h.n,h.n,h.os⟩) :
 run F (k+7) a [B.w] h=fin h ((exs (run F (k+6)) .skip [] ⟨h.n,h.n,h.os⟩).bind λ_ h=>match fl with|.nx ρ=>.ok (.rt (.tup [.non])) h|fl=>.ok fl h):=by
 rw[zak t0 rfl]
 have e1:=zhy B' (k:=k) (h:=⟨h.n,h.n,h.os⟩) b
 have h60:=b.r1
 show fin h (exs (run F (k+6)) (tB nb ft).body [some B.w,none,none,none,none,none,none,none] ⟨h.n,h.n,h.os⟩)=_
 have ef:exs (run F (k+6)) (.«for» .enm (.var 3) (.many [4,5]) (tB_b1 ft)) [some B.w,some (.int B.wd),some (.int B.gr),some (.tup (B.rows.map .tup)),none,none,none,none] ⟨h.n,h.n,h.os⟩=.ok fl ⟨h.n,h.n,h.os⟩:=by
  rw[exs,varE (x:=.tup (B.rows.map .tup)) rfl,bindok,zcs (by rw[vaf];omega)]
  exact e2
 have eu:exs (run F (k+6)) (.unp [1,2,3] (.slc (.var 0) false (.cst .non) true (.cst (.int (3))))) [some B.w,none,none,none,none,none,none,none] ⟨h.n,h.n,h.os⟩=.ok (.nx [some B.w,some (.int B.wd),some (.int B.gr),some (.tup (B.rows.map .tup)),none,none,none,none]) ⟨h.n,h.n,h.os⟩:=rfl
 unfold tB
 cases fl with
 |nx ρ=>
  rw[zaa ((zaa ((iteF (notT (zfu (varE rfl) e1))).trans rfl)).trans ((zaa eu).trans ((zaa ef).trans rfl)))]
  rfl
 |rt w=>
  rw[zab ((zaa ((iteF (notT (zfu (varE rfl) e1))).trans rfl)).trans ((zaa eu).trans (zab ef)))]
  rfl
 |bk ρ=>
  rw[zdl ((zaa ((iteF (notT (zfu (varE rfl) e1))).trans rfl)).trans ((zaa eu).trans (zdl ef)))]
  rfl
 |ct ρ=>
  have:∀{cl:Call}{a b:S}{ρ ρ':En}{h h':VH},exs cl a ρ h=.ok (.ct ρ') h'->exs cl (.seq a b) ρ h=.ok (.ct ρ') h':=λe=>by rw[exs,e];rfl
  rw[this ((zaa ((iteF (notT (zfu (varE rfl) e1))).trans rfl)).trans ((zaa eu).trans (this ef)))]
  rfl
theorem zn4{k:Nat}{h:VH}{B:Bd}(b:B.Ok):run F (k+7) a [B.w] h=.ok (.tup [.non]) h:=by
 have h40:=b.w2
 obtain⟨x',y',z',u',e2⟩:=zn3 B' (ft:=ft) (k:=k+2) (h:=⟨h.n,h.n,h.os⟩) (t:=B.w) (rs:=.tup (B.rows.map .tup)) (wd:=B.wd) (g:=B.gr) B.rows 0 none none none none λr hr=>⟨by have:=(b.r2 r hr).1;omega,(b.r2 r hr).2⟩
 rw[zj3 B' t0 b.ok0 e2]
 exact zah (vad _) (by rw[lt_tup,lts_cons,lt_non,lts_nil];rfl)
theorem zic{k:Nat}{h:VH}{B:Bd}{x:W}{r:List W}{rs:List (List W)}(b:B.Ok0)(hr:B.rows=(x::r)::rs)(hp:za3 24 x=true)(hm:zaj x 0 B.wd B.gr=false):run F (k+7) a [B.w] h=.ok (.int ft) h:=by
 have hl:=b.r2 (x::r) (by rw[hr];exact vap)
 have h40:=b.w2
 have e1:=zet B' (k:=k+2) (h:=⟨h.n,h.n,h.os⟩) (c:=(0:Nat)) (wd:=B.wd) (g:=B.gr) hp
 rw[show((0:Nat):Int)=0 from rfl,hm]at e1
 have e0:exs (run F (k+6)) (tB_b0 ft) [some B.w,some (.int B.wd),some (.int B.gr),some (.tup (B.rows.map .tup)),some (.int 0),some (.tup (x::r)),some (.int 0),some x] ⟨h.n,h.n,h.os⟩=.ok (.rt (.int ft)) ⟨h.n,h.n,h.os⟩:=
  zab ((iteT (notT (zfw (varE rfl) (varE rfl) (varE rfl) (varE rfl) e1))).trans (zab ((zaa (exprE (consE (varE rfl) (consE (varE rfl) nilE)))).trans (retE cstE))))
 have e3:exs (run F (k+6)) (tB_b1 ft) [some B.w,some (.int B.wd),some (.int B.gr),some (.tup (B.rows.map .tup)),some (.int 0),some (.tup (x::r)),none,none] ⟨h.n,h.n,h.os⟩=.ok (.rt (.int ft)) ⟨h.n,h.n,h.os⟩:=by
  refine zab ?_
  rw[exs,varE (x:=.tup (x::r)) rfl,bindok,zcs (by omega)]
  simp only[forL,enumW,tgW,seqW,za1,List.set]
  rw[show((0:Nat):Int)=0 from rfl,e0];rfl
 have e2:forL (tgW (.many [4,5])) (exs (run F (k+6)) (tB_b1 ft)) (enumW 0 (B.rows.map .tup)) [some B.w,some (.int B.wd),some (.int B.gr),some (.tup (B.rows.map .tup)),none,none,none,none] ⟨h.n,h.n,h.os⟩=.ok (.rt (.int ft)) ⟨h.n,h.n,h.os⟩:=by
  generalize hR:(.tup (B.rows.map .tup):W)=R at e3
  rw[hr,va0]
  simp only[forL,enumW,tgW,seqW,za1,List.set]
  rw[show((0:Nat):Int)=0 from rfl,e3];rfl
 rw[zj3 B' t0 b e2]
 exact zah (vad _) lt_int
end
section
variable{F:Nat->Option Fn}{a:Nat}{nb ft nl:Int}(B':CoreB F)(T:TelA F a nb ft nl)(f17:F 17=some fn17)
include B' T
omit B' in
theorem zn5{k:Nat}{C:Int}(e:run F (k+7) a [w] ⟨h.n,h.n,h.os⟩=.ok (.int C) ⟨h.n,h.n,h.os⟩):run F (k+8) (a+1) [w,l] h=.ok (.int C) h:=by
 rw[zak T.t1 rfl]
 show fin h (exs (run F (k+7)) (tI a).body [some w,some l] ⟨h.n,h.n,h.os⟩)=_
 rw[show exs (run F (k+7)) (tI a).body [some w,some l] ⟨h.n,h.n,h.os⟩=.ok (.rt (.int C)) ⟨h.n,h.n,h.os⟩from zab (zab (telX (consE (varE rfl) nilE) e))]
 exact zah (vad _) lt_int
include f17 in
theorem zxt{k:Nat}{h:VH}{B:Bd}{l:W}(b:B.Ok)(hl:LKn h l):run F (k+8) (a+1) [B.w,l] h=.ok (.tup [.bl (za6 l B.gr B.gr 0 1)]) h:=by
 rw[zak T.t1 rfl]
 have e1:=zn4 B' T.t0 (k:=k) (h:=⟨h.n,h.n,h.os⟩) b
 have e2:∀h,LKn h l->run F (k+7) 17 [l,.int B.gr] h=.ok (.bl (za6 l B.gr B.gr 0 1)) h:=by
  intro h hl
  rw[zak f17 rfl]
  have e:=za7 B'.toCoreA (k:=k+3) (h:=⟨h.n,h.n,h.os⟩) (w:=l) (a:=B.gr) (b:=B.gr) (lo:=0) (hi:=1) hl.lo.1 hl.lo.2
  show fin h (exs (run F (k+6)) fn17.body [some l,some (.int B.gr)] ⟨h.n,h.n,h.os⟩)=_
  rw[show exs (run F (k+6)) fn17.body [some l,some (.int B.gr)] ⟨h.n,h.n,h.os⟩=.ok (.rt (.bl (za6 l B.gr B.gr 0 1))) ⟨h.n,h.n,h.os⟩from zab (retE (zxs (consE (varE rfl) (consE (varE rfl) (consE (varE rfl) (consE cstE (consE cstE nilE))))) e))]
  exact zah (vad _) lt_bl
 show fin h (exs (run F (k+7)) (tI a).body [some B.w,some l] ⟨h.n,h.n,h.os⟩)=_
 rw[show exs (run F (k+7)) (tI a).body [some B.w,some l] ⟨h.n,h.n,h.os⟩=.ok (.rt (.tup [.bl (za6 l B.gr B.gr 0 1)])) ⟨h.n,h.n,h.os⟩from
  zab ((zaa ((telS (consE (varE rfl) nilE) e1).trans rfl)).trans (zab (retE (tupE (consE (za5 (varE rfl) (idxE (varE rfl) cstE (show idxW _ B.w (.int 1)=some (.int B.gr)from rfl)) (e2 _ hl.lo)) nilE) rfl))))]
 exact zah (vad _) (by rw[lt_tup,lts_cons,lt_bl,lts_nil];rfl)
omit B' in
theorem zid{k:Nat}{C:Int}(e:run F (k+7) a [w] ⟨h.n,h.n,h.os⟩=.ok (.int C) ⟨h.n,h.n,h.os⟩):run F (k+9) (a+2) [w,l] h=.ok (.int C) h:=by
 rw[zak T.t2 rfl]
 show fin h (exs (run F (k+8)) (tL (a+1) nl).body [some w,some l] ⟨h.n,h.n,h.os⟩)=_
 rw[show exs (run F (k+8)) (tL (a+1) nl).body [some w,some l] ⟨h.n,h.n,h.os⟩=.ok (.rt (.int C)) ⟨h.n,h.n,h.os⟩from zab (zab (telX (consE (varE rfl) (consE (varE rfl) nilE)) (zn5 (h:=⟨h.n,h.n,h.os⟩) T e)))]
 exact zah (vad _) lt_int
include f17 in
theorem zie{k:Nat}{h:VH}{B:Bd}{l:W}(b:B.Ok)(hl:LKn h l):run F (k+9) (a+2) [B.w,l] h=.ok (if za6 l B.gr B.gr 0 1 then .tup [.non]else .int nl) h:=by
 rw[zak T.t2 rfl]
 have e1:=zxt B' T f17 (k:=k) (h:=⟨h.n,h.n,h.os⟩) b hl.lo
 show fin h (exs (run F (k+8)) (tL (a+1) nl).body [some B.w,some l] ⟨h.n,h.n,h.os⟩)=_
 cases q:za6 l B.gr B.gr 0 1 with
 |true=>
  rw[q]at e1
  rw[show exs (run F (k+8)) (tL (a+1) nl).body [some B.w,some l] ⟨h.n,h.n,h.os⟩=.ok (.rt (.tup [.non])) ⟨h.n,h.n,h.os⟩from(zaa ((zaa ((telT (consE (varE rfl) (consE (varE rfl) nilE)) e1).trans rfl)).trans rfl)).trans (retE cstE)]
  exact zah (vad _) (by rw[lt_tup,lts_cons,lt_non,lts_nil];rfl)
 |false=>
  rw[q]at e1
  rw[show exs (run F (k+8)) (tL (a+1) nl).body [some B.w,some l] ⟨h.n,h.n,h.os⟩=.ok (.rt (.int nl)) ⟨h.n,h.n,h.os⟩from zab (zab ((telF (consE (varE rfl) (consE (varE rfl) nilE)) e1).trans (zab (retE cstE))))]
  exact zah (vad _) lt_int
end
section
variable{F:Nat->Option Fn}(B':CoreB F)
include B'
theorem zn6{k:Nat}(hk:Kn h w)(q:zat w 5 5=false):run F (k+6) 10 [w] h=.ok (.bl false) h:=by
 rw[zak B'.f10 rfl]
 have e1:=zao B'.toCoreA (k:=k+4) (h:=⟨h.n,h.n,h.os⟩) (w:=w) (lo:=5) (hi:=5) (kn_lo.mpr hk)
 rw[q]at e1
 show fin h (exs (run F (k+5)) fn10.body [some w,none,none,none,none,none] ⟨h.n,h.n,h.os⟩)=_
 rw[show exs (run F (k+5)) fn10.body [some w,none,none,none,none,none] ⟨h.n,h.n,h.os⟩=.ok (.rt (.bl false)) ⟨h.n,h.n,h.os⟩from zab ((iteT (notT (zfv (varE rfl) cstE cstE e1))).trans (zab (retE cstE)))]
 exact zah (vad _) lt_bl
end
noncomputable def tF(a:Nat)(nf:Int):Fn:=⟨3,3,(.seq (.seq (.tel a (.cons (.var 0) (.cons (.var 1) .nil)) false .skip .skip) (.seq (.ite (.not (.tru (.call 1 (.cons (.var 2) (.cons (.cst (.int (0))) (.cons (.op .sub (.bi .len (.cons (.idx (.var 0) (.cst (.int (3)))) .nil)) (.cst (.int (1)))) .nil)))))) (.seq (.ret (.cst (.int nf))) .skip) .skip) .skip)) (.ret (.cst (.tup [.non]))))⟩
section
variable{F:Nat->Option Fn}{a:Nat}{nb ft nl nf:Int}(B':CoreB F)(T:TelA F a nb ft nl)(t3:F (a+3)=some (tF (a+2) nf))(f17:F 17=some fn17)
include t3
theorem zcx{k:Nat}{C:Int}(e:run F (k+9) (a+2) [w,l] ⟨h.n,h.n,h.os⟩=.ok (.int C) ⟨h.n,h.n,h.os⟩):run F (k+10) (a+3) [w,l,f] h=.ok (.int C) h:=by
 rw[zak t3 rfl]
 show fin h (exs (run F (k+9)) (tF (a+2) nf).body [some w,some l,some f] ⟨h.n,h.n,h.os⟩)=_
 rw[show exs (run F (k+9)) (tF (a+2) nf).body [some w,some l,some f] ⟨h.n,h.n,h.os⟩=.ok (.rt (.int C)) ⟨h.n,h.n,h.os⟩from zab (zab (telX (consE (varE rfl) (consE (varE rfl) nilE)) e))]
 exact zah (vad _) lt_int
include B' T f17 in
theorem zfx{k:Nat}{h:VH}{B:Bd}{l f:W}(b:B.Ok)(hl:LKn h l)(hw:za6 l B.gr B.gr 0 1=true)(hf:Kn h f):run F (k+10) (a+3) [B.w,l,f] h=.ok (if within f 0 ((B.fd.length:Int)-1)then .tup [.non]else .int nf) h:=by
 rw[zak t3 rfl]
 have e1:=zie B' T f17 (k:=k) (h:=⟨h.n,h.n,h.os⟩) b hl.lo
 rw[hw,if_pos rfl]at e1
 have e2:=zan B'.toCoreA (k:=k+7) (h:=⟨h.n,h.n,h.os⟩) (w:=f) (lo:=0) (hi:=(B.fd.length:Int)-1) (kn_lo.mpr hf)
 have e3:ev (run F (k+9)) (.call 1 (.cons (.var 2) (.cons (.cst (.int (0))) (.cons (.op .sub (.bi .len (.cons (.idx (.var 0) (.cst (.int (3)))) .nil)) (.cst (.int (1)))) .nil)))) [some B.w,some l,some f] ⟨h.n,h.n,h.os⟩=.ok (.bl (within f 0 ((B.fd.length:Int)-1))) ⟨h.n,h.n,h.os⟩:=
  zfv (varE rfl) cstE (opE (lenE (idxE (varE rfl) cstE (show idxW _ B.w (.int 3)=some (.tup B.fd)from rfl)) rfl) cstE rfl) e2
 show fin h (exs (run F (k+9)) (tF (a+2) nf).body [some B.w,some l,some f] ⟨h.n,h.n,h.os⟩)=_
 cases q:within f 0 ((B.fd.length:Int)-1)with
 |true=>
  rw[q]at e3
  rw[show exs (run F (k+9)) (tF (a+2) nf).body [some B.w,some l,some f] ⟨h.n,h.n,h.os⟩=.ok (.rt (.tup [.non])) ⟨h.n,h.n,h.os⟩from(zaa ((zaa ((telS (consE (varE rfl) (consE (varE rfl) nilE)) e1).trans rfl)).trans ((zaa ((iteF (notT e3)).trans rfl)).trans rfl))).trans (retE cstE)]
  exact zah (vad _) (by rw[lt_tup,lts_cons,lt_non,lts_nil];rfl)
 |false=>
  rw[q]at e3
  rw[show exs (run F (k+9)) (tF (a+2) nf).body [some B.w,some l,some f] ⟨h.n,h.n,h.os⟩=.ok (.rt (.int nf)) ⟨h.n,h.n,h.os⟩from zab ((zaa ((telS (consE (varE rfl) (consE (varE rfl) nilE)) e1).trans rfl)).trans (zab ((iteT (notT e3)).trans (zab (retE cstE)))))]
  exact zah (vad _) lt_int
end
theorem Dk.ltn{d c b:Nat}(D:Dk h d c b):d<h.n/\c<h.n:=by
 obtain⟨ne,ns,cells,p,q,a1,a2,a3⟩:=D
 exact⟨zas a1,zas a2⟩
theorem Dk.gx{d c b:Nat}(D:Dk h d c b)(g:∀i o,h.get i=some o->h'.get i=some o):Dk h' d c b:=by
 obtain⟨ne,ns,cells,p,q,a1,a2,a3⟩:=D
 exact⟨ne,ns,cells,p,q,g _ _ a1,g _ _ a2,a3⟩
theorem zn7{nx:Nat->VH->Option (Option W)}{c e:FE}{h:VH}{ws:List W}{tl:En}{p:W->Bool}{f:W->W}(hx:∀i,nx i h=some ws[i]?)(hc:∀w∈ws,c (some w::tl) h=.ok (.bl (p w)) h)(he:∀w∈ws,e (some w::tl) h=.ok (f w) h) :
 ∀(fu i:Nat)(a:Option W)(acc:List W),i<=ws.length->ws.length<fu+i->lcG nx (tgW (.one 0)) c e fu i (a::tl) h acc=.ok (acc.reverse++((ws.drop i).filter p).map f) h
 |0,i,a,acc,hi,hl=>by omega
 |fu+1,i,a,acc,hi,hl=>by
  cases q:ws[i]? with
  |none=>
   rw[List.drop_eq_nil_of_le (vbb.mp q)]
   simp only[lcG,hx,q];simp
  |some w=>
   obtain⟨hi,ee⟩:=vas.mp q
   have hm:=vcs q
   simp only[lcG,hx,q,tgW,vbh,hc w hm,bindok]
   rw[List.drop_eq_getElem_cons hi,ee]
   cases z:p w with
   |true=>
    simp only[he w hm,bindok]
    rw[zn7 hx hc he fu (i+1) (some w) (f w::acc) hi (by omega)]
    simp[z]
   |false=>
    rw[zn7 hx hc he fu (i+1) (some w) acc hi (by omega)]
    simp[z]
noncomputable def leq(x t:W):Bool:=match x,t with
 |.int i,.int j=>decide (i=j)
 |.non,.non=>true
 |_,_=>false
noncomputable def isBlW:W->Bool
 |.bl _=>true
 |_=>false
noncomputable def zfy:W->Bool
 |.tup _=>true
 |_=>false
mutual
noncomputable def weq(x:W):W->Bool
 |.tup ts=>(match x with
  |.tup xs=>weqs xs ts
  |_=>false)
 |t=>leq x t
noncomputable def weqs:List W->List W->Bool
 |[],[]=>true
 |x::xs,t::ts=>weq x t&&weqs xs ts
 |_,_=>false
end
theorem zgx:∀{xs ts:List W},weqs xs ts=true->xs.length=ts.length
 |[],[],_=>rfl
 |[],_::_,e=>by simp only[weqs]at e;cases e
 |_::_,[],e=>by simp only[weqs]at e;cases e
 |x::xs,t::ts,e=>by
  simp only[weqs,vaa]at e
  rw[vai,vai,zgx e.2]
noncomputable def zipB(xs ts:List W):List Bool:=List.zipWith weq xs ts
theorem zgy:∀{xs ts:List W},xs.length=ts.length->(zipB xs ts).all id=weqs xs ts
 |[],[],_=>rfl
 |x::xs,t::ts,e=>by
  simp only[zipB,List.zipWith_cons_cons,vb1,weqs,id]
  rw[show(List.zipWith weq xs ts).all id=weqs xs ts from zgy (by simpa using e)]
theorem zn8:∀bs:List Bool,mapO blW (bs.map .bl)=some bs
 |[]=>rfl
 |b::bs=>by simp only[va0,mapO,blW,zn8 bs]
theorem allB{ρ:En}{j:Nat}{bs:List Bool}(ea:ev cl a ρ h=.ok (.ref j) h1)(g:h1.get j=some (.lst (bs.map .bl))):ev cl (.bi .all (.cons a .nil)) ρ h=.ok (.bl (bs.all id)) h1:=by
 rw[ev,ev,ea,bindok,ev,bindok,bindok]
 show allW [.ref j] h1=_
 simp only[allW,g,zn8,vav,ofsome]
theorem zn9:∀(xs ts:List W) (x y:Option W),(∀p∈xs.zip ts,ev cl e [some p.1,some p.2] h=.ok (.bl (weq p.1 p.2)) h)->lcL (tgW (.many [0,1])) (λ_ h=>.ok (.bl true) h) (ev cl e) (zipW xs ts) [x,y] h=.ok ((zipB xs ts).map .bl) h
 |[],_,x,y,_=>rfl
 |_::_,[],x,y,_=>rfl
 |a::xs,t::ts,x,y,hs=>by
  have e1:=hs (a,t) vap
  have e2:=zn9 (e:=e) (h:=h) xs ts (some a) (some t) λp hp=>hs p (vak _ hp)
  show lcL _ _ _ (.tup [a,t]::zipW xs ts) _ _=_
  simp only[lcL,tgW,seqW,za1,List.set,bindok,e1,e2];rfl
theorem zj4:(zipB xs ts).length<=xs.length:=by unfold zipB;rw[List.length_zipWith];exact Nat.min_le_left _ _
theorem zoa:Kn h (.tup ws):=by unfold Kn;simp
theorem zkx(k:Kn h x):tyIs .tuple h x=some (zfy x):=by
 cases x with
 |ref i=>
  unfold Kn at k
  simp only[tyIs]at k ⊢
  cases g:h.get i with
  |none=>rw[g]at k;exact absurd rfl k
  |some o=>rw[g]at k;cases o<;>first|rfl|exact absurd rfl k
 |fz _=>exact absurd rfl k
 |_=>rfl
theorem ze0(k:Kn h x):tyIs .bool h x=some (isBlW x):=by
 cases x with
 |ref i=>
  unfold Kn at k
  simp only[tyIs]at k ⊢
  cases g:h.get i with
  |none=>rw[g]at k;exact absurd rfl k
  |some o=>rw[g]at k;cases o<;>first|rfl|exact absurd rfl k
 |fz _=>exact absurd rfl k
 |_=>rfl
theorem zky(k:Kn h x):tyIs .int h x=some (isInt x||isBlW x):=by
 cases x with
 |ref i=>
  unfold Kn at k
  simp only[tyIs]at k ⊢
  cases g:h.get i with
  |none=>rw[g]at k;exact absurd rfl k
  |some o=>rw[g]at k;cases o<;>first|rfl|exact absurd rfl k
 |fz _=>exact absurd rfl k
 |_=>rfl
noncomputable def leaf:W->Bool
 |.int _=>true
 |.non=>true
 |_=>false
noncomputable def T0(h:VH)(x:W):Prop:=Kn h x/\(isBlW x=false->∀t,leaf t=true->eqW h x t=some (leq x t))
section
variable{F:Nat->Option Fn}(C:F 59=some fn59)(A:CoreA F)
include C A
omit A in
theorem zob{k:Nat}(hx:T0 h x)(ht:leaf t=true):run F (k+1) 59 [x,t] h=.ok (.bl (leq x t)) h:=by
 rw[zak C rfl]
 have hx':Kn ⟨h.n,h.n,h.os⟩ x:=kn_lo.mpr hx.1
 have e1:ev (run F k) (.tru (.isi .tuple (.var 1))) [some x,some t] ⟨h.n,h.n,h.os⟩=.ok (.bl false) ⟨h.n,h.n,h.os⟩:=by
  cases t<;>first|(cases ht;done)|simp[ev,truW]
 have e2:ev (run F k) (.isi .bool (.var 0)) [some x,some t] ⟨h.n,h.n,h.os⟩=.ok (.bl (isBlW x)) ⟨h.n,h.n,h.os⟩:=by
  rw[ev,varE rfl,bindok,ze0 hx'];rfl
 have eb:exs (run F k) fn59.body [some x,some t] ⟨h.n,h.n,h.os⟩=.ok (.rt (.bl (leq x t))) ⟨h.n,h.n,h.os⟩:=by
  refine(zaa ((iteF e1).trans rfl)).trans (zab (retE ?_))
  rw[ev,ev,e2,bindok]
  cases z:isBlW x with
  |true=>
   cases x<;>cases z
   rfl
  |false=>
   simp only[vel,bindok]
   rw[ev,varE rfl,bindok,varE rfl,bindok]
   have:eqW ⟨h.n,h.n,h.os⟩ x t=some (leq x t):=hx.2 z t ht
   simp only[cmpW,this,vav,ofsome]
 show fin h (exs (run F k) fn59.body [some x,some t] ⟨h.n,h.n,h.os⟩)=_
 rw[eb]
 exact zah (vad _) (by simp)
theorem zj5{k:Nat}(hx:Kn h x)(hl:∀xs,x=.tup xs->xs.length<5000/\(xs.length=ts.length->∀p∈xs.zip ts,run F (k+1) 59 [p.1,p.2] ⟨h.n,h.n,h.os⟩=.ok (.bl (weq p.1 p.2)) ⟨h.n,h.n,h.os⟩)) :
 run F (k+2) 59 [x,.tup ts] h=.ok (.bl (weq x (.tup ts))) h:=by
 rw[zak C rfl]
 have hx':Kn ⟨h.n,h.n,h.os⟩ x:=kn_lo.mpr hx
 have e5:ev (run F (k+1)) (.tru (.isi .tuple (.var 1))) [some x,some (.tup ts)] ⟨h.n,h.n,h.os⟩=.ok (.bl true) ⟨h.n,h.n,h.os⟩:=by
  simp[ev,truW]
 have el:ev (run F (k+1)) (.bi .len (.cons (.var 1) .nil)) [some x,some (.tup ts)] ⟨h.n,h.n,h.os⟩=.ok (.int ts.length) ⟨h.n,h.n,h.os⟩:=lenE (varE rfl) rfl
 have e4:ev (run F (k+1)) (.not (.tru (.call 6 (.cons (.var 0) (.cons (.bi .len (.cons (.var 1) .nil)) (.cons (.bi .len (.cons (.var 1) .nil)) .nil)))))) [some x,some (.tup ts)] ⟨h.n,h.n,h.os⟩=.ok (.bl (!(zat x ts.length ts.length))) ⟨h.n,h.n,h.os⟩:=by
  rw[ev,truE (zfv (varE rfl) el el (zao A (k:=k) hx'))];rfl
 have hend:∀h',h.n<=h'.lo->fin h (.ok (.rt (.bl (weq x (.tup ts)))) h')=.ok (.bl (weq x (.tup ts))) h:=λh' z=>zah z (by simp)
 show fin h (exs (run F (k+1)) fn59.body [some x,some (.tup ts)] ⟨h.n,h.n,h.os⟩)=_
 by_cases z:zat x ts.length ts.length=true
 .rw[z]at e4
  cases x<;>simp only[zat]at z<;>try(cases z;done)
  rename_i xs
  obtain⟨h5,hp⟩:=hl xs rfl
  have hlen:xs.length=ts.length:=by
   simp only[vaa,vat]at z;omega
  have hz:(zipW xs ts).length<1000000:=by unfold zipW;rw[List.length_zipWith];omega
  have e1:=zn9 (cl:=run F (k+1)) (e:=zi3) (h:=⟨h.n,h.n,h.os⟩) xs ts none none λp hp'=>za5 (varE rfl) (varE rfl) (hp hlen p hp')
  have e2:=zn1 (cl:=run F (k+1)) (a:=.cons (.var 0) (.cons (.var 1) .nil)) (ρ:=[some (.tup xs),some (.tup ts)]) (h:=⟨h.n,h.n,h.os⟩) (h1:=⟨h.n,h.n,h.os⟩) (ow:=2) (ix:=[]) (e:=zi3) (t:=.many [0,1]) rfl hz e1 (by rw[vaf];have:=zj4 (xs:=xs) (ts:=ts);omega)
  have e3:=allB e2 zam
  rw[zgy hlen]at e3
  have eb:exs (run F (k+1)) fn59.body [some (.tup xs),some (.tup ts)] ⟨h.n,h.n,h.os⟩=.ok (.rt (.bl (weqs xs ts))) (VH.new ⟨h.n,h.n,h.os⟩ (.lst ((zipB xs ts).map .bl))):=by
   refine zab ?_
   rw[iteT e5]
   exact(zaa ((iteF e4).trans rfl)).trans (zab (retE e3))
  rw[eb]
  have:weq (.tup xs) (.tup ts)=weqs xs ts:=by simp only[weq]
  rw[<-this]
  exact hend _ (vad _)
 .have z':zat x ts.length ts.length=false:=by simpa using z
  rw[z']at e4
  have hw:weq x (.tup ts)=false:=by
   cases x<;>simp only[weq]
   rename_i xs
   cases q:weqs xs ts with
   |false=>rfl
   |true=>
    have:=zgx q
    exact absurd (show zat (.tup xs) ts.length ts.length=true by simp[zat,this]) z
  have eb:exs (run F (k+1)) fn59.body [some x,some (.tup ts)] ⟨h.n,h.n,h.os⟩=.ok (.rt (.bl false)) ⟨h.n,h.n,h.os⟩:=by
   refine zab ?_
   rw[iteT e5]
   refine zab ((iteT e4).trans ?_)
   exact zab (retE rfl)
  rw[eb,<-hw]
  exact hend _ (vad _)
end
noncomputable def T1(h:VH)(x:W):Prop:=Kn h x/\∀ws,x=.tup ws->ws.length<5000/\∀y∈ws,T0 h y
theorem T0.lo{l:Nat}(t:T0 h x):T0 ⟨h.n,l,h.os⟩ x:=⟨kn_lo.mpr t.1,λz u hu=>t.2 z u hu⟩
theorem T1.lo{l:Nat}(t:T1 h x):T1 ⟨h.n,l,h.os⟩ x:=⟨kn_lo.mpr t.1,λws e=>⟨(t.2 ws e).1,λy hy=>((t.2 ws e).2 y hy).lo⟩⟩
theorem zj6(h:leaf t=true):weq x t=leq x t:=by cases t<;>first|(cases h;done)|simp only[weq]
theorem zj7{xs:List W}{ls:List Int}{p:W×W}(hp:p∈xs.zip (ls.map .int)):p.1∈xs/\leaf p.2=true:=by
 obtain⟨a,b⟩:=p
 obtain⟨h1,h2⟩:=vcv hp
 obtain⟨i,_,rfl⟩:=vc5.mp h2
 exact⟨h1,rfl⟩
section
variable{F:Nat->Option Fn}(C:F 59=some fn59)(A:CoreA F)
include C A
theorem just1{k:Nat}{h:VH}{x:W}{ls:List Int}(t:T1 h x):run F (k+2) 59 [x,iW ls] h=.ok (.bl (weq x (iW ls))) h:=
 zj5 C A t.1 λxs e=>⟨(t.2 xs e).1,λ_ p hp=>by
  obtain⟨h1,h2⟩:=zj7 hp
  rw[zj6 h2]
  exact zob C ((t.2 xs e).2 _ h1).lo h2⟩
end
section
variable{F:Nat->Option Fn}(C:F 39=some fn39)
include C
theorem zqd{k:Nat}{j:Int}(hx:Kn h x):run F (k+1) 39 [x,.int j] h=.ok (.bl (leq x (.int j))) h:=by
 rw[zak C rfl]
 have hx':Kn ⟨h.n,h.n,h.os⟩ x:=kn_lo.mpr hx
 have e1:ev (run F k) (.isi .int (.var 0)) [some x,some (.int j)] ⟨h.n,h.n,h.os⟩=.ok (.bl (isInt x||isBlW x)) ⟨h.n,h.n,h.os⟩:=by
  rw[ev,varE rfl,bindok,zky hx'];rfl
 have e2:ev (run F k) (.isi .bool (.var 0)) [some x,some (.int j)] ⟨h.n,h.n,h.os⟩=.ok (.bl (isBlW x)) ⟨h.n,h.n,h.os⟩:=by
  rw[ev,varE rfl,bindok,ze0 hx'];rfl
 have eb:exs (run F k) fn39.body [some x,some (.int j)] ⟨h.n,h.n,h.os⟩=.ok (.rt (.bl (leq x (.int j)))) ⟨h.n,h.n,h.os⟩:=by
  refine zab (retE ?_)
  rw[ev,e1,bindok]
  cases x with
  |int i=>
   show ev (run F k) (.and (.not (.isi .bool (.var 0))) (.cmp .eq (.var 0) (.var 1))) _ _=_
   rw[ev,ev,e2,bindok]
   simp only[isBlW,vel,bindok]
   rw[ev,varE rfl,bindok,varE rfl,bindok]
   simp only[cmpW,zav,vav,ofsome,leq]
  |bl b=>
   show ev (run F k) (.and (.not (.isi .bool (.var 0))) (.cmp .eq (.var 0) (.var 1))) _ _=_
   rw[ev,ev,e2,bindok]
   rfl
  |_=>rfl
 show fin h (exs (run F k) fn39.body [some x,some (.int j)] ⟨h.n,h.n,h.os⟩)=_
 rw[eb]
 exact zah (vad _) (by simp)
end
theorem zoc{n:Nat}(hw:W.lt n w=false):∀{ws:List W},w∈ws->W.lts n ws=false
 |x::ws,h=>by
  simp only[W.lts]
  rcases vaw.mp h with rfl|h
  .rw[hw];rfl
  .rw[zoc hw h,vek]
theorem zkz{n:Nat}(hw:W.lt n w=false)(h:w∈ws):W.lt n (.tup ws)=false:=by simp only[W.lt];exact zoc hw h
theorem zqe(hx:leaf x=true)(ht:leaf t=true):eqW h x t=some (leq x t):=by
 cases x<;>first|(cases hx;done)|skip
 .cases t<;>first|(cases ht;done)|rfl
 .cases t<;>first|(cases ht;done)|skip
  .rfl
  .simp only[zav,leq]
theorem zdn(hx:leaf x=true):T0 h x:=⟨by cases x<;>first|(cases hx;done)|(unfold Kn;simp),λ_ t ht=>zqe hx ht⟩
theorem t0_bl{b:Bool}:T0 h (.bl b):=⟨by unfold Kn;simp,λz=>nomatch z⟩
theorem zxu{x:Str}(hx:PyData.strOk x=true):T0 h (.str x):=⟨by unfold Kn;simp,λ_ t ht=>by
 have hs:SeqAt.shaped (.str x)=true:=by
  unfold SeqAt.shaped
  rw[show PyData.canLay0 (.str x)=true from hx];rfl
 cases t<;>first|(cases ht;done)|skip
 all_goals
  unfold eqW
  simp only[toD,hs,Bool.true_and]
  rfl⟩
theorem zty{x:Int}:T0 h (.tup [.int x]):=⟨zoa,λ_ t ht=>by
 cases t<;>first|(cases ht;done)|rfl⟩
theorem zxv{i:Nat}{x:Int}(g:h.get i=some (.lst [.int x])):T0 h (.ref i):=by
 have e:toD h 24 (.ref i)=some (.list [.int x]):=by rw[toD];simp only[g];rfl
 refine⟨by unfold Kn;simp[tyIs,g],λ_ t ht=>?_⟩
 unfold eqW
 rw[e]
 cases t<;>first|(cases ht;done)|rfl
theorem allE{ρ:En}{j:Nat}{n:Nat}(ea:ev cl a ρ h=.ok (.ref j) h1)(g:h1.get j=some (.lst (vgc n (.bl true)))):ev cl (.bi .all (.cons a .nil)) ρ h=.ok (.bl true) h1:=by
 have hm:mapO blW (vgc n (W.bl true))=some (vgc n true):=by
  clear g
  induction n with
  |zero=>rfl
  |succ n ih=>simp only[vbe,mapO,blW,ih]
 have ha:(vgc n true).all id=true:=by
  rw[vcb];intro x hx;exact(List.mem_replicate.mp hx).2
 rw[ev,consE ea nilE,bindok]
 show allW [.ref j] h1=_
 simp only[allW,g,hm,vav,ha,ofsome]
theorem lcAll{cl:Call}{nx:Nat->VH->Option (Option W)}{tg:W->VH->En->Option En}{e:E}{h:VH}{ws:List W}(hx:∀i,nx i h=some ws[i]?)(P:En->Prop)(he:∀w∈ws,∀ρ,P ρ->∃ρ1,tg w h ρ=some ρ1/\ev cl e ρ1 h=.ok (.bl true) h/\P ρ1) :
 ∀(fu i:Nat)(ρ:En)(acc:List W),i<=ws.length->ws.length<fu+i->P ρ->lcG nx tg (λ_ h=>.ok (.bl true) h) (ev cl e) fu i ρ h acc=.ok (acc.reverse++vgc (ws.length-i) (.bl true)) h
 |0,i,ρ,acc,hi,hl,hP=>by omega
 |fu+1,i,ρ,acc,hi,hl,hP=>by
  cases q:ws[i]? with
  |none=>
   have:=vbb.mp q
   rw[lcG,hx,q,show ws.length-i=0 by omega]
   simp
  |some w=>
   obtain⟨hi',_⟩:=vas.mp q
   obtain⟨ρ1,e1,e2,P1⟩:=he w (vcs q) ρ hP
   have ih:=lcAll hx P he fu (i+1) ρ1 (.bl true::acc) hi' (by omega) P1
   rw[lcG,hx,q]
   simp only[e1,bindok,e2]
   rw[ih,show ws.length-i=(ws.length- (i+1))+1 by omega,vbe]
   simp
theorem allLc{cl:Call}{kd:Kd}{a e:E}{t:Tg}{ow:Nat}{ρ:En}{h h1:VH}{x:W}{ws:List W}(ea:ev cl a ρ h=.ok x h1)(hx:∀i,nxt kd x i h1=some ws[i]?)(hw:ws.length<=100000)(P:En->Prop)(hP:P (vgc ow none))(he:∀w∈ws,∀ρ,P ρ->∃ρ1,tgW t w h1 ρ=some ρ1/\ev cl e ρ1 h1=.ok (.bl true) h1/\P ρ1) :
 ev cl (.bi .all (.cons (.lc kd a t ow [] (.cst (.bl true)) e) .nil)) ρ h=.ok (.bl true) (h1.new (.lst (vgc ws.length (.bl true)))):=by
 have e1:=lcAll (cl:=cl) (tg:=tgW t) (e:=e) hx P he fuel 0 (vgc ow none) [] (vbv _) (by have hf:fuel=1000000:=rfl;omega) hP
 refine allE (j:=h1.n) (n:=ws.length) ?_ zam
 rw[ev,ea,bindok]
 show(lcG (nxt kd x) (tgW t) (λ_ h=>.ok (.bl true) h) (ev cl e) fuel 0 (vgc ow none++[]) h1 []).bind _=_
 rw[vbc,e1,bindok,if_pos (zbq (by simp;omega))]
 rfl
theorem zod{l u:Option Int}(h:w∈cutW ws l u):w∈ws:=by
 unfold cutW at h
 exact List.mem_of_mem_drop (List.mem_of_mem_take h)
theorem zoe{l u:Option Int}:(cutW ws l u).length<=ws.length:=by
 unfold cutW
 rw[vd9,vdo]
 omega
theorem zxw:cutW ws (some 1) none=ws.drop 1:=by
 show(ws.drop (HT.sIx ws.length 0 (some ((1:Nat):Int)))).take (HT.sIx ws.length ws.length none-HT.sIx ws.length 0 (some ((1:Nat):Int)))=_
 rw[HT.sIx_nat,HT.sIx_none]
 cases ws with
 |nil=>rfl
 |cons x r=>
  rw[show min 1 (x::r).length=1 by rw[vai];omega]
  exact List.take_of_length_le (by simp)
theorem addT(hl:xs.length+ys.length<=1000000):opW .add (.tup xs) (.tup ys) h=.ok (.tup (xs++ys)) h:=by
 simp only[opW,opT,zbq hl,vbj,vav,ofsome]
theorem negE{ρ:En}{i:Int}(ea:ev cl a ρ h=.ok (.int i) h1):ev cl (.neg a) ρ h=.ok (.int (-i)) h1:=by
 rw[ev,ea];rfl
theorem ztz:∃h2,fin h (.ok (.rt w) h')=.ok w h2:=by
 show ∃h2,leave h w h'=.ok w h2
 unfold leave
 split
 .exact⟨_,rfl⟩
 .exact⟨_,rfl⟩
noncomputable def zfz(B:Bd):Bd:=⟨B.wd,B.gr,vgc B.wd.toNat (.int 7)::B.rows.drop 1,B.fd,B.dr⟩
theorem zqf(b:B.Ok):(zfz B).Ok0:=⟨b.w1,b.w2,b.g1,b.g2,by
 have:=b.r1
 show(vgc B.wd.toNat (W.int 7)::B.rows.drop 1).length<=60
 rw[vai,vdo]
 omega,λr hr=>by
 have w1:=b.w1
 rcases vaw.mp hr with rfl|hr
 .show((vgc B.wd.toNat (W.int 7)).length:Int)=B.wd
  rw[List.length_replicate];omega
 .exact(b.r2 r (List.mem_of_mem_drop hr)).1,b.f1,b.f2,b.f3,b.d1,b.d2⟩
theorem zof(b:B.Ok):∃r,(zfz B).rows=(.int 7::r)::B.rows.drop 1:=by
 have w1:=b.w1
 obtain⟨n,hn⟩:∃n,B.wd.toNat=n+1:=⟨B.wd.toNat-1,by omega⟩
 exact⟨vgc n (.int 7),by show vgc B.wd.toNat (W.int 7)::_=_;rw[hn,vbe]⟩
theorem addL{i j:Nat}(gi:h.get i=some (.lst xs))(gj:h.get j=some (.lst ys))(hl:xs.length+ys.length<=1000000):opW .add (.ref i) (.ref j) h=.ok (.ref h.n) (h.new (.lst (xs++ys))):=by
 simp only[opW,gi,gj,opL,zbq hl,vbj]
theorem itemE{ρ:En}{i j:Nat}(ea:ev cl e ρ h=.ok (.tup ys) h1)(hl:ys.length<=1000)(ei:ρ[i]?=some (some (.int j)))(hj:j<ys.length):ev cl (.idx (.lst e) (.var i)) ρ h=.ok ys[j] (h1.new (.lst ys)):=
 idxE (lstE ea (veb.mpr hl)) (varE ei) (by
  simp only[idxW,zam]
  exact zbd (vao hj))
noncomputable def zqg:E:=(.call 39 (.cons (.var 0) (.cons (.var 1) .nil)))
noncomputable def fn114:Fn:=⟨2,2,(.seq (.ite (.or (.not (.tru (.isi .tuple (.var 0)))) (.cmp .ne (.bi .len (.cons (.var 0) .nil)) (.bi .len (.cons (.var 1) .nil)))) (.seq (.ret (.cst (.bl false))) .skip) .skip) (.seq (.ret (.bi .all (.cons (.lc .zip (.cons (.var 0) (.cons (.var 1) .nil)) (.many [0,1]) 2 [] (.cst (.bl true)) zqg) .nil))) .skip))⟩
noncomputable def o7E:E:=(.cons (.cst .non) (.cons (.cst (.int (0))) (.cons (.cst (.bl true)) (.cons (.cst (.str (vgb "kind"))) (.cons (.dsp .nil) (.cons (.lst .nil) (.cons (.tup .nil) (.cons (.bi .list (.cons (.var 1) .nil)) (.cons (.slc (.var 1) false (.cst .non) true (.cst (.int (2)))) (.cons (.op .add (.var 1) (.tup (.cons (.tup .nil) .nil))) (.cons (.bi .rev (.cons (.var 1) (.cons (.neg (.cst (.int (1)))) .nil))) .nil)))))))))))
noncomputable def o8E:E:=(.cons (.cst .non) (.cons (.cst (.int (0))) (.cons (.cst (.str (vgb "0"))) (.cons (.tup .nil) (.cons (.dsp .nil) .nil)))))
noncomputable def r11E:E:=(.cons (.idx (.var 3) (.cst (.int (0)))) (.cons (.idx (.var 3) (.cst (.int (1)))) (.cons (.op .add (.tup (.cons (.op .mul (.tup (.cons (.cst (.int (7))) .nil)) (.idx (.var 3) (.cst (.int (0))))) .nil)) (.slc (.idx (.var 3) (.cst (.int (2)))) true (.cst (.int (1))) false (.cst .non))) (.cons (.idx (.var 3) (.cst (.int (3)))) (.cons (.idx (.var 3) (.cst (.int (4)))) .nil)))))
noncomputable def r12E:E:=(.cons (.tup (.cons (.slc (.var 3) false (.cst .non) true (.cst (.int (4)))) (.cons (.cst .non) (.cons (.neg (.cst (.int (1)))) (.cons (.cst (.str (vgb "board"))) .nil))))) (.cons (.tup (.cons (.var 11) (.cons (.cst .non) (.cons (.neg (.cst (.int (1)))) (.cons (.cst (.str (vgb "fault"))) .nil))))) (.cons (.tup (.cons (.var 3) (.cons (.cst .non) (.cons (.neg (.cst (.int (1)))) (.cons (.cst (.str (vgb "leans"))) .nil))))) .nil)))
noncomputable def r13E:E:=(.cons (.tup (.cons (.var 3) (.cons (.var 4) (.cons (.bi .len (.cons (.idx (.var 3) (.cst (.int (3)))) .nil)) (.cons (.cst (.str (vgb "feeder"))) .nil))))) (.cons (.tup (.cons (.var 3) (.cons (.var 4) (.cons (.var 5) (.cons (.cst (.str (vgb "told"))) .nil))))) .nil))
noncomputable def zi6:E:=(.call 114 (.cons (.var 0) (.cons (.var 1) .nil)))
noncomputable def zj8:Fn:=⟨2,2,(.seq (.ite (.or (.not (.tru (.isi .tuple (.var 0)))) (.cmp .ne (.bi .len (.cons (.var 0) .nil)) (.cst (.int (3))))) (.seq (.ret (.cst (.bl false))) .skip) .skip) (.seq (.ret (.bi .all (.cons (.lc .zip (.cons (.var 0) (.cons (.var 1) .nil)) (.many [0,1]) 2 [] (.cst (.bl true)) zi6) .nil))) .skip))⟩
noncomputable def zcd:S:=(.seq (.set 4 (.call 5 (.cons (.var 0) (.cons (.cst (.int (3))) .nil)))) (.seq (.expr (.mt .append (.var 2) (.cons (.op .add (.op .add (.slc (.var 1) false (.cst .non) true (.var 4)) (.tup (.cons (.call 702 (.cons (.var 0) (.cons (.idx (.var 1) (.var 4)) .nil))) .nil))) (.slc (.var 1) true (.op .add (.var 4) (.cst (.int (1)))) false (.cst .non))) .nil))) .skip))
noncomputable def zbr:E:=(.op .add (.op .add (.slc (.var 2) false (.cst .non) true (.var 1)) (.tup (.cons (.var 0) .nil))) (.slc (.var 2) true (.op .add (.var 1) (.cst (.int (1)))) false (.cst .non)))
noncomputable def zd5:Fn:=⟨2,5,(.seq (.set 2 (.lst o7E)) (.seq (.«for» .rng1 (.cons (.cst (.int (8))) .nil) (.one 3) zcd) (.seq (.set 4 (.call 5 (.cons (.var 0) (.cons (.cst (.int (3))) .nil)))) (.seq (.ret (.op .add (.var 2) (.lc .seq (.lst o8E) (.one 0) 1 [4,1] (.cst (.bl true)) zbr))) .skip))))⟩
noncomputable def zcy:Fn:=⟨2,6,(.seq (.set 2 (.call 5 (.cons (.var 0) (.cons (.cst (.int (6))) .nil)))) (.seq (.set 3 (.call 5 (.cons (.var 0) (.cons (.op .add (.bi .len (.cons (.var 1) .nil)) (.cst (.int (1)))) .nil)))) (.seq (.ite (.cmp .eq (.var 2) (.cst (.int (0)))) (.seq (.ret (.op .add (.slc (.var 1) false (.cst .non) true (.var 3)) (.slc (.var 1) true (.op .add (.var 3) (.cst (.int (1)))) false (.cst .non)))) .skip) .skip) (.seq (.ite (.cmp .eq (.var 2) (.cst (.int (1)))) (.seq (.ret (.op .add (.op .add (.slc (.var 1) false (.cst .non) true (.var 3)) (.op .mul (.slc (.var 1) true (.var 3) true (.op .add (.var 3) (.cst (.int (1))))) (.cst (.int (2))))) (.slc (.var 1) true (.op .add (.var 3) (.cst (.int (1)))) false (.cst .non)))) .skip) .skip) (.seq (.ite (.cmp .eq (.var 2) (.cst (.int (2)))) (.seq (.ret (.op .add (.op .add (.slc (.var 1) false (.cst .non) true (.var 3)) (.bi .rev (.cons (.slc (.var 1) true (.var 3) true (.op .add (.var 3) (.cst (.int (2))))) (.cons (.neg (.cst (.int (1)))) .nil)))) (.slc (.var 1) true (.op .add (.var 3) (.cst (.int (2)))) false (.cst .non)))) .skip) .skip) (.seq (.ite (.cmp .eq (.var 2) (.cst (.int (3)))) (.seq (.ret (.bi .list (.cons (.var 1) .nil))) .skip) .skip) (.seq (.set 4 (.idx (.op .add (.var 1) (.tup (.cons (.cst (.int (0))) .nil))) (.bi .min (.cons (.var 3) (.cons (.bi .len (.cons (.var 1) .nil)) .nil))))) (.seq (.set 5 (.idx (.lst (.cons (.op .add (.var 4) (.cst (.int (1)))) (.cons (.op .sub (.var 4) (.cst (.int (1)))) (.cons (.call 5 (.cons (.var 0) (.cons (.cst (.int (9))) .nil))) (.cons (.cmp .eq (.var 4) (.cst (.int (1)))) (.cons (.cst .non) (.cons (.bi .str (.cons (.var 4) .nil)) (.cons (.tup (.cons (.var 4) .nil)) (.cons (.lst (.cons (.var 4) .nil)) .nil))))))))) (.call 5 (.cons (.var 0) (.cons (.cst (.int (8))) .nil))))) (.seq (.ret (.op .add (.op .add (.slc (.var 1) false (.cst .non) true (.var 3)) (.tup (.cons (.var 5) .nil))) (.slc (.var 1) true (.op .add (.var 3) (.cst (.int (1)))) false (.cst .non)))) .skip)))))))))⟩
noncomputable def zb3:Fn:=⟨3,4,(.seq (.tryc 710 (.cons (.var 0) (.cons (.var 1) (.cons (.var 2) (.cons (.cst .non) .nil)))) [(.mk 37 (.str (vgb "board"))),(.mk 56 (.str (vgb "fault"))),(.mk 68 (.str (vgb "leans"))),(.mk 92 (.str (vgb "feeder")))]) (.seq (.ret (.cst (.str (vgb "told")))) .skip))⟩
noncomputable def zce:S:=(.seq (.set 10 (.call 705 (.cons (.var 3) (.cons (.var 4) (.cons (.var 5) (.cons (.var 9) .nil)))))) (.seq (.ite (.or (.not (.tru (.isi .bool (.var 10)))) (.cmp .ne (.var 10) (.call 700 (.cons (.var 9) (.cons (.var 6) .nil))))) (.seq (.ret (.cst (.bl false))) .skip) .skip) .skip))
noncomputable def zcf:E:=(.cmp .eq (.call 703 (.cons (.var 0) (.cons (.var 1) (.cons (.var 2) .nil)))) (.var 3))
noncomputable def zcz:Fn:=⟨1,13,(.seq (.set 1 (.call 3 (.cons (.var 0) .nil))) (.seq (.set 2 (.call 5 (.cons (.var 1) (.cons (.cst (.int (8))) .nil)))) (.seq (.set 3 (.call 26 (.cons (.var 1) (.cons (.idx (.lst (.cons (.cst (.int (9))) (.cons (.cst (.int (9))) (.cons (.cst (.int (9))) (.cons (.cst (.int (9))) (.cons (.cst (.int (9))) (.cons (.cst (.int (9))) (.cons (.cst (.int (9))) (.cons (.cst (.int (40))) .nil))))))))) (.var 2)) (.cons (.idx (.lst (.cons (.cst (.int (10))) (.cons (.cst (.int (10))) (.cons (.cst (.int (10))) (.cons (.cst (.int (10))) (.cons (.cst (.int (10))) (.cons (.cst (.int (10))) (.cons (.cst (.int (60))) (.cons (.cst (.int (5))) .nil))))))))) (.var 2)) (.cons (.cst (.int (8))) .nil)))))) (.seq (.set 4 (.call 20 (.cons (.var 1) (.cons (.idx (.var 3) (.cst (.int (1)))) .nil)))) (.seq (.set 5 (.call 5 (.cons (.var 1) (.cons (.bi .len (.cons (.idx (.var 3) (.cst (.int (3)))) .nil)) .nil)))) (.seq (.set 6 (.bi .tuple (.cons (.slc (.call 38 (.cons (.var 3) (.cons (.var 4) (.cons (.var 5) .nil)))) false (.cst .non) true (.cst (.int (3)))) .nil))) (.seq (.set 7 (.call 5 (.cons (.var 1) (.cons (.bi .len (.cons (.idx (.var 3) (.cst (.int (3)))) .nil)) .nil)))) (.seq (.set 8 (.op .add (.call 701 (.cons (.var 1) (.cons (.var 6) .nil))) (.lst (.cons (.bi .tuple (.cons (.slc (.call 38 (.cons (.var 3) (.cons (.var 4) (.cons (.var 7) .nil)))) false (.cst .non) true (.cst (.int (3)))) .nil)) (.cons (.var 6) .nil))))) (.seq (.«for» .seq (.var 8) (.one 9) zce) (.seq (.set 11 (.tup r11E)) (.seq (.set 12 (.lst r12E)) (.seq (.set 12 (.op .add (.var 12) (.lst r13E))) (.seq (.ret (.bi .all (.cons (.lc .seq (.var 12) (.many [0,1,2,3]) 4 [] (.cst (.bl true)) zcf) .nil))) .skip)))))))))))))⟩
noncomputable def zd6:Fn:=⟨4,4,(.seq (.expr (.call 73 (.cons (.var 0) (.cons (.var 1) (.cons (.var 2) .nil))))) (.seq (.ret (.call 59 (.cons (.var 3) (.cons (.call 174 (.cons (.var 0) (.cons (.var 1) (.cons (.var 2) (.cons (.cst .non) .nil))))) .nil)))) .skip))⟩
noncomputable def zb4:Fn:=⟨4,4,(.seq (.seq (.tel 709 (.cons (.var 0) (.cons (.var 1) (.cons (.var 2) .nil))) false .skip .skip) (.seq (.ret (.tup (.cons (.call 59 (.cons (.var 3) (.cons (.call 174 (.cons (.var 0) (.cons (.var 1) (.cons (.var 2) (.cons (.cst .non) .nil))))) .nil))) .nil))) .skip)) (.ret (.cst (.tup [.non]))))⟩
structure C06(F:Nat->Option Fn):Prop where
 q:CoreQ F
 b:CoreB F
 z:CoreZ F
 l:CoreL F
 f20:F 20=some fn20
 f39:F 39=some fn39
 f59:F 59=some fn59
 f114:F 114=some fn114
 f700:F 700=some zj8
 f701:F 701=some zd5
 f702:F 702=some zcy
 f703:F 703=some zb3
 f704:F 704=some zcz
 f705:F 705=some zd6
 t:TelA F 706 37 56 68
 t3:F 709=some (tF 708 92)
 t4:F 710=some zb4
theorem zt0(hp:∀p∈xs.zip ts,ev cl e [some p.1,some p.2] h=.ok (.bl (weq p.1 p.2)) h)(hl:xs.length=ts.length)(h5:xs.length<5000) :
 ev cl (.bi .all (.cons (.lc .zip (.cons (.var 0) (.cons (.var 1) .nil)) (.many [0,1]) 2 [] (.cst (.bl true)) e) .nil)) [some (.tup xs),some (.tup ts)] h=.ok (.bl (weqs xs ts)) (h.new (.lst ((zipB xs ts).map .bl))):=by
 have hz:(zipW xs ts).length<1000000:=by unfold zipW;rw[List.length_zipWith];omega
 have e1:=zn9 (cl:=cl) (e:=e) (h:=h) xs ts none none hp
 have e2:=zn1 (cl:=cl) (a:=.cons (.var 0) (.cons (.var 1) .nil)) (ρ:=[some (.tup xs),some (.tup ts)]) (h:=h) (h1:=h) (ow:=2) (ix:=[]) (e:=e) (t:=.many [0,1]) rfl hz e1 (by rw[vaf];have:=zj4 (xs:=xs) (ts:=ts);omega)
 have e3:=allB e2 zam
 rw[zgy hl]at e3
 exact e3
theorem zt1:∀{xs ts:List W},xs.length≠ts.length->weqs xs ts=false:=λ{xs ts} h=>by
 cases q:weqs xs ts with
 |false=>rfl
 |true=>exact absurd (zgx q) h
theorem lenB{i j:Int}:cmpW .ne h (.int i) (.int j)=some (!decide (i=j)):=by simp only[cmpW,zav,vav]
noncomputable def P6(h:VH)(x:W):Prop:=Kn h x/\∀ws,x=.tup ws->ws.length<5000/\∀y∈ws,T1 h y
theorem P6.lo{l:Nat}(t:P6 h x):P6 ⟨h.n,l,h.os⟩ x:=⟨kn_lo.mpr t.1,λws e=>⟨(t.2 ws e).1,λy hy=>((t.2 ws e).2 y hy).lo⟩⟩
section
variable{F:Nat->Option Fn}(C:C06 F)
include C
theorem look6{k:Nat}(hx:Kn h x)(h5:∀xs,x=.tup xs->xs.length<5000)(eb:ev (run F k) b [some x,some (.tup ts)] ⟨h.n,h.n,h.os⟩=.ok (.int ts.length) ⟨h.n,h.n,h.os⟩)(hp:∀xs,x=.tup xs->xs.length=ts.length->∀p∈xs.zip ts,ev (run F k) e [some p.1,some p.2] ⟨h.n,h.n,h.os⟩=.ok (.bl (weq p.1 p.2)) ⟨h.n,h.n,h.os⟩) :
 fin h (exs (run F k) (.seq (.ite (.or (.not (.tru (.isi .tuple (.var 0)))) (.cmp .ne (.bi .len (.cons (.var 0) .nil)) b)) (.seq (.ret (.cst (.bl false))) .skip) .skip) (.seq (.ret (.bi .all (.cons (.lc .zip (.cons (.var 0) (.cons (.var 1) .nil)) (.many [0,1]) 2 [] (.cst (.bl true)) e) .nil))) .skip)) [some x,some (.tup ts)] ⟨h.n,h.n,h.os⟩)=.ok (.bl (weq x (.tup ts))) h:=by
 have hx':Kn ⟨h.n,h.n,h.os⟩ x:=kn_lo.mpr hx
 have e1:ev (run F k) (.not (.tru (.isi .tuple (.var 0)))) [some x,some (.tup ts)] ⟨h.n,h.n,h.os⟩=.ok (.bl (!(zfy x))) ⟨h.n,h.n,h.os⟩:=by
  rw[ev,truE (b:=zfy x) (h1:=⟨h.n,h.n,h.os⟩) (by rw[ev,varE rfl,bindok,zkx hx'];rfl)];rfl
 cases z:zfy x with
 |false=>
  rw[z]at e1
  have hw:weq x (.tup ts)=false:=by cases x<;>first|(cases z;done)|simp only[weq]
  rw[hw,zab (w:=.bl false) (h':=⟨h.n,h.n,h.os⟩) ((iteT (orT e1)).trans (zab (retE cstE)))]
  exact zah (vad _) lt_bl
 |true=>
  rw[z]at e1
  cases x<;>first|(cases z;done)|skip
  rename_i xs
  have e2:ev (run F k) (.cmp .ne (.bi .len (.cons (.var 0) .nil)) b) [some (.tup xs),some (.tup ts)] ⟨h.n,h.n,h.os⟩=.ok (.bl (!decide ((xs.length:Int)=ts.length))) ⟨h.n,h.n,h.os⟩:=by
   rw[ev,lenE (ws:=xs) (varE rfl) rfl,bindok,eb,bindok,lenB];rfl
  have hw:weq (.tup xs) (.tup ts)=weqs xs ts:=by simp only[weq]
  by_cases y:xs.length=ts.length
  .rw[decide_eq_true (by omega)]at e2
   have e3:=zt0 (hp xs rfl y) y (h5 xs rfl)
   rw[hw,(zaa (ρ':=[some (.tup xs),some (.tup ts)]) (h':=⟨h.n,h.n,h.os⟩) ((iteF (orF e1 e2)).trans rfl)).trans (zab (retE e3))]
   exact zah (vad _) lt_bl
  .rw[vbw (by omega)]at e2
   rw[hw,zt1 y,zab (w:=.bl false) (h':=⟨h.n,h.n,h.os⟩) ((iteT (orF e1 e2)).trans (zab (retE cstE)))]
   exact zah (vad _) lt_bl
theorem zqh{k:Nat}(t:T1 h x):run F (k+2) 114 [x,iW a] h=.ok (.bl (weq x (iW a))) h:=by
 rw[zak C.f114 rfl]
 refine look6 C t.1 (λxs e=>(t.2 xs e).1) (lenE (varE rfl) rfl) λxs e _ p hp=>?_
 obtain⟨h1,h2⟩:=zj7 hp
 have h3:=((t.2 xs e).2 _ h1).1
 have:∃j,p.2=.int j:=by
  obtain⟨j,_,q⟩:=vc5.mp (vcv (show(p.1,p.2)∈_ from hp)).2
  exact⟨j,q.symm⟩
 obtain⟨j,hj⟩:=this
 rw[zj6 h2,hj]
 exact za5 (varE rfl) (varE rfl) (zqd C.f39 (kn_lo.mpr h3))
theorem zt2{k:Nat}(t:P6 h x):run F (k+3) 700 [x,.tup [iW a,iW b,iW c]] h=.ok (.bl (weq x (.tup [iW a,iW b,iW c]))) h:=by
 rw[zak C.f700 rfl]
 refine look6 C t.1 (λxs e=>(t.2 xs e).1) rfl λxs e _ p hp=>?_
 obtain⟨h1,h2⟩:=vcv (show(p.1,p.2)∈_ from hp)
 have:∃l,p.2=iW l:=by
  simp only[vaw,vbk,vdm]at h2
  rcases h2 with h|h|h
  .exact⟨_,h⟩
  .exact⟨_,h⟩
  .exact⟨_,h⟩
 obtain⟨l,hl⟩:=this
 rw[hl]
 exact za5 (varE rfl) (varE rfl) (zqh C (k:=k) ((t.2 xs e).2 _ h1).lo)
theorem just6{k:Nat}(t:P6 h x):run F (k+3) 59 [x,.tup [iW a,iW b,iW c]] h=.ok (.bl (weq x (.tup [iW a,iW b,iW c]))) h:=
 zj5 C.f59 C.b.toCoreA t.1 λxs e=>⟨(t.2 xs e).1,λ_ p hp=>by
  obtain⟨h1,h2⟩:=vcv (show(p.1,p.2)∈_ from hp)
  have:∃l,p.2=iW l:=by
   simp only[vaw,vbk,vdm]at h2
   rcases h2 with h|h|h
   .exact⟨_,h⟩
   .exact⟨_,h⟩
   .exact⟨_,h⟩
  obtain⟨l,hl⟩:=this
  rw[hl]
  exact just1 C.f59 C.b.toCoreA (k:=k) ((t.2 xs e).2 _ h1).lo⟩
theorem zk0{k:Nat}{f:Nat}(b:B.Ok)(hf:f<B.fd.length)(hl:(ls.length:Int)=B.gr)(bi:Bits ls)(t:P6 h x):run F (k+11) 705 [B.w,iW ls,.int f,x] h=.ok (.bl (weq x (wayW B ls f))) h:=by
 rw[zak C.f705 rfl]
 have e1:=zez C.z C.b (k:=k) (h:=⟨h.n,h.n,h.os⟩) b hf hl bi
 have e2:=zny C.z.toCoreY1 (k:=k+8) (h:=⟨h.n,h.n,h.os⟩) b hf hl bi
 have e3:=just6 C (k:=k+7) (h:=⟨h.n,h.n,h.os⟩) (a:=B.col f:: (B.fall ls f).cs) (b:=(B.fall ls f).ts) (c:=(B.fall ls f).ls) t.lo
 show fin h (exs (run F (k+10)) zd6.body [some B.w,some (iW ls),some (.int f),some x] ⟨h.n,h.n,h.os⟩)=_
 rw[show exs (run F (k+10)) zd6.body [some B.w,some (iW ls),some (.int f),some x] ⟨h.n,h.n,h.os⟩=.ok (.rt (.bl (weq x (wayW B ls f)))) ⟨h.n,h.n,h.os⟩from(zaa (exprE (zfv (varE rfl) (varE rfl) (varE rfl) e1))).trans (zab (retE (za5 (varE rfl) (zfw (varE rfl) (varE rfl) (varE rfl) cstE e2) e3)))]
 exact zah (vad _) lt_bl
theorem zi7{k:Nat}{i:Int}(e:run F (k+10) 709 [w,l,f] ⟨h.n,h.n,h.os⟩=.ok (.int i) ⟨h.n,h.n,h.os⟩):run F (k+11) 710 [w,l,f,x] h=.ok (.int i) h:=by
 rw[zak C.t4 rfl]
 show fin h (exs (run F (k+10)) zb4.body [some w,some l,some f,some x] ⟨h.n,h.n,h.os⟩)=_
 rw[show exs (run F (k+10)) zb4.body [some w,some l,some f,some x] ⟨h.n,h.n,h.os⟩=.ok (.rt (.int i)) ⟨h.n,h.n,h.os⟩from zab (zab (telX (consE (varE rfl) (consE (varE rfl) (consE (varE rfl) nilE))) e))]
 exact zah (vad _) lt_int
theorem ze1{k:Nat}{i:Int}{z:Str}(e:run F (k+11) 710 [w,l,f,.non] ⟨h.n,h.n,h.os⟩=.ok (.int i) ⟨h.n,h.n,h.os⟩)(hz:[(37,W.str (Str.ofString "board")),(56,.str (Str.ofString "fault")),(68,.str (Str.ofString "leans")),(92,.str (Str.ofString "feeder"))].lookup i.toNat=some (.str z)):run F (k+12) 703 [w,l,f] h=.ok (.str z) h:=by
 rw[zak C.f703 rfl]
 show fin h (exs (run F (k+11)) zb3.body [some w,some l,some f,none] ⟨h.n,h.n,h.os⟩)=_
 unfold zb3
 rw[zab (w:=.str z) (h':=⟨h.n,h.n,h.os⟩) (by
  rw[exs,consE (varE rfl) (consE (varE rfl) (consE (varE rfl) (consE cstE nilE))),bindok]
  show(run F (k+11) 710 [w,l,f,.non] ⟨h.n,h.n,h.os⟩).bind _=_
  rw[e,bindok]
  unfold tryW
  simp only[hz])]
 exact zah (vad _) lt_str
theorem zrt(hl:ls.length<1000000):LKn h (iW ls):=⟨by unfold Kn iW;simp,λws e=>by
 cases e
 refine⟨by rw[vaf];exact hl,λx hx=>?_⟩
 obtain⟨y,_,rfl⟩:=vc5.mp hx
 unfold Kn;simp⟩
theorem zxx{k:Nat}{h:VH}{B:Bd}{ls:List Int}{f:Nat}(b:B.Ok)(hf:f<B.fd.length)(hl:(ls.length:Int)=B.gr)(bi:Bits ls):run F (k+12) 703 [B.w,iW ls,.int f] h=.ok (.str (Str.ofString "told")) h:=by
 rw[zak C.f703 rfl]
 have hg:=b.g2
 have e1:=zfx C.b C.t C.t3 C.z.f17 (k:=k) (h:=⟨h.n,h.n,h.os⟩) (f:=.int f) b (zrt C (by omega)) (zey hl bi) (by simp[Kn])
 rw[if_pos (by simp only[within,vaa,vat];omega)]at e1
 have e2:=zny C.z.toCoreY1 (k:=k+8) (h:=⟨h.n,h.n,h.os⟩) b hf hl bi
 have e3:=just6 C (k:=k+7) (h:=⟨h.n,h.n,h.os⟩) (x:=.non) (a:=B.col f:: (B.fall ls f).cs) (b:=(B.fall ls f).ts) (c:=(B.fall ls f).ls) ⟨by unfold Kn;simp,λ_ e=>nomatch e⟩
 have e:run F (k+11) 710 [B.w,iW ls,.int f,.non] ⟨h.n,h.n,h.os⟩=.ok (.tup [.bl (weq .non (wayW B ls f))]) ⟨h.n,h.n,h.os⟩:=by
  rw[zak C.t4 rfl]
  show fin ⟨h.n,h.n,h.os⟩ (exs (run F (k+10)) zb4.body [some B.w,some (iW ls),some (.int f),some .non] ⟨h.n,h.n,h.os⟩)=_
  rw[show exs (run F (k+10)) zb4.body [some B.w,some (iW ls),some (.int f),some .non] ⟨h.n,h.n,h.os⟩=.ok (.rt (.tup [.bl (weq .non (wayW B ls f))])) ⟨h.n,h.n,h.os⟩from
   zab ((zaa ((telS (consE (varE rfl) (consE (varE rfl) (consE (varE rfl) nilE))) e1).trans rfl)).trans (zab (retE (tupE (consE (za5 (varE rfl) (zfw (varE rfl) (varE rfl) (varE rfl) cstE e2) e3) nilE) rfl))))]
  exact zah (vad _) (by rw[lt_tup,lts_cons,lt_bl,lts_nil];rfl)
 show fin h (exs (run F (k+11)) zb3.body [some B.w,some (iW ls),some (.int f),none] ⟨h.n,h.n,h.os⟩)=_
 unfold zb3
 rw[zaa (ρ':=[some B.w,some (iW ls),some (.int f),none]) (h':=⟨h.n,h.n,h.os⟩) (by
  rw[exs,consE (varE rfl) (consE (varE rfl) (consE (varE rfl) (consE cstE nilE))),bindok]
  show(run F (k+11) 710 [B.w,iW ls,.int f,.non] ⟨h.n,h.n,h.os⟩).bind _=_
  rw[e];rfl),zab (retE cstE)]
 exact zah (vad _) lt_str
theorem zdv{k:Nat}{i:Int}{z:Str}(e:run F (k+7) 706 [w] ⟨h.n,h.n,h.os⟩=.ok (.int i) ⟨h.n,h.n,h.os⟩)(hz:[(37,W.str (Str.ofString "board")),(56,.str (Str.ofString "fault")),(68,.str (Str.ofString "leans")),(92,.str (Str.ofString "feeder"))].lookup i.toNat=some (.str z)):run F (k+12) 703 [w,l,f] h=.ok (.str z) h:=
 ze1 C (zi7 C (h:=⟨h.n,h.n,h.os⟩) (zcx (a:=706) (h:=⟨h.n,h.n,h.os⟩) C.t3 (zid (h:=⟨h.n,h.n,h.os⟩) C.t e))) hz
theorem zif{k:Nat}{h:VH}{B:Bd}{l f:W}(b:B.Ok)(hl:LKn h l)(hw:za6 l B.gr B.gr 0 1=false):run F (k+12) 703 [B.w,l,f] h=.ok (.str (Str.ofString "leans")) h:=by
 have e:=zie C.b C.t C.z.f17 (k:=k) (h:=⟨h.n,h.n,h.os⟩) b hl.lo
 rw[hw,if_neg (by decide)]at e
 exact ze1 C (zi7 C (h:=⟨h.n,h.n,h.os⟩) (zcx (a:=706) (h:=⟨h.n,h.n,h.os⟩) C.t3 e)) rfl
theorem zgz{k:Nat}{h:VH}{B:Bd}{l f:W}(b:B.Ok)(hl:LKn h l)(hw:za6 l B.gr B.gr 0 1=true)(hf:Kn h f)(hn:within f 0 ((B.fd.length:Int)-1)=false):run F (k+12) 703 [B.w,l,f] h=.ok (.str (Str.ofString "feeder")) h:=by
 have e:=zfx C.b C.t C.t3 C.z.f17 (k:=k) (h:=⟨h.n,h.n,h.os⟩) b hl.lo hw (kn_lo.mpr hf)
 rw[hn,if_neg (by decide)]at e
 exact ze1 C (zi7 C (h:=⟨h.n,h.n,h.os⟩) e) rfl
end
theorem t1_of(hl:ws.length<5000)(hy:∀y∈ws,T0 h y):T1 h (.tup ws):=⟨zoa,λus e=>by cases e;exact⟨hl,hy⟩⟩
theorem revE{ρ:En}(ea:ev cl a ρ h=.ok (.tup ws) h1):ev cl (.bi .rev (.cons a (.cons (.neg (.cst (.int (1)))) .nil))) ρ h=.ok (.tup ws.reverse) h1:=by
 rw[ev,consE ea (consE (negE cstE) nilE),bindok];rfl
theorem repT{k:Int}(e:repW o us k=some zs):opW o (.tup us) (.int k) h=.ok (.tup zs) h:=by
 simp only[opW,e,vav,ofsome]
theorem mul2(hl:us.length<=1000):opW .mul (.tup us) (.int 2) h=.ok (.tup (vgc 2 us).flatten) h:=by
 refine repT ?_
 have hb:Nat.ble (us.length* (2:Int).toNat) big=true:=zbq (show us.length*2<=1000000 by omega)
 unfold repW
 simp only[show fits 2=true from by decide,hb,Bool.and_self,vbj]
 rfl
theorem nl{a k:Nat}:a<a+ (k+1):=Nat.lt_add_of_pos_right (Nat.succ_pos _)
theorem ng{d n k:Nat}(h:d<n):n+k≠d:=va8 (vae h (vbg n k))
theorem nn{a i k:Nat}(h:i≠k):a+i≠a+k:=λz=>h (Nat.add_left_cancel z)
theorem lb6{a N:Nat}(K k:Nat)(h:a+K<N)(hk:k<=K):a+k<N:=va6 (vcw hk a) h
theorem s2{a b:Nat}(ha:a<=300)(hb:b<=300):a+b<=1000000:=van (vdd ha hb) (by decide)
theorem s3{a b:Nat}(ha:a<=100)(hb:b<=200):a+b<=300:=vdd ha hb
theorem up{a:Nat}(h:a<=100):a<=300:=van h (by decide)
theorem add2(l:A.length<=100):opW .add (.tup A) (.tup [w]) h=.ok (.tup (A++[w])) h:=addT (s2 (up l) (show 1<=300 by decide))
theorem add3(l:A.length<=100)(m:B.length<=100):opW .add (.tup (A++[w])) (.tup B) h=.ok (.tup (A++[w]++B)) h:=addT (s2 (by rw[vaj];exact s3 l (show 1<=200 by decide)) (up m))
theorem len3(l:A.length<=100)(m:B.length<=100):(A++[w]++B).length<4000:=by
 rw[vaj,vaj]
 exact va6 (vdd (vdd l (show 1<=1 by decide)) m) (by decide)
theorem five(r:Nat):r=0\/r=1\/r=2\/r=3\/(r≠0/\r≠1/\r≠2/\r≠3):=by omega
theorem lq{n:Nat}(h:n<=100):(0:Int)< (n:Int)+1/\(n:Int)+1<1073741824:=by omega
theorem add1{i j:Int}:opW .add (.int i) (.int j) h=.ok (.int (i+j)) h:=rfl
theorem min2E{ρ:En}{i j:Int}(ea:ev cl a ρ h=.ok (.int i) h1)(eb:ev cl b ρ h1=.ok (.int j) h2):ev cl (.bi .min (.cons a (.cons b .nil))) ρ h=.ok (.int (if j<i then j else i)) h2:=by
 rw[ev,consE ea (consE eb nilE)];rfl
theorem isE6{ρ:En}{i j:Int}(ea:ev cl a ρ h=.ok (.int i) h1):ev cl (.cmp .eq a (.cst (.int j))) ρ h=.ok (.bl (decide (i=j))) h1:=by
 rw[ev,ea,bindok,cstE,bindok]
 simp only[cmpW,zav,vav,ofsome]
theorem zxy{i:Int}(h0:0<=i)(h1:i<=100):PyData.strOk (Str.ofString (toString i))=true:=by
 have k:∀n:Fin 101,PyData.strOk (Str.ofString (toString (n.val:Int)))=true:=by decide +kernel
 obtain⟨n,rfl⟩:=vau h0
 exact k ⟨n,by omega⟩
theorem strE6{ρ:En}{i:Int}(ea:ev cl a ρ h=.ok (.int i) h1)(h0:0<=i)(h2:i<=100):ev cl (.bi .str (.cons a .nil)) ρ h=.ok (.str (Str.ofString (toString i))) h1:=by
 rw[ev,consE ea nilE,bindok]
 show strW [.int i] h1=_
 unfold strW
 have:(decide (-1000<i)&&decide (i<1000))=true:=by rw[vaa,vat,vat];omega
 simp only[this,vbj]
section
variable{xs:List Int}{l u:Option Int}
theorem zc0(hy:y∈cutW (xs.map .int) l u)(h:VH):T0 h y:=by
 obtain⟨i,_,rfl⟩:=vc5.mp (zod hy)
 exact zdn rfl
theorem zxz(hx:xs.length<=100):(cutW (xs.map .int) l u).length<=100:=by
 have:=zoe (ws:=xs.map .int) (l:=l) (u:=u)
 rw[vaf]at this
 omega
end
noncomputable def Sg(T:VH->W->Prop)(n:Nat)(h:VH)(w:W):Prop:=(∀h2,T h2 w)\/(W.lt n w=false/\∃i o,n<=i/\h.get i=some o/\∀h2,h2.get i=some o->T h2 w)
theorem zog{n:Nat}(hl:ws.length<5000)(hy:∀y∈ws,∀h,T0 h y):Sg T1 n h (.tup ws):=.inl λh2=>t1_of hl λy hm=>hy y hm h2
theorem Sg.into{T T':VH->W->Prop}{n:Nat}{f:W->W}(g:Sg T n h w)(hf:∀h,T h w->T' h (f w))(hl:W.lt n w=false->W.lt n (f w)=false):Sg T' n h (f w):=
 g.imp (λz h2=>hf h2 (z h2)) λ⟨z,i,o,h1,h2,h3⟩=>⟨hl z,i,o,h1,h2,λh4 k=>hf h4 (h3 h4 k)⟩
theorem zx0{n:Nat}(g:Sg T0 n h w)(hA:∀y∈A,∀h,T0 h y)(hB:∀y∈B,∀h,T0 h y)(lA:A.length<=100)(lB:B.length<=100):Sg T1 n h (.tup (A++[w]++B)):=by
 refine g.into (f:=λw=>.tup (A++[w]++B)) (λh2 t=>t1_of (ver (len3 lA lB) (by decide)) λy hy=>?_) λz=>zkz z (by simp)
 simp only[vbl,vb6]at hy
 rcases hy with(hy|rfl)|hy
 .exact hA y hy h2
 .exact t
 .exact hB y hy h2
theorem fin6{d c b b0:Nat}{ρ:En}{k:Nat}{T:VH->W->Prop}(e:exs (run F k) body ρ ⟨h.n,h.n,h.os⟩=.ok (.rt w) h')(D0:Dk h d c b0)(D:Dk h' d c b)(K:Keep ⟨h.n,h.n,h.os⟩ h' d c)(G:Sg T h.n h' w) :
 ∃h2,fin h (exs (run F k) body ρ ⟨h.n,h.n,h.os⟩)=.ok w h2/\Dk h2 d c b/\Keep h h2 d c/\Sg T h.n h2 w:=by
 obtain⟨h2,e2,D2,K2⟩:=zbp (cl:=run F k) (fl:=.nx []) e (.inr ⟨_,D0⟩) D K
 refine⟨h2,e2,D2,K2,?_⟩
 rcases G with G|⟨G1,i,o,g1,g2,g3⟩
 .exact .inl G
 .refine .inr ⟨G1,i,o,g1,?_,g3⟩
  rw[e]at e2
  have e2:leave h w h'=.ok w h2:=e2
  unfold leave at e2
  rw[G1,vek]at e2
  cases e2
  rw[get_lo]
  exact g2
noncomputable abbrev R6(d:Nat)(x:W)(r a:Nat)(x4 x5:Option W):En:=[some (.ref d),some x,some (.int (r:Int)),some (.int (a:Int)),x4,x5]
section
variable{F:Nat->Option Fn}(C:C06 F)
include C
theorem zqi{k:Nat}{d c bb:Nat}(D:Dk h d c bb)(hb:bb+10<1000000000)(hx:xs.length<=100)(hs:∀x∈xs,0<=x/\x<=99):∃w h',run F (k+4) 702 [.ref d,iW xs] h=.ok w h'/\Dk h' d c (bb+5)/\Keep h h' d c/\Sg T1 h.n h' w:=by
 rw[zak C.f702 rfl]
 have D0:Dk ⟨h.n,h.n,h.os⟩ d c bb:=D.lo
 obtain⟨r,h1,e1,r0,r1,D1,K1⟩:=take C.q.toCoreD (k:=k) (m:=6) D0 (lb6 10 0 hb (by decide)) (by decide) (by decide)
 obtain⟨r,rfl⟩:=vau r0
 obtain⟨a,h2,e2,a0,a1,D2,K2⟩:=take C.q.toCoreD (k:=k) (m:=(xs.length:Int)+1) D1 (lb6 10 1 hb (by decide)) (lq hx).1 (lq hx).2
 obtain⟨a,rfl⟩:=vau a0
 have K12:=K1.trans K2
 have sl:∀{i:Nat}{ρ:En}{h:VH},ρ[1]?=some (some (iW xs))->ρ[3]?=some (some (.int (a:Int)))->ev (run F (k+3)) (.slc (.var 1) false (.cst .non) true (.var 3)) ρ h=.ok (.tup (cutW (xs.map .int) none (some (a:Int)))) h:=λ{i ρ h} q1 q3=>slcE (varE q1) cstE (varE q3) rfl rfl slcW_tup
 have sr:∀{j:Int}{ρ:En}{h:VH},ρ[1]?=some (some (iW xs))->ρ[3]?=some (some (.int (a:Int)))->ev (run F (k+3)) (.slc (.var 1) true (.op .add (.var 3) (.cst (.int j))) false (.cst .non)) ρ h=.ok (.tup (cutW (xs.map .int) (some ((a:Int)+j)) none)) h:=λ{j ρ h} q1 q3=>slcE (varE q1) (opE (varE q3) cstE add1) cstE rfl rfl slcW_tup
 have sm:∀{j:Int}{ρ:En}{h:VH},ρ[1]?=some (some (iW xs))->ρ[3]?=some (some (.int (a:Int)))->ev (run F (k+3)) (.slc (.var 1) true (.var 3) true (.op .add (.var 3) (.cst (.int j)))) ρ h=.ok (.tup (cutW (xs.map .int) (some (a:Int)) (some ((a:Int)+j)))) h:=λ{j ρ h} q1 q3=>slcE (varE q1) (varE q3) (opE (varE q3) cstE add1) rfl rfl slcW_tup
 have L:=λ{l u}=>zxz (l:=l) (u:=u) hx
 have done:∀{w:W}{h3:VH}{b3:Nat},exs (run F (k+3)) zcy.body (R6 d (iW xs) 0 0 none none |>.set 2 none |>.set 3 none) ⟨h.n,h.n,h.os⟩=.ok (.rt w) h3->Dk h3 d c b3->b3<=bb+5->Keep ⟨h.n,h.n,h.os⟩ h3 d c->Sg T1 h.n h3 w->∃w h',fin h (exs (run F (k+3)) zcy.body [some (.ref d),some (iW xs),none,none,none,none] ⟨h.n,h.n,h.os⟩)=.ok w h'/\Dk h' d c (bb+5)/\Keep h h' d c/\Sg T1 h.n h' w:=λ{w h3 b3} e D3 hb3 K3 G=>by
  obtain⟨h4,e4,D4,K4,G4⟩:=fin6 e D (D3.mono hb3) K3 G
  exact⟨w,h4,e4,D4,K4,G4⟩
 show ∃w h',fin h (exs (run F (k+3)) zcy.body [some (.ref d),some (iW xs),none,none,none,none] ⟨h.n,h.n,h.os⟩)=.ok w h'/\_
 have el:ev (run F (k+3)) (.op .add (.bi .len (.cons (.var 1) .nil)) (.cst (.int (1)))) [some (.ref d),some (iW xs),some (.int (r:Int)),none,none,none] h1=.ok (.int ((xs.length:Int)+1)) h1:=by
  have:=lenE (cl:=run F (k+3)) (ρ:=[some (.ref d),some (iW xs),some (.int (r:Int)),none,none,none]) (h:=h1) (ws:=xs.map .int) (varE (i:=1) rfl) rfl
  rw[vaf]at this
  exact opE this cstE add1
 have start:∀rest:S,exs (run F (k+3)) (.seq (.set 2 (.call 5 (.cons (.var 0) (.cons (.cst (.int (6))) .nil)))) (.seq (.set 3 (.call 5 (.cons (.var 0) (.cons (.op .add (.bi .len (.cons (.var 1) .nil)) (.cst (.int (1)))) .nil)))) rest)) [some (.ref d),some (iW xs),none,none,none,none] ⟨h.n,h.n,h.os⟩=exs (run F (k+3)) rest (R6 d (iW xs) r a none none) h2:=λrest=>
  (zaa (setE (za5 (varE rfl) cstE e1))).trans (zaa (setE (za5 (varE rfl) el e2)))
 have ne:∀{j:Nat}{b s:S},r≠j->exs (run F (k+3)) (.seq (.ite (.cmp .eq (.var 2) (.cst (.int (j:Int)))) b .skip) s) (R6 d (iW xs) r a none none) h2=exs (run F (k+3)) s (R6 d (iW xs) r a none none) h2:=λ{j b s} hj=>by
  refine zaa ((iteF (h1:=h2) ((isE6 (varE rfl)).trans ?_)).trans rfl)
  rw[vbw (show ¬((r:Int)=(j:Int))from λz=>hj (Int.ofNat.inj z))]
 have yes:∀{j:Nat}{b s:S}{w:W}{h3:VH},r=j->exs (run F (k+3)) b (R6 d (iW xs) r a none none) h2=.ok (.rt w) h3->exs (run F (k+3)) (.seq (.ite (.cmp .eq (.var 2) (.cst (.int (j:Int)))) b .skip) s) (R6 d (iW xs) r a none none) h2=.ok (.rt w) h3:=λ{j b s w h3} hj e=>by
  refine zab ((iteT (h1:=h2) ((isE6 (varE rfl)).trans ?_)).trans e)
  rw[decide_eq_true (show(r:Int)=(j:Int)from vdn Int.ofNat hj)]
 have app:∀{l u l' u':Option Int}{h:VH},opW .add (.tup (cutW (xs.map .int) l u)) (.tup (cutW (xs.map .int) l' u')) h=.ok (.tup (cutW (xs.map .int) l u++cutW (xs.map .int) l' u')) h:=λ{l u l' u' h}=>addT (s2 (up L) (up L))
 rcases five r with z|z|z|z|⟨z0,z1,z2,z3⟩
 .refine done ((start _).trans (yes (j:=0) z (zab (retE (opE (sl (i:=0) rfl rfl) (sr rfl rfl) app))))) D2 (vbg _ 3) K12 (zog ?_ λy hy h=>?_)
  .rw[vaj]
   exact va6 (s3 L (van L (by decide))) (by decide)
  .rcases vbl.mp hy with hy|hy<;>exact zc0 hy h
 .have hm:=L (l:=some (a:Int)) (u:=some ((a:Int)+1))
  have hl2:((vgc 2 (cutW (xs.map W.int) (some (a:Int)) (some ((a:Int)+1)))).flatten).length<=200:=by simp[vgc];omega
  have hL:=L (l:=none) (u:=some (a:Int))
  have hR:=L (l:=some ((a:Int)+1)) (u:=none)
  refine done ((start _).trans ((ne (j:=0) (by rw[z];decide)).trans (yes (j:=1) z (zab (retE (opE (opE (sl (i:=0) rfl rfl) (opE (sm rfl rfl) cstE (mul2 (van hm (by decide)))) (addT (s2 (up hL) (van hl2 (by decide))))) (sr rfl rfl) (addT (s2 (by rw[vaj];exact s3 hL hl2) (up hR))))))))) D2 (vbg _ 3) K12 (zog ?_ λy hy h=>?_)
  .rw[vaj,vaj]
   exact va6 (vdd (s3 hL hl2) hR) (by decide)
  .rcases vbl.mp hy with hy|hy
   .rcases vbl.mp hy with hy|hy
    .exact zc0 hy h
    .obtain⟨l,hl,hy⟩:=List.mem_flatten.mp hy
     rw[List.eq_of_mem_replicate hl]at hy
     exact zc0 hy h
   .exact zc0 hy h
 .have hm:=L (l:=some (a:Int)) (u:=some ((a:Int)+2))
  have hL:=L (l:=none) (u:=some (a:Int))
  have hR:=L (l:=some ((a:Int)+2)) (u:=none)
  refine done ((start _).trans ((ne (j:=0) (by rw[z];decide)).trans ((ne (j:=1) (by rw[z];decide)).trans (yes (j:=2) z (zab (retE (opE (opE (sl (i:=0) rfl rfl) (revE (sm rfl rfl)) (addT (s2 (up hL) (by rw[vcd];exact up hm)))) (sr rfl rfl) (addT (s2 (by rw[vaj,vcd];exact s3 hL (van hm (by decide))) (up hR)))))))))) D2 (vbg _ 3) K12 (zog ?_ λy hy h=>?_)
  .rw[vaj,vaj,vcd]
   exact va6 (vdd (s3 hL (van hm (by decide))) hR) (by decide)
  .rcases vbl.mp hy with hy|hy
   .rcases vbl.mp hy with hy|hy
    .exact zc0 hy h
    .exact zc0 (List.mem_reverse.mp hy) h
   .exact zc0 hy h
 .obtain⟨hd2,hc2⟩:=D2.ltn
  refine done ((start _).trans ((ne (j:=0) (by rw[z];decide)).trans ((ne (j:=1) (by rw[z];decide)).trans ((ne (j:=2) (by rw[z];decide)).trans (yes (j:=3) z (zab (retE (listE (varE rfl) (show seqW _ (iW xs)=some (xs.map .int)from rfl))))))))) D2.new (vbg _ 3) K12.new (.inr ⟨?_,h2.n,_,K12.le,zam,λh3 g=>?_⟩)
  .simp only[W.lt]
   exact zfr K12.le
  .exact⟨by unfold Kn;simp[tyIs,g],λ_ e=>nomatch e⟩
 ·-- one thing for another
  obtain⟨old,ho,o0,o1⟩:∃old:Int,ev (run F (k+3)) (.idx (.op .add (.var 1) (.tup (.cons (.cst (.int (0))) .nil))) (.bi .min (.cons (.var 3) (.cons (.bi .len (.cons (.var 1) .nil)) .nil)))) (R6 d (iW xs) r a none none) h2=.ok (.int old) h2/\0<=old/\old<=99:=by
   have hlen:=lenE (cl:=run F (k+3)) (ρ:=R6 d (iW xs) r a none none) (h:=h2) (ws:=xs.map .int) (varE (i:=1) rfl) rfl
   rw[vaf]at hlen
   have hi:(if((xs.length:Nat):Int)< (a:Int)then(xs.length:Int)else(a:Int))=(a:Int):=if_neg (by omega)
   have em:=min2E (cl:=run F (k+3)) (ρ:=R6 d (iW xs) r a none none) (h:=h2) (varE (i:=3) rfl) hlen
   rw[hi]at em
   have ea:ev (run F (k+3)) (.op .add (.var 1) (.tup (.cons (.cst (.int (0))) .nil))) (R6 d (iW xs) r a none none) h2=.ok (.tup (xs.map .int++[.int 0])) h2:=opE (varE rfl) (tupE (consE cstE nilE) rfl) (addT (s2 (by rw[vaf];exact up hx) (show 1<=300 by decide)))
   rcases Nat.lt_or_ge a xs.length with q|q
   .have hg:(xs.map W.int++[.int 0])[a]?=some (.int xs[a]):=by rw[vby (by rw[vaf];exact q),vbr,vao q];rfl
    obtain⟨p1,p2⟩:=hs _ (vcj q)
    exact⟨xs[a],idxE ea em (zbd hg),p1,p2⟩
   .have hg:(xs.map W.int++[.int 0])[a]?=some (.int 0):=by
     rw[va4 (by rw[vaf];exact q),vaf,show a-xs.length=0 by omega];rfl
    exact⟨0,idxE ea em (zbd hg),by decide,by decide⟩
  obtain⟨t9,h3,e3,p0,p1,D3,K3⟩:=take C.q.toCoreD (k:=k) (m:=9) D2 (lb6 10 2 hb (by decide)) (by decide) (by decide)
  let h4:=h3.new (.lst [.int old])
  let ws:List W:=[.int (old+1),.int (old-1),.int t9,.bl (decide (old=1)),.non,.str (Str.ofString (toString old)),.tup [.int old],.ref h3.n]
  let h5:=h4.new (.lst ws)
  have e5:ev (run F (k+3)) (.lst (.cons (.op .add (.var 4) (.cst (.int (1)))) (.cons (.op .sub (.var 4) (.cst (.int (1)))) (.cons (.call 5 (.cons (.var 0) (.cons (.cst (.int (9))) .nil))) (.cons (.cmp .eq (.var 4) (.cst (.int (1)))) (.cons (.cst .non) (.cons (.bi .str (.cons (.var 4) .nil)) (.cons (.tup (.cons (.var 4) .nil)) (.cons (.lst (.cons (.var 4) .nil)) .nil))))))))) (R6 d (iW xs) r a (some (.int old)) none) h2=.ok (.ref h4.n) h5:=
   lstE (ys:=ws) (h1:=h4) (consE (opE (varE rfl) cstE rfl) (consE (opE (varE rfl) cstE rfl) (consE (za5 (varE rfl) cstE e3) (consE (isE6 (varE rfl)) (consE cstE (consE (strE6 (varE rfl) o0 (vei o1 (by decide))) (consE (tupE (consE (varE rfl) nilE) rfl) (consE (lstE (consE (varE rfl) nilE) rfl) nilE)))))))) rfl
  obtain⟨t8,h6,e6,q0,q1,D6,K6⟩:=take C.q.toCoreD (k:=k) (h:=h5) (m:=8) D3.new.new (lb6 10 3 hb (by decide)) (by decide) (by decide)
  obtain⟨t8,rfl⟩:=vau q0
  obtain⟨hd3,hc3⟩:=D3.ltn
  have g6:h6.get h4.n=some (.lst ws):=K6.get _ _ (ng hd3) (ng hc3) (zam (h:=h4))
  have g7:h6.get h3.n=some (.lst [.int old]):=K6.get _ _ (va8 hd3) (va8 hc3) ((zae (h:=h4) (vbx _)).trans (zam (h:=h3)))
  have hj:t8<ws.length:=vd8.mp q1
  have eo:=idxE (cl:=run F (k+3)) e5 (za5 (cl:=run F (k+3)) (ρ:=R6 d (iW xs) r a (some (.int old)) none) (a:=.var 0) (b:=.cst (.int (8))) (varE rfl) cstE e6) (show idxW h6 (.ref h4.n) (.int (t8:Int))=some ws[t8] by
   simp only[idxW,g6]
   exact zbd (vao hj))
  have K36:Keep h2 h6 d c:=(K3.trans (Keep.new (Keep.new .refl))).trans K6
  have gd:Sg T0 h.n h6 ws[t8]:=by
   have hm:ws[t8]∈ws:=vcj hj
   generalize ws[t8]=w at hm
   simp only[ws,vaw,vbk,vdm]at hm
   rcases hm with rfl|rfl|rfl|rfl|rfl|rfl|rfl|rfl
   .exact .inl λ_=>zdn rfl
   .exact .inl λ_=>zdn rfl
   .exact .inl λ_=>zdn rfl
   .exact .inl λ_=>t0_bl
   .exact .inl λ_=>zdn rfl
   .exact .inl λ_=>zxu (zxy o0 (vei o1 (by decide)))
   .exact .inl λ_=>zty
   .refine .inr ⟨?_,h3.n,_,van K12.le K3.le,g7,λh7 g=>zxv g⟩
    simp only[W.lt]
    exact zfr (van K12.le K3.le)
  have hL:=L (l:=none) (u:=some (a:Int))
  have hR:=L (l:=some ((a:Int)+1)) (u:=none)
  refine done ((start _).trans ((ne (j:=0) z0).trans ((ne (j:=1) z1).trans ((ne (j:=2) z2).trans ((ne (j:=3) z3).trans ((zaa (setE ho)).trans ((zaa (setE eo)).trans (zab (retE (opE (opE (sl (i:=0) rfl rfl) (tupE (consE (varE rfl) nilE) rfl) (add2 hL)) (sr rfl rfl) (add3 hL hR))))))))))) D6 (vbg _ 1) (K12.trans K36) (zx0 gd (λy hy h=>zc0 hy h) (λy hy h=>zc0 hy h) hL hR)
end
structure Du(ds:List W):Prop where
 a:∃x y z:List Int,ds=[iW x,iW y,iW z]/\∀l∈[x,y,z],l.length<=100/\∀i∈l,0<=i/\i<=99
theorem Du.row(D:Du ds)(h:y∈ds):∃l:List Int,y=iW l/\l.length<=100/\∀i∈l,0<=i/\i<=99:=by
 obtain⟨x,y',z,rfl,hl⟩:=D
 simp only[vaw,vbk,vdm]at h
 rcases h with rfl|rfl|rfl
 .exact⟨x,rfl,hl x (by simp)⟩
 .exact⟨y',rfl,hl y' (by simp)⟩
 .exact⟨z,rfl,hl z (by simp)⟩
theorem zt3(hl:l.length<=100):T1 h (iW l):=t1_of (by rw[vaf];exact va6 hl (by decide)) λy hy=>by
 obtain⟨i,_,rfl⟩:=vc5.mp hy
 exact zdn rfl
theorem Du.t1(D:Du ds)(m:y∈ds)(h:VH):T1 h y:=by
 obtain⟨l,rfl,hl,_⟩:=D.row m
 exact zt3 hl
theorem Du.len(D:Du ds):ds.length=3:=by
 obtain⟨x,y,z,rfl,_⟩:=D
 rfl
theorem p6_of(hl:ws.length<5000)(hy:∀y∈ws,T1 h y):P6 h (.tup ws):=⟨zoa,λus e=>by cases e;exact⟨hl,hy⟩⟩
theorem p6_no(hk:Kn h x)(hn:zfy x=false):P6 h x:=⟨hk,λws e=>by subst e;cases hn⟩
noncomputable def Ig(d c r:Nat)(h:VH)(w:W):Prop:=(∀h2,P6 h2 w)\/∃i o,i≠d/\i≠c/\i≠r/\h.get i=some o/\∀h2,h2.get i=some o->P6 h2 w
theorem Ig.keep{d c r:Nat}(g:Ig d c r h w)(K:Keep h h' d c):Ig d c r h' w:=g.imp id λ⟨i,o,a,b,e,f,q⟩=>⟨i,o,a,b,e,K.get i o a b f,q⟩
theorem Ig.set{d c r:Nat}(g:Ig d c r h w)(g0:h.get r=some o0):Ig d c r (h.set r o') w:=g.imp id λ⟨i,o,a,b,e,f,q⟩=>⟨i,o,a,b,e,(zap g0 e).trans f,q⟩
theorem Ig.all{d c r:Nat}(g:Ig d c r h w)(K:Keep h h' d c):P6 h' w:=g.elim (λz=>z h') λ⟨i,o,a,b,e,f,q⟩=>q h' (K.get i o a b f)
theorem cutD{l u:Option Int}(D:Du ds):(∀y∈cutW ds l u,∀h,T1 h y)/\(cutW ds l u).length<=100:=⟨λy hy h=>D.t1 (zod hy) h,by have:=zoe (ws:=ds) (l:=l) (u:=u);rw[D.len]at this;exact van this (by decide)⟩
theorem zx1{d c r n:Nat}(g:Sg T1 n h w)(hn:∀i,n<=i->i≠d/\i≠c/\i≠r)(hA:∀y∈A,∀h,T1 h y)(hB:∀y∈B,∀h,T1 h y)(lA:A.length<=100)(lB:B.length<=100):Ig d c r h (.tup (A++[w]++B)):=by
 have key:∀h2,T1 h2 w->P6 h2 (.tup (A++[w]++B)):=λh2 t=>p6_of (ver (len3 lA lB) (by decide)) λy hy=>by
  simp only[vbl,vb6]at hy
  rcases hy with(hy|rfl)|hy
  .exact hA y hy h2
  .exact t
  .exact hB y hy h2
 rcases g with g|⟨_,i,o,g1,g2,g3⟩
 .exact .inl λh2=>key h2 (g h2)
 .obtain⟨a,b,e⟩:=hn i g1
  exact .inr ⟨i,o,a,b,e,g2,λh2 k=>key h2 (g3 h2 k)⟩
noncomputable abbrev R7(d:Nat)(ds:List W)(r:Nat)(x3 x4:Option W):En:=[some (.ref d),some (.tup ds),some (.ref r),x3,x4]
theorem tb6{b m N:Nat}(h:b+10* (m+1)+10<N):b<N/\b+1+10<N/\b+10+10*m+10<N:=by omega
theorem tc6{b m:Nat}:b+10+10*m<=b+10* (m+1):=by omega
theorem td6{a m:Nat}(h:a+ (m+1)<=100):a<=1000000/\a+1+m<=100:=by omega
section
variable{F:Nat->Option Fn}(C:C06 F)
include C
theorem turn6{k:Nat}{d c r:Nat}(U:Du ds)(hr:r≠d/\r≠c):∀(m:Nat) (a:Int) (x3 x4:Option W) (h:VH) (bb:Nat) (ws:List W),Dk h d c bb->bb+10*m+10<1000000000->h.get r=some (.lst ws)->ws.length+m<=100->(∀w∈ws,Ig d c r h w)->
 ∃x3' x4' h' ws',forL (tgW (.one 3)) (exs (run F (k+4)) zcd) (zax a m) (R7 d ds r x3 x4) h=.ok (.nx (R7 d ds r x3' x4')) h'/\h'.get r=some (.lst ws')/\ws'.length=ws.length+m/\(∀w∈ws',Ig d c r h' w)/\Dk h' d c (bb+10*m)/\h.n<=h'.n/\∀i o,i≠d->i≠c->i≠r->h.get i=some o->h'.get i=some o
 |0,a,x3,x4,h,bb,ws,D,hb,g,hl,hi=>⟨x3,x4,h,ws,rfl,g,rfl,hi,D,vad _,λ_ _ _ _ _ e=>e⟩
 |m+1,a,x3,x4,h,bb,ws,D,hb,g,hl,hi=>by
  obtain⟨t,h1,e1,t0,t1,D1,K1⟩:=take C.q.toCoreD (k:=k+1) (m:=3) D (tb6 hb).1 (by decide) (by decide)
  obtain⟨t,rfl⟩:=vau t0
  have hlen:=U.len
  have ht:t<ds.length:=by rw[hlen];exact vd8.mp t1
  obtain⟨l,hl1,hl2,hl3⟩:=U.row (vcj ht)
  have hg:ds[t]?=some (iW l):=by rw[vao ht,hl1]
  obtain⟨w,h2,e2,D2,K2,G2⟩:=zqi C (k:=k) (h:=h1) D1 (tb6 hb).2.1 hl2 hl3
  have K12:=K1.trans K2
  obtain⟨hd1,hc1⟩:=D1.ltn
  have g2:=K12.get _ _ hr.1 hr.2 g
  have hr1:r<h1.n:=zas (K1.get _ _ hr.1 hr.2 g)
  obtain⟨cA,lA⟩:=cutD (l:=none) (u:=some (t:Int)) U
  obtain⟨cB,lB⟩:=cutD (l:=some ((t:Int)+1)) (u:=none) U
  have G3:=zx1 (d:=d) (c:=c) (r:=r) G2 (λi hi=>⟨va8 (vae hd1 hi),va8 (vae hc1 hi),va8 (vae hr1 hi)⟩) cA cB lA lB
  have ea:ev (run F (k+4)) (.op .add (.op .add (.slc (.var 1) false (.cst .non) true (.var 4)) (.tup (.cons (.call 702 (.cons (.var 0) (.cons (.idx (.var 1) (.var 4)) .nil))) .nil))) (.slc (.var 1) true (.op .add (.var 4) (.cst (.int (1)))) false (.cst .non))) (R7 d ds r (some (.int a)) (some (.int (t:Int)))) h1=.ok (.tup (cutW ds none (some (t:Int))++[w]++cutW ds (some ((t:Int)+1)) none)) h2:=by
   refine opE (opE (slcE (varE rfl) cstE (varE rfl) rfl rfl slcW_tup) (tupE (consE (za5 (varE rfl) (idxE (varE rfl) (varE rfl) (zbd hg)) e2) nilE) rfl) (add2 lA)) (slcE (varE rfl) (opE (varE rfl) cstE add1) cstE rfl rfl slcW_tup) (add3 lA lB)
  have e3:=zby (cl:=run F (k+4)) (i:=2) (l:=r) (ρ:=R7 d ds r (some (.int a)) (some (.int (t:Int)))) (h:=h1) rfl (K1.get _ _ hr.1 hr.2 g) ea g2 (td6 hl).1
  have g3:=zbb (o:=.lst (ws++[.tup (cutW ds none (some (t:Int))++[w]++cutW ds (some ((t:Int)+1)) none)])) g2
  have D3:Dk (h2.set r (.lst (ws++[.tup (cutW ds none (some (t:Int))++[w]++cutW ds (some ((t:Int)+1)) none)]))) d c (bb+10):=by
   obtain⟨ne,ns,cells,p,q,a1,a2,a3,a4,a5,a6,a7⟩:=D2.mono (show bb+1+5<=bb+10 from vbg (bb+6) 4)
   exact⟨ne,ns,cells,p,q,(zap g2 (vbz hr.1)).trans a1,(zap g2 (vbz hr.2)).trans a2,a3,a4,a5,a6,a7⟩
  obtain⟨x3',x4',h',ws',e4,g4,l4,i4,D4,n4,k4⟩:=turn6 U hr m (a+1) (some (.int a)) (some (.int (t:Int))) _ (bb+10) _ D3 (tb6 hb).2.2 g3 (by rw[vaj];exact(td6 hl).2) (λy hy=>by
   rcases vbl.mp hy with hy|hy
   .exact((hi y hy).keep K12).set g2
   .rw[vb6.mp hy];exact G3.set g2)
  refine⟨x3',x4',h',ws',?_,g4,by rw[l4,vaj,Nat.add_assoc,Nat.add_comm m];rfl,i4,D4.mono tc6,van K12.le n4,λi o z1 z2 z3 e=>k4 i o z1 z2 z3 ((zap g2 z3).trans (K12.get i o z1 z2 e))⟩
  have eb:exs (run F (k+4)) zcd ((R7 d ds r x3 x4).set 3 (some (.int a))) h=.ok (.nx (R7 d ds r (some (.int a)) (some (.int (t:Int))))) (h2.set r (.lst (ws++[.tup (cutW ds none (some (t:Int))++[w]++cutW ds (some ((t:Int)+1)) none)]))):=
   (zaa (setE (za5 (varE rfl) cstE e1))).trans ((zaa (exprE e3)).trans rfl)
  show forL _ _ (.int a::zax (a+1) m) _ _=_
  simp only[forL,tgW,eb,bindok]
  exact e4
end
theorem zoh{wd g:Int}:∀(rs:List (List W)) (c hd:Int) (ls:List Int),zfq wd g rs->0<=c->c<wd->-1<=hd->hd<=1->Bits ls->∀t∈(fallP rs c hd ls).ts,0<=t/\t<g
 |[],c,hd,ls,_,c0,c1,_,_,b,t,ht=>by simp[fallP]at ht
 |r::rs,c,hd,ls,ok,c0,c1,h1,h2,b,t,ht=>by
  obtain⟨_,hm⟩:=zex (ok r vap) c0 c1
  unfold fallP at ht
  cases e:stepP (colAt r c) hd ls with
  |none=>rw[e]at ht;simp at ht
  |some q=>
   obtain⟨d,u,l⟩:=q
   rw[e]at ht
   obtain⟨a1,a2,a3,a4,a5,a6,a7⟩:=zgu hm c0 c1 h1 h2 b e
   rcases vbl.mp (show t∈u++(fallP rs (c+d) d l).ts from ht)with hu|hu
   .clear ht
    rcases zbz hm with⟨z,_⟩|⟨z,_⟩|⟨z,_⟩|z|z|⟨p,s,z,h3,_⟩
    .rw[z,zh6]at e;cases e;cases hu
    .rw[z,zeu]at e;cases e;cases hu
    .rw[z,zev]at e;cases e;cases hu
    .rw[z,zcv]at e;cases e;cases hu
    .rw[z,zh7]at e;cases e
    .rw[z,zew]at e;cases e
     rw[vb6.mp hu]
     exact⟨Int.natCast_nonneg _,h3⟩
   .exact zoh rs (c+d) d l (λr hr=>ok r (vak _ hr)) a3 a4 a1 a2 a6 t hu
noncomputable def wayL(B:Bd)(ls:List Int)(f:Nat):List W:=[iW (B.col f:: (B.fall ls f).cs),iW (B.fall ls f).ts,iW (B.fall ls f).ls]
theorem zoi{f:Nat}(b:B.Ok)(hf:f<B.fd.length)(hl:(ls.length:Int)=B.gr)(bi:Bits ls):Du (wayL B ls f):=by
 obtain⟨_,c0,c1⟩:=b.col hf
 have q:=b.fall hf hl bi
 have w2:=b.w2
 have g2:=b.g2
 have h60:=b.r1
 have t1:=q.t1
 have c2:=q.c2
 have l1:=q.l1
 refine⟨_,_,_,rfl,λl hm=>?_⟩
 simp only[vaw,vbk,vdm]at hm
 rcases hm with rfl|rfl|rfl
 .refine⟨by rw[vai];omega,λi hi=>?_⟩
  rcases vaw.mp hi with rfl|hi
  .omega
  .have:=q.c1 i hi;omega
 .refine⟨by omega,λi hi=>?_⟩
  have:=zoh B.rows (B.col f) 0 ls (b.rows hl) c0 c1 (by decide) (by decide) bi i hi
  omega
 .refine⟨by omega,λi hi=>?_⟩
  rcases q.l2 i hi with rfl|rfl<;>omega
theorem zt4{l:Nat}(hl:h.n<=l):∃lo,fin h (.ok (.rt (.ref l)) h')=.ok (.ref l) ⟨h'.n,lo,h'.os⟩:=by
 refine⟨if Nat.ble h.lo h'.lo then h.lo else h'.lo,?_⟩
 show leave h (.ref l) h'=_
 unfold leave
 rw[if_neg]
 rw[vaa]
 intro z
 have:=z.2
 simp only[W.lt]at this
 have:=zaq.mp this
 omega
theorem zj9{l d c:Nat}:Keep h ⟨h.n,l,h.os⟩ d c:=⟨vad _,λ_ _ _ _ e=>by rw[get_lo];exact e⟩
theorem zt5{l d c:Nat}(K:Keep ⟨h.n,l,h.os⟩ h' d c):Keep h h' d c:=⟨K.le,λi o a b e=>K.get i o a b (by rw[get_lo];exact e)⟩
theorem dspE6{ρ:En}:ev cl (.dsp .nil) ρ h=.ok (.ref h.n) (h.new (.dk [])):=by
 rw[ev,nilE,bindok];rfl
section
variable{F:Nat->Option Fn}(C:C06 F)
include C
theorem zt6{k:Nat}{d c bb:Nat}(D:Dk h d c bb)(hb:bb+200<1000000000)(U:Du ds) :
 ∃l ws h',run F (k+5) 701 [.ref d,.tup ds] h=.ok (.ref l) h'/\h'.get l=some (.lst ws)/\ws.length<=40/\l≠d/\l≠c/\(∀w∈ws,∀h2,Keep h' h2 d c->P6 h2 w)/\Dk h' d c (bb+100)/\Keep h h' d c:=by
 rw[zak C.f701 rfl]
 obtain⟨hd,hc⟩:=D.ltn
 have hlen:=U.len
 let h0:VH:=⟨h.n,h.n,h.os⟩
 let h1:=h0.new (.dk [])
 let h2:=h1.new (.lst [])
 let h3:=h2.new (.lst ds)
 let ws0:List W:=[.non,.int 0,.bl true,.str (Str.ofString "kind"),.ref h.n,.ref (h.n+1),.tup [],.ref (h.n+2),.tup (cutW ds none (some 2)),.tup (ds++[.tup []]),.tup ds.reverse]
 let h4:=h3.new (.lst ws0)
 have D0:Dk h0 d c bb:=D.lo
 have D4:Dk h4 d c bb:=D0.new.new.new.new
 have K4:Keep h0 h4 d c:=(((Keep.refl.new).new).new).new
 have g4:h4.get (h.n+3)=some (.lst ws0):=zam (h:=h3)
 have ga:h4.get h.n=some (.dk []):=(zae (h:=h3) (show h.n<h.n+3 from nl)).trans ((zae (h:=h2) (show h.n<h.n+2 from nl)).trans ((zae (h:=h1) (show h.n<h.n+1 from nl)).trans (zam (h:=h0))))
 have gb:h4.get (h.n+1)=some (.lst []):=(zae (h:=h3) (show h.n+1<h.n+3 from Nat.add_lt_add_left (by decide) _)).trans ((zae (h:=h2) (show h.n+1<h.n+2 from Nat.add_lt_add_left (by decide) _)).trans (zam (h:=h1)))
 have gc:h4.get (h.n+2)=some (.lst ds):=(zae (h:=h3) (show h.n+2<h.n+3 from Nat.add_lt_add_left (by decide) _)).trans (zam (h:=h2))
 have e4:ev (run F (k+4)) (.lst o7E) [some (.ref d),some (.tup ds),none,none,none] h0=.ok (.ref (h.n+3)) h4:=
  lstE (ys:=ws0) (h1:=h3) (consE cstE (consE cstE (consE cstE (consE cstE (consE dspE6 (consE (lstE nilE rfl) (consE (tupE nilE rfl) (consE (listE (varE rfl) rfl) (consE (slcE (varE rfl) cstE cstE rfl rfl slcW_tup) (consE (opE (varE rfl) (tupE (consE (tupE nilE rfl) nilE) rfl) (addT (by rw[hlen];decide))) (consE (revE (varE rfl)) nilE))))))))))) rfl
 have t1e:∀h,T1 h (.tup []):=λh=>t1_of (by decide) λ_ h=>nomatch h
 have i4:∀w∈ws0,Ig d c (h.n+3) h4 w:=by
  intro w hw
  simp only[ws0,vaw,vbk,vdm]at hw
  rcases hw with rfl|rfl|rfl|rfl|rfl|rfl|rfl|rfl|rfl|rfl|rfl
  .exact .inl λ_=>p6_no (by unfold Kn;simp) rfl
  .exact .inl λ_=>p6_no (by unfold Kn;simp) rfl
  .exact .inl λ_=>p6_no (by unfold Kn;simp) rfl
  .exact .inl λ_=>p6_no (by unfold Kn;simp) rfl
  .exact .inr ⟨h.n,_,va8 hd,va8 hc,vay nl,ga,λh2 g=>p6_no (by unfold Kn;simp[tyIs,g]) rfl⟩
  .exact .inr ⟨h.n+1,_,ng hd,ng hc,nn (by decide),gb,λh2 g=>p6_no (by unfold Kn;simp[tyIs,g]) rfl⟩
  .exact .inl λ_=>p6_of (by decide) λ_ h=>nomatch h
  .exact .inr ⟨h.n+2,_,ng hd,ng hc,nn (by decide),gc,λh2 g=>p6_no (by unfold Kn;simp[tyIs,g]) rfl⟩
  .obtain⟨q1,q2⟩:=cutD (l:=none) (u:=some 2) U
   exact .inl λh=>p6_of (va6 q2 (by decide)) λy hy=>q1 y hy h
  .refine .inl λh=>p6_of (by rw[vaj,hlen];decide) λy hy=>?_
   rcases vbl.mp hy with hy|hy
   .exact U.t1 hy h
   .rw[vb6.mp hy];exact t1e h
  .exact .inl λh=>p6_of (by rw[vcd,hlen];decide) λy hy=>U.t1 (List.mem_reverse.mp hy) h
 obtain⟨x3,x4,h5,ws5,e5,g5,l5,i5,D5,n5,k5⟩:=turn6 C (k:=k) (r:=h.n+3) U ⟨ng hd,ng hc⟩ 8 0 none none h4 bb ws0 D4 (lb6 200 90 hb (by decide)) g4 (by show 11+8<=100;decide) i4
 obtain⟨t,h6,e6,t0,t1,D6,K6⟩:=take C.q.toCoreD (k:=k+1) (m:=3) D5 (lb6 200 80 hb (by decide)) (by decide) (by decide)
 obtain⟨t,rfl⟩:=vau t0
 have g6:=K6.get _ _ (ng hd) (ng hc) g5
 have hr6:=zas g6
 obtain⟨hd6,hc6⟩:=D6.ltn
 let k1:=h6.new (.dk [])
 let ts:List W:=[.non,.int 0,.str (Str.ofString "0"),.tup [],.ref h6.n]
 let k2:=k1.new (.lst ts)
 let fw:W->W:=λw=>.tup (cutW ds none (some (t:Int))++[w]++cutW ds (some ((t:Int)+1)) none)
 let k3:=k2.new (.lst (ts.map fw))
 let k4:=k3.new (.lst (ws5++ts.map fw))
 obtain⟨cA,lA⟩:=cutD (l:=none) (u:=some (t:Int)) U
 obtain⟨cB,lB⟩:=cutD (l:=some ((t:Int)+1)) (u:=none) U
 have gk2:k2.get (h6.n+1)=some (.lst ts):=zam (h:=k1)
 have el:ev (run F (k+4)) (.lc .seq (.lst o8E) (.one 0) 1 [4,1] (.cst (.bl true)) zbr) (R7 d ds (h.n+3) x3 (some (.int (t:Int)))) h6=.ok (.ref (h6.n+2)) k3:=by
  have ea:ev (run F (k+4)) (.lst o8E) (R7 d ds (h.n+3) x3 (some (.int (t:Int)))) h6=.ok (.ref (h6.n+1)) k2:=
   lstE (ys:=ts) (h1:=k1) (consE cstE (consE cstE (consE cstE (consE (tupE nilE rfl) (consE dspE6 nilE))))) rfl
  have l:=zn7 (nx:=nxt .seq (.ref (h6.n+1))) (c:=ev (run F (k+4)) (.cst (.bl true))) (e:=ev (run F (k+4)) zbr) (h:=k2) (ws:=ts) (tl:=[some (.int (t:Int)),some (.tup ds)]) (p:=λ_=>true) (f:=fw)
   (λj=>by simp only[nxt,seqW,gk2,vav]) (λw hw=>cstE)
   (λw hw=>opE (opE (slcE (varE rfl) cstE (varE rfl) rfl rfl slcW_tup) (tupE (consE (varE rfl) nilE) rfl) (add2 lA)) (slcE (varE rfl) (opE (varE rfl) cstE add1) cstE rfl rfl slcW_tup) (add3 lA lB))
   fuel 0 none [] (vbv _) (by show 5<fuel+0;unfold fuel;decide)
  rw[ev,ea,bindok]
  have l2:lcG (nxt .seq (.ref (h6.n+1))) (tgW (.one 0)) (ev (run F (k+4)) (.cst (.bl true))) (ev (run F (k+4)) zbr) fuel 0 (inner 1 [4,1] (R7 d ds (h.n+3) x3 (some (.int (t:Int))))) k2 []=.ok (ts.map fw) k2:=l
  rw[l2,bindok,if_pos (zbq (show(ts.map fw).length<=1000000 by rw[vaf];show 5<=1000000;decide))]
  rfl
 have e7:opW .add (.ref (h.n+3)) (.ref (h6.n+2)) k3=.ok (.ref (h6.n+3)) k4:=by
  refine addL ?_ (zam (h:=k2)) (by show ws5.length+5<=1000000;rw[l5];show 11+8+5<=1000000;decide)
  exact(zae (h:=k2) (show h.n+3<h6.n+2 from Nat.lt_add_right 2 hr6)).trans ((zae (h:=k1) (show h.n+3<h6.n+1 from Nat.lt_add_right 1 hr6)).trans ((zae (h:=h6) hr6).trans g6))
 have eb:exs (run F (k+4)) zd5.body [some (.ref d),some (.tup ds),none,none,none] h0=.ok (.rt (.ref (h6.n+3))) k4:=by
  refine(zaa (setE e4)).trans ?_
  refine(zaa (ρ':=R7 d ds (h.n+3) x3 x4) (h':=h5) ?_).trans ?_
  .rw[exs,consE cstE nilE,bindok,show(8:Int)=((8:Nat):Int)from rfl,zto (by decide)]
   exact e5
  refine(zaa (setE (za5 (varE rfl) cstE e6))).trans ?_
  exact zab (retE (opE (varE rfl) el e7))
 have n6:h.n+4<=h6.n:=van n5 K6.le
 obtain⟨lo,ef⟩:=zt4 (h:=h) (h':=k4) (l:=h6.n+3) (van (vbg _ 4) (van n6 (vbg _ 3)))
 have K64:Keep h6 k4 d c:=(((Keep.refl.new).new).new).new
 have K5':Keep h0 h6 d c:=⟨van (vbg h.n 4) n6,λi o a b e=>K6.get i o a b (k5 i o a b (vay (vae (show i<h.n from zas e) (vbg _ 3))) (K4.get i o a b e))⟩
 refine⟨h6.n+3,ws5++ts.map fw,⟨k4.n,lo,k4.os⟩,?_,?_,?_,ng hd6,ng hc6,λw hw h2 K2=>?_,?_,?_⟩
 .show fin h (exs (run F (k+4)) zd5.body [some (.ref d),some (.tup ds),none,none,none] h0)=_
  rw[eb];exact ef
 .rw[get_lo];exact zam (h:=k3)
 .rw[vaj,l5];show 11+8+5<=40;decide
 .have K4':Keep k4 h2 d c:=zj9.trans K2
  rcases vbl.mp hw with hw|hw
  .exact(i5 w hw).all ((K6.trans K64).trans K4')
  .obtain⟨x,hx,rfl⟩:=vc5.mp hw
   have gd:k4.get h6.n=some (.dk []):=(zae (h:=k3) (show h6.n<h6.n+3 from nl)).trans ((zae (h:=k2) (show h6.n<h6.n+2 from nl)).trans ((zae (h:=k1) (show h6.n<h6.n+1 from nl)).trans (zam (h:=h6))))
   have hx1:T1 h2 x:=by
    simp only[ts,vaw,vbk,vdm]at hx
    have no:∀{x:W},Kn h2 x->zfy x=false->T1 h2 x:=λhk hn=>⟨hk,λws e=>by subst e;cases hn⟩
    rcases hx with rfl|rfl|rfl|rfl|rfl
    .exact no (by unfold Kn;simp) rfl
    .exact no (by unfold Kn;simp) rfl
    .exact no (by unfold Kn;simp) rfl
    .exact t1e h2
    .have g:=K4'.get _ _ (va8 hd6) (va8 hc6) gd
     exact no (by unfold Kn;simp[tyIs,g]) rfl
   refine p6_of (ver (len3 lA lB) (by decide)) λy hy=>?_
   simp only[vbl,vb6]at hy
   rcases hy with(hy|rfl)|hy
   .exact cA y hy h2
   .exact hx1
   .exact cB y hy h2
 .exact(D6.new.new.new.new.mono (vcw (show 81<=100 by decide) bb)).gx λi o e=>by rw[get_lo];exact e
 .exact(zt5 (K5'.trans K64)).trans zj9
end
theorem zka{nx:Nat->VH->Option (Option W)}{tg:W->VH->En->Option En}{bd:FS}{ws:List W}{h:VH}(P:En->Prop)(hx:∀i,nx i h=some ws[i]?)(step:∀w∈ws,∀ρ,P ρ->∃ρ1 ρ',tg w h ρ=some ρ1/\bd ρ1 h=.ok (.nx ρ') h/\P ρ') :
 ∀(n i fu:Nat)(ρ:En),i+n=ws.length->n<fu->P ρ->∃ρ',forG nx tg bd fu i ρ h=.ok (.nx ρ') h/\P ρ'
 |0,i,fu+1,ρ,hi,hf,p=>by
  have hn:nx i h=some none:=by rw[hx,vdj (by omega)]
  exact⟨ρ,by simp only[forG,hn],p⟩
 |n+1,i,fu+1,ρ,hi,hf,p=>by
  have hlt:i<ws.length:=by omega
  have hn:nx i h=some (some ws[i]):=by rw[hx,vao hlt]
  obtain⟨ρ1,ρ2,e1,e2,p2⟩:=step ws[i] (vcj hlt) ρ p
  obtain⟨ρ3,e3,p3⟩:=zka P hx step n (i+1) fu ρ2 (by omega) (by omega) p2
  exact⟨ρ3,by simp only[forG,hn,e1,e2,bindok,e3],p3⟩
noncomputable abbrev R8(c0 c2:Option W)(B:Bd)(ls:List Int)(f:Nat)(x6 x7 x8 x9 x10 x11 x12:Option W):En:=[c0,some (.ref 1),c2,some B.w,some (iW ls),some (.int (f:Int)),x6,x7,x8,x9,x10,x11,x12]
noncomputable abbrev R9(ns:List Int)(j:Nat)(B:Bd)(ls:List Int)(f f' n:Nat)(x9 x10 x11 x12:Option W):En:=R8 (some (.fz (ns.map .int))) (some (.int (j:Int))) B ls f (some (.tup (wayL B ls f))) (some (.int (f':Int))) (some (.ref n)) x9 x10 x11 x12
theorem zx2{ρ:En}(b:B.Ok)(e1:ρ[3]?=some (some B.w)):ev cl (.tup r11E) ρ h=.ok (zfz B).w h:=by
 have w1:=b.w1
 have w2:=b.w2
 have h60:=b.r1
 obtain⟨n,hn⟩:=vau (show 0<=B.wd by omega)
 have er:ev cl (.op .mul (.tup (.cons (.cst (.int (7))) .nil)) (.idx (.var 3) (.cst (.int (0))))) ρ h=.ok (.tup (vgc n (.int 7))) h:=
  opE (tupE (consE cstE nilE) rfl) (idxE (varE e1) cstE (show idxW _ B.w (.int 0)=some (.int (n:Int)) by rw[<-hn];rfl)) (zts (by omega))
 have es:ev cl (.slc (.idx (.var 3) (.cst (.int (2)))) true (.cst (.int (1))) false (.cst .non)) ρ h=.ok (.tup ((B.rows.map .tup).drop 1)) h:=by
  rw[<-zxw]
  exact slcE (l':=some 1) (u':=none) (idxE (varE e1) cstE (show idxW _ B.w (.int 2)=some (.tup (B.rows.map .tup))from rfl)) cstE cstE rfl rfl rfl
 have ea:ev cl r11E ρ h=.ok (.tup [.int B.wd,.int B.gr,.tup ([.tup (vgc n (.int 7))]++(B.rows.map .tup).drop 1),.tup B.fd,.tup B.dr]) h:=
  consE (idxE (varE e1) cstE (show idxW _ B.w (.int 0)=some (.int B.wd)from rfl)) (consE (idxE (varE e1) cstE (show idxW _ B.w (.int 1)=some (.int B.gr)from rfl)) (consE (opE (tupE (consE er nilE) rfl) es (addT (by rw[vbt,vdo,vaf];omega))) (consE (idxE (varE e1) cstE (show idxW _ B.w (.int 3)=some (.tup B.fd)from rfl)) (consE (idxE (varE e1) cstE (show idxW _ B.w (.int 4)=some (.tup B.dr)from rfl)) nilE))))
 rw[tupE ea rfl]
 unfold zfz Bd.w
 simp only[va0,List.map_drop,List.singleton_append]
 rw[show B.wd.toNat=n by rw[hn];rfl]
theorem fd6{n:Nat}(h1:1<=n)(h2:n<=4):(0:Int)< (n:Int)/\(n:Int)<1073741824:=by omega
section
variable{F:Nat->Option Fn}(C:C06 F)
include C
theorem own6{f:Nat}{ρ:En}{i:Nat}(b:B.Ok)(hf:f<B.fd.length)(hl:(ls.length:Int)=B.gr)(bi:Bits ls)(hlo:h.lo<=h.n)(e3:ρ[3]?=some (some B.w))(e4:ρ[4]?=some (some (iW ls)))(e5:ρ[i]?=some (some (.int (f:Int)))) :
 ∃h',ev (run F 29) (.bi .tuple (.cons (.slc (.call 38 (.cons (.var 3) (.cons (.var 4) (.cons (.var i) .nil)))) false (.cst .non) true (.cst (.int (3)))) .nil)) ρ h=.ok (.tup (wayL B ls f)) h'/\Gw h h':=by
 obtain⟨e0,c0,c1⟩:=b.col hf
 obtain⟨j,h1,e2,g2,G⟩:=zqb C.l (k:=28) (h:=h) (B:=B) (ls:=ls) (f:=f) hlo e0 c0 c1 (b.rows hl) b.r1 bi
 have s:=slcE (cl:=run F 29) (lo:=.cst .non) (hi:=.cst (.int (3))) (bl:=false) (bh:=true) (zfv (varE e3) (varE e4) (varE e5) e2) cstE cstE rfl rfl (show slcW (.ref j) none (some 3) h1=.ok (.ref h1.n) (h1.new (.lst (wayL B ls f))) by simp only[slcW,g2];rfl)
 refine⟨_,zrn s zam,⟨vd5 G.le,G.lo,λi o e=>?_⟩⟩
 have:=G.get i o e
 rw[zae (zas this)];exact this
theorem rows6{h:VH}{f:Nat}{c0 c2 x6 x7 x8 x9 x10:Option W}(bo:B.Ok)(hf:f<B.fd.length)(hl:(ls.length:Int)=B.gr)(bi:Bits ls) :
 ∃h',exs (run F 29) (.seq (.set 11 (.tup r11E)) (.seq (.set 12 (.lst r12E)) (.seq (.set 12 (.op .add (.var 12) (.lst r13E))) (.seq (.ret (.bi .all (.cons (.lc .seq (.var 12) (.many [0,1,2,3]) 4 [] (.cst (.bl true)) zcf) .nil))) .skip)))) (R8 c0 c2 B ls f x6 x7 x8 x9 x10 none none) h=.ok (.rt (.bl true)) h':=by
 have g2:=bo.g2
 have e11:=zx2 (cl:=run F 29) (h:=h) (ρ:=R8 c0 c2 B ls f x6 x7 x8 x9 x10 none none) bo rfl
 obtain⟨r0,hr0⟩:=zof bo
 have eF:∀(h:VH)(l f:W),run F 29 703 [(zfz B).w,l,f] h=.ok (.str (Str.ofString "fault")) h:=λh l f=>zdv C (k:=17) (zic C.b C.t.t0 (k:=17) (zqf bo) hr0 rfl rfl) rfl
 generalize (zfz B).w=Wr at e11 eF
 let Bs:W:=.tup [.int B.wd,.int B.gr,.tup (B.rows.map .tup),.tup B.fd]
 let L1:List W:=[.tup [Bs,.non,.int (-1),.str (Str.ofString "board")],.tup [Wr,.non,.int (-1),.str (Str.ofString "fault")],.tup [B.w,.non,.int (-1),.str (Str.ofString "leans")]]
 let L2:List W:=[.tup [B.w,iW ls,.int B.fd.length,.str (Str.ofString "feeder")],.tup [B.w,iW ls,.int (f:Int),.str (Str.ofString "told")]]
 let h1:=h.new (.lst L1)
 let h2:=h1.new (.lst L2)
 let h3:=h2.new (.lst (L1++L2))
 have e12:ev (run F 29) (.lst r12E) (R8 c0 c2 B ls f x6 x7 x8 x9 x10 (some Wr) none) h=.ok (.ref h.n) h1:=
  lstE (ys:=L1) (consE (tupE (consE (slcE (l':=none) (u':=some 4) (varE rfl) cstE cstE rfl rfl rfl) (consE cstE (consE (negE cstE) (consE cstE nilE)))) rfl) (consE (tupE (consE (varE rfl) (consE cstE (consE (negE cstE) (consE cstE nilE)))) rfl) (consE (tupE (consE (varE rfl) (consE cstE (consE (negE cstE) (consE cstE nilE)))) rfl) nilE))) rfl
 have e13:ev (run F 29) (.lst r13E) (R8 c0 c2 B ls f x6 x7 x8 x9 x10 (some Wr) (some (.ref h.n))) h1=.ok (.ref (h.n+1)) h2:=
  lstE (ys:=L2) (consE (tupE (consE (varE rfl) (consE (varE rfl) (consE (lenE (idxE (varE rfl) cstE (show idxW _ B.w (.int 3)=some (.tup B.fd)from rfl)) rfl) (consE cstE nilE)))) rfl) (consE (tupE (consE (varE rfl) (consE (varE rfl) (consE (varE rfl) (consE cstE nilE)))) rfl) nilE)) rfl
 have ea:opW .add (.ref h.n) (.ref (h.n+1)) h2=.ok (.ref (h.n+2)) h3:=addL ((zae (h:=h1) (vbx _)).trans (zam (h:=h))) (zam (h:=h1)) (show 3+2<=1000000 by decide)
 have g3:h3.get (h.n+2)=some (.lst (L1++L2)):=zam (h:=h2)
 have lkl:LKn h3 (iW ls):=zrt C (by omega)
 have lkn:LKn h3 .non:=⟨by simp[Kn],λ_ e=>nomatch e⟩
 have hrow:∀w∈L1++L2,∃a b c z,w=.tup [a,b,c,.str z]/\PyData.strOk z=true/\run F 29 703 [a,b,c] h3=.ok (.str z) h3:=by
  intro w hw
  simp only[L1,L2,vda,vc4,vaw,vbk,vdm]at hw
  rcases hw with rfl|rfl|rfl|rfl|rfl
  .exact⟨_,_,_,_,rfl,by decide +kernel,zdv C (k:=17) (zib C.t.t0 (h:=⟨h3.n,h3.n,h3.os⟩) (zn6 C.b (k:=17) (by simp[Kn,Bs]) rfl)) rfl⟩
  .exact⟨_,_,_,_,rfl,by decide +kernel,eF _ _ _⟩
  .exact⟨_,_,_,_,rfl,by decide +kernel,zif C (k:=17) bo lkn rfl⟩
  .refine⟨_,_,_,_,rfl,by decide +kernel,zgz C (k:=17) bo lkl (zey hl bi) (by simp[Kn]) ?_⟩
   simp only[within,Bool.and_eq_false_iff,decide_eq_false_iff_not]
   right;omega
  .exact⟨_,_,_,_,rfl,by decide +kernel,zxx C (k:=17) bo hf hl bi⟩
 have eR:ev (run F 29) (.bi .all (.cons (.lc .seq (.var 12) (.many [0,1,2,3]) 4 [] (.cst (.bl true)) zcf) .nil)) (R8 c0 c2 B ls f x6 x7 x8 x9 x10 (some Wr) (some (.ref (h.n+2)))) h3=.ok (.bl true) (h3.new (.lst (vgc (L1++L2).length (.bl true)))):=
  allLc (varE rfl) (λj=>by simp only[nxt,seqW,g3,vav]) (show 5<=100000 by decide) (λρ=>∃x y z u,ρ=[x,y,z,u]) ⟨_,_,_,_,rfl⟩ λw hw ρ hq0=>by
   obtain⟨x,y,z,u,hρ⟩:=hq0
   obtain⟨a,b,c,s,rfl,hs,e⟩:=hrow w hw
   subst hρ
   exact⟨_,rfl,eqT (zfv (varE rfl) (varE rfl) (varE rfl) e) (varE rfl) hs,_,_,_,_,rfl⟩
 exact⟨_,(zaa (setE e11)).trans ((zaa (setE e12)).trans ((zaa (setE (opE (varE rfl) e13 ea))).trans (zab (retE eR))))⟩
theorem law06{ns:List Int}(hl:ns.length<=63):zcp (run F 30 704 [.fz (ns.map .int)] ⟨0,0,[]⟩)=true:=by
 rw[show(30:Nat)=29+1 from rfl,zak C.f704 rfl]
 have dk:=deck (F:=F) C.q.toCoreD (k:=28) (h:=⟨0,0,[]⟩) hl
 obtain⟨h1,e1,D1⟩:=dk
 obtain⟨r2,h2,e2,a2,b2,D2,K2⟩:=take C.q.toCoreD (k:=26) (m:=8) D1 (by decide) (by decide) (by decide)
 obtain⟨j,rfl⟩:=vau a2
 generalize hY1:[W.int 9,W.int 9,W.int 9,W.int 9,W.int 9,W.int 9,W.int 9,W.int 40]=Y1
 generalize hY2:[W.int 10,W.int 10,W.int 10,W.int 10,W.int 10,W.int 10,W.int 60,W.int 5]=Y2
 have z1:j<Y1.length:=by rw[<-hY1];exact vd8.mp b2
 have z2:j<Y2.length:=by rw[<-hY2];exact vd8.mp b2
 have z3:Y1.length<=1000:=by rw[<-hY1];exact(by decide:8<=1000)
 have z4:Y2.length<=1000:=by rw[<-hY2];exact(by decide:8<=1000)
 obtain⟨mw,m1,m2,m3⟩:∃mw:Int,Y1[j]'z1=.int mw/\1<=mw/\mw<=40:=by
  have:=vcj (l:=Y1) (n:=j) z1
  generalize Y1[j]'z1=y at this
  rw[<-hY1]at this
  simp only[vaw,vbk,vdm]at this
  rcases this with rfl|rfl|rfl|rfl|rfl|rfl|rfl|rfl<;>exact⟨_,rfl,by decide,by decide⟩
 obtain⟨mr,r1,r3,r4⟩:∃mr:Int,Y2[j]'z2=.int mr/\0<=mr/\mr<=60:=by
  have:=vcj (l:=Y2) (n:=j) z2
  generalize Y2[j]'z2=y at this
  rw[<-hY2]at this
  simp only[vaw,vbk,vdm]at this
  rcases this with rfl|rfl|rfl|rfl|rfl|rfl|rfl|rfl<;>exact⟨_,rfl,by decide,by decide⟩
 obtain⟨B,h3,e3,bo,_,_,_,D3,K3⟩:=zi1 C.q (k:=23) (mw:=mw) (mr:=mr) (mg:=8) ((D2.new (o:=.lst Y1)).new (o:=.lst Y2)) (by decide) m2 m3 r3 r4 (by decide) (by decide)
 obtain⟨g,hg⟩:=vau bo.g1
 have hg8:g<=8:=vej.mp (by rw[<-hg];exact bo.g2)
 obtain⟨fa,fb⟩:=fd6 bo.f1 bo.f2
 obtain⟨ls,h4,e4,l4,bi,D4,K4⟩:=zi5 C.q.toCoreD (k:=25) (g:=g) C.f20 D3 (by decide) hg8
 have q4:(ls.length:Int)=B.gr:=by rw[l4,hg]
 obtain⟨f,h5,e5,a5,b5,D5,K5⟩:=take C.q.toCoreD (k:=26) (m:=B.fd.length) D4 (by decide) fa fb
 obtain⟨f,rfl⟩:=vau a5
 have hf:f<B.fd.length:=vd8.mp b5
 have lo1:h1.lo<=0:=(zbt F _ _ _ _ _ _ e1).2.1
 have lo2:h2.lo<=0:=van (zbt F _ _ _ _ _ _ e2).2.1 lo1
 have lo3:h3.lo<=0:=van (zbt F _ _ _ _ _ _ e3).2.1 lo2
 have lo4:h4.lo<=0:=van (zbt F _ _ _ _ _ _ e4).2.1 lo3
 have lo5:h5.lo<=0:=van (zbt F _ _ _ _ _ _ e5).2.1 lo4
 obtain⟨h6,e6,G6⟩:=own6 C (i:=5) (ρ:=R8 (some (.fz (ns.map .int))) (some (.int (j:Int))) B ls f none none none none none none none) bo hf q4 bi (van lo5 (vbv _)) rfl rfl rfl
 have D6:Dk h6 1 0 _:=D5.gx G6.get
 have U:=zoi bo hf q4 bi
 obtain⟨f',h7,e7,a7,b7,D7,K7⟩:=take C.q.toCoreD (k:=26) (m:=B.fd.length) D6 (by decide) fa fb
 obtain⟨f',rfl⟩:=vau a7
 have hf':f'<B.fd.length:=vd8.mp b7
 have lo6:h6.lo<=0:=by rw[G6.lo];exact lo5
 have lo7:h7.lo<=0:=van (zbt F _ _ _ _ _ _ e7).2.1 lo6
 obtain⟨l,ws,h8,e8,g8,n8,ld,lc,p8,D8,K8⟩:=zt6 C (k:=24) D7 (by decide) U
 have lo8:h8.lo<=0:=van (zbt F _ _ _ _ _ _ e8).2.1 lo7
 obtain⟨h9,e9,G9⟩:=own6 C (h:=h8) (f:=f') (i:=7) (ρ:=R8 (some (.fz (ns.map .int))) (some (.int (j:Int))) B ls f (some (.tup (wayL B ls f))) (some (.int (f':Int))) none none none none none) bo hf' q4 bi (van lo8 (vbv _)) rfl rfl rfl
 have U':=zoi bo hf' q4 bi
 let k1:=h9.new (.lst [.tup (wayL B ls f'),.tup (wayL B ls f)])
 let ps:List W:=ws++[.tup (wayL B ls f'),.tup (wayL B ls f)]
 let k2:=k1.new (.lst ps)
 have K9:Keep h8 k2 1 0:=(Keep.new (Keep.new ⟨G9.le,λi o _ _ e=>G9.get i o e⟩))
 have gl:=G9.get _ _ g8
 have ea:opW .add (.ref l) (.ref h9.n) k1=.ok (.ref (h9.n+1)) k2:=addL ((zae (zas gl)).trans gl) (zam (h:=h9)) (s2 (van n8 (by decide)) (show 2<=300 by decide))
 have gp:k2.get (h9.n+1)=some (.lst ps):=zam (h:=k1)
 have way:∀{f:Nat},f<B.fd.length->∀h,P6 h (.tup (wayL B ls f)):=λhf h=>p6_of (by show 3<5000;decide) λy hy=>(zoi bo hf q4 bi).t1 hy h
 have hps:∀w∈ps,P6 k2 w:=λw hw=>by
  rcases vbl.mp hw with hw|hw
  .exact p8 w hw k2 K9
  .simp only[vaw,vbk,vdm]at hw
   rcases hw with rfl|rfl
   .exact way hf' k2
   .exact way hf k2
 have step:∀w∈ps,∀ρ,(∃y9 y10,ρ=R9 ns j B ls f f' (h9.n+1) y9 y10 none none)->
  ∃ρ1 ρ',tgW (.one 9) w k2 ρ=some ρ1/\exs (run F 29) zce ρ1 k2=.ok (.nx ρ') k2/\∃y9 y10,ρ'=R9 ns j B ls f f' (h9.n+1) y9 y10 none none:=λw hw ρ hq0=>by
  obtain⟨y9,y10,hρ⟩:=hq0
  subst hρ
  have a1:=zk0 C (k:=18) (h:=k2) bo hf q4 bi (hps w hw)
  have a2:run F 29 700 [w,.tup (wayL B ls f)] k2=.ok (.bl (weq w (wayW B ls f))) k2:=zt2 C (k:=26) (h:=k2) (hps w hw)
  refine⟨_,R9 ns j B ls f f' (h9.n+1) (some w) (some (.bl (weq w (wayW B ls f)))) none none,rfl,?_,_,_,rfl⟩
  refine(zaa (setE (zfw (varE rfl) (varE rfl) (varE rfl) (varE rfl) a1))).trans ?_
  refine(zaa (ρ':=R9 ns j B ls f f' (h9.n+1) (some w) (some (.bl (weq w (wayW B ls f)))) none none) (h':=k2) ?_).trans rfl
  have c1:ev (run F 29) (.isi .bool (.var 10)) (R9 ns j B ls f f' (h9.n+1) (some w) (some (.bl (weq w (wayW B ls f)))) none none) k2=.ok (.bl true) k2:=by
   rw[ev,varE rfl,bindok];rfl
  exact(iteF (orF (notT c1) (neF (varE rfl) (za5 (varE rfl) (varE rfl) a2) rfl))).trans rfl
 obtain⟨ρ',ef,⟨y9,y10,rfl⟩⟩:=zka (nx:=nxt .seq (.ref (h9.n+1))) (tg:=tgW (.one 9)) (bd:=exs (run F 29) zce) (ws:=ps) (h:=k2) _ (λi=>by simp only[nxt,seqW,gp,vav]) step ps.length 0 fuel _ (Nat.zero_add _) (by show(ws++_).length<fuel;rw[vaj];exact va6 (vdd n8 (show 2<=2 by decide)) (by decide)) ⟨none,none,rfl⟩
 obtain⟨hz,ez⟩:=rows6 C (h:=k2) (c0:=some (.fz (ns.map .int))) (c2:=some (.int (j:Int))) (x6:=some (.tup (wayL B ls f))) (x7:=some (.int (f':Int))) (x8:=some (.ref (h9.n+1))) (x9:=y9) (x10:=y10) bo hf q4 bi
 have eb:exs (run F 29) zcz.body [some (.fz (ns.map .int)),none,none,none,none,none,none,none,none,none,none,none,none] ⟨0,0,[]⟩=.ok (.rt (.bl true)) hz:=by
  unfold zcz
  refine(zaa (setE (zfu (varE rfl) e1))).trans ?_
  refine(zaa (setE (za5 (varE rfl) cstE e2))).trans ?_
  refine(zaa (setE (zfw (varE rfl) (itemE (ys:=Y1) (j:=j) (h1:=h2) (by rw[<-hY1];exact consE cstE (consE cstE (consE cstE (consE cstE (consE cstE (consE cstE (consE cstE (consE cstE nilE)))))))) z3 rfl z1) (itemE (ys:=Y2) (j:=j) (h1:=h2.new (.lst Y1)) (by rw[<-hY2];exact consE cstE (consE cstE (consE cstE (consE cstE (consE cstE (consE cstE (consE cstE (consE cstE nilE)))))))) z4 rfl z2) cstE (by rw[m1,r1];exact e3)))).trans ?_
  refine(zaa (setE (za5 (varE rfl) (idxE (varE rfl) cstE (show idxW _ B.w (.int 1)=some (.int (g:Int)) by rw[<-hg];rfl)) e4))).trans ?_
  refine(zaa (setE (za5 (varE rfl) (lenE (idxE (varE rfl) cstE (show idxW _ B.w (.int 3)=some (.tup B.fd)from rfl)) rfl) e5))).trans ?_
  refine(zaa (setE e6)).trans ?_
  refine(zaa (setE (za5 (varE rfl) (lenE (idxE (varE rfl) cstE (show idxW _ B.w (.int 3)=some (.tup B.fd)from rfl)) rfl) e7))).trans ?_
  refine(zaa (setE (opE (za5 (varE rfl) (varE rfl) e8) (lstE (ys:=[.tup (wayL B ls f'),.tup (wayL B ls f)]) (consE e9 (consE (varE rfl) nilE)) rfl) ea))).trans ?_
  refine(zaa (ρ':=R9 ns j B ls f f' (h9.n+1) y9 y10 none none) (h':=k2) ?_).trans ez
  rw[exs,varE rfl,bindok]
  exact ef
 show zcp (fin ⟨0,0,[]⟩ (exs (run F 29) zcz.body [some (.fz (ns.map .int)),none,none,none,none,none,none,none,none,none,none,none,none] ⟨0,0,[]⟩))=true
 rw[eb]
 obtain⟨h11,e11⟩:=ztz (h:=⟨0,0,[]⟩) (h':=hz) (w:=.bl true)
 rw[e11]
 rfl
end
end RF
namespace HD
open PySem PySem.W PySem.Calls PyProof.Rows
noncomputable section
noncomputable def p:Program:=PySem.Challenge.pw_ballrockers_k06_ways_held
noncomputable abbrev S(x:String):Str:=Str.ofString x
noncomputable abbrev U(x:String)(t:Tok):Value:=Value.str (S x) t
noncomputable abbrev R(a:Addr):Value:=Value.ref a
noncomputable abbrev I(i:Int)(t:Tok):Value:=Value.int i t
noncomputable abbrev E(P:Params)(x:String)(t:Tok)(v:Value):DictEntry:=DictEntry.mk (PyData.keyHash P (S x)) (Value.str (S x) t) v
noncomputable abbrev N(o:Obj)(l r:BT):BT:=BT.node o l r
noncomputable abbrev Z:BT:=BT.nil
noncomputable abbrev L(o:Obj):BT:=BT.node o Z Z
noncomputable abbrev Y(c:String)(d:Data):Obj:=Obj.mk (Value.type c) none d #[]
noncomputable abbrev X(d:Data):Obj:=Obj.mk Value.none none d #[]
noncomputable def atN(l:List Stmt)(i:Nat):Stmt:=l.getD i (Stmt.Pass ⟨0,0,0,0⟩)
noncomputable def fbS:Stmt->List Stmt
 |.FunctionDef _ _ b _ _ _ _ _ _ _=>b
 |.ClassDef _ _ _ b _ _ _ _ _ _ _=>b
 |_=>[]
noncomputable def faS:Stmt->Arguments
 |.FunctionDef _ a _ _ _ _ _ _ _ _=>a
 |_=>⟨[],[],none,[],[],none,[]⟩
noncomputable def fsS:Stmt->Scope
 |.FunctionDef _ _ _ _ _ _ s _ _ _=>s
 |_=>p.main.scope
noncomputable def fb(i:Nat):List Stmt:=fbS (atN p.main.body i)
noncomputable def fa(i:Nat):Arguments:=faS (atN p.main.body i)
noncomputable def fs(i:Nat):Scope:=fsS (atN p.main.body i)
noncomputable def cb(i j:Nat):List Stmt:=fbS (atN (fb i) j)
noncomputable def ca(i j:Nat):Arguments:=faS (atN (fb i) j)
noncomputable def cs(i j:Nat):Scope:=fsS (atN (fb i) j)
noncomputable abbrev O:Value:=Value.none
noncomputable abbrev J(i:Int):Value:=Value.int i 0
noncomputable abbrev V(t:Tok):Value:=Value.str (S "/claim/cut.py") t
noncomputable abbrev A(l:Array Value):Data:=Data.fields l
noncomputable abbrev B(f:FuncData):Data:=Data.func f
noncomputable abbrev G(x:String)(i:Nat)(g:Addr)(c:List (Str×Addr))(d k o m:Value)(n:Option Addr)(cd ct:Value)(b:Addr):FuncData:=FuncData.mk (S x) (S x) (fa i) (FuncBody.stmts (fb i)) (fs i) g c d k o m n cd ct b
section
variable(P:Params)
noncomputable def N0:Nat:=10024
noncomputable def lo:List Str:=[S "fallen",S "heading_behind"]
noncomputable def keep:List Nat:=[1,2,3,4,5,6,7,8,9,10,11,12,13,14,15,16,17,19,20,21,22,23,25,26,27,28,29,30,31,32,33,34,35,36,37,38,39,40,42,43,44,45,46,50,51,52,53,54,55,56,57,58,59,60,61,62,63,64,65,66,67,68]
noncomputable def life:Life:=(Life.mk [] [] [] 0 [] [] false #[] [] 0 false false false 0 [2000,10,10] false 0 true [] [] 0 false)
noncomputable def m0:Nat:=11
noncomputable def ann:Option Value:=(some (R 6))
noncomputable def env:Env:={scope:=p.main.scope,locals:=mainNs,globals:=mainNs,cells:=[],code:=(R 13),frame:=some 14}
noncomputable def bd:List Stmt:=behindTheImports p
noncomputable def cd:Code:=Code.body bd env
noncomputable def fr:List Frame:=[topFrame (Pos.mk 0 0 0 0)]
noncomputable abbrev qC(n:String)(t:Nat)(l k:Int)(r m:Nat):Obj:=Y "code" (A #[U n t,U n (t+1),V (t+2),J l,J k,J 0,J 0,J 3,R r,Value.bool true,J 181,R (r+1),O,R (r+2),R (r+3),R (r+4),J (Int.ofNat m),J l,V (m+1)])
noncomputable abbrev qD(n:String)(t:Nat)(l k:Int)(r m:Nat):Obj:=Y "code" (A #[U n t,U n (t+1),V (t+2),J l,J k,J 0,J 0,J 3,R r,Value.bool true,J 181,R (r+1),O,O,O,R (r+2),J (Int.ofNat m),J l,V (m+1)])
noncomputable def qU:Nat->List String->List Value
 |_,[]=>[]
 |t,x::r=>U x t::qU (t+1) r
noncomputable abbrev qT(t:Nat)(l:List String):Obj:=Y "tuple" (Data.seq (qU t l).toArray 0)
noncomputable abbrev qF(n:String)(i:Nat)(u:Value)(r:Addr):Obj:=Y "function" (B (G n i 3 [] O O O u none (R r) O 0))
noncomputable abbrev qG(n:String)(i:Nat):Obj:=X (B (G n i 0 [] O O O O none O O 0))
noncomputable def qJ:List (Int×Nat)->List Value
 |[]=>[]
 |(a,b)::r=>J a::J 0::R b::qJ r
noncomputable def qO:List Obj->List Obj
 |x::_::r=>x::qO r
 |x=>x
noncomputable def qE:List Obj->List Obj
 |_::y::r=>y::qE r
 |_=>[]
noncomputable def qB:Nat->List Obj->BT
 |f+1,x::r=>N x (qB f (qO r)) (qB f (qE r))
 |_,_=>Z
 def a0:=(Y "tuple" (Data.seq #[] 0))
 def a1:=(X (A #[]))
 abbrev qN(n:String)(i t:Nat)(l k:Int)(r:Nat)(u:Value):List Obj:=[a0,a1,qG n i,qD n t l k r (t+3),qF n i u (r+3)]
 abbrev qM(n:String)(i t:Nat)(s:List String)(l k:Int)(r:Nat)(u:Value):List Obj:=[a0,a1,qT (t+3) s,a0,qG n i,qC n t l k r (t+3+s.length),qF n i u (r+5)]
 def a2:=(Y "code" (A #[(U "<module>" 182),(U "<module>" 183),(V 184),(J 1),(J 0),(J 0),(J 0),(J 0),(R 11),(Value.bool false),(J 181),(R 12),O,O,O,O,(J 185),(J 1),(V 186)]))
 def a3:=(Obj.mk (Value.type "frame") none Data.plain #[(some (R 13)),(some (R 3)),(some (R 3)),none,(some (U "__main__" 164)),none,(some (R 0))])
 def ha:Heap:=Heap.mk (Array.mk [(boot_o_0 P),(boot_o_1 P),(boot_o_2 P),(boot_o_3 P),(boot_o_4 P),(boot_o_5 P),(boot_o_6 P),(boot_o_7 P),(boot_o_8 P),(boot_o_9 P),(boot_o_10 P),a0,a1,a2,a3]) (Life.mk [] [] [] 0 [] [] false #[] [] 0 false false false 0 [2000,10,10] false 0 true [] [] 0 false)
noncomputable def sa(w:World)(os:OsState):Shared:=⟨ha w.params,(Array.mk []),(Drawn.mk 0 0 0 0),187,os⟩
theorem seg_q{w:World}{n:Nat}{s s':SharedT}{l:List Stmt}{pos pos':Pos}(h:PySem.W.Fast.tw10110043849684766642 PySem.W.Fast.tw14364793385576792824 p w m0 ann 1 n s (piecesOf l env cd pos fr)=some (.next,s',cd,pos')) :
 segRun treeTable p w m0 ann 1 n s.abs (piecesOf l env cd pos fr)=some (.next,s'.abs,cd,pos'):=
 segRun_of (by rw[PySem.W.Fast.te10110043849684766642,vce];exact h)
theorem pre_q{w:World}{n:Nat}{s s':Shared}{pos:Pos}(h:PySem.W.Fast.tw15667345088766844465 PySem.W.Fast.tw14364793385576792824 p w m0 ann n s (topStub p)=some (s',⟨PySem.W.Fast.tw11892475500146522536 PySem.W.Fast.tw14364793385576792824 cd,cd,pos,fr⟩)) :
 topGo treeTable p w m0 ann n s (topStub p)=some (s',⟨denote treeTable cd,cd,pos,fr⟩):=by
 rw[PySem.W.Fast.te15667345088766844465,vce,PySem.W.Fast.te11892475500146522536];exact h
theorem zt7{w:World}{n:Nat}{s s':Shared}{pos pos':Pos}(h:PySem.W.Fast.tw14374325043358763698 PySem.W.Fast.tw14364793385576792824 p w m0 ann 1 n s (blockOf bd env cd pos fr)=some (.next,s',cd,pos')) :
 segRun treeTable p w m0 ann 1 n s (blockOf bd env cd pos fr)=some (.next,s',cd,pos'):=by
 rw[PySem.W.Fast.te14374325043358763698,vce];exact h
theorem fin_q{w:World}{n:Nat}{s s':Shared}{pos:Pos}(h:PySem.W.Fast.tw14082659384304107361 PySem.W.Fast.tw14364793385576792824 p w m0 ann n s ⟨doneF .next,cd,pos,fr⟩=some s') :
 topRun treeTable p w m0 ann n s ⟨doneF .next,cd,pos,fr⟩=some s':=by
 rw[PySem.W.Fast.te14082659384304107361,vce];exact h
set_option maxHeartbeats 0 in
theorem pre(w:World)(os:OsState):topGo treeTable p w m0 ann 12 ⟨boot_heap w.params,Array.mk [],boot_drawn,boot_toks,os⟩ (topStub p)=some (sa w os,⟨denote treeTable cd,cd,(Pos.mk 0 0 0 0),fr⟩):=pre_q (by kernel_rfl)
 def vtb:List Obj:=[(boot_o_0 P),(boot_o_1 P),(boot_o_2 P),(boot_o_3 P),(boot_o_4 P),(boot_o_5 P),(boot_o_6 P),(boot_o_7 P),(boot_o_8 P),(boot_o_9 P),(boot_o_10 P),a0,a1,a2,a3]
 def tb:=qB 20 (vtb P)
noncomputable def sb(w:World)(os:OsState):SharedT:=⟨tb w.params,15,life,(Array.mk []),(Drawn.mk 0 0 0 0),187,os⟩
set_option maxHeartbeats 0 in
theorem block(w:World)(os:OsState):segRun treeTable p w m0 ann 1 1 (sa w os) (blockOf bd env cd (Pos.mk 0 0 0 0) fr)=some (.next,(sb w os).abs,cd,(Pos.mk 0 0 0 0)):=zt7 (by kernel_rfl)
 def ea4:=[(E P "__doc__" 166 O),(E P "__package__" 167 O),(E P "__loader__" 168 (Value.builtin "__main__.__loader__#opaque")),(E P "__spec__" 169 O),(E P "__annotations__" 170 (R 6)),(E P "__builtins__" 171 (R 4)),(E P "__file__" 173 (V 172)),(E P "__cached__" 174 O),(E P "BoardError" 206 (R 24)),(E P "NoBoard" 222 (R 37)),(E P "Fault" 249 (R 56)),(E P "NoLeans" 265 (R 68)),(E P "NoStand" 281 (R 80)),(E P "NoFeeder" 297 (R 92))]
 def a4:=Y "dict" (Data.dict ((E P "__name__" 165 (U "ballrockers.errors" 187))::ea4 P).toArray 15)
 def ja5:List (Int×Nat):=[(2,20),(4,33),(6,45),(11,64),(13,76),(15,88)]
 def a5:=X (A (qJ ja5).toArray)
 def a6:=(Y "tuple" (Data.seq #[(Value.type "ValueError")] 0))
 def a7:=(Y "builtin_function_or_method" (A #[(Value.builtin "type.__prepare__"),(Value.type "type")]))
 def a8:=(Y "dict" (Data.dict #[(E P "__module__" 196 (U "ballrockers.errors" 187)),(E P "__qualname__" 198 (U "BoardError" 197)),(E P "__firstlineno__" 200 (I 2 199)),(E P "__static_attributes__" 201 (R 22))] 4))
 def a9:=(Y "code" (A #[(U "BoardError" 191),(U "BoardError" 192),(V 193),(J 2),(J 0),(J 0),(J 0),(J 0),(R 18),(Value.bool false),(J 181),(R 19),O,O,O,O,(J 194),(J 2),(V 195)]))
 def a10:=(Obj.mk (Value.type "frame") none Data.plain #[(some (R 20)),(some (R 3)),(some (R 17)),none,(some (U "ballrockers.errors" 187)),none,(some (R 0))])
 def a11:=(Y "dict" (Data.dict #[(E P "__module__" 196 (U "ballrockers.errors" 187)),(E P "__firstlineno__" 200 (I 2 199)),(E P "__static_attributes__" 201 (R 22)),(E P "__weakref__" 203 (R 25)),(E P "__doc__" 204 O)] 3))
 def qR(l:List Nat):Obj:=(Obj.mk (Value.type "type") none (Data.cls (ClassData.mk (S "BoardError") [(Value.type "ValueError")] [(R 24),(Value.type "ValueError"),(Value.type "Exception"),(Value.type "BaseException"),(Value.type "object")] 23 (S "BoardError") true [] (l.map λi=>R i) false none false)) #[(some (R 15)),none,(some (U "BoardError" 189)),(some (U "BoardError" 197)),(some (Value.builtin "ValueError.__new__")),(some (Value.bool true))])
 def a12:=qR [37,56,68,80,92]
 def a13:=(Y "getset_descriptor" (A #[(U "__weakref__" 202),(R 24),(Value.builtin "ExceptionGroup.__weakref__"),O]))
 def a14:=(Y "super" (A #[(R 24),(R 24),(R 24)]))
 def a15:=(Y "builtin_function_or_method" (A #[(Value.builtin "object.__init_subclass__"),(R 24)]))
 def a16:=(Y "tuple" (Data.seq #[(R 24)] 0))
 def a24:=(Y "dict" (Data.dict #[(E P "__module__" 230 (U "ballrockers.errors" 187)),(E P "__qualname__" 232 (U "Fault" 231)),(E P "__firstlineno__" 234 (I 6 233)),(E P "__init__" 243 (R 53)),(E P "__static_attributes__" 246 (R 54))] 5))
 def a25:=(X (A #[(J 8),(J 4),(R 52)]))
 def a26:=(Y "code" (A #[(U "Fault" 225),(U "Fault" 226),(V 227),(J 6),(J 0),(J 0),(J 0),(J 0),(R 43),(Value.bool false),(J 181),(R 44),O,O,O,O,(J 228),(J 6),(V 229)]))
 def a27:=(Obj.mk (Value.type "frame") none Data.plain #[(some (R 45)),(some (R 3)),(some (R 42)),none,(some (U "ballrockers.errors" 187)),none,(some (R 0))])
 def a28:=qT 238 ["self","row","column"]
 def a29:=(X (B (FuncData.mk (S "__init__") (S "Fault.__init__") (ca 3 0) (FuncBody.stmts (cb 3 0)) (cs 3 0) 0 [] O O O O none O O 0)))
 def a30:=(Y "code" (A #[(U "__init__" 235),(U "Fault.__init__" 236),(V 237),(J 8),(J 3),(J 0),(J 0),(J 3),(R 47),(Value.bool true),(J 181),(R 48),O,(R 49),(R 50),(R 51),(J 241),(J 8),(V 242)]))
 def a31:=(Y "function" (B (FuncData.mk (S "__init__") (S "Fault.__init__") (ca 3 0) (FuncBody.stmts (cb 3 0)) (cs 3 0) 3 [] O O O (U "ballrockers.errors" 187) none (R 52) O 0)))
 def a32:=qT 244 ["column","row"]
 def a33:=(Y "dict" (Data.dict #[(E P "__module__" 230 (U "ballrockers.errors" 187)),(E P "__firstlineno__" 234 (I 6 233)),(E P "__init__" 243 (R 53)),(E P "__static_attributes__" 246 (R 54)),(E P "__doc__" 247 O)] 2))
 def a34:=(Obj.mk (Value.type "type") none (Data.cls (ClassData.mk (S "Fault") [(R 24)] [(R 56),(R 24),(Value.type "ValueError"),(Value.type "Exception"),(Value.type "BaseException"),(Value.type "object")] 55 (S "Fault") true [] [] false none false)) #[(some (R 40)),none,(some (U "Fault" 223)),(some (U "Fault" 231)),(some (Value.builtin "ValueError.__new__")),(some (Value.bool true))])
 def a35:=(Y "super" (A #[(R 56),(R 56),(R 56)]))
 def a36:=(Y "builtin_function_or_method" (A #[(Value.builtin "object.__init_subclass__"),(R 56)]))
 def qK(n:String)(t:Nat)(l:Int)(b:Nat):List Obj:=[a16,a7,Y "dict" (Data.dict #[E P "__module__" (t+7) (U "ballrockers.errors" 187),E P "__qualname__" (t+9) (U n (t+8)),E P "__firstlineno__" (t+11) (I l (t+10)),E P "__static_attributes__" (t+12) (R (b+7))] 4),a0,a1,Y "code" (A #[U n (t+2),U n (t+3),V (t+4),J l,J 0,J 0,J 0,J 0,R (b+3),Value.bool false,J 181,R (b+4),O,O,O,O,J (Int.ofNat (t+5)),J l,V (t+6)]),Obj.mk (Value.type "frame") none Data.plain #[some (R (b+5)),some (R 3),some (R (b+2)),none,some (U "ballrockers.errors" 187),none,some (R 0)],a0,Y "dict" (Data.dict #[E P "__module__" (t+7) (U "ballrockers.errors" 187),E P "__firstlineno__" (t+11) (I l (t+10)),E P "__static_attributes__" (t+12) (R (b+7)),E P "__doc__" (t+13) O] 2),Obj.mk (Value.type "type") none (Data.cls (ClassData.mk (S n) [R 24] [R (b+9),R 24,Value.type "ValueError",Value.type "Exception",Value.type "BaseException",Value.type "object"] (b+8) (S n) true [] [] false none false)) #[some (R b),none,some (U n t),some (U n (t+8)),some (Value.builtin "ValueError.__new__"),some (Value.bool true)],Y "super" (A #[R (b+9),R (b+9),R (b+9)]),Y "builtin_function_or_method" (A #[Value.builtin "object.__init_subclass__",R (b+9)])]
 def vt0:List Obj:=((vtb P).set 3 (a4 P)).set 12 a5++([a6,a7,(a8 P),a0,a1,a9,a10,a0,(a11 P),a12,a13,a14,a15]++(qK P "NoBoard" 207 4 28++([a16,a7,(a24 P),a0,a25,a26,a27,a0,a1,a28,a0,a29,a30,a31,a32,(a33 P),a34,a35,a36]++(qK P "NoLeans" 250 11 59++(qK P "NoStand" 266 13 71++(qK P "NoFeeder" 282 15 83))))))
 def t0:=qB 20 (vt0 P)
noncomputable def s0(w:World)(os:OsState):SharedT:=⟨t0 w.params,95,life,(Array.mk []),(Drawn.mk 0 0 0 0),298,os⟩
noncomputable def st0:List Stmt:=(bd.drop 0).take 7
set_option maxHeartbeats 0 in
theorem seg0(w:World)(os:OsState):segRun treeTable p w m0 ann 1 1295 (sb w os).abs (piecesOf st0 env cd (Pos.mk 0 0 0 0) fr)=some (.next,(s0 w os).abs,cd,(Pos.mk 15 0 16 8)):=seg_q (by kernel_rfl)
 def ea58:=(ea4 P++[(E P "NoRow" 313 (R 104)),(E P "NoNumber" 329 (R 116)),(E P "NoFit" 345 (R 128)),(E P "TooGreat" 361 (R 140)),(E P "NoMachine" 377 (R 152)),(E P "NoWord" 393 (R 164)),(E P "NoFault" 409 (R 176))])
 def a58:=Y "dict" (Data.dict ((E P "__name__" 165 (U "ballrockers.errors" 187))::ea58 P).toArray 22)
 def ja59:List (Int×Nat):=ja5++[(17,100),(19,112),(21,124),(23,136),(25,148),(27,160),(29,172)]
 def a59:=X (A (qJ ja59).toArray)
 def a60:=qR [37,56,68,80,92,104,116,128,140,152,164,176]
 def vt1:List Obj:=(((vt0 P).set 3 (a58 P)).set 12 a59).set 24 a60++(qK P "NoRow" 298 17 95++(qK P "NoNumber" 314 19 107++(qK P "NoFit" 330 21 119++(qK P "TooGreat" 346 23 131++(qK P "NoMachine" 362 25 143++(qK P "NoWord" 378 27 155++(qK P "NoFault" 394 29 167)))))))
 def t1:=qB 20 (vt1 P)
noncomputable def s1(w:World)(os:OsState):SharedT:=⟨t1 w.params,179,life,(Array.mk []),(Drawn.mk 0 0 0 0),410,os⟩
noncomputable def st1:List Stmt:=(bd.drop 7).take 7
set_option maxHeartbeats 0 in
theorem seg1(w:World)(os:OsState):segRun treeTable p w m0 ann 1 1492 (s0 w os).abs (piecesOf st1 env cd (Pos.mk 15 0 16 8) fr)=some (.next,(s1 w os).abs,cd,(Pos.mk 29 0 30 8)):=seg_q (by kernel_rfl)
 def ea110 := (ea58 P ++ [(E P "NoNames" 425 (R 188)), (E P "NoText" 441 (R 200)), (E P "NoSaying" 457 (R 212)), (E P "NoName" 473 (R 224)), (E P "is_whole" 482 (R 233)), (E P "is_whole_within" 491 (R 240)), (E P "is_tuple_within" 500 (R 247)), (E P "are_wholes_within" 512 (R 254)), (E P "is_just" 518 (R 259)), (E P "MOST_COLUMNS" 522 (I 40 521)), (E P "MOST_ROWS" 524 (I 60 523)), (E P "MOST_GROUPS" 526 (I 8 525)), (E P "MOST_FEEDERS" 528 (I 4 527)), (E P "MOST_NAME" 530 (I 99 529)), (E P "look_at_board" 544 (R 266)), (E P "is_leans" 552 (R 273)), (E P "look_at_leans" 560 (R 280)), (E P "is_board_but_for_places" 572 (R 287)), (E P "are_rows" 581 (R 294)), (E P "are_doors" 591 (R 301)), (E P "is_door" 601 (R 308)), (E P "is_feeder_or_none" 609 (R 315)), (E P "may_stand" 619 (R 322)), (E P "is_rocker" 629 (R 329)), (E P "are_leans" 637 (R 336)), (E P "LEFT" 642 (I (-1) 641)), (E P "STRAIGHT" 644 (I 0 643)), (E P "RIGHT" 646 (I 1 645)), (E P "way_holds" 656 (R 343))])
 def a110:=Y "dict" (Data.dict ((E P "__name__" 165 (U "ballrockers.ways" 638))::ea110 P).toArray 51)
 def ja111:List (Int×Nat):=ja59++[(31,184),(33,196),(35,208),(37,220),(40,232),(42,239),(44,246),(46,253),(53,258),(65,265),(73,272),(76,279),(79,286),(88,293),(95,300),(102,307),(107,314),(109,321),(117,328),(122,335),(128,342)]
 def a111:=X (A (qJ ja111).toArray)
 def a112:=qR [37,56,68,80,92,104,116,128,140,152,164,176,188,200,212,224]
 def u474:=U "ballrockers.whole" 474
 def u519:=U "ballrockers.boards" 519
 def a204:=qT 650 ["board","leans","feeder","paper"]
 def a205 := qG "way_holds" 45
 def a206 := qC "way_holds" 647 128 4 337 654
 def a207 := qF "way_holds" 45 (U "ballrockers.ways" 638) 342
 def vt2:List Obj:=(((vt1 P).set 3 (a110 P)).set 12 a111).set 24 a112++(qK P "NoNames" 410 31 179++(qK P "NoText" 426 33 191++(qK P "NoSaying" 442 35 203++(qK P "NoName" 458 37 215++(qM "is_whole" 19 476 ["thing"] 40 1 227 u474++(qM "is_whole_within" 20 483 ["thing","low","high"] 42 3 234 u474++(qM "is_tuple_within" 21 492 ["thing","fewest","most"] 44 3 241 u474++(qM "are_wholes_within" 22 501 ["thing","fewest","most","low","high","number"] 46 5 248 u474++(qN "is_just" 23 513 53 2 255 u474++(qM "look_at_board" 30 531 ["board","width","groups","rows","row","places","column","piece"] 65 1 260 u519++(qM "is_leans" 31 545 ["board","thing"] 73 2 267 u519++(qM "look_at_leans" 32 553 ["board","thing"] 76 2 274 u519++(qM "is_board_but_for_places" 33 561 ["board","width","groups","rows","feeders","doors"] 79 1 281 u519++(qM "are_rows" 34 573 ["thing","width","places"] 88 2 288 u519++(qM "are_doors" 35 582 ["thing","width","feeders","door"] 95 3 295 u519++(qM "is_door" 36 592 ["thing","feeders","name","call"] 102 2 302 u519++(qM "is_feeder_or_none" 37 602 ["thing","feeders"] 107 2 309 u519++(qM "may_stand" 38 610 ["piece","column","width","groups"] 109 4 316 u519++(qM "is_rocker" 39 620 ["thing","groups","group","side"] 117 2 323 u519++(qM "are_leans" 40 630 ["thing","groups"] 122 2 330 u519++([a0,a1,a204,a0,a205,a206,a207])))))))))))))))))))))
 def t2:=qB 20 (vt2 P)
noncomputable def s2(w:World)(os:OsState):SharedT:=⟨t2 w.params,344,life,(Array.mk []),(Drawn.mk 0 0 0 0),657,os⟩
noncomputable def st2:List Stmt:=(bd.drop 14).take 32
set_option maxHeartbeats 0 in
theorem seg2(w:World)(os:OsState):segRun treeTable p w m0 ann 1 1489 (s1 w os).abs (piecesOf st2 env cd (Pos.mk 29 0 30 8) fr)=some (.next,(s2 w os).abs,cd,(Pos.mk 128 0 130 55)):=seg_q (by kernel_rfl)
 def ea208:=(ea110 P++[(E P "look_at_feeder" 665 (R 350)),(E P "fallen" 682 (R 358)),(E P "heading_behind" 695 (R 366)),(E P "_law_cell" 705 (R 373)),(E P "_law_mixed" 715 (R 380)),(E P "_law_deck" 721 (R 385)),(E P "_law_take" 730 (R 392)),(E P "_law_piece" 742 (R 399)),(E P "_law_row" 748 (R 404)),(E P "_law_door" 758 (R 411)),(E P "_law_board" 764 (R 416)),(E P "_law_leans" 770 (R 421)),(E P "_law_fall" 785 (R 428)),(E P "_law_number" 793 (R 435)),(E P "_law_numbers" 799 (R 440)),(E P "_law_kinds" 807 (R 447)),(E P "_law_word" 815 (R 454)),(E P "_law_is_way" 821 (R 459)),(E P "_law_spoiled" 833 (R 466)),(E P "_law_others" 839 (R 471)),(E P "_law_told" 849 (R 478)),(E P "law" 855 (R 483))])
 def a208:=Y "dict" (Data.dict ((E P "__name__" 165 (U "law_ballrockers_k06_ways_held" 696))::ea208 P).toArray 73)
 def ja209:List (Int×Nat):=ja111++[(131,349),(135,357),(151,365),(166,372),(170,379),(173,384),(175,391),(184,398),(194,403),(196,410),(202,415),(209,420),(211,427),(229,434),(231,439),(235,446),(241,453),(246,458),(250,465),(264,470),(271,477),(277,482)]
 def a209:=X (A (qJ ja209).toArray)
 def a210:=qT 660 ["board","leans","thing"]
 def a211:=qG "look_at_feeder" 46
 def a212:=qC "look_at_feeder" 657 131 3 344 663
 def a213:=qF "look_at_feeder" 46 (U "ballrockers.ways" 638) 349
 def a214:=(Y "tuple" (Data.seq #[O] 0))
 def a215:=qT 669 ["board","leans","feeder","fault","column","columns","turned","leaning","heading","places","piece"]
 def a216:=qG "fallen" 47
 def a217:=qC "fallen" 666 135 4 352 680
 def a218:=(Y "function" (B (G "fallen" 47 3 [] (R 351) O O (U "ballrockers.ways" 638) none (R 357) O 0)))
 def a219:=qT 686 ["piece","heading","leaning","fault","group","side","lean"]
 def a220:=qG "heading_behind" 48
 def a221:=qC "heading_behind" 683 151 4 360 693
 def a222:=(Y "function" (B (G "heading_behind" 48 3 [] (R 359) O O (U "ballrockers.ways" 638) none (R 365) O 0)))
 def u696:=U "law_ballrockers_k06_ways_held" 696
 def vt3:List Obj:=((vt2 P).set 3 (a208 P)).set 12 a209++([a0,a1,a210,a0,a211,a212,a213,a214,a0,a1,a215,a0,a216,a217,a218,a214,a0,a1,a219,a0,a220,a221,a222]++(qM "_law_cell" 50 698 ["_law_script","_law_k"] 166 2 367 u696++(qM "_law_mixed" 51 706 ["_law_script","_law_k","_law_many","_law_number_here"] 170 3 374 u696++(qN "_law_deck" 52 716 173 1 381 u696++(qM "_law_take" 53 722 ["_law_deck_here","_law_many","_law_cell_here"] 175 2 386 u696++(qM "_law_piece" 54 731 ["_law_deck_here","_law_column","_law_width","_law_groups","_law_kind","_law_piece_here"] 184 4 393 u696++(qN "_law_row" 55 743 194 3 400 u696++(qM "_law_door" 56 749 ["_law_deck_here","_law_feeders","_law_name","_law_call"] 196 2 405 u696++(qN "_law_board" 57 759 202 4 412 u696++(qN "_law_leans" 58 765 209 2 417 u696)++(qM "_law_fall" 59 771 ["_law_board_here","_law_leans_here","_law_feeder","_law_column","_law_columns","_law_turned","_law_came","_law_row_here","_law_piece_here"] 211 3 422 u696++(qM "_law_number" 60 786 ["_law_found","_law_due"] 229 2 429 u696++(qN "_law_numbers" 61 794 231 2 436 u696++(qM "_law_kinds" 62 800 ["_law_e","_law_found"] 235 1 441 u696++(qM "_law_word" 63 808 ["_law_e","_law_words"] 241 1 448 u696++(qN "_law_is_way" 64 816 246 2 455 u696++(qM "_law_spoiled" 65 822 ["_law_deck_here","_law_row_here","_law_kind","_law_at","_law_old","_law_odd"] 250 2 460 u696++(qN "_law_others" 66 834 264 2 467 u696++(qM "_law_told" 67 840 ["_law_board_here","_law_leans_here","_law_feeder","_law_e"] 271 3 472 u696++(qN "law" 68 850 277 1 479 u696)))))))))))))))))))
 def t3:=qB 20 (vt3 P)
noncomputable def s3(w:World)(os:OsState):SharedT:=⟨t3 w.params,484,life,(Array.mk []),(Drawn.mk 0 0 0 0),856,os⟩
noncomputable def st3:List Stmt:=(bd.drop 46).take 23
set_option maxHeartbeats 0 in
theorem seg3(w:World)(os:OsState):segRun treeTable p w m0 ann 1 677 (s2 w os).abs (piecesOf st3 env cd (Pos.mk 128 0 130 55) fr)=some (.next,(s3 w os).abs,cd,(Pos.mk 277 0 293 141)):=seg_q (by kernel_rfl)
 def hz:Heap:=Heap.mk (Array.mk (vt3 P)) (Life.mk [] [] [] 0 [] [] false #[] [] 0 false false false 0 [2000,10,10] false 0 true [] [] 0 false)
noncomputable def sz(w:World)(os:OsState):Shared:=⟨hz w.params,(Array.mk []),(Drawn.mk 0 0 0 0),856,os⟩
set_option maxHeartbeats 0 in
theorem fin(w:World)(os:OsState):topRun treeTable p w m0 ann 2 (s3 w os).abs ⟨doneF .next,cd,(Pos.mk 277 0 293 141),fr⟩=some (sz w os):=fin_q (by kernel_rfl)
 def as:List Addr:=[2,3,15,22,23,24,25,28,35,36,37,40,47,49,50,52,53,54,55,56,59,66,67,68,71,78,79,80,83,90,91,92,95,102,103,104,107,114,115,116,119,126,127,128,131,138,139,140,143,150,151,152,155,162,163,164,167,174,175,176,179,186,187,188,191,198,199,200,203,210,211,212,215,222,223,224,227,229,230,232,233,234,236,237,239,240,241,243,244,246,247,248,250,251,253,254,255,258,259,260,262,263,265,266,267,269,270,272,273,274,276,277,279,280,281,283,284,286,287,288,290,291,293,294,295,297,298,300,301,302,304,305,307,308,309,311,312,314,315,316,318,319,321,322,323,325,326,328,329,330,332,333,335,336,337,339,340,342,343,344,346,347,349,350,351,352,354,355,357,358,359,360,362,363,365,366,367,369,370,372,373,374,376,377,379,380,381,384,385,386,388,389,391,392,393,395,396,398,399,400,403,404,405,407,408,410,411,412,415,416,417,420,421,422,424,425,427,428,429,431,432,434,435,436,439,440,441,443,444,446,447,448,450,451,453,454,455,458,459,460,462,463,465,466,467,470,471,472,474,475,477,478,479,482,483]
 def K:Frag:=as.map λi=>(i,(vt3 P).getD i a0)
noncomputable def M0:Nat:=(12+ (1+ (1295+ (1492+ (1489+ (677+2))))))
theorem bd_is:bd=st0++(st1++(st2++(st3++([])))):=by kernel_rfl
theorem rest(w:World)(os:OsState):topRun treeTable p w m0 ann (1295+ (1492+ (1489+ (677+ (2))))) (sb w os).abs (restOf bd env cd (Pos.mk 0 0 0 0) fr)=some (sz w os):=by
 rw[show restOf bd env cd (Pos.mk 0 0 0 0) fr=restOf (st0++(st1++(st2++(st3++([]))))) env cd (Pos.mk 0 0 0 0) fr from vdn (λb=>restOf b env cd (Pos.mk 0 0 0 0) fr) bd_is]
 exact(piece_app (seg0 w os) (piece_app (seg1 w os) (piece_app (seg2 w os) (piece_app (seg3 w os) (piece_nil (fin w os))))))
theorem run(w:World)(os:OsState):topRun treeTable p w m0 ann M0 ⟨boot_heap w.params,Array.mk [],boot_drawn,boot_toks,os⟩ (topStub p)=some (sz w os):=
 go_top (pre w os) (piece_block (block w os) (rest w os))
noncomputable def lawAt:Nat:=68
noncomputable def zx3:Pos:=(Pos.mk 277 0 293 141)
noncomputable def q:Program:={p with main:={p.main with body:=keep.map (atN p.main.body)}}
theorem as_is:∀P,as=(K P).map (·.1):=λ_=>by kernel_rfl
noncomputable def H:Hook:=kHook K as as_is
noncomputable def Xt(s:Shared):Bool:=xlAt q [] s&&recOk [] s
theorem zx4(w:World)(os:OsState):(staticsOk (importedModules p.main.body) (boot_heap w.params) (hz w.params)&&namesBound p (hz w.params)&&gensDone (sz w os)&&laidKept (boot_heap w.params) (hz w.params))=true:=by
 rw[PySem.W.Fast.te5923862056798008813];kernel_rfl
theorem zx5(w:World)(os:OsState):seen ((recsOf q).map (·.name)) (ownsOf q) [] {sz w os with gens:=#[]}=expectedOf q:=by
 rw[PySem.W.Fast.te5160383126252970620,PySem.W.R.mapR_eq,PySem.W.Fast.te3399658132070893891,PySem.W.Fast.te5991557255702980513];kernel_rfl
theorem l_blt(w:World)(os:OsState):(sz w os).heap.bltView=bltViewBooted:=by kernel_rfl
theorem zx6(w:World)(os:OsState):((sz w os).heap.keysOk (looseW q lo) ((recsOf q).map (·.name)) ((litsOf q).map (·.1)) ((clssOf q (looseW q lo)).map (·.name))&& (sz w os).heap.accountedOkI (importedModules p.main.body)&& (sz w os).heap.isNs mainGlobals&& (sz w os).heap.isNs builtinsNs&&tablesOk q (sz w os).heap&&Xt (sz w os)&& (if true=true then(sz w os).gens.size==0 else !leftWithCleanup (sz w os).gens))=true:=by
 rw[PySem.W.Fast.te10880121769531294198,PySem.W.Fast.te821141287760084731,PySem.W.R.mapR_eq,PySem.W.Fast.te3399658132070893891,PySem.W.Fast.te7409074990110511671,PySem.W.Fast.te13664370479719496447,PySem.W.Fast.te14722251495701143533,PySem.W.Fast.te10994771534591457954,PySem.W.Fast.te5923862056798008813];kernel_rfl
theorem zx7(w:World)(os:OsState):tabsOk q (sz w os)=true:=by rw[PySem.W.Fast.te479339242167458305];kernel_rfl
theorem l_pin(w:World)(os:OsState):pinSeenD q (drecsOf q) (sz w os)=pinGoodD (drecsOf q):=by rw[PySem.W.Fast.te16090120013241838585,PySem.W.Fast.te3247288618530077131];kernel_rfl
theorem l_plE(w:World)(os:OsState):plainSeenE q (looseW q lo) (sz w os)=plainGoodE q (looseW q lo):=by rw[PySem.W.Fast.te2386780881361962483,PySem.W.Fast.te821141287760084731];kernel_rfl
theorem l_plD(w:World)(os:OsState):plainSeenD q lo (sz w os)=plainGoodD q lo:=by rw[PySem.W.Fast.te11698064438423848299];kernel_rfl
theorem zx8(w:World)(os:OsState):wideSeen q (sz w os)=wideGood q:=by rw[PySem.W.Fast.te7317090234206586261];kernel_rfl
theorem l_cls(w:World)(os:OsState):clsSeenW q lo (sz w os)=clsGoodW q lo:=by rw[PySem.W.Fast.te7369524293546568484];kernel_rfl
theorem zx9(w:World)(os:OsState):as.map (sz w os).heap.get?=(K w.params).map λp=>some p.2:=by kernel_rfl
theorem left:LeftO p q lo Xt (Hook.obs H) (Hook.val H) N0 true:=
 LeftO.of_pieces (H₀:=boot_heap) (H₁:=hz) (boot_open (by kernel_rfl) (by kernel_rfl) (λs=>by kernel_rfl)) (λw=>by kernel_rfl) run (by kernel_rfl)
  (λw=>funext λos=>looks_pair (zx4 w os) (looks_pair
    (looks_pair (zx5 w os) (looks_pair (l_blt w os) (looks_pair (zx6 w os) (looks_pair (zx7 w os) (looks_pair (l_pin w os) (looks_pair (l_plE w os) (looks_pair (l_plD w os) (looks_pair (zx8 w os) (l_cls w os)))))))))
    (zx9 w os)))
noncomputable def df:DefRec:=⟨S "law",fa lawAt,fb lawAt,fs lawAt,zx3⟩
theorem df_is:defOf q (S "law")=some (df,[]):=by kernel_rfl
theorem holds(l:OpenLaw)(hp:l.prog=p)(hn:l.name=S "law")(ok:l.wellSaid=true)(hch:(chainsOk q&&opensWell p&& (frees l.row.toRowW&&l.row.within.isEmpty))=true)(hb:l.row.toRowW.prog.bare)(hw:l.row.toRowW.promised)
 (hwr:(!l.row.writes||l.row.records.isEmpty)=true) (hk:p.theDef (S "law")=some (df.params,df.body,df.scope)) (hkw:kwWritten? df.params.kwonlyargs df.params.kw_defaults=some [])
 (call:WalkO q lo (XL q []) (Hook.says H) l.row.toRowW df [] λf vs=>PySem.call f vs):l.Holds:=
 holds_law ok λsaid=>PySem.W.holds_open (q:=q) (loose:=lo) (Xt:=Xt) (XP:=XL q []) (Yf:=Hook.obs H) (Ya:=Hook.val H) (YP:=Hook.says H) (N:=N0) (r:=l.row) (by have h:l.row.toRowW.prog=p:=hp;show LeftO l.row.toRowW.prog q lo Xt (Hook.obs H) (Hook.val H) N0 true;rw[h];exact left) (Hook.of H) (Hook.keeps H) (λs e=>xl_of s (Bool.and_eq_true_iff.mp e).1) XL.keeps
  (by show defOf q l.name=_;rw[hn];exact df_is) (by show l.prog.theDef l.name=_;rw[hp,hn];exact hk) hkw (λs e=>recFacts_of (Bool.and_eq_true_iff.mp e).2) hwr said (by have h:l.row.toRowW.prog=p:=hp;rw[h];exact hch) hb hw call
end
end
end HD
namespace RF
noncomputable def T06 : List PySem.Str := (["is_whole", "is_whole_within", "_law_cell", "_law_deck", "_law_mixed", "_law_take", "is_tuple_within", "are_wholes_within", "are_doors", "are_rows", "is_board_but_for_places", "is_door", "is_feeder_or_none", "is_rocker", "look_at_board", "may_stand"] ++ vgc 1 "" ++ ["are_leans"] ++ vgc 2 "" ++ ["_law_leans", "_law_piece", "is_leans", "_law_door", "look_at_leans", "_law_row", "_law_board"] ++ vgc 11 "" ++ ["_law_fall", "_law_number"] ++ vgc 19 "" ++ ["is_just"] ++ vgc 13 "" ++ ["look_at_feeder"] ++ vgc 40 "" ++ ["_law_numbers"] ++ vgc 58 "" ++ ["heading_behind", "fallen"] ++ vgc 525 "" ++ ["_law_is_way", "_law_others", "_law_spoiled", "_law_told", "law", "way_holds"]).map vgb
noncomputable def fnNo:Fn:=⟨0,0,.no⟩
noncomputable def zru:List Fn:=[fn0,fn1,fn2,fn3,fn4,fn5,fn6,fn7,fn8,fn9,fn10,fn11,fn12,fn13,fn14,fn15]++vgc 1 fnNo++[fn17]++vgc 2 fnNo++[fn20,fn21,fn22,fn23,fn24,fn25,fn26]++vgc 11 fnNo++[fn38,fn39]++vgc 19 fnNo++[fn59]++vgc 13 fnNo++[fn73]++vgc 40 fnNo++[fn114]++vgc 58 fnNo++[fn173,fn174]++vgc 525 fnNo++[zj8,zd5,zcy,zb3,zcz,zd6,tB 37 56,tI 706,tL 707 68,tF 708 92,zb4]
noncomputable def R06 : RX := ⟨[vgb "look_at_board", vgb "is_leans", vgb "look_at_leans", vgb "look_at_feeder", vgb "way_holds"], 706, [(37, vgb "board"), (56, vgb "fault"), (68, vgb "leans"), (92, vgb "feeder")]⟩
theorem c06:C06 (λi=>zru[i]?):=by repeat' (first|rfl|constructor)
end RF
set_option maxHeartbeats 0 in
theorem RF.pb06(P:PySem.Params):RF.cProg (HD.K P) RF.T06 RF.R06 60 60=some RF.zru:=by kernel_rfl
open PySem PySem.W PyProof.Rows
set_option maxRecDepth 100000 in
set_option maxHeartbeats 0 in
theorem PySem.Challenge.cw_ballrockers_k06_ways_held_holds : PySem.Challenge.rw_ballrockers_k06_ways_held.Holds := by
 refine HD.holds _ rfl rfl RF.pa06 (by kernel_rfl) ⟨rfl,rfl,rfl,rfl,rfl,by decide +kernel⟩ ?hw rfl (by kernel_rfl) (by kernel_rfl) ?call
 (case hw=>w_witness2)
 refine RF.zp3 RF.T06 RF.R06 60 60 30 704 rfl (by kernel_rfl) ⟨rfl,by decide,by decide⟩ (λw h Y=>PySem.W.kIn_of Y) (by kernel_rfl) (by decide +kernel) ?b ?c ?d
 (case c=>intro w;kernel_rfl)
 (case d=>
   intro w C z hm
   have e:C=37/\z=vgb "board"\/C=56/\z=vgb "fault"\/C=68/\z=vgb "leans"\/C=92/\z=vgb "feeder":=by simpa[RF.R06]using hm
   rcases e with⟨rfl,rfl⟩|⟨rfl,rfl⟩|⟨rfl,rfl⟩|⟨rfl,rfl⟩<;>exact⟨by kernel_rfl,by repeat' (first|kernel_rfl|rfl|decide|constructor)⟩)
 (case b=>
   intro w ns hl
   exact RF.ztn (RF.pb06 _) (RF.law06 RF.c06 hl))
