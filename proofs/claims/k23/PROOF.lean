import PyProof.Rows.All
import Wide.All
import OpenK.AllK
import Wide.FinOn
import Lean
import PyProof.EqAt
import PyProof.EqKinds
import PyProof.TupleCall
import KE.KUnpack
import PySem.Challenge.RW_ballrockers_k23_long_words
set_option Elab.async false
set_option linter.all false
set_option genSizeOf false
set_option maxRecDepth 100000
set_option maxHeartbeats 0 in
theorem RF.pa23:PySem.Challenge.rw_ballrockers_k23_long_words.wellSaid=true:=by kernel_rfl
def vaw:=@decide_eq_true_eq
def vax:=@decide_eq_false
def vbc:=@of_decide_eq_true
def vbe:=@if_true
def vbk:=@if_false
def vb5:=@decide_eq_true
def vey:=@congrArg
def ve7:=@or_false
open PySem renaming wpAny_bind->vaa,wpAny_pure->vaf,wpAny_callSpecial?_slot->vbg,wpAny_newObj_type->vbj,wpAny_call_entry->vbo,wpAny_field->vb1,wpAny_truthy_bool->vcb,wpAny_seqItems->vct,wpAny_specialOf->vcx,wpAny_pyIter_tuple->vcy,wpAny_holding->vc3,wpAny_isInstance->vc8,wpAny_setField_rec->vdb,wpAny_of_eq->vde,wpAny_passesOwn->vdk,wpAny_pyIter_list->vdl,mem_of_lookup->vdn,wpAny_mono->vds,wpAny_setField->vdt,builtinLookup_eq_fast->vd4,call_meets->veh,wpAny_Call_Name_kw->vek,wpAny_attempt->vem,sizeLine_eq->ves,wpAny_rule->veu,wpAny_forIn_list->ve4,typeLookup_type->vfh,wpAny_typeOf->vfj,isSubtype_type->vfm,wpAny_standAt->vfn,wpAny_onRaise->vfp
open Bool renaming and_eq_true->vab,false_eq_true->vap,false_ne_true->vbb,not_true->vcu,or_eq_true->vcw,false_and->vec,and_self->veo,not_false->vez,true_and->vfr
open PySem.Heap renaming get?_push_of_some->vac,get?_push_size->vas,lt_size->vav,size_push->vc4,get?_update_self->vc9
open List renaming length_map->vad,mem_cons_of_mem->vag,size_toArray->vah,length_cons->vai,map_cons->vam,mem_cons_self->van,length_append->vao,getElem?_eq_getElem->vaq,getElem?_map->vat,getElem?_eq_some_iff->vau,getD_eq_getElem?_getD->vay,mem_cons->vaz,getElem?_cons_succ->va0,getElem?_append_right->va1,lookup_cons->va4,mem_map->va6,getElem?_eq_none_iff->va7,mem_append_right->va8,length_singleton->va9,replicate_succ->vbd,flatten_replicate_singleton->vbf,getElem?_cons_zero->vbh,getElem?_eq_none->vbi,set_cons_zero->vbl,map_append->vbm,all_eq_true->vbp,find?_cons->vbt,mem_singleton->vbu,set_cons_succ->vbv,getElem?_range->vbx,length_replicate->vb7,nil_append->vb8,mem_range->vca,zip_cons_cons->vcc,append_nil->vcd,getElem?_append_left->vce,length_take->vcf,not_mem_nil->vcg,flatten_cons->vcj,mem_of_getElem?->vcn,filter_cons->vcq,getElem?_set_self->vcr,drop_zero->vcv,length_drop->vcz,cons_append->vc0,filterMap_cons->vc6,map_nil->vda,all_cons->vdc,set_append_right->vdd,drop_eq_getElem_cons->vdf,mem_append_left->vdh,getElem?_set_ne->vdi,length_reverse->vdp,map_take->vdq,getElem_mem->vdr,forIn_nil->vdu,filter_eq_nil_iff->vdw,drop_eq_nil_of_le->vdx,nodup_cons->vdz,forIn_cons->vd0,length_nil->vd2,getElem?_reverse->vd5,length_filter_le->vd7,append_assoc->vd8,ext_getElem?->vea,reverse_nil->vee,map_map->vei,mem_append->vej,length_set->vel,take_left'->ven,nodup_append->vew,drop_left'->vfg,nodup_nil->vfl,any_cons->vfo,map_drop->vfs
open Nat renaming le_refl->vae,lt_of_lt_of_le->vak,mod_eq_of_lt->va2,le_of_ble_eq_true->va3,ne_of_lt->va5,lt_succ_self->vbq,le_trans->vbs,zero_le->vbw,mul_le_mul_left->vby,two_pow_pos->vb0,zero_add->vb9,mul_add_mod->vcm,not_lt->vco,lt_or_ge->vcp,mul_add->vcs,pow_le_pow_right->vc1,lt_irrefl->vc2,add_mod_right->vc5,mul_le_mul->vdg,div_lt_of_lt_mul->vdj,div_add_mod->vdm,add_assoc->vdo,ne_of_gt->vdy,eq_of_beq_eq_true->vd3,mul_pos->vd6,div_eq_of_lt->vef,mul_add_div->veq,mod_eq_sub_mod->ver,lt_succ_of_lt->vet,mod_lt->vex,le_of_lt->ve0,add_zero->ve1,le_of_not_lt->ve2,le_add_right->ve5,ble_eq->ve8,not_lt_zero->vfa,mul_comm->vfk,le_succ->vfq
open Option renaming map_some->vaj,join_some->vb4,getD_some->ve3
open PySem.AutoSeq1 renaming wpAny_loadPart'->vba
open Int renaming toNat_natCast->vbn,eq_ofNat_of_zero_le->vb2,emod_lt_of_pos->vep,natCast_mul->vfb,emod_nonneg->vfi
open Option.some renaming inj->vbr,injEq->vd9
open PyProof.Rows renaming slot_tuple_getitem->vbz,callWith_type1->vb6
open PySem.W renaming kia_one->vb3
open PySem.Heap.SameBut renaming update->vch
open PySem.W.Fast renaming te14364793385576792824->vci
open Ne renaming symm->vck
open PySem.Obj renaming data_mapFields->vcl,isFreed_of_fields->vd1
open PySem.F renaming slot_tuple_iterator_next->vc7,slot_NoneType_hash->veb,slot_tuple_mul->ved,slot_tuple_hash->vev,slot_int_rmul->ve9,slot_zip_next->vfc,slot_tuple_eq->vfe
open PySem.SeqAt renaming canLay_of_shaped->vdv
open Array renaming length_toList->veg
open PySem.Paired renaming length->ve6
open List.cons renaming injEq->vfd
open LawfulMonad renaming pure_bind->vff
namespace L2
open PySem PySem.Spec PyProof.Rows
noncomputable abbrev Key:=Sum Int Str
noncomputable def keyIs:Key->Value->Bool
 |.inl k,v=>Value.isInt k v
 |.inr x,v=>Value.isStrOf x v
noncomputable def keyH(w:World):Key->Int
 |.inl k=>hashInt k
 |.inr x=>hashStr w x
theorem zau:∀{k:Key} {v:Value},keyIs k v=true->(∃i t,k=Sum.inl i/\v=Value.int i t)\/(∃x t,k=Sum.inr x/\v=Value.str x t)
 |.inl i,v,h=>by
  obtain⟨t,e⟩:=Value.isInt_shape (k:=i) (v:=v) h
  exact .inl ⟨i,t,rfl,e⟩
 |.inr x,v,h=>by
  obtain⟨t,e⟩:=Value.isStrOf_shape (x:=x) (v:=v) h
  exact .inr ⟨x,t,rfl,e⟩
theorem zlk(i:Int)(t:Tok):keyIs (.inl i) (.int i t)=true:=by simp[keyIs,Value.isInt]
theorem zll(x:Str)(t:Tok):keyIs (.inr x) (.str x t)=true:=by simp[keyIs,Value.isStrOf]
theorem zuj(a b:Int):decide ((Sum.inl a:Key)=Sum.inl b)=(a==b):=by
 by_cases e:a=b
 .subst e;simp
 .have h:¬(Sum.inl a:Key)=Sum.inl b:=λq=>e (Sum.inl.inj q)
  rw[vax h]
  exact(beq_eq_false_iff_ne.mpr e).symm
theorem zuk(a b:Str):decide ((Sum.inr a:Key)=Sum.inr b)=decide (a=b):=by
 by_cases e:a=b
 .subst e;simp
 .have h:¬(Sum.inr a:Key)=Sum.inr b:=λq=>e (Sum.inr.inj q)
  rw[vax h,vax e]
theorem zul(a:Int)(b:Str):decide ((Sum.inl a:Key)=Sum.inr b)=false:=vax (λq=>nomatch q)
theorem zum(a:Str)(b:Int):decide ((Sum.inr a:Key)=Sum.inl b)=false:=vax (λq=>nomatch q)
noncomputable def za0(prog:Program)(w:World):PySem.KeyKind prog w Key where
 is:=keyIs
 hash:=keyH w
 inj:=λv a b ha hb=>by
  rcases zau ha with⟨i,t,rfl,rfl⟩|⟨x,t,rfl,rfl⟩
  .rcases zau hb with⟨j,u,rfl,e⟩|⟨y,u,rfl,e⟩
   .injection e with e1 _;rw[e1]
   .exact nomatch e
  .rcases zau hb with⟨j,u,rfl,e⟩|⟨y,u,rfl,e⟩
   .exact nomatch e
   .injection e with e1 _;rw[e1]
 byValue:=λk v h=>by
  rcases zau h with⟨i,t,rfl,rfl⟩|⟨x,t,rfl,rfl⟩<;>rfl
 pyHash:=λhv h=>by
  rcases zau hv with⟨i,t,rfl,rfl⟩|⟨x,t,rfl,rfl⟩
  .exact wpAny_pyHash_int h
  .exact wpAny_pyHash_str h
 eqBool:=λhu hv h=>by
  rcases zau hu with⟨i,t,rfl,rfl⟩|⟨x,t,rfl,rfl⟩
  .rcases zau hv with⟨j,u,rfl,rfl⟩|⟨y,u,rfl,rfl⟩
   .rw[zuj]at h;exact wpAny_eqBool_int h
   .rw[zul]at h;exact SeqAt.EqAt.int_str i t y u _ _ _ _ h
  .rcases zau hv with⟨j,u,rfl,rfl⟩|⟨y,u,rfl,rfl⟩
   .rw[zum]at h;exact SeqAt.EqAt.str_int x t j u _ _ _ _ h
   .rw[zuk]at h;exact wpAny_eqBool_str h
 «strs»:=λk x t v h=>by
  rcases zau h with⟨i,u,rfl,e⟩|⟨y,u,rfl,e⟩
  .exact nomatch e
  .injection e with e1 _
   subst e1
   cases v<;>rfl
theorem zia(prog:Program)(w:World)(i:Int)(t:Tok):(za0 prog w).is (.inl i) (.int i t)=true:=zlk i t
theorem zib(prog:Program)(w:World)(x:Str)(t:Tok):(za0 prog w).is (.inr x) (.str x t)=true:=zll x t
inductive V where
 |non|bl (b:Bool)|int (i:Int)|str (x:Str)|byt (b:Array UInt8)|flt (b:UInt64)|ref (a:Addr)|ty (n:String)
 deriving DecidableEq
noncomputable def RelV:V->Value->Prop
 |.non,u=>u=Value.none
 |.bl b,u=>u=Value.bool b
 |.int i,u=>∃t,u=Value.int i t
 |.str x,u=>∃t,u=Value.str x t
 |.byt b,u=>∃t,u=Value.bytes b t
 |.flt b,u=>∃t,u=Value.float b t
 |.ref a,u=>u=Value.ref a
 |.ty n,u=>u=Value.type n
noncomputable abbrev Vals:List V->List Value->Prop:=Paired RelV
theorem Vals.length{xs:List V}{us:List Value}(r:Vals xs us):xs.length=us.length:=ve6 r
theorem Vals.get:∀{xs:List V} {us:List Value} {i:Nat} {x:V},Vals xs us->xs[i]?=some x->∃u,us[i]?=some u/\RelV x u
 |_,_,_,_,.nil,e=>by simp at e
 |_,_,0,_,.cons r _,e=>by simp at e;subst e;exact⟨_,rfl,r⟩
 |_,_,i+1,x,.cons _ t,e=>by
  obtain⟨u,h1,h2⟩:=Vals.get (i:=i) (x:=x) t (by simpa using e)
  exact⟨u,by simpa using h1,h2⟩
theorem Vals.set{x:V}{u:Value}(r:RelV x u):∀{xs:List V} {us:List Value} (i:Nat),Vals xs us->Vals (xs.set i x) (us.set i u)
 |_,_,_,.nil=>.nil
 |_,_,0,.cons _ t=>.cons r t
 |_,_,i+1,.cons q t=>.cons q (Vals.set r i t)
theorem Vals.append:∀{xs ys:List V} {us ws:List Value},Vals xs us->Vals ys ws->Vals (xs++ys) (us++ws)
 |_,_,_,_,.nil,s=>s
 |_,_,_,_,.cons r t,s=>.cons r (Vals.append t s)
theorem Vals.take:∀{xs:List V} {us:List Value} (n:Nat),Vals xs us->Vals (xs.take n) (us.take n)
 |_,_,0,_=>.nil
 |_,_,_+1,.nil=>.nil
 |_,_,n+1,.cons r t=>.cons r (Vals.take n t)
theorem Vals.drop:∀{xs:List V} {us:List Value} (n:Nat),Vals xs us->Vals (xs.drop n) (us.drop n)
 |_,_,0,r=>r
 |_,_,_+1,.nil=>.nil
 |_,_,n+1,.cons _ t=>Vals.drop n t
noncomputable def RelO:Option V->Option Value->Prop
 |some v,some u=>RelV v u
 |none,none=>True
 |_,_=>False
noncomputable def KV{κ:Type}:List (κ×V)->List (κ×Value)->Prop:=Paired λ(p:κ×V) (q:κ×Value)=>p.1=q.1/\RelV p.2 q.2
noncomputable def kV:Key->V
 |.inl i=>.int i
 |.inr x=>.str x
inductive HO where
 /-- a list -/
 |lst (xs:List V)
 /-- a tuple (never changes) -/
 |tup (xs:List V)
 /-- a dict whose keys are ints and texts;one whose keys are tuples of ints and texts (the empty one is both) -/
 |dK (kvs:List (Key×V))|dT (kvs:List (List Key×V))
 /-- a set of ints: its members,its size -/
 |set (S:Int->Bool) (n:Nat)
 /-- an instance of the class at C,its dict at dx,its attributes -/
 |ins (C dx:Addr) (fs:List (Str×V))
 /-- the dict of the instance at x -/
 |own (x:Addr)
 /-- the dict of an exception -/
 |xd (fs:List (Str×V))
 /-- a bound method,f of x -/
 |met (f x:Addr)
 /-- a range object lo,lo+1,.. below hi -/
 |rng (lo hi:Int)
 /-- a thing that is known to the object (the script;a dict while a loop walks it): read,never written while it is so -/
 |frz (o:Obj) (u:HO)
 /-- a code object's table -/
 |tbl (ps:Array Value)
 /-- any other thing,by what is true of its one object (a def of one's own: SetO a S n:=HO.ext λh=>..) -/
 |ext (φ:Heap->Prop)
noncomputable abbrev Hp:=Addr->Option HO
noncomputable def upd(H:Hp)(a:Addr)(o:HO):Hp:=λb=>if b=a then some o else H b
theorem zan{H:Hp}{a:Addr}{o:HO}:upd H a o a=some o:=by unfold upd;rw[if_pos rfl]
theorem zag{H:Hp}{a b:Addr}{o:HO}(h:b≠a):upd H a o b=H b:=by unfold upd;rw[if_neg h]
theorem ne_of{H:Hp}{a b:Addr}{o u:HO}(h:H a=some o)(h':H b=some u)(d:o≠u):a≠b:=by
 intro e;subst e;rw[h]at h';exact d (vbr h')
theorem zaf{H:Hp}{a b:Addr}{o:HO}(h:H a=some o)(h':H b=none):a≠b:=by
 intro e;subst e;rw[h]at h';cases h'
noncomputable def za9(h:Heap)(a:Addr)(items:Array Value):Prop:=∃o,h.get? a=some o/\o.cls=.type "tuple"/\(∃n,o.data=.seq items n)/\o.dict=none
theorem za9.tup{h:Heap}{a:Addr}{items:Array Value}(x:za9 h a items):IsTup h a items:=let⟨o,e,c,d,_⟩:=x;⟨o,e,c,d⟩
theorem za9.lt{h:Heap}{a:Addr}{items:Array Value}(x:za9 h a items):a<h.objs.size:=x.tup.lt
theorem za9.new(h:Heap)(items:Array Value):za9 (h.push {cls:=.type "tuple",data:=.seq items}) h.objs.size items:=⟨_,vas _ rfl,rfl,⟨_,rfl⟩,rfl⟩
section
variable(P:Program)(w:World)
noncomputable def ObjOk(H:Hp)(h:Heap)(a:Addr):HO->Prop
 |.lst xs=>xs.length<=sizeLine/\∃(its:List Value) (n:Nat),Vals xs its/\h.get? a=some {cls:=.type "list",data:=.seq its.toArray n}
 |.tup xs=>xs.length<=sizeLine/\∃its:List Value,Vals xs its/\za9 h a its.toArray
 |.dK kvs=>kvs.length<=sizeLine/\(a==sysModules)=false/\∃vs,KV kvs vs/\h.DictOf (za0 P w) a vs
 |.dT kvs=>kvs.length<=sizeLine/\(a==sysModules)=false/\∃xs:List (List Key×Addr×Value),
  Paired (λ(p:List Key×V)(q:List Key×Addr×Value)=>p.1=q.1/\H q.2.1=some (.tup (p.1.map kV))/\RelV p.2 q.2.2) kvs xs/\
  ∃o es ep,h.get? a=some o/\o.ExactDict/\o.data=.dict es ep/\es.toList=xs.map (entryOfKey (tupleKind (za0 P w)))/\(xs.map (·.1)).Nodup
 |.set S n=>h.SetOf (intKind P w) a S n
 |.ins C dx fs=>H dx=some (.own a)/\fs.length<=1000/\dx≠a/\h.get? a=some (PySem.W.instObj C dx)/\
  ∃mA,h.Ns1 dx mA/\(∀f,RelO (fs.lookup f) (mA f))/\PySem.Within mA (fs.map (·.1))
 |.own _=>∃o,h.get? a=some o
 |.xd fs=>∃mA,h.Ns1 a mA/\∀f,RelO (fs.lookup f) (mA f)
 |.rng lo hi=>∃t u v,h.get? a=some {cls:=.type "range",data:=.fields #[.int lo t,.int hi u,.int 1 v]}
 |.frz o u=>h.get? a=some o/\ObjOk H h a u
 |.tbl ps=>h.get? a=some {cls:=.none,data:=.fields ps}
 |.met f x=>h.get? a=some (PySem.W.methodObj (.ref f) (.ref x))
 |.ext φ=>φ h/\(∃o,h.get? a=some o)/\∀h1 h2:Heap,φ h1->(∀o,h1.get? a=some o->h2.get? a=some o)->φ h2
noncomputable def HOk(H:Hp)(h:Heap):Prop:=∀a o,H a=some o->ObjOk P w H h a o
end
section
variable{P:Program}{w:World}{H H':Hp}{h h':Heap}{a:Addr}{o:HO}
theorem ObjOk.lt(x:ObjOk P w H h a o):a<h.objs.size:=by
 cases o with
 |lst xs=>obtain⟨_,_,_,_,e⟩:=x;exact vav e
 |tup xs=>obtain⟨_,_,_,p⟩:=x;exact p.lt
 |dK kvs=>obtain⟨_,_,_,_,o,_,_,e,_⟩:=x;exact vav e
 |dT kvs=>obtain⟨_,_,_,_,o,_,_,e,_⟩:=x;exact vav e
 |set S n=>obtain⟨o,_,_,_,e,_⟩:=x;exact vav e
 |ins C dx fs=>obtain⟨_,_,_,e,_⟩:=x;exact vav e
 |own y=>obtain⟨_,e⟩:=x;exact vav e
 |xd fs=>obtain⟨_,⟨_,_,_,e,_⟩,_⟩:=x;exact vav e
 |rng lo hi=>obtain⟨_,_,_,e⟩:=x;exact vav e
 |frz ob u=>obtain⟨e,_⟩:=x;exact vav e
 |tbl ps=>exact vav (show h.get? a=some _ from x)
 |met f y=>exact vav (show h.get? a=some _ from x)
 |ext φ=>obtain⟨_,⟨_,e⟩,_⟩:=x;exact vav e
theorem Paired.mapP{α β:Type}{F G:α->β->Prop}:∀{l₁:List α} {l₂:List β},Paired F l₁ l₂->(∀a b,F a b->G a b)->Paired G l₁ l₂
 |_,_,.nil,_=>.nil
 |_,_,.cons r t,f=>.cons (f _ _ r) (Paired.mapP t f)
theorem ObjOk.stay(x:ObjOk P w H h a o)(k:∀b u,(b=a\/H b=some (.own a))->h.get? b=some u->h'.get? b=some u)
 (ho:∀b,H b=some (.own a)->H' b=some (.own a)) (ht:∀b xs,H b=some (.tup xs)->H' b=some (.tup xs)):ObjOk P w H' h' a o:=by
 induction o with
 |lst xs=>obtain⟨z,its,n,r,e⟩:=x;exact⟨z,its,n,r,k _ _ (.inl rfl) e⟩
 |tup xs=>obtain⟨z,its,r,ob,e,c⟩:=x;exact⟨z,its,r,ob,k _ _ (.inl rfl) e,c⟩
 |dK kvs=>obtain⟨z,y,vs,r,ob,es,ep,e,c⟩:=x;exact⟨z,y,vs,r,ob,es,ep,k _ _ (.inl rfl) e,c⟩
 |dT kvs=>
  obtain⟨z,y,xs,r,ob,es,ep,e,c⟩:=x
  exact⟨z,y,xs,Paired.mapP r λp q z=>⟨z.1,ht _ _ z.2.1,z.2.2⟩,ob,es,ep,k _ _ (.inl rfl) e,c⟩
 |set S n=>obtain⟨ob,es,ep,t,e,c⟩:=x;exact⟨ob,es,ep,t,k _ _ (.inl rfl) e,c⟩
 |ins C dx fs=>
  obtain⟨d,z,ne,e,mA,⟨od,es,ep,e2,c⟩,r⟩:=x
  exact⟨ho _ d,z,ne,k _ _ (.inl rfl) e,mA,⟨od,es,ep,k _ _ (.inr d) e2,c⟩,r⟩
 |own y=>obtain⟨ob,e⟩:=x;exact⟨ob,k _ _ (.inl rfl) e⟩
 |xd fs=>obtain⟨mA,⟨od,es,ep,e,c⟩,r⟩:=x;exact⟨mA,⟨od,es,ep,k _ _ (.inl rfl) e,c⟩,r⟩
 |rng lo hi=>obtain⟨t,u,v,e⟩:=x;exact⟨t,u,v,k _ _ (.inl rfl) e⟩
 |frz ob u ih=>obtain⟨e,q⟩:=x;exact⟨k _ _ (.inl rfl) e,ih q⟩
 |tbl ps=>
  have e:h.get? a=some {cls:=.none,data:=.fields ps}:=x
  show h'.get? a=some {cls:=.none,data:=.fields ps}
  exact k a _ (.inl rfl) e
 |met f y=>
  have e:h.get? a=some (PySem.W.methodObj (.ref f) (.ref y)):=x
  show h'.get? a=some (PySem.W.methodObj (.ref f) (.ref y))
  exact k a _ (.inl rfl) e
 |ext φ=>obtain⟨p,⟨o,e⟩,st⟩:=x;exact⟨st _ _ p λo q=>k _ _ (.inl rfl) q,⟨o,k _ _ (.inl rfl) e⟩,st⟩
theorem HOk.lt(x:HOk P w H h)(e:H a=some o):a<h.objs.size:=(x a o e).lt
theorem HOk.fresh(x:HOk P w H h)(e:h.objs.size<=a):H a=none:=by
 cases q:H a with
 |none=>rfl
 |some u=>exact absurd (vak (x.lt q) e) (vc2 _)
theorem HOk.kept(x:HOk P w H h)(k:∀b u,h.get? b=some u->h'.get? b=some u):HOk P w H h':=λa o e=>
 (x a o e).stay (λb u _ q=>k b u q) (λ_ q=>q) λ_ _ q=>q
theorem HOk.laid(x:HOk P w H h)(k:∀b u,h.get? b=some u->h'.get? b=some u)(hp:h.objs.size<=a)(new:ObjOk P w (upd H a o) h' a o):HOk P w (upd H a o) h':=λb u e=>by
 have hn:=x.fresh hp
 by_cases hb:b=a
 .subst hb;rw[zan]at e;cases e;exact new
 .rw[zag hb]at e
  exact(x b u e).stay (λc v _ q=>k c v q) (λc q=>by rw[zag (zaf q hn)];exact q) λc xs q=>by rw[zag (zaf q hn)];exact q
end
noncomputable def Rd(H:Hp)(a:Addr)(u:HO):Prop:=H a=some u\/∃o,H a=some (.frz o u)
theorem Rd.ok{P:Program}{w:World}{H:Hp}{h:Heap}{a:Addr}{u:HO}(r:Rd H a u)(x:HOk P w H h):ObjOk P w H h a u:=by
 rcases r with r|⟨o,r⟩
 .exact x a u r
 .obtain⟨_,q⟩:=x a _ r
  exact q
noncomputable def Mut:Option HO->Prop
 |some (.lst _)=>True
 |some (.dK _)=>True
 |some (.dT _)=>True
 |some (.set _ _)=>True
 |some (.ins _ _ _)=>True
 |some (.ext _)=>True
 |_=>False
section
variable{P:Program}{w:World}{H:Hp}{h h':Heap}{x e:Addr}{o':HO}
theorem HOk.write(ok:HOk P w H h)(mu:Mut (H x))(he:e=x\/H e=some (.own x))(k:∀b u,b≠e->h.get? b=some u->h'.get? b=some u)(heo:∃u,h'.get? e=some u)
 (new:ObjOk P w (upd H x o') h' x o'):HOk P w (upd H x o') h':=λb u q=>by
 have nown:∀c y,H c=some (.own y)->c≠x:=λc y r z=>by subst z;rw[r]at mu;exact mu
 have ntup:∀c xs,H c=some (.tup xs)->c≠x:=λc xs r z=>by subst z;rw[r]at mu;exact mu
 by_cases hb:b=x
 .subst hb;rw[zan]at q;cases q;exact new
 .rw[zag hb]at q
  by_cases hbe:b=e
  .have q':H b=some (.own x):=by
    rcases he with z|z
    .exact absurd (hbe.trans z) hb
    .rw[hbe];exact z
   rw[q]at q';cases q'
   obtain⟨v,hv⟩:=heo
   exact⟨v,by rw[hbe];exact hv⟩
  .refine(ok b u q).stay (λc v hc r=>k c v ?_ r) (λc r=>by rw[zag (nown c b r)];exact r) λc xs r=>by rw[zag (ntup c xs r)];exact r
   rcases hc with rfl|hc
   .exact hbe
   .rintro rfl
    rcases he with z|z
    .exact nown c b hc z
    .rw[hc]at z;cases z;exact hb rfl
end
structure Un(fs ex:List Addr)(H H':Hp)(h h':Heap):Prop where
 keep:∀b o,h.get? b=some o->H b=none->b∉fs->b∉ex->h'.get? b=some o
 slot:∀b o,h.get? b=some o->H b=none->b∈fs->b∉ex->∃sl,h'.get? b=some {o with slots:=sl}
 free:∀b o,h.get? b=some o->H b=none->b∉ex->H' b=none
 there:∀b o,h.get? b=some o->b∉ex->∃o',h'.get? b=some o'
 tups:∀b xs,H b=some (.tup xs)->H' b=some (.tup xs)
 frzs:∀b o u,H b=some (.frz o u)->H' b=some (.frz o u)
 tbls:∀b ps,H b=some (.tbl ps)->∃more,H' b=some (.tbl (ps++more))
section
variable{fs fs' ex ex':List Addr}{H H1 H2:Hp}{h h1 h2 h':Heap}{a x e:Addr}{o:HO}
theorem Un.any(u:Un fs ex H H1 h h1){b:Addr}{ob:Obj}(q:h.get? b=some ob)(n:H b=none)(hx:b∉ex):∃sl,h1.get? b=some {ob with slots:=sl}:=by
 by_cases hb:b∈fs
 .exact u.slot b ob q n hb hx
 .exact⟨ob.slots,u.keep b ob q n hb hx⟩
theorem Un.kept(k:∀b u,h.get? b=some u->h'.get? b=some u):Un fs ex H H h h':=
 ⟨λb ob q _ _ _=>k b ob q,λb ob q _ _ _=>⟨ob.slots,k b ob q⟩,λ_ _ _ n _=>n,λb ob q _=>⟨ob,k b ob q⟩,λ_ _ q=>q,λ_ _ _ q=>q,λ_ ps q=>⟨#[],by rw[q];simp⟩⟩
theorem Un.refl:Un fs ex H H h h:=Un.kept λ_ _ q=>q
theorem Un.laid(k:∀b u,h.get? b=some u->h'.get? b=some u)(hp:h.objs.size<=a)(hn:H a=none):Un fs ex H (upd H a o) h h' where
 keep:=λb u q _ _ _=>k b u q
 slot:=λb u q _ _ _=>⟨u.slots,k b u q⟩
 free:=λb u q n _=>by rw[zag (va5 (vak (vav q) hp))];exact n
 there:=λb u q _=>⟨u,k b u q⟩
 tups:=λb xs q=>by rw[zag (zaf q hn)];exact q
 frzs:=λb u xs q=>by rw[zag (zaf q hn)];exact q
 tbls:=λb ps q=>⟨#[],by rw[zag (zaf q hn),q];simp⟩
theorem Un.write(mu:Mut (H x))(he:e=x\/H e=some (.own x))(k:∀b u,b≠e->h.get? b=some u->h'.get? b=some u)(heo:∃u,h'.get? e=some u):Un fs ex H (upd H x o) h h':=by
 have hx:∀b,H b=none->b≠x:=λb n z=>by subst z;rw[n]at mu;exact mu
 have hb:∀b,H b=none->b≠e:=λb n z=>by
  subst z
  rcases he with r|r
  .exact hx b n r
  .rw[n]at r;cases r
 have hm:∀b u,H b=some u->¬Mut (some u)->b≠x:=λb u q nm z=>by subst z;rw[q]at mu;exact nm mu
 refine⟨λb u q n _ _=>k b u (hb b n) q,λb u q n _ _=>⟨u.slots,k b u (hb b n) q⟩,λb u q n _=>by rw[zag (hx b n)];exact n,λb u q _=>?_,
  λb xs q=>by rw[zag (hm b _ q λz=>z)];exact q,λb u xs q=>by rw[zag (hm b _ q λz=>z)];exact q,λb ps q=>⟨#[],by rw[zag (hm b _ q λz=>z),q];simp⟩⟩
 by_cases hbe:b=e
 .subst hbe;exact heo
 .exact⟨u,k b u hbe q⟩
end
noncomputable def trk(h:Heap)(H:Hp):List Addr:=(List.range h.objs.size).filter λa=>(H a).isSome
noncomputable def hidT(h:Heap)(H:Hp):Heap:=PySem.W.hideAll h (trk h H)
theorem zlm(h:Heap)(H:Hp):(hidT h H).objs.size=h.objs.size:=PySem.W.hideAll_size _ _
theorem zov{h:Heap}{H:Hp}{b:Addr}{o:Obj}(e:h.get? b=some o)(n:H b=none):(hidT h H).get? b=some o:=
 PySem.W.hideAll_get _ e λhm=>by
  have q:(H b).isSome=true:=(List.mem_filter.mp hm).2
  rw[n]at q;simp at q
theorem zr6{h:Heap}{H:Hp}{b:Addr}{o:Obj}(e:(hidT h H).get? b=some o):h.get? b=some o/\H b=none:=by
 have e':h.get? b=some o:=PySem.W.of_hideAll (trk h H) e
 refine⟨e',?_⟩
 cases q:H b with
 |none=>rfl
 |some x=>
  have hm:b∈trk h H:=List.mem_filter.mpr ⟨vca.mpr (vav e'),by simp[q]⟩
  have z:(hidT h H).get? b=none:=PySem.W.hideAll_none (trk h H) hm
  rw[z]at e;cases e
structure Mod(K:PySem.W.Frag)(mg:Str->Option Value)(base:Heap):Prop where
 kin:K.In base
 glob:base.Ns mainGlobals mg
 blt:∃mb,base.Ns builtinsNs mb/\∀x:Str,x≠"__name__"->mb x=bootBuiltins x
 nolimit:base.NoLimit
set_option genInjectivity false in
structure Cx where
 prog:Program
 w:World
 K:PySem.W.Frag
 mg:Str->Option Value
 base:Heap
 A:Around
 N:List Str
 s₀:Shared
 H₀:Hp
 env:Env
 outer:List Env
 stack:List Env
 ex:List Addr
 fn:Str->Bool
 calm:Bool
 pn:List (Addr×Obj)
 xe:Value->Shared->Prop
noncomputable def frs(l:List Env):List Addr:=l.filterMap (·.frame)
noncomputable abbrev Cx.fs(X:Cx):List Addr:=frs X.outer
noncomputable def Vis(sc:Scope)(x:Str):Prop:=sc.names.lookup x=some .local\/sc.names.lookup x=some .cell\/sc.names.lookup x=some .free
noncomputable def Loc(sc:Scope)(x:Str):Prop:=sc.names.lookup x=some .local\/sc.names.lookup x=some .cell
noncomputable def Look(env:Env)(h:Heap)(m:Str->Option Value)(x:Str)(u:Value):Prop:=
 (env.kindOf x=some .local/\m x=some u)\/((env.kindOf x=some .cell\/env.kindOf x=some .free)/\∃c,env.cells.lookup x=some c/\h.IsCell c (some u))
structure Cx.Ok(X:Cx):Prop where
 mod:Mod X.K X.mg X.base
 kind:X.env.scope.kind=.function
 glob:X.env.globals=mainGlobals
 blt:X.env.builtins=builtinsNs
 above:X.s₀.heap.objs.size<=X.env.locals
 inj:∀x y c,X.env.cells.lookup x=some c->X.env.cells.lookup y=some c->x=y
 has:∀x,(X.env.kindOf x=some .cell\/X.env.kindOf x=some .free)->∃c,X.env.cells.lookup x=some c
 cab:∀x c,X.fn x=true->X.env.cells.lookup x=some c->X.s₀.heap.objs.size<=c
 hd:X.calm=true->X.A.handled=none
 frames:X.A.frames=some X.stack
 stk:X.stack=X.outer\/(X.stack=X.env::X.outer/\X.env.frame=some X.env.locals)
 exf:∀b∈X.ex,b≠X.env.locals/\∀x c,X.env.cells.lookup x=some c->c≠b
 bs:∀b o,X.base.get? b=some o->X.s₀.heap.get? b=some o/\X.H₀ b=none
 bsz:X.base.objs.size<=X.s₀.heap.objs.size
 noex:∀b o,X.base.get? b=some o->b∉X.ex
 exfs:∀b∈X.ex,b∉X.fs
 funs:X.s₀.heap.FunFrames X.base X.outer
 frf:∀b∈X.fs,X.H₀ b=none
structure Inv(X:Cx)(pins:List (Addr×Obj))(σ:List (Option V))(H:Hp)(s:Shared):Prop where
 ok:X.Ok
 os:s.os=X.s₀.os
 bare:AllBare s.gens
 base:Un X.fs X.ex X.H₀ H X.s₀.heap s.heap
 loc:∃m,s.heap.Ns X.env.locals m/\∀(i:Nat)(x:Str)(v:V),X.N[i]?=some x->σ[i]?=some (some v)->Vis X.env.scope x->∃u,RelV v u/\Look X.env s.heap m x u
 cell:∀x c,X.env.cells.lookup x=some c->∃v,s.heap.IsCell c v
 free:H X.env.locals=none
 freeC:∀x c,X.env.cells.lookup x=some c->H c=none
 pin:∀p∈X.pn++pins,s.heap.get? p.1=some p.2/\H p.1=none/\p.1≠X.env.locals/\p.1∉X.fs/\∀v,p.2.data≠.cell v
 hok:HOk X.prog X.w H s.heap
 len:σ.length=X.N.length
section
variable{X:Cx}{pins:List (Addr×Obj)}{σ:List (Option V)}{H H':Hp}{s:Shared}{h':Heap}
theorem Cx.Ok.nofr(ok:X.Ok){b:Addr}{o:Obj}(e:X.base.get? b=some o):b∉X.fs:=λhb=>by
 have:=(ok.funs.mem hb).1
 rw[e]at this;cases this
theorem Inv.bs(I:Inv X pins σ H s):∀b o,X.base.get? b=some o->s.heap.get? b=some o/\H b=none:=λb o e=>
 ⟨I.base.keep b o (I.ok.bs b o e).1 (I.ok.bs b o e).2 (I.ok.nofr e) (I.ok.noex b o e),I.base.free b o (I.ok.bs b o e).1 (I.ok.bs b o e).2 (I.ok.noex b o e)⟩
theorem Inv.bk(I:Inv X pins σ H s):∀b o,X.base.get? b=some o->s.heap.get? b=some o:=λb o e=>(I.bs b o e).1
theorem Inv.mod(I:Inv X pins σ H s):Mod X.K X.mg X.base:=I.ok.mod
theorem Inv.kIn(I:Inv X pins σ H s):X.K.In s.heap:=I.ok.mod.kin.keeps I.bk
theorem Inv.lt(I:Inv X pins σ H s):X.env.locals<s.heap.objs.size:=let⟨_,hn,_⟩:=I.loc;hn.lt
theorem Inv.sz(I:Inv X pins σ H s):X.s₀.heap.objs.size<=s.heap.objs.size:=vbs I.ok.above (ve0 I.lt)
theorem Inv.nofs(I:Inv X pins σ H s){a:Addr}(h:s.heap.objs.size<=a):a∉X.fs:=λhb=>by
 obtain⟨_,o,ho,_⟩:=I.ok.funs.mem hb
 exact absurd (vak (vav ho) (vbs I.sz h)) (vc2 _)
theorem Inv.cne(I:Inv X pins σ H s):∀x c,X.env.cells.lookup x=some c->c≠X.env.locals:=λx c e z=>by
 obtain⟨v,o,ho,hd⟩:=I.cell x c e
 obtain⟨m,⟨o',es,ep,ho',hd',_⟩,_⟩:=I.loc
 rw[z,ho']at ho;cases ho;rw[hd']at hd;cases hd
theorem Inv.funs(I:Inv X pins σ H s):s.heap.FunFrames X.base X.outer:=by
 have all:∀(l:List Env),(∀b∈frs l,b∈X.fs)->X.s₀.heap.FunFrames X.base l->s.heap.FunFrames X.base l:=by
  intro l
  induction l with
  |nil=>intro _ _;trivial
  |cons env r ih=>
   intro hs hl
   obtain⟨hk,⟨L,o,hf,hn,ho,hd⟩,hr⟩:=hl
   have hL:L∈X.fs:=hs L (by unfold frs;rw[vc6,hf];exact van)
   obtain⟨sl,e⟩:=I.base.slot L o ho (I.ok.frf L hL) hL λz=>I.ok.exfs L z hL
   exact⟨hk,⟨L,_,hf,hn,e,hd⟩,ih (λb hb=>hs b (by unfold frs;rw[vc6,hf];exact vag _ hb)) hr⟩
 exact all X.outer (λ_ hb=>hb) I.ok.funs
theorem Inv.stack(I:Inv X pins σ H s):s.heap.FunFrames X.base X.stack:=by
 rcases I.ok.stk with e|⟨e,hf⟩
 .rw[e];exact I.funs
 .rw[e]
  obtain⟨m,hn,_⟩:=I.loc
  refine .cons (by rw[I.ok.kind];decide) hf hn ?_ I.funs
  exact Heap.get?_none_of_le (vbs I.ok.bsz I.ok.above)
theorem Inv.stkSub(I:Inv X pins σ H s):∀b∈frs X.stack,b∈X.env.locals::X.fs:=λb hb=>by
 rcases I.ok.stk with e|⟨e,hf⟩
 .rw[e]at hb;exact vag _ hb
 .rw[e]at hb
  unfold frs at hb
  rw[vc6,hf]at hb
  exact hb
theorem Inv.stkFree(I:Inv X pins σ H s):∀b∈frs X.stack,H b=none:=λb hb=>by
 rcases vaz.mp (I.stkSub b hb)with e|hb
 .rw[e];exact I.free
 .obtain⟨_,o,ho,_⟩:=I.ok.funs.mem hb
  exact I.base.free b o ho (I.ok.frf b hb) λz=>I.ok.exfs b z hb
theorem Inv.step{g':Array GenState}{t':Nat}{d':Drawn}{ch:List Addr}(I:Inv X pins σ H s)
 (hch:∀b∈ch,(b∈X.ex\/X.s₀.heap.objs.size<=b)/\b≠X.env.locals/\(∀x c,X.env.cells.lookup x=some c->c≠b)/\∀p∈X.pn++pins,p.1≠b)
 (keep:∀b o,b≠X.env.locals->b∉X.fs->b∉ch->s.heap.get? b=some o->H b=none->h'.get? b=some o)
 (slot:∀b o,b≠X.env.locals->b∈X.fs->b∉ch->s.heap.get? b=some o->H b=none->∃sl,h'.get? b=some {o with slots:=sl}) (free:∀b o,b∉ch->s.heap.get? b=some o->H b=none->H' b=none)
 (there:∀b o,b∉ch->s.heap.get? b=some o->∃o',h'.get? b=some o')
 (tups:∀b xs,H b=some (.tup xs)->H' b=some (.tup xs)) (frzs:∀b o u,H b=some (.frz o u)->H' b=some (.frz o u)) (tbls:∀b ps,H b=some (.tbl ps)->∃more,H' b=some (.tbl (ps++more)))
 (ns:∀m,s.heap.Ns X.env.locals m->h'.Ns X.env.locals m) (hok:HOk X.prog X.w H' h') (hg:AllBare g') :
 Inv X pins σ H' {s with heap:=h',gens:=g',drawn:=d',toks:=t'}:=by
 have neL:∀b o,X.s₀.heap.get? b=some o->b≠X.env.locals:=λb o e=>va5 (vak (vav e) I.ok.above)
 have neC:∀b o,X.s₀.heap.get? b=some o->b∉X.ex->b∉ch:=λb o e hx hb=>by
  rcases(hch b hb).1 with z|z
  .exact hx z
  .exact absurd (vak (vav e) z) (vc2 _)
 have cellK:∀x c,X.env.cells.lookup x=some c->∀v,s.heap.IsCell c v->h'.IsCell c v:=λx c e v hq0=>by
  obtain⟨o,ho,hd⟩:=hq0
  have nch:c∉ch:=λz=>(hch c z).2.2.1 x c e rfl
  by_cases hc:c∈X.fs
  .obtain⟨sl,q⟩:=slot c o (I.cne x c e) hc nch ho (I.freeC x c e)
   exact⟨_,q,hd⟩
  .exact⟨o,keep c o (I.cne x c e) hc nch ho (I.freeC x c e),hd⟩
 refine⟨I.ok,I.os,hg,⟨λb o e n hb hx=>?_,λb o e n hb hx=>?_,λb o e n hx=>?_,λb o e hx=>?_,λb xs e=>tups b xs (I.base.tups b xs e),λb o xs e=>frzs b o xs (I.base.frzs b o xs e),λb ps e=>?_⟩,?_,λx c e=>?_,?_,λx c e=>?_,λp hp=>?_,hok,I.len⟩
 .exact keep b o (neL b o e) hb (neC b o e hx) (I.base.keep b o e n hb hx) (I.base.free b o e n hx)
 .obtain⟨sl,e1⟩:=I.base.slot b o e n hb hx
  obtain⟨sl',e2⟩:=slot b _ (neL b o e) hb (neC b o e hx) e1 (I.base.free b o e n hx)
  exact⟨sl',e2⟩
 .obtain⟨o',e1⟩:=I.base.there b o e hx
  exact free b o' (neC b o e hx) e1 (I.base.free b o e n hx)
 .obtain⟨o',e1⟩:=I.base.there b o e hx
  exact there b o' (neC b o e hx) e1
 .obtain⟨m1,e1⟩:=I.base.tbls b ps e
  obtain⟨m2,e2⟩:=tbls b _ e1
  exact⟨m1++m2,by rw[e2,Array.append_assoc]⟩
 .obtain⟨m,hn,hl⟩:=I.loc
  refine⟨m,ns m hn,λi x v e1 e2 e3=>?_⟩
  obtain⟨u,r,l⟩:=hl i x v e1 e2 e3
  refine⟨u,r,?_⟩
  rcases l with l|⟨k,c,e,z⟩
  .exact .inl l
  .exact .inr ⟨k,c,e,cellK x c e _ z⟩
 .obtain⟨v,z⟩:=I.cell x c e
  exact⟨v,cellK x c e v z⟩
 .obtain⟨m,⟨o,_,_,ho,_⟩,_⟩:=I.loc
  exact free _ o (λz=>(hch _ z).2.1 rfl) ho I.free
 .obtain⟨v,o,ho,hd⟩:=I.cell x c e
  exact free c o (λz=>(hch c z).2.2.1 x c e rfl) ho (I.freeC x c e)
 .obtain⟨e,n,ne,nf,d⟩:=I.pin p hp
  have nch:p.1∉ch:=λz=>(hch p.1 z).2.2.2 p hp rfl
  exact⟨keep p.1 p.2 ne nf nch e n,free p.1 p.2 nch e n,ne,nf,d⟩
theorem Inv.un{t':Nat}(I:Inv X pins σ H s)(u:Un X.fs [] H H' s.heap h')(hok:HOk X.prog X.w H' h'):Inv X pins σ H' {s with heap:=h',toks:=t'}:=by
 obtain⟨m,⟨o,es,ep,ho,r⟩,_⟩:=id I.loc
 obtain⟨sl,hL⟩:=u.any ho I.free (by simp)
 exact I.step (g':=s.gens) (d':=s.drawn) (ch:=[]) (λ_ z=>nomatch z) (λb o _ hb _ e n=>u.keep b o e n hb (by simp)) (λb o _ hb _ e n=>u.slot b o e n hb (by simp)) (λb o _ e n=>u.free b o e n (by simp)) (λb o _ e=>u.there b o e (by simp)) u.tups u.frzs u.tbls (λm' hm=>by
  obtain⟨o',es',ep',ho',r'⟩:=hm
  rw[ho]at ho';cases ho'
  exact⟨_,es',ep',hL,r'⟩) hok I.bare
theorem Inv.call{g':Array GenState}{t':Nat}{d':Drawn}{ch:List Addr}(I:Inv X pins σ H s)(u:Un (frs X.stack) ch H H' s.heap h')(hok:HOk X.prog X.w H' h')(hg:AllBare g')
 (hch:∀b∈ch,(b∈X.ex\/X.s₀.heap.objs.size<=b)/\b≠X.env.locals/\(∀x c,X.env.cells.lookup x=some c->c≠b)/\∀p∈X.pn++pins,p.1≠b) :
 Inv X pins σ H' {s with heap:=h',gens:=g',drawn:=d',toks:=t'}:=by
 obtain⟨m,⟨o,es,ep,ho,r⟩,_⟩:=id I.loc
 obtain⟨sl,hL⟩:=u.any ho I.free λz=>(hch _ z).2.1 rfl
 exact I.step (ch:=ch) hch (λb o hL hb hc e n=>u.keep b o e n (λz=>(vaz.mp (I.stkSub b z)).elim hL hb) hc) (λb o _ _ hc e n=>u.any e n hc) (λb o hc e n=>u.free b o e n hc) (λb o hc e=>u.there b o e hc) u.tups u.frzs u.tbls (λm' hm=>by
  obtain⟨o',es',ep',ho',r'⟩:=hm
  rw[ho]at ho';cases ho'
  exact⟨_,es',ep',hL,r'⟩) hok hg
theorem Inv.turned{t':Nat}{it:Addr}(I:Inv X pins σ H s)(k:∀b o,b≠it->s.heap.get? b=some o->h'.get? b=some o)(hn:H it=none)(hL:it≠X.env.locals)
 (h1:it∈X.ex\/X.s₀.heap.objs.size<=it) (h2:∀x c,X.env.cells.lookup x=some c->c≠it) (h3:∀p∈X.pn++pins,p.1≠it):Inv X pins σ H {s with heap:=h',toks:=t'}:=by
 have nit:∀b u,H b=some u->b≠it:=λb u e z=>by rw[z,hn]at e;cases e
 refine I.step (g':=s.gens) (d':=s.drawn) (ch:=[it]) (λb hb=>?_) (λb o _ _ hc e _=>k b o (λz=>hc (by simp[z])) e) (λb o _ _ hc e _=>⟨o.slots,k b o (λz=>hc (by simp[z])) e⟩) (λ_ _ _ _ n=>n)
  (λb o hc e=>⟨o,k b o (λz=>hc (by simp[z])) e⟩) (λ_ _ e=>e) (λ_ _ _ e=>e) (λb ps e=>⟨#[],by rw[e];simp⟩) (λm hm=>?_) (λb u e=>?_) I.bare
 .have e:b=it:=by simpa using hb
  subst e
  exact⟨h1,hL,h2,h3⟩
 .obtain⟨o,es,ep,ho,r⟩:=hm
  exact⟨o,es,ep,k _ o (vck hL) ho,r⟩
 .refine(I.hok b u e).stay (λc v hc q=>k c v ?_ q) (λ_ q=>q) λ_ _ q=>q
  rcases hc with z|z
  .rw[z];exact nit b u e
  .exact nit c _ z
theorem Inv.tok(I:Inv X pins σ H s)(t:Nat):Inv X pins σ H {s with toks:=t}:=I.un (h':=s.heap) (t':=t) Un.refl I.hok
theorem Inv.kept{t':Nat}(I:Inv X pins σ H s)(k:∀b u,s.heap.get? b=some u->h'.get? b=some u):Inv X pins σ H {s with heap:=h',toks:=t'}:=I.un (Un.kept k) (I.hok.kept k)
theorem Inv.laid{a:Addr}{o:HO}{t':Nat}(I:Inv X pins σ H s)(k:∀b u,s.heap.get? b=some u->h'.get? b=some u)(hp:s.heap.objs.size<=a)(new:ObjOk X.prog X.w (upd H a o) h' a o) :
 Inv X pins σ (upd H a o) {s with heap:=h',toks:=t'}:=I.un (Un.laid k hp (I.hok.fresh hp)) (I.hok.laid k hp new)
theorem Inv.write{x e:Addr}{o:HO}{t':Nat}(I:Inv X pins σ H s)(mu:Mut (H x))(he:e=x\/H e=some (.own x))(k:∀b u,b≠e->s.heap.get? b=some u->h'.get? b=some u)(heo:∃u,h'.get? e=some u)
 (new:ObjOk X.prog X.w (upd H x o) h' x o):Inv X pins σ (upd H x o) {s with heap:=h',toks:=t'}:=I.un (Un.write mu he k heo) (I.hok.write mu he k heo new)
theorem Inv.pins_of{pins':List (Addr×Obj)}(I:Inv X pins σ H s)(h:∀p∈pins',s.heap.get? p.1=some p.2/\H p.1=none/\p.1≠X.env.locals/\p.1∉X.fs/\∀v,p.2.data≠.cell v):Inv X pins' σ H s:=
 ⟨I.ok,I.os,I.bare,I.base,I.loc,I.cell,I.free,I.freeC,λp hp=>(vej.mp hp).elim (λz=>I.pin p (vdh _ z)) (h p),I.hok,I.len⟩
theorem zjb{N:List Str}(hN:N.Nodup){i j:Nat}{x:Str}(a:N[i]?=some x)(b:N[j]?=some x):i=j:=by
 obtain⟨h1,e1⟩:=vau.mp a
 obtain⟨h2,e2⟩:=vau.mp b
 exact(List.getElem_inj hN).mp (e1.trans e2.symm)
theorem zgv{M:Model}{A:Around}{E:Value->Shared->Prop}{i:Nat}{x:Str}{v:V}{u:Value}{Q:Unit->Shared->Prop}(I:Inv X pins σ H s)(hN:X.N.Nodup)(hi:X.N[i]?=some x)(hx:Loc X.env.scope x)(r:RelV v u)
 (h:∀s',Inv X pins (σ.set i (some v)) H s'->(∃a,Heap.SameBut a s.heap s'.heap/\(a=X.env.locals\/X.env.cells.lookup x=some a))->Q () s') (hf:X.fn x=true\/X.env.scope.names.lookup x=some .local:=by first|exact .inl rfl|exact .inr rfl|assumption):wpAny M A (storeName X.env x u) Q E s:=by
 obtain⟨m,hn,hl⟩:=id I.loc
 have hcls:(X.env.scope.kind == .class|| (X.env.scope.kind == .module&&X.env.locals != X.env.globals))=false:=by rw[I.ok.kind];rfl
 have hiσ:i<σ.length:=by rw[I.len];exact(vau.mp hi).1
 have cne:=I.cne
 have tracked:∀{a:Addr}{h':Heap},(∃o,s.heap.get? a=some o/\H a=none)->Heap.SameBut a s.heap h'->HOk X.prog X.w H h':=λ{a h'} ha hs b ob e=>by
  obtain⟨_,_,hfree⟩:=ha
  refine(I.hok b ob e).stay (λc w' hc q=>(hs.2 c ?_).trans q) (λ_ q=>q) λ_ _ q=>q
  rintro rfl
  rcases hc with rfl|hc
  .rw[hfree]at e;cases e
  .rw[hfree]at hc;cases hc
 rcases hx with hk|hk
 .refine wpAny_storeName_local hk hn (λh' hn' hs=>?_) hcls
  obtain⟨oL,_,_,hoL,_⟩:=id hn
  refine h _ ⟨I.ok,I.os,I.bare,⟨λb o e n hb hx=>?_,λb o e n hb hx=>?_,I.base.free,λb o e hx=>?_,I.base.tups,I.base.frzs,I.base.tbls⟩,⟨_,hn',λj y v' e1 e2 e3=>?_⟩,λy c e=>?_,I.free,I.freeC,λp hp=>?_,tracked ⟨oL,hoL,I.free⟩ hs,by simpa using I.len⟩ ⟨_,hs,.inl rfl⟩
  .exact(hs.2 b (va5 (vak (vav e) I.ok.above))).trans (I.base.keep b o e n hb hx)
  .obtain⟨sl,e1⟩:=I.base.slot b o e n hb hx
   exact⟨sl,(hs.2 b (va5 (vak (vav e) I.ok.above))).trans e1⟩
  .obtain⟨o',e1⟩:=I.base.there b o e hx
   exact⟨o',(hs.2 b (va5 (vak (vav e) I.ok.above))).trans e1⟩
  .by_cases hj:j=i
   .subst hj
    rw[hi]at e1;cases e1
    rw[vcr hiσ]at e2
    cases e2
    exact⟨u,r,.inl ⟨hk,by simp⟩⟩
   .rw[vdi (vck hj)]at e2
    obtain⟨u',r',q⟩:=hl j y v' e1 e2 e3
    refine⟨u',r',?_⟩
    rcases q with⟨k,e⟩|⟨k,c,e,z⟩
    .refine .inl ⟨k,?_⟩
     have:y≠x:=λe=>hj (zjb hN e1 (e▸hi))
     simp[this,e]
    .exact .inr ⟨k,c,e,z.sameBut hs (cne y c e)⟩
  .obtain⟨w',z⟩:=I.cell y c e
   exact⟨w',z.sameBut hs (cne y c e)⟩
  .obtain⟨e,n,ne,nf,d⟩:=I.pin p hp
   exact⟨(hs.2 p.1 ne).trans e,n,ne,nf,d⟩
 .have hfn:X.fn x=true:=by
   rcases hf with z|z
   .exact z
   .rw[z]at hk;cases hk
  obtain⟨c,hc⟩:=I.ok.has x (.inl hk)
  obtain⟨w',z⟩:=I.cell x c hc
  refine wpAny_storeName_cell I.ok.kind hk hc z (λh' hc' hs=>?_)
  obtain⟨oc,hoc,hocd⟩:=id z
  refine h {s with heap:=h'} ⟨I.ok,I.os,I.bare,⟨λb o e n hb hx=>?_,λb o e n hb hx=>?_,I.base.free,λb o e hx=>?_,I.base.tups,I.base.frzs,I.base.tbls⟩,⟨m,hn.sameBut hs (vck (cne x c hc)),λj y v' e1 e2 e3=>?_⟩,λy c' e=>?_,I.free,I.freeC,λp hp=>?_,tracked ⟨oc,hoc,I.freeC x c hc⟩ hs,by simpa using I.len⟩ ⟨c,hs,.inr hc⟩
  .exact(hs.2 b (va5 (vak (vav e) (I.ok.cab x c hfn hc)))).trans (I.base.keep b o e n hb hx)
  .obtain⟨sl,e1⟩:=I.base.slot b o e n hb hx
   exact⟨sl,(hs.2 b (va5 (vak (vav e) (I.ok.cab x c hfn hc)))).trans e1⟩
  .obtain⟨o',e1⟩:=I.base.there b o e hx
   exact⟨o',(hs.2 b (va5 (vak (vav e) (I.ok.cab x c hfn hc)))).trans e1⟩
  .by_cases hj:j=i
   .subst hj
    rw[hi]at e1;cases e1
    rw[vcr hiσ]at e2
    cases e2
    exact⟨u,r,.inr ⟨.inl hk,c,hc,hc'⟩⟩
   .rw[vdi (vck hj)]at e2
    obtain⟨u',r',q⟩:=hl j y v' e1 e2 e3
    refine⟨u',r',?_⟩
    rcases q with q|⟨k,c',e,z'⟩
    .exact .inl q
    .refine .inr ⟨k,c',e,z'.sameBut hs ?_⟩
     rintro rfl
     exact hj (zjb hN e1 (I.ok.inj _ _ _ e hc▸hi))
  .by_cases hcc:c'=c
   .subst hcc;exact⟨_,hc'⟩
   .obtain⟨w2,z2⟩:=I.cell y c' e
    exact⟨w2,z2.sameBut hs hcc⟩
  .obtain⟨e,n,ne,nf,d⟩:=I.pin p hp
   refine⟨(hs.2 p.1 ?_).trans e,n,ne,nf,d⟩
   intro q
   rw[q,hoc]at e
   have q':oc=p.2:=vbr e
   exact d w' (by rw[<-q'];exact hocd)
theorem zfy{M:Model}{A:Around}{E:Value->Shared->Prop}{i:Nat}{x:Str}{v:V}{u:Value}{Q:Unit->Shared->Prop}(I:Inv X pins σ H s)(hN:X.N.Nodup)(hi:X.N[i]?=some x)(hx:Loc X.env.scope x)(r:RelV v u)
 (h:∀s',Inv X pins (σ.set i (some v)) H s'->Q () s') (hf:X.fn x=true\/X.env.scope.names.lookup x=some .local:=by first|exact .inl rfl|exact .inr rfl|assumption):wpAny M A (storeName X.env x u) Q E s:=
 zgv I hN hi hx r (λs' I' _=>h s' I') hf
theorem Inv.call'{s':Shared}{ch:List Addr}(I:Inv X pins σ H s)(ho:s'.os=s.os)(u:Un (frs X.stack) ch H H' s.heap s'.heap)(hok:HOk X.prog X.w H' s'.heap)(hg:AllBare s'.gens)
 (hch:∀b∈ch,(b∈X.ex\/X.s₀.heap.objs.size<=b)/\b≠X.env.locals/\(∀x c,X.env.cells.lookup x=some c->c≠b)/\∀p∈X.pn++pins,p.1≠b):Inv X pins σ H' s':=by
 obtain⟨h',g',d',t',o'⟩:=s'
 have e:o'=s.os:=ho
 subst e
 exact I.call (g':=g') (t':=t') (d':=d') u hok hg hch
end
noncomputable abbrev XK:=Value->Option Addr->Hp->Prop
noncomputable abbrev St:=List (Option V)
noncomputable abbrev VK:=V->Hp->Prop
noncomputable abbrev TE:=St->Hp->VK->Prop
noncomputable abbrev TT:=St->Hp->(Bool->Hp->Prop)->Prop
noncomputable abbrev TA:=St->Hp->(List V->Hp->Prop)->Prop
set_option genInjectivity false in
structure Ends where
 nx:St->Hp->Prop
 rt:VK
 bk:St->Hp->Prop:=λ_ _=>False
 ct:St->Hp->Prop:=λ_ _=>False
noncomputable abbrev TS:=Ends->St->Hp->Prop
noncomputable def EP(X:Cx)(pins:List (Addr×Obj))(σ:St)(Q:VK)(u:Value)(s':Shared):Prop:=∃v H',Inv X pins σ H' s'/\RelV v u/\Q v H'
noncomputable def TP(X:Cx)(pins:List (Addr×Obj))(σ:St)(Q:Bool->Hp->Prop)(b:Bool)(s':Shared):Prop:=∃H',Inv X pins σ H' s'/\Q b H'
noncomputable def AP(X:Cx)(pins:List (Addr×Obj))(σ:St)(Q:List V->Hp->Prop)(us:List Value)(s':Shared):Prop:=∃vs H',Inv X pins σ H' s'/\Vals vs us/\Q vs H'
theorem EP.el{X:Cx}{pins:List (Addr×Obj)}{σ:St}{Q:VK}{u:Value}{s':Shared}{P:Prop}(q:EP X pins σ Q u s')(k:∀v H',Inv X pins σ H' s'->RelV v u->Q v H'->P):P:=by
 obtain⟨v,H',a,b,c⟩:=q
 exact k v H' a b c
theorem TP.el{X:Cx}{pins:List (Addr×Obj)}{σ:St}{Q:Bool->Hp->Prop}{b:Bool}{s':Shared}{P:Prop}(q:TP X pins σ Q b s')(k:∀H',Inv X pins σ H' s'->Q b H'->P):P:=by
 obtain⟨H',a,c⟩:=q
 exact k H' a c
theorem AP.el{X:Cx}{pins:List (Addr×Obj)}{σ:St}{Q:List V->Hp->Prop}{us:List Value}{s':Shared}{P:Prop}(q:AP X pins σ Q us s')(k:∀vs H',Inv X pins σ H' s'->Vals vs us->Q vs H'->P):P:=by
 obtain⟨v,H',a,b,c⟩:=q
 exact k v H' a b c
noncomputable def SP(X:Cx)(pins:List (Addr×Obj))(D:Ends)(f:Flow)(s':Shared):Prop:=
 match f with
 |.next=>∃σ' H',Inv X pins σ' H' s'/\D.nx σ' H'
 |.brk=>∃σ' H',Inv X pins σ' H' s'/\D.bk σ' H'
 |.cont=>∃σ' H',Inv X pins σ' H' s'/\D.ct σ' H'
 |.ret u=>∃v σ' H',Inv X pins σ' H' s'/\RelV v u/\D.rt v H'
noncomputable def PE(X:Cx)(e:Expr)(t:TE):Prop:=
 ∀(pins:List (Addr×Obj))(s:Shared)(σ:St)(H:Hp)(Q:VK),Inv X pins σ H s->t σ H Q->wpAny (model X.prog X.w) X.A (eval e X.env) (EP X pins σ Q) X.xe s
noncomputable def PT(X:Cx)(e:Expr)(t:TT):Prop:=
 ∀(pins:List (Addr×Obj))(s:Shared)(σ:St)(H:Hp)(Q:Bool->Hp->Prop),Inv X pins σ H s->t σ H Q->wpAny (model X.prog X.w) X.A (isTrue e X.env (eval e X.env)) (TP X pins σ Q) X.xe s
noncomputable def PW(X:Cx)(e:Expr)(t:TT):Prop:=
 ∀(whole:Sem Value)(pins:List (Addr×Obj))(s:Shared)(σ:St)(H:Hp)(Q:Bool->Hp->Prop),Inv X pins σ H s->t σ H Q->wpAny (model X.prog X.w) X.A (isTrue e X.env whole) (TP X pins σ Q) X.xe s
theorem PW.pt{X:Cx}{e:Expr}{t:TT}(h:PW X e t):PT X e t:=h _
noncomputable def PA(X:Cx)(es:List Expr)(t:TA):Prop:=
 ∀(pos:Pos)(pins:List (Addr×Obj))(s:Shared)(σ:St)(H:Hp)(Q:List V->Hp->Prop),Inv X pins σ H s->t σ H Q->wpAny (model X.prog X.w) X.A (spliced (backTo pos (starEach es X.env))) (AP X pins σ Q) X.xe s
noncomputable def PS(X:Cx)(st:Stmt)(t:TS):Prop:=
 ∀(pins:List (Addr×Obj))(s:Shared)(σ:St)(H:Hp)(D:Ends),Inv X pins σ H s->t D σ H->wpAny (model X.prog X.w) X.A (exec st X.env) (SP X pins D) X.xe s
noncomputable def PSs(X:Cx)(st:List Stmt)(t:TS):Prop:=
 ∀(pins:List (Addr×Obj))(s:Shared)(σ:St)(H:Hp)(D:Ends),Inv X pins σ H s->t D σ H->wpAny (model X.prog X.w) X.A (execs st X.env) (SP X pins D) X.xe s
theorem thn{α:Type}{t:Sem α}{Q Q':α->Shared->Prop}{M:Model}{A:Around}{E:Value->Shared->Prop}{s:Shared}(h:wpAny M A t Q E s)(hQ:∀a s,Q a s->Q' a s):wpAny M A t Q' E s:=vds h hQ λ_ _ x=>x
section
variable{X:Cx}
noncomputable def tVar(i:Nat):TE:=λσ H Q=>∃v,σ[i]?=some (some v)/\Q v H
noncomputable def tC(v:V):TE:=λ_ H Q=>Q v H
theorem zun{i:Nat}{x:Str}{pos:Pos}(hN:X.N[i]?=some x)(hv:Vis X.env.scope x)(hd:(x==("__debug__" : Str))=false:=by decide)(hcd:(x==("__classdict__" : Str))=false:=by decide):PE X (.Name x pos) (tVar i):=by
 intro pins s σ H Q I h
 obtain⟨v,e,h⟩:=h
 obtain⟨m,hn,hl⟩:=I.loc
 obtain⟨u,r,l⟩:=hl i x v hN e hv
 have fin:EP X pins σ Q u s:=⟨v,H,I,r,h⟩
 rcases l with⟨hk,hm⟩|⟨hk,c,hc,hcell⟩
 .exact wpAny_Name (wpAny_loadName_local I.ok.kind hk hn hm fin) hd
 .rcases hk with hk|hk
  .exact wpAny_Name (wpAny_loadName_cell I.ok.kind hk hc hcell fin) hd
  .exact wpAny_Name (wpAny_loadName_free I.ok.kind hk hc hcell fin hcd) hd
theorem zuo{i j pos}:PE X (.Constant (.int i) j pos) (tC (.int i)):=λ_ _ _ H _ I h=>wpAny_Constant_int ⟨.int i,H,I.tok _,⟨_,rfl⟩,h⟩
theorem pe_bl{b j pos}:PE X (.Constant (.bool b) j pos) (tC (.bl b)):=λ_ _ _ H _ I h=>Constant_bool ⟨.bl b,H,I,rfl,h⟩
theorem zup{j pos}:PE X (.Constant .none j pos) (tC .non):=λ_ _ _ H _ I h=>Constant_none ⟨.non,H,I,rfl,h⟩
theorem zuq{x j pos}:PE X (.Constant (.str x) j pos) (tC (.str x)):=λ_ _ _ H _ I h=>Calls.Constant_str ⟨.str x,H,I.tok _,⟨_,rfl⟩,h⟩
noncomputable def Gl(X:Cx)(x:Str):Prop:=X.env.kindOf x=some .globalImplicit
theorem zic{E:Value->Shared->Prop}{pins:List (Addr×Obj)}{s:Shared}{σ:St}{H:Hp}{x:Str}{u:Value}{pos:Pos}{Q:Value->Shared->Prop}(I:Inv X pins σ H s)(hg:Gl X x)(hm:X.mg x=some u)(h:Q u s)
 (hd:(x==("__debug__" : Str))=false:=by decide):wpAny (model X.prog X.w) X.A (eval (.Name x pos) X.env) Q E s:=
 Calls.Name_function_global I.ok.kind hg (Calls.loadGlobal_global (by rw[I.ok.glob];exact I.mod.glob.keeps I.bk) hm h) hd
theorem zdk{E:Value->Shared->Prop}{pins:List (Addr×Obj)}{s:Shared}{σ:St}{H:Hp}{x:Str}{u:Value}{pos:Pos}{Q:Value->Shared->Prop}(I:Inv X pins σ H s)(hg:Gl X x)(hm:X.mg x=none)(hv:bootBuiltins x=some u)(h:Q u s)
 (hn:x≠"__name__":=by decide) (hd:(x==("__debug__" : Str))=false:=by decide):wpAny (model X.prog X.w) X.A (eval (.Name x pos) X.env) Q E s:=by
 obtain⟨mb,h1,h2⟩:=I.mod.blt
 exact Calls.Name_function_global I.ok.kind hg (Calls.loadGlobal_builtin (by rw[I.ok.glob];exact I.mod.glob.keeps I.bk) hm (by rw[I.ok.blt];exact h1.keeps I.bk) ((h2 x hn).trans hv) h) hd
theorem zr7{x:Str}{v:V}{u:Value}{pos:Pos}(hg:Gl X x)(hm:X.mg x=some u)(r:RelV v u)(hd:(x==("__debug__" : Str))=false:=by decide):PE X (.Name x pos) (tC v):=
 λ_ _ _ H _ I h=>zic I hg hm ⟨v,H,I,r,h⟩ hd
theorem zr8{x:Str}{v:V}{u:Value}{pos:Pos}(hg:Gl X x)(hm:X.mg x=none)(hv:bootBuiltins x=some u)(r:RelV v u)(hn:x≠"__name__":=by decide)(hd:(x==("__debug__" : Str))=false:=by decide):PE X (.Name x pos) (tC v):=
 λ_ _ _ H _ I h=>zdk I hg hm hv ⟨v,H,I,r,h⟩ hn hd
variable{a b:Expr}{ta tb:TE}{pos:Pos}
variable{tA tB':TT}{rest:List Expr}
noncomputable def tAnd(t u:TT):TT:=λσ H Q=>t σ H λc H1=>if c=true then u σ H1 Q else Q false H1
noncomputable def tOr(t u:TT):TT:=λσ H Q=>t σ H λc H1=>if c=true then Q true H1 else u σ H1 Q
noncomputable def tNot(t:TT):TT:=λσ H Q=>t σ H λc H1=>Q (!c) H1
theorem zr9(ha:PT X a tA):PW X (.BoolOp .And [a] pos) tA:=by
 intro wh pins s σ H Q I h
 refine isTrue_and (thn (ha pins s σ H Q I h) λc s1 e=>?_)
 cases c with
 |true=>exact isTrue_and_nil e
 |false=>exact e
theorem zur(ha:PT X a tA):PW X (.BoolOp .Or [a] pos) tA:=by
 intro wh pins s σ H Q I h
 refine isTrue_or (thn (ha pins s σ H Q I h) λc s1 e=>?_)
 cases c with
 |false=>exact isTrue_or_nil e
 |true=>exact e
theorem zus(ha:PT X a tA)(hb:PW X (.BoolOp .And (b::rest) pos) tB'):PW X (.BoolOp .And (a::b::rest) pos) (tAnd tA tB'):=by
 intro wh pins s σ H Q I h
 refine isTrue_and (thn (ha pins s σ H _ I h) λc s1 z9=>z9.el λH1 I1 q1=>?_)
 cases c with
 |true=>exact hb wh pins s1 σ H1 Q I1 q1
 |false=>exact⟨H1,I1,q1⟩
theorem pw_or(ha:PT X a tA)(hb:PW X (.BoolOp .Or (b::rest) pos) tB'):PW X (.BoolOp .Or (a::b::rest) pos) (tOr tA tB'):=by
 intro wh pins s σ H Q I h
 refine isTrue_or (thn (ha pins s σ H _ I h) λc s1 z9=>z9.el λH1 I1 q1=>?_)
 cases c with
 |true=>exact⟨H1,I1,q1⟩
 |false=>exact hb wh pins s1 σ H1 Q I1 q1
theorem zut(ha:PT X a tA):PT X (.UnaryOp .Not a pos) (tNot tA):=by
 intro pins s σ H Q I h
 exact isTrue_not (ha pins s σ H (λc H1=>Q (!c) H1) I h)
noncomputable def tAndV(ta tb:TE):TE:=λσ H Q=>ta σ H λx H1=>∃c,x=.bl c/\if c=true then tb σ H1 Q else Q (.bl false) H1
noncomputable def tOrV(ta tb:TE):TE:=λσ H Q=>ta σ H λx H1=>∃c,x=.bl c/\if c=true then Q (.bl true) H1 else tb σ H1 Q
noncomputable def tNotV(ta:TE):TE:=λσ H Q=>ta σ H λx H1=>∃c,x=.bl c/\Q (.bl (!c)) H1
theorem zuu{op}{t:TE}(h:PE X a t):PE X (.BoolOp op [a] pos) t:=λpins s σ H Q I hw=>BoolOp_one (h pins s σ H Q I hw)
theorem zuv(ha:PE X a ta)(hb:PE X (.BoolOp .And (b::rest) pos) tb):PE X (.BoolOp .And (a::b::rest) pos) (tAndV ta tb):=by
 intro pins s σ H Q I h
 refine BoolOp_and (thn (ha pins s σ H _ I h) λv s1 z9=>z9.el λx H1 I1 r1 q1=>?_)
 obtain⟨c,rfl,q1⟩:=q1
 cases r1
 refine vcb ?_
 cases c with
 |true=>exact hb pins s1 σ H1 Q I1 q1
 |false=>exact⟨.bl false,H1,I1,rfl,q1⟩
theorem pe_or(ha:PE X a ta)(hb:PE X (.BoolOp .Or (b::rest) pos) tb):PE X (.BoolOp .Or (a::b::rest) pos) (tOrV ta tb):=by
 intro pins s σ H Q I h
 refine BoolOp_or (thn (ha pins s σ H _ I h) λv s1 z9=>z9.el λx H1 I1 r1 q1=>?_)
 obtain⟨c,rfl,q1⟩:=q1
 cases r1
 refine vcb ?_
 cases c with
 |false=>exact hb pins s1 σ H1 Q I1 q1
 |true=>exact⟨.bl true,H1,I1,rfl,q1⟩
theorem zuw(ha:PE X a ta):PE X (.UnaryOp .Not a pos) (tNotV ta):=by
 intro pins s σ H Q I h
 refine UnaryOp_ (thn (ha pins s σ H _ I h) λv s1 z9=>z9.el λx H1 I1 r1 q1=>?_)
 obtain⟨c,rfl,q1⟩:=q1
 cases r1
 exact not_of (vcb ⟨.bl (!c),H1,I1,rfl,q1⟩)
noncomputable def tIf(t:TT)(ta tb:TE):TE:=λσ H Q=>t σ H λc H1=>if c=true then ta σ H1 Q else tb σ H1 Q
theorem zow{c:Expr}(hc:PT X c tA)(ha:PE X a ta)(hb:PE X b tb):PE X (.IfExp c a b pos) (tIf tA ta tb):=by
 intro pins s σ H Q I h
 refine wpAny_IfExp (thn (hc pins s σ H _ I h) λd s1 z9=>z9.el λH1 I1 q1=>?_)
 cases d with
 |true=>exact ha pins s1 σ H1 Q I1 q1
 |false=>exact hb pins s1 σ H1 Q I1 q1
end
noncomputable def SqL(K:PySem.W.Frag)(H:Hp)(a:Addr)(xs:List V):Prop:=
 Rd H a (.lst xs)\/
  ∃(o:Obj) (its:Array Value) (n:Nat),K.lookup a=some o/\o.cls=.type "list"/\o.dict=none/\o.data=.seq its n/\its.size<=sizeLine/\Vals xs its.toList
noncomputable def SqT(K:PySem.W.Frag)(H:Hp)(a:Addr)(xs:List V):Prop:=
 Rd H a (.tup xs)\/
  ∃(o:Obj) (its:Array Value) (n:Nat),K.lookup a=some o/\o.cls=.type "tuple"/\o.dict=none/\o.data=.seq its n/\its.size<=sizeLine/\Vals xs its.toList
noncomputable def absV:Value->Option V
 |.none=>some .non
 |.bool b=>some (.bl b)
 |.int i _=>some (.int i)
 |.str x _=>some (.str x)
 |.bytes b _=>some (.byt b)
 |.float b _=>some (.flt b)
 |.ref a=>some (.ref a)
 |.type n=>some (.ty n)
 |_=>none
theorem RelV.abs{x:V}{u:Value}(r:RelV x u):absV u=some x:=by
 cases x with
 |non=>cases r;rfl
 |bl _=>cases r;rfl
 |int _=>obtain⟨t,rfl⟩:=r;rfl
 |str _=>obtain⟨t,rfl⟩:=r;rfl
 |byt _=>obtain⟨t,rfl⟩:=r;rfl
 |flt _=>obtain⟨t,rfl⟩:=r;rfl
 |ref _=>cases r;rfl
 |ty _=>cases r;rfl
theorem RelV.inj{x y:V}{u:Value}(r:RelV x u)(q:RelV y u):x=y:=vbr (r.abs.symm.trans q.abs)
theorem Vals.inj:∀{xs ys:List V} {us:List Value},Vals xs us->Vals ys us->xs=ys
 |_,_,_,.nil,.nil=>rfl
 |_,_,_,.cons r t,.cons r' t'=>by rw[r.inj r',Vals.inj t t']
section
variable{X:Cx}{pins:List (Addr×Obj)}{σ:St}{H:Hp}{s:Shared}{a:Addr}{xs ys:List V}
theorem SqL.of{K:PySem.W.Frag}(h:H a=some (.lst xs)):SqL K H a xs:=.inl (.inl h)
theorem SqT.of{K:PySem.W.Frag}(h:H a=some (.tup xs)):SqT K H a xs:=.inl (.inl h)
theorem Inv.list(I:Inv X pins σ H s)(h:SqL X.K H a xs):∃its:List Value,Vals xs its/\PlainL s.heap a its.toArray/\xs.length<=sizeLine:=by
 rcases h with h|⟨o,its,n,hk,hc,hd,hs,hz,r⟩
 .obtain⟨z,its,n,r,e⟩:=h.ok I.hok
  exact⟨its,r,⟨_,n,e,rfl,rfl,rfl⟩,z⟩
 .refine⟨its.toList,r,⟨o,n,I.kIn a o hk,hc,hd,by simpa using hs⟩,?_⟩
  have e:=r.length
  simp only[veg]at e
  omega
theorem Inv.tupleD(I:Inv X pins σ H s)(h:SqT X.K H a xs):∃its:List Value,Vals xs its/\za9 s.heap a its.toArray/\xs.length<=sizeLine:=by
 rcases h with h|⟨o,its,n,hk,hc,hd,hs,hz,r⟩
 .obtain⟨z,its,r,p⟩:=h.ok I.hok
  exact⟨its,r,p,z⟩
 .refine⟨its.toList,r,⟨o,I.kIn a o hk,hc,⟨n,by simpa using hs⟩,hd⟩,?_⟩
  have e:=r.length
  simp only[veg]at e
  omega
theorem Inv.tuple(I:Inv X pins σ H s)(h:SqT X.K H a xs):∃its:List Value,Vals xs its/\IsTup s.heap a its.toArray/\xs.length<=sizeLine:=by
 obtain⟨its,r,p,z⟩:=I.tupleD h
 exact⟨its,r,p.tup,z⟩
theorem Inv.list_inj(I:Inv X pins σ H s)(h:SqL X.K H a xs)(h':SqL X.K H a ys):xs=ys:=by
 obtain⟨its,r,⟨o,n,e,_,_,d⟩,_⟩:=I.list h
 obtain⟨its',r',⟨o',n',e',_,_,d'⟩,_⟩:=I.list h'
 rw[e]at e';cases e'
 rw[d]at d'
 injection d' with d1 _
 have:its=its':=by simpa using vey Array.toList d1
 subst this
 exact r.inj r'
theorem Inv.tuple_inj(I:Inv X pins σ H s)(h:SqT X.K H a xs)(h':SqT X.K H a ys):xs=ys:=by
 obtain⟨its,r,⟨o,e,_,n,d⟩,_⟩:=I.tuple h
 obtain⟨its',r',⟨o',e',_,n',d'⟩,_⟩:=I.tuple h'
 rw[e]at e';cases e'
 rw[d]at d'
 injection d' with d1 _
 have:its=its':=by simpa using vey Array.toList d1
 subst this
 exact r.inj r'
end
noncomputable abbrev Cx.wish(X:Cx)(E:Value->Shared->Prop):Cx:={X with xe:=E}
noncomputable abbrev Cx.nox(X:Cx):Cx:=X.wish λ_ _=>False
theorem Cx.Ok.wish{X:Cx}(ok:X.Ok)(E:Value->Shared->Prop):(X.wish E).Ok:=
 ⟨ok.mod,ok.kind,ok.glob,ok.blt,ok.above,ok.inj,ok.has,ok.cab,ok.hd,ok.frames,ok.stk,ok.exf,ok.bs,ok.bsz,ok.noex,ok.exfs,ok.funs,ok.frf⟩
theorem Cx.Ok.unwish{X:Cx}{E:Value->Shared->Prop}(ok:(X.wish E).Ok):X.Ok:=
 ⟨ok.mod,ok.kind,ok.glob,ok.blt,ok.above,ok.inj,ok.has,ok.cab,ok.hd,ok.frames,ok.stk,ok.exf,ok.bs,ok.bsz,ok.noex,ok.exfs,ok.funs,ok.frf⟩
section
variable{X:Cx}{pins:List (Addr×Obj)}{σ:St}{H:Hp}{s:Shared}{E:Value->Shared->Prop}
theorem Inv.wish(I:Inv X pins σ H s)(E:Value->Shared->Prop):Inv (X.wish E) pins σ H s:=⟨I.ok.wish E,I.os,I.bare,I.base,I.loc,I.cell,I.free,I.freeC,I.pin,I.hok,I.len⟩
theorem Inv.unwish(I:Inv (X.wish E) pins σ H s):Inv X pins σ H s:=⟨I.ok.unwish,I.os,I.bare,I.base,I.loc,I.cell,I.free,I.freeC,I.pin,I.hok,I.len⟩
theorem SP.unwish{D:Ends}{f:Flow}{s':Shared}(h:SP (X.wish E) pins D f s'):SP X pins D f s':=by
 cases f with
 |next=>obtain⟨σ',H',I,q⟩:=h;exact⟨σ',H',I.unwish,q⟩
 |brk=>obtain⟨σ',H',I,q⟩:=h;exact⟨σ',H',I.unwish,q⟩
 |cont=>obtain⟨σ',H',I,q⟩:=h;exact⟨σ',H',I.unwish,q⟩
 |ret u=>obtain⟨v,σ',H',I,r,q⟩:=h;exact⟨v,σ',H',I.unwish,r,q⟩
theorem PSs.nox{st:List Stmt}{t:TS}(h:PSs X.nox st t):PSs X st t:=λpins s σ H D I hw=>
 vds (h pins s σ H D (I.wish _) hw) (λ_ _ q=>q.unwish) λ_ _ z=>False.elim z
end
section
variable{X:Cx}{st:Stmt}{rest:List Stmt}{t u:TS}{e:Expr}{te:TE}{pos:Pos}
noncomputable def tNext:TS:=λD σ H=>D.nx σ H
noncomputable def tSeq(t u:TS):TS:=λD σ H=>t {D with nx:=u D} σ H
theorem zsa:PSs X [] tNext:=λ_ _ σ H _ I h=>wpAny_execs_nil ⟨σ,H,I,h⟩
theorem zox(h1:PS X st t)(h2:PSs X rest u):PSs X (st::rest) (tSeq t u):=by
 intro pins s σ H D I h
 refine wpAny_execs_cons (thn (h1 pins s σ H {D with nx:=u D} I h) λf s1 q=>?_)
 cases f with
 |next=>
  obtain⟨σ',H',I',q⟩:=q
  exact h2 pins s1 σ' H' D I' q
 |ret v=>exact q
 |brk=>exact q
 |cont=>exact q
noncomputable def zux:TS:=λD σ H=>D.bk σ H
noncomputable def tCont:TS:=λD σ H=>D.ct σ H
theorem zsb:PS X (.Pass pos) tNext:=λ_ _ σ H _ I h=>wpAny_Pass ⟨σ,H,I,h⟩
theorem zoy:PS X (.Break pos) zux:=λ_ _ σ H _ I h=>wpAny_Break ⟨σ,H,I,h⟩
theorem zid:PS X (.Continue pos) tCont:=λ_ _ σ H _ I h=>wpAny_Continue ⟨σ,H,I,h⟩
theorem Inv.quiet{pins:List (Addr×Obj)}{σ:St}{H:Hp}{s:Shared}(I:Inv X pins σ H s):interactive X.env=false:=by simp[interactive,I.ok.kind]
noncomputable def tDrop(te:TE):TS:=λD σ H=>te σ H λ_ H1=>D.nx σ H1
theorem zsc(he:PE X e te)(hs:swapsWith e none pos.line X.env=pure false:=by rfl):PS X (.Expr e pos) (tDrop te):=by
 intro pins s σ H D I h
 exact wpAny_Expr_any (thn (he pins s σ H _ I h) λv s1 z9=>z9.el λx H1 I1 r1 q1=>⟨σ,H1,I1,q1⟩) I.quiet hs
noncomputable def tRet(te:TE):TS:=λD σ H=>te σ H D.rt
theorem zuy(he:PE X e te):PS X (.Return (some e) pos) (tRet te):=by
 intro pins s σ H D I h
 exact wpAny_Return_some (thn (he pins s σ H _ I h) λv s1 z9=>z9.el λx H1 I1 r1 q1=>⟨x,σ,H1,I1,r1,q1⟩)
noncomputable def tRetN:TS:=λD _ H=>D.rt .non H
theorem zsd:PS X (.Return none pos) tRetN:=λ_ _ σ H _ I h=>wpAny_Return_none ⟨.non,σ,H,I,rfl,h⟩
noncomputable def tIfS(c:TT)(t u:TS):TS:=λD σ H=>c σ H λb H1=>if b=true then t D σ H1 else u D σ H1
theorem ps_if{c:Expr}{a b:List Stmt}{tc:TT}(hc:PT X c tc)(ha:PSs X a t)(hb:PSs X b u):PS X (.If c a b pos) (tIfS tc t u):=by
 intro pins s σ H D I h
 refine wpAny_If (thn (hc pins s σ H _ I h) λd s1 z9=>z9.el λH1 I1 q1=>?_)
 cases d with
 |true=>exact ha pins s1 σ H1 D I1 q1
 |false=>exact hb pins s1 σ H1 D I1 q1
noncomputable def zuz:TS:=λ_ _ _=>False
theorem zoz:PS X st zuz:=λ_ _ _ _ _ _ h=>h.elim
end
noncomputable abbrev TG:=V->St->Hp->(St->Hp->Prop)->Prop
noncomputable abbrev TGs:=List V->St->Hp->(St->Hp->Prop)->Prop
noncomputable def PG(X:Cx)(target:Expr)(t:TG):Prop:=
 ∀(pins:List (Addr×Obj))(s:Shared)(σ:St)(H:Hp)(v:V)(u:Value)(Q:St->Hp->Prop),Inv X pins σ H s->RelV v u->t v σ H Q->
  wpAny (model X.prog X.w) X.A (assign target X.env u) (λ_ s'=>∃σ' H',Inv X pins σ' H' s'/\Q σ' H') X.xe s
noncomputable def PGs(X:Cx)(ts:List Expr)(t:TGs):Prop:=
 ∀(pins:List (Addr×Obj))(s:Shared)(σ:St)(H:Hp)(vs:List V)(us:List Value)(Q:St->Hp->Prop),Inv X pins σ H s->Vals vs us->t vs σ H Q->
  wpAny (model X.prog X.w) X.A (assignInOrder ((assignEach ts X.env).map (·.2)) us) (λ_ s'=>∃σ' H',Inv X pins σ' H' s'/\Q σ' H') X.xe s
noncomputable abbrev TSet:=V->V->V->Hp->(Hp->Prop)->Prop
noncomputable def PSet(X:Cx)(t:TSet):Prop:=
 ∀(pins:List (Addr×Obj))(s:Shared)(σ:St)(H:Hp)(o i v:V)(ov iv u:Value)(Q:Hp->Prop),Inv X pins σ H s->RelV o ov->RelV i iv->RelV v u->t o i v H Q->
  wpAny (model X.prog X.w) X.A (setItem ov iv u) (λ_ s'=>∃H',Inv X pins σ H' s'/\Q H') X.xe s
noncomputable abbrev TIp:=V->V->Hp->VK->Prop
noncomputable def PIp(X:Cx)(op:Operator)(t:TIp):Prop:=
 ∀(pins:List (Addr×Obj))(s:Shared)(σ:St)(H:Hp)(x y:V)(v u:Value)(Q:VK),Inv X pins σ H s->RelV x v->RelV y u->t x y H Q->
  wpAny (model X.prog X.w) X.A (inplaceOp op v u) (EP X pins σ Q) X.xe s
section
variable{X:Cx}{pos:Pos}
noncomputable def gName(i:Nat):TG:=λv σ H Q=>Q (σ.set i (some v)) H
theorem zln{i:Nat}{x:Str}(hN:X.N.Nodup)(hi:X.N[i]?=some x)(hx:Loc X.env.scope x)(hf:X.fn x=true\/X.env.scope.names.lookup x=some .local:=by first|exact .inl rfl|exact .inr rfl|assumption):PG X (.Name x pos) (gName i):=by
 intro pins s σ H v u Q I r h
 exact wpAny_assign_Name (zfy I hN hi hx r (λs' I'=>⟨_,H,I',h⟩) hf)
noncomputable def gNil:TGs:=λvs σ H Q=>vs=[]/\Q σ H
noncomputable def gCons(t:TG)(u:TGs):TGs:=λvs σ H Q=>∃v r,vs=v::r/\t v σ H λσ' H'=>u r σ' H' Q
theorem zse:PGs X [] gNil:=by
 intro pins s σ H vs us Q I r h
 obtain⟨e,h⟩:=h
 subst e
 cases r
 exact assignInOrder_nil ⟨σ,H,I,h⟩
theorem zo0{e:Expr}{es:List Expr}{t:TG}{u:TGs}(h1:PG X e t)(h2:PGs X es u)
 (hs:(assignEach (e::es) X.env).map (·.2)=assign e X.env:: (assignEach es X.env).map (·.2):=by rfl):PGs X (e::es) (gCons t u):=by
 intro pins s σ H vs us Q I r h
 obtain⟨v,vr,e1,h⟩:=h
 subst e1
 cases r with
 |cons r rr=>
  rw[hs]
  refine assignInOrder_cons (thn (h1 pins s σ H _ _ _ I r h) λ_ s1 hq0=>?_)
  obtain⟨σ1,H1,I1,q1⟩:=hq0
  exact h2 pins s1 σ1 H1 _ _ Q I1 rr q1
noncomputable def gTup(K:PySem.W.Frag)(n:Nat)(t:TGs):TG:=λv σ H Q=>∃a xs,v=.ref a/\SqT K H a xs/\xs.length=n/\t xs σ H Q
theorem zu0{es:List Expr}{k:Nat}{t:TGs}{n:Nat}(hc:X.calm=true)(h:PGs X es t)
 (hn:(assignEach es X.env).length=n:=by rfl) (hst:(assignEach es X.env).findIdx? (·.1)=none:=by rfl):PG X (.Tuple es k pos) (gTup X.K n t):=by
 intro pins s σ H v u Q I r hw
 obtain⟨a,xs,e1,hq,hl,hw⟩:=hw
 subst e1
 cases r
 obtain⟨its,rv,ht,hz⟩:=I.tuple hq
 refine assign_Tuple_tuple (I.ok.hd hc) ht (by simp[hn,<-hl,rv.length]) hst λh' hx=>?_
 have I1:Inv X pins σ H {s with heap:=h'}:=I.kept (t':=s.toks) λb o e=>hx b o (va5 (vav e)) e
 exact h pins _ σ H xs _ Q I1 (by simpa using rv) hw
noncomputable def gSub(to ti:TE)(t:TSet):TG:=λv σ H Q=>to σ H λo H1=>ti σ H1 λi H2=>t o i v H2 λH3=>Q σ H3
theorem zu1{o i:Expr}{to ti:TE}{t:TSet}(ho:PE X o to)(hi:PE X i ti)(hs:PSet X t)
 (ha:∀v,assign (.Subscript o i pos) X.env v=(do
   let ov <-holding [v] (eval o X.env)
   let iv <-holding [v,ov] (eval i X.env)
   standAt pos
   holding [v,ov,iv] (setItem ov iv v)
   release [v,ov,iv] []):=by intro _;rfl):PG X (.Subscript o i pos) (gSub to ti t):=by
 intro pins s σ H v u Q I r h
 rw[ha]
 refine vaa (vc3 (thn (ho pins s σ H _ I h) λov s1 z9=>z9.el λx H1 I1 r1 q1=>?_))
 refine vaa (vc3 (thn (hi pins s1 σ H1 _ I1 q1) λiv s2 z9=>z9.el λy H2 I2 r2 q2=>?_))
 refine vaa (vfn (vaa (vc3 (thn (hs pins s2 σ H2 x y v ov iv u _ I2 r1 r2 r q2) λ_ s3 hq0=>?_))))
 obtain⟨H3,I3,q3⟩:=hq0
 exact wpAny_release ⟨σ,H3,I3,q3⟩
noncomputable def tAsg(te:TE)(g:TG):TS:=λD σ H=>te σ H λx H1=>g x σ H1 D.nx
theorem zq2{tg e:Expr}{te:TE}{g:TG}(he:PE X e te)(hg:PG X tg g)(hs:swapsWithSole [tg] e pos.line X.env=pure false:=by rfl)(hw:swappedStores [tg] e X.env=pure none:=by rfl)
 (h1:(assignEach [tg] X.env).map (·.2)=[assign tg X.env]:=by rfl):PS X (.Assign [tg] e pos) (tAsg te g):=by
 intro pins s σ H D I h
 refine wpAny_Assign_stores (thn (he pins s σ H _ I h) λv s1 z9=>z9.el λx H1 I1 r1 q1=>?_) hs hw
 rw[h1]
 exact thn (hg pins s1 σ H1 x v _ I1 r1 q1) λ_ s2 q=>q
theorem zu2{i:Nat}{x:Str}{e:Expr}{te:TE}{pos':Pos}(hN:X.N.Nodup)(hi:X.N[i]?=some x)(hx:Loc X.env.scope x)(he:PE X e te)(hs:swapsWith e (some (.Name x pos')) pos.line X.env=pure false:=by rfl)(hf:X.fn x=true\/X.env.scope.names.lookup x=some .local:=by first|exact .inl rfl|exact .inr rfl|assumption) :
 PS X (.Assign [.Name x pos'] e pos) (tAsg te (gName i)):=by
 intro pins s σ H D I h
 refine wpAny_Assign_Name (thn (he pins s σ H _ I h) λv s1 z9=>z9.el λy H1 I1 r1 q1=>?_) hs
 exact zfy I1 hN hi hx r1 (λs2 I2=>⟨_,H1,I2,q1⟩) hf
noncomputable def tAug(i:Nat)(te:TE)(ti:TIp):TS:=λD σ H=>∃x,σ[i]?=some (some x)/\te σ H λy H1=>ti x y H1 λz H2=>D.nx (σ.set i (some z)) H2
theorem zu3{i:Nat}{x:Str}{e:Expr}{te:TE}{op:Operator}{ti:TIp}{pos':Pos}(hN:X.N.Nodup)(hi:X.N[i]?=some x)(hx:Loc X.env.scope x)(he:PE X e te)(ho:PIp X op ti)(hf:X.fn x=true\/X.env.scope.names.lookup x=some .local:=by first|exact .inl rfl|exact .inr rfl|assumption) :
 PS X (.AugAssign (.Name x pos') op e pos) (tAug i te ti):=by
 intro pins s σ H D I h
 obtain⟨v,e1,h⟩:=h
 obtain⟨m,hn,hl⟩:=I.loc
 have vis:Vis X.env.scope x:=by rcases hx with k|k;exact .inl k;exact .inr (.inl k)
 obtain⟨u,r,l⟩:=hl i x v hi e1 vis
 refine wpAny_AugAssign_Name ?_
 have go:wpAny (model X.prog X.w) X.A (eval e X.env) (λw s₂=>wpAny (model X.prog X.w) X.A (inplaceOp op u w) (λr s₃=>wpAny (model X.prog X.w) X.A (storeName X.env x r) (λ_=>SP X pins D .next) X.xe s₃) X.xe s₂) X.xe s:=by
  refine thn (he pins s σ H _ I h) λw s1 z9=>z9.el λy H1 I1 r1 q1=>?_
  refine thn (ho pins s1 σ H1 v y u w _ I1 r r1 q1) λz s2 z9=>z9.el λzv H2 I2 r2 q2=>?_
  exact zfy I2 hN hi hx r2 (λs3 I3=>⟨_,H2,I3,q2⟩) hf
 rcases l with⟨hk,hm⟩|⟨hk,c,hc,hcell⟩
 .exact wpAny_loadName_local I.ok.kind hk hn hm go
 .rcases hk with hk|hk
  .exact wpAny_loadName_cell I.ok.kind hk hc hcell go
  .rcases hx with k|k
   .have:X.env.scope.names.lookup x=some .free:=hk
    rw[k]at this;cases this
   .have:X.env.scope.names.lookup x=some .free:=hk
    rw[k]at this;cases this
noncomputable def ipI(f:Int->Int->Int):TIp:=λx y H Q=>∃i j,x=.int i/\y=.int j/\Q (.int (f i j)) H
theorem zu4:PIp X .Add (ipI λi j=>i+j):=by
 intro pins s σ H x y v u Q I r1 r2 h
 obtain⟨i,j,e1,e2,q⟩:=h
 subst e1;subst e2
 obtain⟨t,rfl⟩:=r1
 obtain⟨t',rfl⟩:=r2
 exact iadd_int ⟨.int _,H,I.tok _,⟨_,rfl⟩,q⟩
theorem zu5:PIp X .Sub (ipI λi j=>i-j):=by
 intro pins s σ H x y v u Q I r1 r2 h
 obtain⟨i,j,e1,e2,q⟩:=h
 subst e1;subst e2
 obtain⟨t,rfl⟩:=r1
 obtain⟨t',rfl⟩:=r2
 exact isub_int ⟨.int _,H,I.tok _,⟨_,rfl⟩,q⟩
end
section
variable{X:Cx}{pos:Pos}
noncomputable def zu6(c:TT)(tb:TS):TS:=λD σ H=>∃W:Nat->St->Hp->Prop,(∃m,W m σ H)/\∀m σ H,W m σ H->
 c σ H λb H1=>if b=true then ∃N:St->Hp->Prop,(∀σ' H',N σ' H'->∃m',m'<m/\W m' σ' H')/\tb {D with nx:=N,ct:=N,bk:=D.nx} σ H1 else D.nx σ H1
theorem zo1{c:Expr}{body:List Stmt}{tc:TT}{tb:TS}(hp:PassesOwn (model X.prog X.w) X.A X.env X.xe)(hc:PT X c tc)(hb:PSs X body tb):PS X (.While c body [] pos) (zu6 tc tb):=by
 intro pins s σ H D I h
 obtain⟨W,⟨m0,w0⟩,turn⟩:=h
 refine wpAny_While (codeAny_whileLoop (λn s'=>∃σ' H',Inv X pins σ' H' s'/\W n σ' H') ?_ m0 ⟨σ,H,I,w0⟩)
 rintro n s1 ⟨σ1,H1,I1,w1⟩
 refine vdk hp (thn (hc pins s1 σ1 H1 _ I1 (turn n σ1 H1 w1)) λb s2 z9=>z9.el λH2 I2 q2=>?_)
 cases b with
 |true=>
  obtain⟨N,hN,q2⟩:=q2
  rw[if_pos rfl]
  refine vdk hp (thn (hb pins s2 σ1 H2 _ I2 q2) λf s3 q3=>?_)
  cases f with
  |next=>
   obtain⟨σ3,H3,I3,n3⟩:=q3
   obtain⟨m',hm,w3⟩:=hN σ3 H3 n3
   exact⟨m',hm,σ3,H3,I3,w3⟩
  |cont=>
   obtain⟨σ3,H3,I3,n3⟩:=q3
   obtain⟨m',hm,w3⟩:=hN σ3 H3 n3
   exact⟨m',hm,σ3,H3,I3,w3⟩
  |brk=>exact q3
  |ret v=>exact q3
 |false=>
  rw[if_neg vbb]
  exact wpAny_execs_nil ⟨σ1,H2,I2,q2⟩
end
set_option genInjectivity false in
structure It where
 go:Nat->Hp->Prop
 yld:Nat->Hp->V->Hp->Prop
 stop:Nat->Hp->Prop
noncomputable def FpOk(X:Cx)(pins:List (Addr×Obj))(H:Hp)(b:Addr):Prop:=
 H b=none/\b≠X.env.locals/\b∉X.fs/\(b∈X.ex\/X.s₀.heap.objs.size<=b)/\(∀x c,X.env.cells.lookup x=some c->c≠b)/\∀p∈X.pn++pins,p.1≠b
theorem Inv.fpOk{X:Cx}{pins:List (Addr×Obj)}{σ:St}{H H':Hp}{s:Shared}{b:Addr}(I:Inv X pins σ H s)(hb:s.heap.objs.size<=b)(hn:H' b=none):FpOk X pins H' b:=by
 refine⟨hn,vdy (vak I.lt hb),I.nofs hb,.inr (vbs I.sz hb),λx c e z=>?_,λp hp z=>?_⟩
 .obtain⟨v,q⟩:=I.cell x c e
  exact absurd (vak q.lt (by rw[z];exact hb)) (vc2 _)
 .exact absurd (vak (vav (I.pin p hp).1) (by rw[z];exact hb)) (vc2 _)
structure Turn(P:Program)(w:World)(K:PySem.W.Frag)(tg:Expr)(J:It)(fp:List Addr)(it:Addr)(tn:Nat->Heap->Prop):Prop where
 mem:it∈fp
 obj:∀i h,tn i h->∀b∈fp,∃o,h.get? b=some o/\∀v,o.data≠.cell v
 keep:∀i h h',tn i h->(∀b∈fp,∀o,h.get? b=some o->h'.get? b=some o)->tn i h'
 item:∀(X:Cx),X.prog=P->X.w=w->X.K=K->X.calm=true->∀(i:Nat)(pins:List (Addr×Obj))(s:Shared)(σ:St)(H:Hp)(E:Value->Shared->Prop),Inv X pins σ H s->(∀b∈fp,FpOk X pins H b)->tn i s.heap->J.go i H->
  wpAny (model P w) X.A (pyNext (.ref it)) (λr s1=>∃u,r=some u/\
   wpAny (model P w) X.A (letOwnedTupleGo tg (.ref it) u) (λ_ s2=>∃x H',Inv X pins σ H' s2/\RelV x u/\J.yld i H x H'/\tn (i+1) s2.heap/\∀b∈fp,H' b=none) E s1) E s
 done:∀(X:Cx),X.prog=P->X.w=w->X.K=K->X.calm=true->∀(i:Nat)(pins:List (Addr×Obj))(s:Shared)(σ:St)(H:Hp)(E:Value->Shared->Prop),Inv X pins σ H s->(∀b∈fp,FpOk X pins H b)->tn i s.heap->J.stop i H->
  wpAny (model P w) X.A (pyNext (.ref it)) (λr s1=>r=none/\Inv X pins σ H s1) E s
 self:∀(A:Around)(i:Nat)(s:Shared)(Q:Value->Shared->Prop)(E:Value->Shared->Prop),tn i s.heap->Q (.ref it) s->wpAny (model P w) A (pyIter (.ref it)) Q E s
noncomputable abbrev TI:=St->Hp->(It->Hp->Prop)->Prop
noncomputable def PIE(X:Cx)(pins:List (Addr×Obj))(σ:St)(tg:Expr)(R:It->Hp->Prop)(itv:Value)(s2:Shared):Prop:=
 ∃(it:Addr) (fp:List Addr) (tn:Nat->Heap->Prop) (J:It) (H':Hp),itv=.ref it/\Inv X pins σ H' s2/\Turn X.prog X.w X.K tg J fp it tn/\tn 0 s2.heap/\(∀b∈fp,FpOk X pins H' b)/\R J H'
noncomputable def PI(X:Cx)(tg iter:Expr)(wi:TI):Prop:=
 ∀(pins:List (Addr×Obj))(s:Shared)(σ:St)(H:Hp)(R:It->Hp->Prop),Inv X pins σ H s->wi σ H R->
  wpAny (model X.prog X.w) X.A (eval iter X.env) (λv s1=>wpAny (model X.prog X.w) X.A (pyIter v) (PIE X pins σ tg R) X.xe s1) X.xe s
theorem go_of{M:Model}{A:Around}{E:Value->Shared->Prop}{s:Shared}{tg:Expr}{it:Addr}{u:Value}{o:Obj}{n:String}{vs:Array Value}{Q:Unit->Shared->Prop}(ho:s.heap.get? it=some o)(hc:o.cls=.type n)(hd:o.data=.fields vs)
 (hn:["enumerate","zip","dict_itemiterator","dict_reverseitemiterator","odict_iterator","itertools.zip_longest","itertools.pairwise"].contains n=false) (hQ:Q () s):wpAny M A (letOwnedTupleGo tg (.ref it) u) Q E s:=by
 unfold letOwnedTupleGo
 cases tg<;>first
  |exact vaf hQ
  |(cases u<;>first
     |exact vaf hQ
     |(refine vaa (wpAny_load ho ?_)
       rw[hc,hd]
       show wpAny M A (if(["enumerate","zip","dict_itemiterator","dict_reverseitemiterator","odict_iterator","itertools.zip_longest","itertools.pairwise"].contains n&&vs[0]? == some (rawInt _))=true then _ else _) Q E s
       rw[if_neg (by intro h;rw[hn,vec]at h;cases h)]
       exact vaf hQ))
noncomputable def Itl(K:PySem.W.Frag)(a:Addr):It:=
 ⟨λi H=>∃xs x,SqL K H a xs/\xs[i]?=some x,λi H x H'=>H'=H/\∀xs,SqL K H a xs->xs[i]?=some x,λi H=>∃xs,SqL K H a xs/\xs.length<=i⟩
noncomputable def Itt(K:PySem.W.Frag)(a:Addr):It:=
 ⟨λi H=>∃xs x,SqT K H a xs/\xs[i]?=some x,λi H x H'=>H'=H/\∀xs,SqT K H a xs->xs[i]?=some x,λi H=>∃xs,SqT K H a xs/\xs.length<=i⟩
noncomputable def Itr(lo:Int)(n:Nat):It:=⟨λi _=>i<n,λi H x H'=>H'=H/\x=.int (lo+i),λi _=>n<=i⟩
theorem zlo{P:Program}{w:World}{K:PySem.W.Frag}{tg:Expr}(a it:Addr):Turn P w K tg (Itl K a) [it] it (λi h=>h.IsListIter it a i)where
 mem:=by simp
 obj:=λi h st b hb=>by
  have e:b=it:=by simpa using hb
  subst e
  obtain⟨o,e,c,d⟩:=st
  exact⟨o,e,λv z=>by rw[d]at z;cases z⟩
 keep:=λi h h' st k=>st.at λo e=>k it (by simp) o e
 item:=by
  intro X hP hw hK hc i pins s σ H E I hf st hg
  subst hP hw hK
  obtain⟨xs,x,hq,hx⟩:=hg
  obtain⟨its,rv,p,hz⟩:=I.list hq
  obtain⟨u,hu,ru⟩:=rv.get hx
  obtain⟨f0,f1,f2,f3,f4,f5⟩:=hf it (by simp)
  refine wpAny_pyNext_list_item st p.isList (x:=u) (by simpa using hu) λh' st' sb=>?_
  have I1:Inv X pins σ H {s with heap:=h'}:=I.turned (t':=s.toks) (λb o hb e=>(sb.2 b hb).trans e) f0 f1 f3 f4 f5
  obtain⟨o,e,c,d⟩:=id st'
  exact⟨u,rfl,go_of (s:={s with heap:=h'}) e c d (by decide) ⟨x,H,I1,ru,⟨rfl,λys hy=>by rw[I.list_inj hy hq];exact hx⟩,st',λb hb=>(hf b hb).1⟩⟩
 done:=by
  intro X hP hw hK hc i pins s σ H E I hf st hg
  subst hP hw hK
  obtain⟨xs,hq,hx⟩:=hg
  obtain⟨its,rv,p,hz⟩:=I.list hq
  obtain⟨f0,f1,f2,f3,f4,f5⟩:=hf it (by simp)
  have hl:=rv.length
  exact wpAny_pyNext_list_end (I.ok.hd hc) st p.isList (by simp;omega) λh' eb=>⟨rfl,I.turned (t':=s.toks) (λb o hb e=>eb b o hb e) f0 f1 f3 f4 f5⟩
 self:=λ_ _ _ _ _ st h=>wpAny_pyIter_listiter st h
theorem zkw{P:Program}{w:World}{K:PySem.W.Frag}{tg:Expr}(a it:Addr):Turn P w K tg (Itt K a) [it] it (λi h=>h.IsTupleIter it a i)where
 mem:=by simp
 obj:=λi h st b hb=>by
  have e:b=it:=by simpa using hb
  subst e
  obtain⟨o,e,c,d⟩:=st
  exact⟨o,e,λv z=>by rw[d]at z;cases z⟩
 keep:=λi h h' st k=>st.at λo e=>k it (by simp) o e
 item:=by
  intro X hP hw hK hc i pins s σ H E I hf st hg
  subst hP hw hK
  obtain⟨xs,x,hq,hx⟩:=hg
  obtain⟨its,rv,p,hz⟩:=I.tuple hq
  obtain⟨u,hu,ru⟩:=rv.get hx
  obtain⟨f0,f1,f2,f3,f4,f5⟩:=hf it (by simp)
  refine wpAny_pyNext_tuple_item st (show s.heap.IsTuple a its.toArray from p) (x:=u) (by simpa using hu) λh' st' sb=>?_
  have I1:Inv X pins σ H {s with heap:=h'}:=I.turned (t':=s.toks) (λb o hb e=>(sb.2 b hb).trans e) f0 f1 f3 f4 f5
  obtain⟨o,e,c,d⟩:=id st'
  exact⟨u,rfl,go_of (s:={s with heap:=h'}) e c d (by decide) ⟨x,H,I1,ru,⟨rfl,λys hy=>by rw[I.tuple_inj hy hq];exact hx⟩,st',λb hb=>(hf b hb).1⟩⟩
 done:=by
  intro X hP hw hK hc i pins s σ H E I hf st hg
  subst hP hw hK
  obtain⟨xs,hq,hx⟩:=hg
  obtain⟨its,rv,p,hz⟩:=I.tuple hq
  obtain⟨f0,f1,f2,f3,f4,f5⟩:=hf it (by simp)
  have hl:=rv.length
  exact wpAny_pyNext_tuple_end (I.ok.hd hc) st (show s.heap.IsTuple a its.toArray from p) (by simp;omega) λh' eb=>⟨rfl,I.turned (t':=s.toks) (λb o hb e=>eb b o hb e) f0 f1 f3 f4 f5⟩
 self:=λ_ _ _ _ _ st h=>wpAny_pyIter_tupleiter st h
theorem zkx{P:Program}{w:World}{K:PySem.W.Frag}{tg:Expr}(it:Addr)(lo:Int)(n:Nat):Turn P w K tg (Itr lo n) [it] it (λi h=>IsRangeIter h it (lo+ (i:Nat)*1) ((n:Int)- (i:Nat)) 1)where
 mem:=by simp
 obj:=λi h st b hb=>by
  have e:b=it:=by simpa using hb
  subst e
  exact⟨_,st,λv z=>by
   have z':Data.fields _=Data.cell v:=z
   cases z'⟩
 keep:=λi h h' st k=>k it (by simp) _ st
 item:=by
  intro X hP hw hK hc i pins s σ H E I hf st hg
  subst hP hw hK
  obtain⟨f0,f1,f2,f3,f4,f5⟩:=hf it (by simp)
  have W:=Walks.range (prog:=X.prog) (w:=X.w) (I.ok.hd hc) it lo 1 n
  refine W.item i s _ _ hg st λv h' tk hv st' kk=>?_
  obtain⟨t,rfl⟩:=hv
  have I1:Inv X pins σ H {s with heap:=h',toks:=tk}:=I.turned (λb o hb e=>kk b o (by simpa using hb) e) f0 f1 f3 f4 f5
  refine⟨_,rfl,go_of (s:={s with heap:=h',toks:=tk}) (n:="range_iterator") st' rfl rfl (by decide) ⟨.int (lo+i),H,I1,⟨t,?_⟩,⟨rfl,rfl⟩,st',λb hb=>(hf b hb).1⟩⟩
  rw[Int.mul_one]
 done:=by
  intro X hP hw hK hc i pins s σ H E I hf st hg
  subst hP hw hK
  obtain⟨f0,f1,f2,f3,f4,f5⟩:=hf it (by simp)
  exact wpAny_pyNext_range_end (I.ok.hd hc) st (by have:n<=i:=hg;omega) λh' eb=>⟨rfl,I.turned (t':=s.toks) (λb o hb e=>eb b o hb e) f0 f1 f3 f4 f5⟩
 self:=λ_ _ _ _ _ st h=>wpAny_pyIter_rangeiter st h
section
variable{X:Cx}{tg:Expr}
noncomputable def iList(K:PySem.W.Frag)(tl:TE):TI:=λσ H R=>tl σ H λx H1=>∃a,x=.ref a/\(∃xs,SqL K H1 a xs)/\R (Itl K a) H1
noncomputable def iTup(K:PySem.W.Frag)(tl:TE):TI:=λσ H R=>tl σ H λx H1=>∃a,x=.ref a/\(∃xs,SqT K H1 a xs)/\R (Itt K a) H1
theorem zlp{l:Expr}{tl:TE}(hl:PE X l tl):PI X tg l (iList X.K tl):=by
 intro pins s σ H R I h
 refine thn (hl pins s σ H _ I h) λv s1 z9=>z9.el λx H1 I1 r1 q1=>?_
 obtain⟨a,e,⟨xs,hq⟩,q⟩:=q1
 subst e
 cases r1
 obtain⟨its,rv,p,hz⟩:=I1.list hq
 refine vdl p.isList ?_
 refine⟨s1.heap.objs.size,[s1.heap.objs.size],_,_,H1,rfl,I1.kept (t':=s1.toks) λb o e=>vac _ e,zlo a _,⟨_,vas _ rfl,rfl,rfl⟩,λb hb=>?_,q⟩
 have e:b=s1.heap.objs.size:=by simpa using hb
 subst e
 exact I1.fpOk (vae _) (I1.hok.fresh (vae _))
theorem zu7{l:Expr}{tl:TE}(hl:PE X l tl):PI X tg l (iTup X.K tl):=by
 intro pins s σ H R I h
 refine thn (hl pins s σ H _ I h) λv s1 z9=>z9.el λx H1 I1 r1 q1=>?_
 obtain⟨a,e,⟨xs,hq⟩,q⟩:=q1
 subst e
 cases r1
 obtain⟨its,rv,p,hz⟩:=I1.tuple hq
 refine vcy (show s1.heap.IsTuple a its.toArray from p) ?_
 refine⟨s1.heap.objs.size,[s1.heap.objs.size],_,_,H1,rfl,I1.kept (t':=s1.toks) λb o e=>vac _ e,zkw a _,⟨_,vas _ rfl,rfl,rfl⟩,λb hb=>?_,q⟩
 have e:b=s1.heap.objs.size:=by simpa using hb
 subst e
 exact I1.fpOk (vae _) (I1.hok.fresh (vae _))
theorem zjc{pins:List (Addr×Obj)}{σ:St}{H:Hp}{s:Shared}{R:It->Hp->Prop}{E:Value->Shared->Prop}{lo hi:Int}{t u v:Tok}{tk:Nat}(I:Inv X pins σ H s)(h1:-(2 ^ 62)<=lo)(h2:lo<2 ^ 62)(h3:-(2 ^ 62)<=hi)(h4:hi<2 ^ 62)
 (q:R (Itr lo (hi-lo).toNat) H):wpAny (model X.prog X.w) X.A (pyIter (.ref s.heap.objs.size)) (PIE X pins σ tg R) E {s with heap:=s.heap.push {cls:=.type "range",data:=.fields #[.int lo t,.int hi u,.int 1 v]},toks:=tk}:=by
 refine wpAny_pyIter_range (IsRange.new ..) (small_one h1 h2 h3 h4) ?_
 have I1:Inv X pins σ H {s with heap:=s.heap.push {cls:=.type "range",data:=.fields #[.int lo t,.int hi u,.int 1 v]},toks:=tk}:=I.kept λb o e=>vac _ e
 refine⟨(s.heap.push {cls:=.type "range",data:=.fields #[.int lo t,.int hi u,.int 1 v]}).objs.size,[(s.heap.push {cls:=.type "range",data:=.fields #[.int lo t,.int hi u,.int 1 v]}).objs.size],_,_,H,rfl,
  I1.kept (t':=tk) λb o e=>vac _ e,zkx _ lo (hi-lo).toNat,?_,λb hb=>?_,q⟩
 .have e1:lo+ ((0:Nat):Int)*1=lo:=by simp
  have e2:(((hi-lo).toNat:Nat):Int)- ((0:Nat):Int)=Builtin.Range.rangeSize lo hi 1:=by rw[rangeSize_one];split<;>omega
  show IsRangeIter _ _ (lo+ ((0:Nat):Int)*1) ((((hi-lo).toNat:Nat):Int)- ((0:Nat):Int)) 1
  rw[e1,e2]
  exact vas _ rfl
 .have e:b=(s.heap.push {cls:=.type "range",data:=.fields #[.int lo t,.int hi u,.int 1 v]}).objs.size:=by simpa using hb
  subst e
  exact I1.fpOk (vae _) (I1.hok.fresh (vae _))
noncomputable def iRng1(ta:TA):TI:=λσ H R=>ta σ H λvs H1=>∃j:Int,vs=[.int j]/\-(2 ^ 62)<=j/\j<2 ^ 62/\R (Itr 0 j.toNat) H1
noncomputable def iRng2(ta:TA):TI:=λσ H R=>ta σ H λvs H1=>∃i j:Int,vs=[.int i,.int j]/\(-(2 ^ 62)<=i/\i<2 ^ 62/\-(2 ^ 62)<=j/\j<2 ^ 62)/\R (Itr i (j-i).toNat) H1
theorem zlq{a:Expr}{ta:TA}{p pos:Pos}(hg:Gl X "range")(hm:X.mg "range" = none)(ha:PA X [a] ta)(hs:starEach [a] X.env=[(false,eval a X.env)]:=by rfl):PI X tg (.Call (.Name "range" p) [a] [] pos) (iRng1 ta):=by
 intro pins s σ H R I h
 refine Call_ (zdk I hg hm boot_range (vb6 (thn (ha pos pins s σ H _ I h) λus s1 z9=>z9.el λvs H1 I1 r1 q1=>?_) hs rfl))
 obtain⟨j,e,q1,q2,q⟩:=q1
 subst e
 cases r1 with
 |cons r rr=>
  cases rr
  obtain⟨t,rfl⟩:=r
  exact call_range_1 (zjc I1 (by omega) (by omega) q1 q2 (by simpa using q))
theorem zlr{a b:Expr}{ta:TA}{p pos:Pos}(hg:Gl X "range")(hm:X.mg "range" = none)(ha:PA X [a,b] ta)(hs:starEach [a,b] X.env=[(false,eval a X.env),(false,eval b X.env)]:=by rfl)(hs2:starEach [b] X.env=[(false,eval b X.env)]:=by rfl) :
 PI X tg (.Call (.Name "range" p) [a,b] [] pos) (iRng2 ta):=by
 intro pins s σ H R I h
 refine Call_ (zdk I hg hm boot_range (vb6 (thn (ha pos pins s σ H _ I h) λus s1 z9=>z9.el λvs H1 I1 r1 q1=>?_) (by rw[hs,hs2]) (by rw[hs2];rfl)))
 obtain⟨i,j,e,⟨q1,q2,q3,q4⟩,q⟩:=q1
 subst e
 cases r1 with
 |cons r rr=>
  cases rr with
  |cons r' rr=>
   cases rr
   obtain⟨t,rfl⟩:=r
   obtain⟨t',rfl⟩:=r'
   exact call_range_2 (zjc I1 q1 q2 q3 q4 q)
noncomputable def tFor(wi:TI)(g:TG)(tb:TS):TS:=λD σ H=>wi σ H λJ H1=>∃W:Nat->Nat->St->Hp->Prop,(∃m,W 0 m σ H1)/\∀i m σ H,W i m σ H->
 (J.stop i H/\D.nx σ H)\/(J.go i H/\∃N:St->Hp->Prop,(∀σ' H',N σ' H'->∃m',m'<m/\W (i+1) m' σ' H')/\∀x H',J.yld i H x H'->g x σ H' λσ2 H2=>tb {D with nx:=N,ct:=N,bk:=D.nx} σ2 H2)
noncomputable def zgw(fp:List Addr)(h:Heap):List (Addr×Obj):=fp.filterMap λb=>(h.get? b).map λo=>(b,o)
theorem zb5{fp:List Addr}{h:Heap}{b:Addr}{o:Obj}(hb:b∈fp)(e:h.get? b=some o):(b,o)∈zgw fp h:=List.mem_filterMap.mpr ⟨b,hb,by rw[e];rfl⟩
theorem zls{fp:List Addr}{h:Heap}{p:Addr×Obj}(hp:p∈zgw fp h):p.1∈fp/\h.get? p.1=some p.2:=by
 obtain⟨b,hb,e⟩:=List.mem_filterMap.mp hp
 cases q:h.get? b with
 |none=>rw[q]at e;cases e
 |some o=>
  rw[q]at e
  have e':(b,o)=p:=vbr e
  subst e'
  exact⟨hb,q⟩
theorem Inv.pinned{pins:List (Addr×Obj)}{σ:St}{H:Hp}{s:Shared}{fp:List Addr}(I:Inv X pins σ H s)(hf:∀b∈fp,FpOk X pins H b)(ho:∀b∈fp,∃o,s.heap.get? b=some o/\∀v,o.data≠.cell v):Inv X (pins++zgw fp s.heap) σ H s:=
 I.pins_of λp hp=>(vej.mp hp).elim (λz=>I.pin p (va8 _ z)) λz=>by
  obtain⟨hb,e⟩:=zls z
  obtain⟨f0,f1,f2,_⟩:=hf p.1 hb
  obtain⟨o,e',d⟩:=ho p.1 hb
  rw[e]at e';cases e'
  exact⟨e,f0,f1,f2,d⟩
theorem Inv.unpinned{pins pl:List (Addr×Obj)}{σ:St}{H:Hp}{s:Shared}(I:Inv X (pins++pl) σ H s):Inv X pins σ H s:=I.pins_of λp hp=>I.pin p (va8 _ (vdh _ hp))
theorem zu8{iter:Expr}{body:List Stmt}{wi:TI}{g:TG}{tb:TS}{pos:Pos}(hp:PassesOwn (model X.prog X.w) X.A X.env X.xe)(hc:X.calm=true)(hi:PI X tg iter wi)(hg:PG X tg g)(hb:PSs X body tb)
 (hs:∀x,foldedSetIterable iter X.env x=pure x:=by intro _;rfl):PS X (.For tg iter body [] pos) (tFor wi g tb):=by
 intro pins s σ H D I h
 refine wpAny_For (thn (hi pins s σ H _ I h) λv s1 h1=>thn h1 λitv s2 h2=>?_) hs
 obtain⟨it,fp,tn,J,H2,e,I2,T,st2,f2,W,⟨m0,w0⟩,turn⟩:=h2
 subst e
 have stat:∀{H':Hp},(∀b∈fp,H' b=none)->∀b∈fp,FpOk X pins H' b:=λhn b hb=>⟨hn b hb,(f2 b hb).2⟩
 refine codeAny_forLoop_any (λn s'=>∃i σ' H',Inv X pins σ' H' s'/\tn i s'.heap/\(∀b∈fp,H' b=none)/\W i n σ' H') ?_ m0 ⟨0,σ,H2,I2,st2,λb hb=>(f2 b hb).1,w0⟩
 rintro n s3 ⟨i,σ3,H3,I3,st3,fr3,w3⟩
 rcases turn i n σ3 H3 w3 with⟨stop,qn⟩|⟨go,N,hN,step⟩
 .refine vdk hp (thn (T.done X rfl rfl rfl hc i pins s3 σ3 H3 X.xe I3 (stat fr3) st3 stop) λr s4 hq0=>?_)
  obtain⟨hr,I4⟩:=hq0
  subst hr
  exact wpAny_execs_nil ⟨σ3,H3,I4,qn⟩
 .refine vdk hp (thn (T.item X rfl rfl rfl hc i pins s3 σ3 H3 X.xe I3 (stat fr3) st3 go) λr s4 hq0=>?_)
  obtain⟨u,hr,h4⟩:=hq0
  subst hr
  refine vdk hp (thn h4 λ_ s5 hq0=>?_)
  obtain⟨x,H5,I5,r5,y5,st5,fr5⟩:=hq0
  have I5':=I5.pinned (stat fr5) (T.obj _ _ st5)
  refine vdk hp (thn (hg _ s5 σ3 H5 x u _ I5' r5 (step x H5 y5)) λ_ s6 hq0=>?_)
  obtain⟨σ6,H6,I6,q6⟩:=hq0
  refine vdk hp (thn (hb _ s6 σ6 H6 _ I6 q6) λf s7 q7=>?_)
  have again:∀{σ7:St}{H7:Hp},Inv X (pins++zgw fp s5.heap) σ7 H7 s7->N σ7 H7->∃m,m<n/\∃i σ' H',Inv X pins σ' H' s7/\tn i s7.heap/\(∀b∈fp,H' b=none)/\W i m σ' H':=λ{σ7 H7} I7 n7=>by
   obtain⟨m',hm,w7⟩:=hN σ7 H7 n7
   refine⟨m',hm,i+1,σ7,H7,I7.unpinned,T.keep _ _ _ st5 λb hb o e=>(I7.pin (b,o) (va8 _ (va8 _ (zb5 hb e)))).1,λb hb=>?_,w7⟩
   obtain⟨o,e,d⟩:=T.obj _ _ st5 b hb
   exact(I7.pin (b,o) (va8 _ (va8 _ (zb5 hb e)))).2.1
  cases f with
  |next=>obtain⟨σ7,H7,I7,n7⟩:=q7;exact again I7 n7
  |cont=>obtain⟨σ7,H7,I7,n7⟩:=q7;exact again I7 n7
  |brk=>obtain⟨σ7,H7,I7,q7⟩:=q7;exact⟨σ7,H7,I7.unpinned,q7⟩
  |ret v=>obtain⟨x7,σ7,H7,I7,r7,q7⟩:=q7;exact⟨x7,σ7,H7,I7.unpinned,r7,q7⟩
end
noncomputable abbrev R2:=V->V->Hp->VK->Prop
noncomputable def OpR(X:Cx)(f:Value->Value->Sem Value)(r:R2):Prop:=
 ∀(pins:List (Addr×Obj))(s:Shared)(σ:St)(H:Hp)(x y:V)(v u:Value)(Q:VK),Inv X pins σ H s->RelV x v->RelV y u->r x y H Q->
  wpAny (model X.prog X.w) X.A (f v u) (EP X pins σ Q) X.xe s
noncomputable def UnR(X:Cx)(f:Value->Sem Value)(r:V->Hp->VK->Prop):Prop:=
 ∀(pins:List (Addr×Obj))(s:Shared)(σ:St)(H:Hp)(x:V)(v:Value)(Q:VK),Inv X pins σ H s->RelV x v->r x H Q->
  wpAny (model X.prog X.w) X.A (f v) (EP X pins σ Q) X.xe s
noncomputable def CallR(X:Cx)(f:Value)(r:List V->Hp->VK->Prop):Prop:=
 ∀(pins:List (Addr×Obj))(s:Shared)(σ:St)(H:Hp)(xs:List V)(us:List Value)(Q:VK),Inv X pins σ H s->Vals xs us->r xs H Q->
  wpAny (model X.prog X.w) X.A (call f us) (EP X pins σ Q) X.xe s
noncomputable def TruR(X:Cx)(r:V->Hp->(Bool->Hp->Prop)->Prop):Prop:=
 ∀(pins:List (Addr×Obj))(s:Shared)(σ:St)(H:Hp)(x:V)(v:Value)(Q:Bool->Hp->Prop),Inv X pins σ H s->RelV x v->r x H Q->
  wpAny (model X.prog X.w) X.A (truthy v) (TP X pins σ Q) X.xe s
noncomputable def tOp(r:R2)(ta tb:TE):TE:=λσ H Q=>ta σ H λx H1=>tb σ H1 λy H2=>r x y H2 Q
noncomputable def tUn(r:V->Hp->VK->Prop)(ta:TE):TE:=λσ H Q=>ta σ H λx H1=>r x H1 Q
noncomputable def rI(C:Int->Int->Prop)(g:Int->Int->V):R2:=λx y H Q=>∃i j,x=.int i/\y=.int j/\C i j/\Q (g i j) H
noncomputable def rI0(g:Int->Int->V):R2:=λx y H Q=>∃i j,x=.int i/\y=.int j/\Q (g i j) H
noncomputable def rU(g:Int->V):V->Hp->VK->Prop:=λx H Q=>∃i,x=.int i/\Q (g i) H
section
variable{X:Cx}{a b c:Expr}{ta tb tc:TE}{pos:Pos}
theorem binT(ha:PE X a ta)(hb:PE X b tb){pins:List (Addr×Obj)}{s:Shared}{σ:St}{H:Hp}{R:V->V->Hp->Prop}(I:Inv X pins σ H s)
 (h:ta σ H λx H1=>tb σ H1 λy H2=>R x y H2) {Q:Value->Shared->Prop} {f:Value->Value->Sem Value}
 (hf:∀v u s2 x y H2,Inv X pins σ H2 s2->RelV x v->RelV y u->R x y H2->wpAny (model X.prog X.w) X.A (f v u) Q X.xe s2) :
 wpAny (model X.prog X.w) X.A (eval a X.env) (λv s₁=>wpAny (model X.prog X.w) X.A (eval b X.env) (λu s₂=>wpAny (model X.prog X.w) X.A (f v u) Q X.xe s₂) X.xe s₁) X.xe s:=by
 refine thn (ha pins s σ H _ I h) λv s1 z9=>z9.el λx H1 I1 r1 q1=>?_
 refine thn (hb pins s1 σ H1 _ I1 q1) λu s2 z9=>z9.el λy H2 I2 r2 q2=>?_
 exact hf v u s2 x y H2 I2 r1 r2 q2
theorem pe_op{op:Operator}{r:R2}(ho:OpR X (binaryOp op) r)(ha:PE X a ta)(hb:PE X b tb):PE X (.BinOp a op b pos) (tOp r ta tb):=by
 intro pins s σ H Q I h
 exact wpAny_BinOp (binT ha hb I h λv u s2 x y H2 I2 rx ry q=>ho pins s2 σ H2 x y v u Q I2 rx ry q)
theorem pe_un{op:UnaryOp}{r:V->Hp->VK->Prop}(ho:UnR X (unaryOp op) r)(ha:PE X a ta):PE X (.UnaryOp op a pos) (tUn r ta):=by
 intro pins s σ H Q I h
 exact UnaryOp_ (thn (ha pins s σ H _ I h) λv s1 z9=>z9.el λx H1 I1 r1 q1=>ho pins s1 σ H1 x v Q I1 r1 q1)
theorem opI{f:Value->Value->Sem Value}{C:Int->Int->Prop}{g:Int->Int->Int}
 (rule:∀(i j:Int)(t u:Tok)(s:Shared)(Q:Value->Shared->Prop)(E:Value->Shared->Prop),C i j->Q (.int (g i j) s.toks) {s with toks:=s.toks+1}->wpAny (model X.prog X.w) X.A (f (.int i t) (.int j u)) Q E s) :
 OpR X f (rI C λi j=>.int (g i j)):=by
 intro pins s σ H x y v u Q I rx ry h
 obtain⟨i,j,rfl,rfl,hc,q⟩:=h
 obtain⟨t,rfl⟩:=rx
 obtain⟨t',rfl⟩:=ry
 exact rule i j t t' s _ _ hc ⟨.int (g i j),H,I.tok _,⟨_,rfl⟩,q⟩
theorem opI0{f:Value->Value->Sem Value}{g:Int->Int->Int}
 (rule:∀(i j:Int)(t u:Tok)(s:Shared)(Q:Value->Shared->Prop)(E:Value->Shared->Prop),Q (.int (g i j) s.toks) {s with toks:=s.toks+1}->wpAny (model X.prog X.w) X.A (f (.int i t) (.int j u)) Q E s) :
 OpR X f (rI0 λi j=>.int (g i j)):=by
 intro pins s σ H x y v u Q I rx ry h
 obtain⟨i,j,rfl,rfl,q⟩:=h
 obtain⟨t,rfl⟩:=rx
 obtain⟨t',rfl⟩:=ry
 exact rule i j t t' s _ _ ⟨.int (g i j),H,I.tok _,⟨_,rfl⟩,q⟩
theorem opB0{f:Value->Value->Sem Value}{g:Int->Int->Bool}
 (rule:∀(i j:Int)(t u:Tok)(s:Shared)(Q:Value->Shared->Prop)(E:Value->Shared->Prop),Q (.bool (g i j)) s->wpAny (model X.prog X.w) X.A (f (.int i t) (.int j u)) Q E s) :
 OpR X f (rI0 λi j=>.bl (g i j)):=by
 intro pins s σ H x y v u Q I rx ry h
 obtain⟨i,j,rfl,rfl,q⟩:=h
 obtain⟨t,rfl⟩:=rx
 obtain⟨t',rfl⟩:=ry
 exact rule i j t t' s _ _ ⟨.bl (g i j),H,I,rfl,q⟩
noncomputable def CDiv(i j:Int):Prop:=0<j/\j<1073741824
noncomputable def CPow(i j:Int):Prop:=0<=j/\j<=1000000/\i.natAbs<2 ^ 64
noncomputable def CMul(i j:Int):Prop:=(-(2 ^ 64)<i/\i<2 ^ 64)\/(-(2 ^ 64)<j/\j<2 ^ 64)
theorem CMul.ok{i j:Int}(h:CMul i j):IntMulOk i j:=by
 rcases h with⟨h1,h2⟩|⟨h1,h2⟩
 .exact .of_left (intBits_le_64 h1 h2)
 .exact .of_right (intBits_le_64 h1 h2)
theorem zu9:OpR X (binaryOp .Add) (rI0 λi j=>.int (i+j)):=opI0 λ_ _ _ _ _ _ _ q=>add_int q
theorem zva:OpR X (binaryOp .Sub) (rI0 λi j=>.int (i-j)):=opI0 λ_ _ _ _ _ _ _ q=>sub_int q
theorem zvb:OpR X (binaryOp .Mult) (rI CMul λi j=>.int (i*j)):=opI λ_ _ _ _ _ _ _ hc q=>mul_int q hc.ok
theorem zsf:OpR X (binaryOp .FloorDiv) (rI CDiv λi j=>.int (i/j)):=opI λi j _ _ _ _ _ hc q=>by
 have h1:(0:Int)<j:=hc.1
 have h2:j<1073741824:=hc.2
 exact floordiv_int (by omega) (by rw[Int.fdiv_eq_ediv_of_nonneg i (by omega)];exact q) (.inl (PyProof.noPylong_small (by omega)))
theorem zvc:OpR X (binaryOp .Mod) (rI (λ_ j=>0<j) λi j=>.int (i % j)):=opI λi j _ _ _ _ _ hc q=>by
 have h1:(0:Int)<j:=hc
 exact mod_int' (by omega) (by rw[Int.fmod_eq_emod_of_nonneg i (by omega)];exact q)
theorem zvd:OpR X (binaryOp .Pow) (rI CPow λi j=>.int (i ^ j.toNat)):=opI λ_ _ _ _ _ _ _ hc q=>pow_int_small hc.1 hc.2.1 hc.2.2 q
theorem zsg:OpR X (inplaceOp .Mult) (rI CMul λi j=>.int (i*j)):=opI λ_ _ _ _ _ _ _ hc q=>imul_int q hc.ok
theorem zo2:OpR X (inplaceOp .FloorDiv) (rI CDiv λi j=>.int (i/j)):=opI λi j _ _ _ _ _ hc q=>by
 have h1:(0:Int)<j:=hc.1
 have h2:j<1073741824:=hc.2
 exact ifloordiv_int (by omega) (by rw[Int.fdiv_eq_ediv_of_nonneg i (by omega)];exact q) (.inl (PyProof.noPylong_small (by omega)))
theorem unI{f:Value->Sem Value}{g:Int->Int}
 (rule:∀(i:Int)(t:Tok)(s:Shared)(Q:Value->Shared->Prop)(E:Value->Shared->Prop),Q (.int (g i) s.toks) {s with toks:=s.toks+1}->wpAny (model X.prog X.w) X.A (f (.int i t)) Q E s) :
 UnR X f (rU λi=>.int (g i)):=by
 intro pins s σ H x v Q I rx h
 obtain⟨i,rfl,q⟩:=h
 obtain⟨t,rfl⟩:=rx
 exact rule i t s _ _ ⟨.int (g i),H,I.tok _,⟨_,rfl⟩,q⟩
theorem zve:UnR X (unaryOp .USub) (rU λi=>.int (-i)):=unI λ_ _ _ _ _ q=>neg_int q
end
section
variable{X:Cx}{a b c:Expr}{ta tb tc:TE}{pos:Pos}
theorem zjd{pins:List (Addr×Obj)}{σ:St}{H:Hp}{s:Shared}{Q:VK}{k k':Bool}(I:Inv X pins σ H s)(q:Q (.bl k) H)(e:k=k'):EP X pins σ Q (.bool k') s:=by
 subst e
 exact⟨.bl k,H,I,rfl,q⟩
theorem op_lt:OpR X (compareOp .Lt) (rI0 λi j=>.bl (decide (i<j))):=opB0 λ_ _ _ _ _ _ _ q=>lt_int q
theorem op_le:OpR X (compareOp .LtE) (rI0 λi j=>.bl (decide (i<=j))):=opB0 λ_ _ _ _ _ _ _ q=>le_int q
theorem op_gt:OpR X (compareOp .Gt) (rI0 λi j=>.bl (decide (j<i))):=opB0 λ_ _ _ _ _ _ _ q=>gt_int q
theorem op_ge:OpR X (compareOp .GtE) (rI0 λi j=>.bl (decide (j<=i))):=opB0 λ_ _ _ _ _ _ _ q=>ge_int q
theorem zvf:OpR X (compareOp .Is) (λx y H Q=>y=.non/\Q (.bl (decide (x=.non))) H):=by
 intro pins s σ H x y v u Q I rx ry h
 obtain⟨rfl,q⟩:=h
 cases ry
 refine is_none_gen (zjd I q ?_)
 cases x<;>first
  |(cases rx;rfl)
  |(obtain⟨t,rfl⟩:=rx;rfl)
theorem zsh:OpR X (compareOp .IsNot) (λx y H Q=>y=.non/\Q (.bl (!decide (x=.non))) H):=by
 intro pins s σ H x y v u Q I rx ry h
 obtain⟨rfl,q⟩:=h
 cases ry
 refine isnot_none_gen (zjd I q ?_)
 cases x<;>first
  |(cases rx;rfl)
  |(obtain⟨t,rfl⟩:=rx;rfl)
theorem OpR.or{f:Value->Value->Sem Value}{r r':R2}(h:OpR X f r)(h':OpR X f r'):OpR X f (λx y H Q=>r x y H Q\/r' x y H Q):=by
 intro pins s σ H x y v u Q I rx ry q
 rcases q with q|q
 .exact h pins s σ H x y v u Q I rx ry q
 .exact h' pins s σ H x y v u Q I rx ry q
theorem zsi{op:CmpOp}{r:R2}(ho:OpR X (compareOp op) r)(ha:PE X a ta)(hb:PE X b tb)(hm:behindInMarks op b=false):PE X (.Compare a [op] [b] pos) (tOp r ta tb):=by
 intro pins s σ H Q I h
 exact wpAny_Compare1 (binT ha hb I h λv u s2 x y H2 I2 rx ry q=>ho pins s2 σ H2 x y v u Q I2 rx ry q) hm
noncomputable def tTest(t:TE):TT:=λσ H Q=>t σ H λx H'=>∃k,x=.bl k/\Q k H'
theorem zsj{op:CmpOp}{r:R2}(ho:OpR X (compareOp op) r)(ha:PE X a ta)(hb:PE X b tb)(hm:behindInMarks op b=false):PT X (.Compare a [op] [b] pos) (tTest (tOp r ta tb)):=by
 intro pins s σ H Q I h
 refine wpAny_isTrue_Compare1 (thn (ha pins s σ H _ I h) λv s1 z9=>z9.el λx H1 I1 r1 q1=>thn (hb pins s1 σ H1 _ I1 q1) λu s2 z9=>z9.el λy H2 I2 r2 q2=>
  thn (ho pins s2 σ H2 x y v u _ I2 r1 r2 q2) λc s3 z9=>z9.el λz H3 I3 r3 ⟨k,e,q3⟩=>?_) hm
 subst e
 cases r3
 exact vcb ⟨H3,I3,q3⟩
noncomputable def zlu(r r':R2)(ta tb tc:TE):TE:=λσ H Q=>ta σ H λx H1=>tb σ H1 λy H2=>r x y H2 λz H3=>∃k,z=.bl k/\
 (if k=true then tc σ H3 λw' H4=>r' y w' H4 Q else Q (.bl false) H3)
theorem zo3{op op':CmpOp}{r r':R2}(ho:OpR X (compareOp op) r)(ho':OpR X (compareOp op') r')(ha:PE X a ta)(hb:PE X b tb)(hc:PE X c tc)
 (hm:lastMarks [op,op'] [b,c]=false:=by with_unfolding_all rfl):PE X (.Compare a [op,op'] [b,c] pos) (zlu r r' ta tb tc):=by
 intro pins s σ H Q I h
 refine Compare_chain (thn (ha pins s σ H _ I h) λv s1 z9=>z9.el λx H1 I1 r1 q1=>chain_link (thn (hb pins s1 σ H1 _ I1 q1) λu s2 z9=>z9.el λy H2 I2 r2 q2=>
  thn (ho pins s2 σ H2 x y v u _ I2 r1 r2 q2) λd s3 z9=>z9.el λz H3 I3 r3 ⟨k,e,q3⟩=>?_)) hm
 subst e
 cases r3
 refine vcb ?_
 cases k with
 |false=>exact ite_ff ⟨.bl false,H3,I3,rfl,q3⟩
 |true=>exact ite_tt (chain_last (thn (hc pins s3 σ H3 _ I3 q3) λw' s4 z9=>z9.el λz' H4 I4 r4 q4=>ho' pins s4 σ H4 y z' u w' Q I4 r2 r4 q4))
theorem zo4{op op':CmpOp}{r r':R2}(ho:OpR X (compareOp op) r)(ho':OpR X (compareOp op') r')(ha:PE X a ta)(hb:PE X b tb)(hc:PE X c tc)
 (hm:lastMarks [op,op'] [b,c]=false:=by with_unfolding_all rfl):PT X (.Compare a [op,op'] [b,c] pos) (tTest (zlu r r' ta tb tc)):=by
 intro pins s σ H Q I h
 refine isTrue_chain (thn (ha pins s σ H _ I h) λv s1 z9=>z9.el λx H1 I1 r1 q1=>test_link (thn (hb pins s1 σ H1 _ I1 q1) λu s2 z9=>z9.el λy H2 I2 r2 q2=>
  thn (ho pins s2 σ H2 x y v u _ I2 r1 r2 q2) λd s3 z9=>z9.el λz H3 I3 r3 ⟨k,e,q3⟩=>?_)) hm
 subst e
 cases r3
 refine vcb ?_
 cases k with
 |false=>
  obtain⟨k',e',q'⟩:=q3
  cases e'
  exact ite_ff ⟨H3,I3,q'⟩
 |true=>
  refine ite_tt (test_last (thn (hc pins s3 σ H3 _ I3 q3) λw' s4 z9=>z9.el λz' H4 I4 r4 q4=>thn (ho' pins s4 σ H4 y z' u w' _ I4 r2 r4 q4) λd' s5 z9=>z9.el λz2 H5 I5 r5 hq0=>?_))
  obtain⟨k2,e2,q5⟩:=hq0
  subst e2
  cases r5
  exact vcb ⟨H5,I5,q5⟩
noncomputable def TruV(K:PySem.W.Frag)(x:V)(H:Hp)(k:Bool):Prop:=
 match x with
 |.non=>k=false
 |.bl b=>k=b
 |.int i=>k=(i != 0)
 |.str y=>y.length<=sizeLine/\k=((y.length:Int) != 0)
 |.byt y=>y.size<=sizeLine/\k=((y.size:Int) != 0)
 |.ref p=>(∃xs,SqL K H p xs/\k=!xs.isEmpty)\/(∃xs,SqT K H p xs/\k=!xs.isEmpty)\/∃kvs,H p=some (.dK kvs)/\k=!kvs.isEmpty
 |_=>False
theorem zky{κ:Type}{kvs:List (κ×V)}{vs:List (κ×Value)}(r:KV kvs vs):(!vs.isEmpty)=!kvs.isEmpty:=by
 cases r<;>rfl
theorem ze4{xs:List V}{its:List Value}(r:Vals xs its):(!its.toArray.isEmpty)=!xs.isEmpty:=by
 cases r<;>simp
theorem zgx:(sizeLine:Nat)<2 ^ 63:=by rw[ves];decide
theorem zvg:TruR X (λx H Q=>∃k,TruV X.K x H k/\Q k H):=by
 intro pins s σ H x v Q I rx h
 obtain⟨k,e,q⟩:=h
 have hl:=zgx
 have hs:sizeLine=16777216:=ves
 cases x with
 |non=>
  cases rx
  have e':k=false:=e
  subst e'
  exact truthy_none ⟨H,I,q⟩
 |bl b=>
  cases rx
  have e':k=b:=e
  subst e'
  exact vcb ⟨H,I,q⟩
 |int i=>
  obtain⟨t,rfl⟩:=rx
  have e':k=(i != 0):=e
  subst e'
  exact PySem.P.truthy_int ⟨H,I,q⟩
 |str y=>
  obtain⟨t,rfl⟩:=rx
  obtain⟨hy,e'⟩:y.length<=sizeLine/\k=((y.length:Int) != 0):=e
  subst e'
  exact PySem.P.truthy_str (by omega) ⟨H,I.tok _,q⟩
 |byt y=>
  obtain⟨t,rfl⟩:=rx
  obtain⟨hy,e'⟩:y.size<=sizeLine/\k=((y.size:Int) != 0):=e
  subst e'
  exact PySem.W.truthy_bytes (by omega) ⟨H,I.tok _,q⟩
 |ref p=>
  cases rx
  have e':(∃xs,SqL X.K H p xs/\k=!xs.isEmpty)\/(∃xs,SqT X.K H p xs/\k=!xs.isEmpty)\/∃kvs,H p=some (.dK kvs)/\k=!kvs.isEmpty:=e
  rcases e' with⟨xs,hx,e'⟩|⟨xs,hx,e'⟩|⟨kvs,hx,e'⟩
  .subst e'
   obtain⟨its,r,pl,hz⟩:=I.list hx
   have hlen:=r.length
   exact wpAny_truthy_list pl.isList (by simp only[vah];omega) ⟨H,I.tok _,by rw[ze4 r];exact q⟩
  .subst e'
   obtain⟨its,r,pl,hz⟩:=I.tuple hx
   have hlen:=r.length
   exact truthy_tuple pl (by simp only[vah];omega) ⟨H,I.tok _,by rw[ze4 r];exact q⟩
  .subst e'
   obtain⟨hz,hS,vs,r,m⟩:kvs.length<=sizeLine/\(p==sysModules)=false/\∃vs,KV kvs vs/\s.heap.DictOf (za0 X.prog X.w) p vs:=I.hok p _ hx
   have hlen:kvs.length=vs.length:=ve6 r
   exact wpAny_truthy_dict hS m (by omega) ⟨H,I.tok _,by rw[zky r];exact q⟩
 |_=>exact(show False from e).elim
theorem zo5(ha:PE X a ta)(he:∀whole,isTrue a X.env whole=(do let v <-whole;standAt a.pos;holding [v] (truthy v))) :
 PT X a (λσ H Q=>ta σ H λx H'=>∃k,TruV X.K x H' k/\Q k H'):=by
 intro pins s σ H Q I h
 exact isTrue_plain (thn (ha pins s σ H _ I h) λv s1 z9=>z9.el λx H1 I1 r1 q1=>zvg pins s1 σ H1 x v Q I1 r1 q1) (he _)
theorem vals1{x:V}{us:List Value}(r:Vals [x] us):∃u,us=[u]/\RelV x u:=by
 cases r with
 |cons r1 r2=>cases r2;exact⟨_,rfl,r1⟩
theorem vals2{x y:V}{us:List Value}(r:Vals [x,y] us):∃u w',us=[u,w']/\RelV x u/\RelV y w':=by
 cases r with
 |cons r1 r2=>
  cases r2 with
  |cons r3 r4=>cases r4;exact⟨_,_,rfl,r1,r3⟩
theorem zo6:CallR X (.builtin "abs") (λxs H Q=>∃i,xs=[.int i]/\Q (.int (if i<0 then -i else i)) H):=by
 intro pins s σ H xs us Q I r h
 obtain⟨i,rfl,q⟩:=h
 obtain⟨u,rfl,t,rfl⟩:=vals1 r
 exact call_abs_int λu tk=>⟨.int (if i<0 then -i else i),H,I.tok _,⟨_,rfl⟩,q⟩
theorem zlv(hc:X.calm=true):CallR X (.builtin "min") (λxs H Q=>∃i j,xs=[.int i,.int j]/\Q (.int (if j<i then j else i)) H):=by
 intro pins s σ H xs us Q I r h
 obtain⟨i,j,rfl,q⟩:=h
 obtain⟨u,w',rfl,⟨t,rfl⟩,⟨t',rfl⟩⟩:=vals2 r
 refine min_two_ints (I.ok.hd hc) λh' tk k=>⟨_,H,I.kept k,?_,q⟩
 by_cases hj:j<i
 .rw[if_pos hj,if_pos hj];exact⟨_,rfl⟩
 .rw[if_neg hj,if_neg hj];exact⟨_,rfl⟩
theorem zlw:CallR X (.type "int") (λxs H Q=>(∃i,xs=[.int i]/\Q (.int i) H)\/∃k,xs=[.bl k]/\Q (.int (if k then 1 else 0)) H):=by
 intro pins s σ H xs us Q I r h
 rcases h with⟨i,rfl,q⟩|⟨k,rfl,q⟩
 .obtain⟨u,rfl,t,rfl⟩:=vals1 r
  exact call_int_int ⟨.int i,H,I,⟨_,rfl⟩,q⟩
 .obtain⟨u,rfl,r1⟩:=vals1 r
  cases r1
  exact call_int_bool ⟨.int (if k then 1 else 0),H,I.tok _,⟨_,rfl⟩,q⟩
end
structure ObjM(h:Heap)(x dx C:Addr)(mA:Str->Option Value):Prop where
 obj:h.get? x=some (PySem.W.instObj C dx)
 ns:h.Ns1 dx mA
 ne:dx≠x
theorem zlx{h:Heap}{dx:Addr}{mA:Str->Option Value}(n:h.Ns1 dx mA):∃od,h.get? dx=some od/\∀name,PySem.W.lookIn name od=some (mA name):=by
 obtain⟨o,es,ep,ho,hd,hk,_,hm⟩:=n
 refine⟨o,ho,λname=>?_⟩
 have e:=hm name
 unfold nsFind findBy at e
 rw[<-Array.find?_toList]at e
 unfold PySem.W.lookIn
 rw[hd]
 dsimp only
 split
 .rename_i y q
  rw[q]at e
  exact vey some e
 .rename_i q
  rw[q]at e
  have a:es.toList.any (·.refKey)=false:=by
   rw[List.any_eq_false]
   intro y hy
   obtain⟨z,t,hkey⟩:=hk y (Array.mem_toList_iff.mp hy)
   simp[DictEntry.refKey,hkey]
  have a':¬es.toList.any (·.refKey)=true:=by rw[a];exact vbb
  rw[if_neg a']
  exact vey some e
theorem ObjM.look{h:Heap}{x dx C:Addr}{mA:Str->Option Value}(I:ObjM h x dx C mA):∃od,PySem.W.InstAt h x (PySem.W.instObj C dx) C (some od)/\∀name,PySem.W.lookIn name od=some (mA name):=
 let⟨od,ho,hl⟩:=zlx I.ns
 ⟨od,⟨I.obj,rfl,rfl,ho⟩,hl⟩
theorem RelO.some_of{v:V}{o:Option Value}(r:RelO (some v) o):∃u,o=some u/\RelV v u:=by
 cases o with
 |none=>exact(show False from r).elim
 |some u=>exact⟨u,rfl,r⟩
section
variable{P:Program}{w:World}{H H':Hp}{h h':Heap}{a C dx:Addr}{fs fs':List (Str×V)}
theorem zsk(hok:HOk P w H h)(e:H a=some (.ins C dx fs)):∃mA,ObjM h a dx C mA/\(∀f,RelO (fs.lookup f) (mA f))/\PySem.Within mA (fs.map (·.1))/\fs.length<=1000/\H dx=some (.own a):=by
 obtain⟨d,z,ne,ob,mA,n,r,q⟩:=(show ObjOk P w H h a (.ins C dx fs)from hok a _ e)
 exact⟨mA,⟨ob,n,ne⟩,r,q,z,d⟩
end
structure Cls(K:PySem.W.Frag)(C:Addr):Prop where
 pg:PySem.W.plainGet K C Str.empty=true
 hd:PySem.W.hasDictIn K C=true
 po:PySem.W.plainOver K C=true
 sa:PySem.W.findIn K (.ref C) "__setattr__" = some (some (.builtin "object.__setattr__"))
theorem Cls.get{K:PySem.W.Frag}{C:Addr}(c:Cls K C)(f:Str):PySem.W.plainGet K C f=true:=c.pg
section
variable{X:Cx}{pins:List (Addr×Obj)}{σ:St}{H:Hp}{s:Shared}{A:Around}{E:Value->Shared->Prop}{Q:Value->Shared->Prop}{c:Value}{b:Bool}
inductive TyOf(K:PySem.W.Frag)(H:Hp):V->Value->Prop where
 |non:TyOf K H .non (.type "NoneType")
 |bl (x:Bool):TyOf K H (.bl x) (.type "bool")
 |int (i:Int):TyOf K H (.int i) (.type "int")
 |str (x:Str):TyOf K H (.str x) (.type "str")
 |flt (x:UInt64):TyOf K H (.flt x) (.type "float")
 |lst {a:Addr} {xs:List V} (e:H a=some (.lst xs)):TyOf K H (.ref a) (.type "list")
 |frz {a:Addr} {o:Obj} {xs:List V} (e:H a=some (.frz o (.lst xs))):TyOf K H (.ref a) (.type "list")
 |tup {a:Addr} {xs:List V} (e:H a=some (.tup xs)):TyOf K H (.ref a) (.type "tuple")
 |dK {a:Addr} {kvs:List (Key×V)} (e:H a=some (.dK kvs)):TyOf K H (.ref a) (.type "dict")
 |dT {a:Addr} {kvs:List (List Key×V)} (e:H a=some (.dT kvs)):TyOf K H (.ref a) (.type "dict")
 |ins {a C dx:Addr} {fs:List (Str×V)} (e:H a=some (.ins C dx fs)) (cl:Cls K C) (ha:PySem.W.findIn K (.ref C) "__class__" = some (some (.builtin "object.__class__")))
   (hn:PySem.W.specialIn K (.builtin "object.__class__") "__get__" = some (some (.builtin "getset_descriptor.__get__"))) (htk:PySem.W.takesIn K (.builtin "object.__class__")=some true)
   (hm:PySem.W.mroIn K C (.type "object")=some true):TyOf K H (.ref a) (.ref C)
theorem zly{x:V}{u t:Value}(I:Inv X pins σ H s)(rx:RelV x u)(ty:TyOf X.K H x t)(e:PySem.W.kitOne X.K t c=some b)(h:∀tk,Q (.bool b) {s with toks:=tk}) :
 wpAny (model X.prog X.w) A (call (.builtin "isinstance") [u,c]) Q E s:=by
 cases ty with
 |non=>cases(show u=Value.none from rx);exact vb3 PySem.W.kitx_none I.kIn True.intro e (λz=>nomatch z) h
 |bl y=>cases(show u=Value.bool y from rx);exact vb3 PySem.W.kitx_bool I.kIn True.intro e (λz=>nomatch z) h
 |int i=>obtain⟨t,q⟩:=(show ∃t,u=Value.int i t from rx);cases q;exact vb3 PySem.W.kitx_int I.kIn True.intro e (λz=>nomatch z) h
 |str y=>obtain⟨t,q⟩:=(show ∃t,u=Value.str y t from rx);cases q;exact vb3 PySem.W.kitx_str I.kIn True.intro e (λz=>nomatch z) h
 |flt y=>obtain⟨t,q⟩:=(show ∃t,u=Value.float y t from rx);cases q;exact vb3 PySem.W.kitx_float I.kIn True.intro e (λz=>nomatch z) h
 | @lst a xs ea=>
  cases(show u=Value.ref a from rx)
  obtain⟨_,_,n,_,h1⟩:=(show ObjOk X.prog X.w H s.heap a (.lst xs)from I.hok a _ ea)
  exact vb3 PySem.W.kitx_list I.kIn ⟨_,h1,rfl⟩ e (λz=>nomatch z) h
 | @frz a ob xs ea=>
  cases(show u=Value.ref a from rx)
  obtain⟨_,_,_,n,_,h1⟩:=(show ObjOk X.prog X.w H s.heap a (.frz ob (.lst xs))from I.hok a _ ea)
  exact vb3 PySem.W.kitx_list I.kIn ⟨_,h1,rfl⟩ e (λz=>nomatch z) h
 | @tup a xs ea=>
  cases(show u=Value.ref a from rx)
  obtain⟨_,_,_,p⟩:=(show ObjOk X.prog X.w H s.heap a (.tup xs)from I.hok a _ ea)
  obtain⟨o,h1,h2,_⟩:=p
  exact vb3 PySem.W.kitx_tuple I.kIn ⟨o,h1,h2⟩ e (λz=>nomatch z) h
 | @dK a kvs ea=>
  cases(show u=Value.ref a from rx)
  obtain⟨_,_,vs,_,p⟩:=(show ObjOk X.prog X.w H s.heap a (.dK kvs)from I.hok a _ ea)
  obtain⟨o,es,ep,h1,h2,_⟩:=p
  exact vb3 PySem.W.kitx_dict I.kIn ⟨o,h1,h2.1⟩ e (λz=>nomatch z) h
 | @dT a kvs ea=>
  cases(show u=Value.ref a from rx)
  obtain⟨_,_,xs,_,o,es,ep,h1,h2,_⟩:=(show ObjOk X.prog X.w H s.heap a (.dT kvs)from I.hok a _ ea)
  exact vb3 PySem.W.kitx_dict I.kIn ⟨o,h1,h2.1⟩ e (λz=>nomatch z) h
 | @ins a C dx fs ea cl ha hn htk hm=>
  cases(show u=Value.ref a from rx)
  obtain⟨mA,O,_⟩:=zsk I.hok ea
  obtain⟨od,J,_⟩:=O.look
  exact vb3 (PySem.W.kitx_own (cl.get _) cl.hd ha hn htk hm) I.kIn J e (λz=>nomatch z) h
end
structure Room(k:Nat)(A:Around):Prop where
 hd:A.handled=none
 dp:A.depth+3*k+5<recursionLimit
 un:A.units+16*k+200<cLine
theorem Room.deeper{k:Nat}{A:Around}(r:Room (k+1) A)(env:Env):Room k (A.deeper env):=
 ⟨r.hd,by have:=r.dp;show A.depth+1+3*k+5<_;omega,by have:=r.un;show A.units+3+16*k+200<_;omega⟩
theorem Room.depth{k:Nat}{A:Around}(r:Room k A):A.depth<recursionLimit:=by have:=r.dp;omega
theorem Room.units{k:Nat}{A:Around}(r:Room k A):A.units+64<cLine:=by have:=r.un;omega
noncomputable def tNil:TA:=λ_ H Q=>Q [] H
noncomputable def tCons(ta:TE)(tr:TA):TA:=λσ H Q=>ta σ H λx H1=>tr σ H1 λxs H2=>Q (x::xs) H2
section
variable{X:Cx}{e:Expr}{es:List Expr}{te:TE}{t:TA}{pos:Pos}
theorem zje:PA X [] tNil:=λ_ _ _ _ H Q I h=>Calls.spliced_nil ⟨[],H,I,.nil,h⟩
theorem zec(ha:PE X e te)(hr:PA X es t)(hs:starEach (e::es) X.env=(false,eval e X.env)::starEach es X.env:=by rfl):PA X (e::es) (tCons te t):=by
 intro pos pins s σ H Q I h
 rw[hs]
 show wpAny _ _ (spliced ((false,eval e X.env)::backTo pos (starEach es X.env))) _ _ s
 refine Calls.spliced_cons (thn (ha pins s σ H _ I h) λu s1 z9=>z9.el λx H1 I1 r1 q1=>?_)
 exact thn (hr pos pins s1 σ H1 _ I1 q1) λus s2 z9=>z9.el λxs H2 I2 r2 q2=>⟨x::xs,H2,I2,.cons r1 r2,q2⟩
noncomputable def tTup(t:TA):TE:=λσ H Q=>t σ H λxs H1=>xs.length<=sizeLine/\∀p,H1 p=none->Q (.ref p) (upd H1 p (.tup xs))
noncomputable def tLst(t:TA):TE:=λσ H Q=>t σ H λxs H1=>xs.length<=sizeLine/\∀p,H1 p=none->Q (.ref p) (upd H1 p (.lst xs))
theorem zvh{x1}(h:PA X es t):PE X (.Tuple es x1 pos) (tTup t):=by
 intro pins s σ H Q I hq
 refine wpAny_Tuple_spliced (thn (h pos pins s σ H _ I hq) λus s1 z9=>z9.el λxs H1 I1 r ⟨z,q⟩=>⟨by rw[<-r.length];exact z,?_⟩)
 have hf:H1 s1.heap.objs.size=none:=I1.hok.fresh (vae _)
 refine⟨.ref s1.heap.objs.size,upd H1 s1.heap.objs.size (.tup xs),I1.laid (t':=s1.toks) (λb u e=>vac _ e) (vae _) ?_,rfl,q _ hf⟩
 exact⟨z,us,r,za9.new _ _⟩
theorem zvi(h:PA X es t):PE X (.List es pos) (tLst t):=by
 intro pins s σ H Q I hq
 refine wpAny_List_spliced (thn (h pos pins s σ H _ I hq) λus s1 z9=>z9.el λxs H1 I1 r ⟨z,q⟩=>⟨by rw[<-r.length];exact z,?_⟩)
 have hf:H1 s1.heap.objs.size=none:=I1.hok.fresh (vae _)
 refine⟨.ref s1.heap.objs.size,upd H1 s1.heap.objs.size (.lst xs),I1.laid (t':=s1.toks) (λb u e=>vac _ e) (vae _) ?_,rfl,q _ hf⟩
 exact⟨z,us,0,r,vas _ rfl⟩
end
noncomputable abbrev Sp:=List V->Hp->VK->XK->Prop
noncomputable abbrev CXT:=List Env->Hp->Shared->XK->Value->Shared->Prop
structure Env0(P:Program)(w:World)(K:PySem.W.Frag)(mg:Str->Option Value)(base:Heap)(A:Around)(outer:List Env)(s:Shared)(H:Hp):Prop where
 frames:A.frames=some outer
 mod:Mod K mg base
 bs:∀b o,base.get? b=some o->s.heap.get? b=some o/\H b=none
 bsz:base.objs.size<=s.heap.objs.size
 funs:s.heap.FunFrames base outer
 frf:∀b∈frs outer,H b=none
 hok:HOk P w H s.heap
 bare:AllBare s.gens
noncomputable def CE(outer:List Env)(P:Program)(w:World)(H:Hp)(s:Shared)(Q:VK)(u:Value)(s':Shared):Prop:=
 ∃v H',s'.os=s.os/\AllBare s'.gens/\Un (frs outer) [] H H' s.heap s'.heap/\HOk P w H' s'.heap/\RelV v u/\Q v H'
noncomputable def CR(CX:CXT)(outer:List Env)(P:Program)(w:World)(H:Hp)(s:Shared)(Q:VK)(E:XK)(r:Result)(s':Shared):Prop:=
 match r with
 |.ok (.ret u)=>CE outer P w H s Q u s'
 |.ok _=>False
 |.error e=>CX outer H s E e s'
structure FnOk(P:Program)(w:World)(K:PySem.W.Frag)(mg:Str->Option Value)(base:Heap)(CX:CXT)(k:Nat)(f:Addr)(fd:FuncData)(ps:List Str)(sp:Sp):Prop where
 len:∀vs H Q E,sp vs H Q E->vs.length=ps.length
 run:∀(A:Around)(outer:List Env)(s:Shared)(H:Hp)(args:Args)(us:List Value)(vs:List V)(Q:VK)(E:XK),Room k A->Env0 P w K mg base A outer s H->BindsTo s fd args (ps.zip us)->Vals vs us->sp vs H Q E->
  codeAny (model P w) A (.call (.ref f) args) (CR CX outer P w H s Q E) s
section
variable{X:Cx}{pins:List (Addr×Obj)}{σ:St}{H:Hp}{s s':Shared}
theorem Inv.env0(I:Inv X pins σ H s):Env0 X.prog X.w X.K X.mg X.base X.A X.stack s H:=
 ⟨I.ok.frames,I.ok.mod,I.bs,vbs I.ok.bsz I.sz,I.stack,I.stkFree,I.hok,I.bare⟩
theorem Inv.after{Q:VK}{u:Value}(I:Inv X pins σ H s)(h:CE X.stack X.prog X.w H s Q u s'):EP X pins σ Q u s':=by
 obtain⟨v,H',os,bare,un,hok,r,q⟩:=h
 obtain⟨hh,g,d,t,os'⟩:=s'
 obtain rfl:os'=s.os:=os
 exact⟨v,H',I.call (h':=hh) (g':=g) (d':=d) (t':=t) (ch:=[]) un hok bare (λb z=>absurd z (by simp)),r,q⟩
end
noncomputable def tCall(sp:Sp)(dvs:List V)(E:XK)(t:TA):TE:=λσ H Q=>t σ H λvs H1=>sp (vs++dvs) H1 Q E
noncomputable def Binds(K:PySem.W.Frag)(fd:FuncData)(ps:List Str)(ds:List Value):Prop:=
 ∀(s:Shared)(us:List Value),K.In s.heap->(us++ds).length=ps.length->BindsTo s fd ⟨us,[]⟩ (ps.zip (us++ds))
theorem Binds.all{K:PySem.W.Frag}{fd:FuncData}{ps:List Str}(h:∀us:List Value,us.length=ps.length->bindArgs fd ⟨us,[]⟩=pure (ps.zip us)):Binds K fd ps []:=λs us _ hl=>by
 rw[vcd]at hl ⊢
 exact .of_eq (h us hl)
noncomputable def zjf(CX:CXT)(X:Cx)(E:XK):Prop:=∀(pins:List (Addr×Obj)) (σ:St) (H:Hp) (s:Shared) (e:Value) (s':Shared),Inv X pins σ H s->CX X.stack H s E e s'->X.xe e s'
section
variable{X:Cx}{CX:CXT}{k:Nat}{f C:Addr}{fd:FuncData}{ps:List Str}{sp:Sp}{dvs:List V}{ds:List Value}{E:XK}{x m:Str}{p pos apos:Pos}{e o:Expr}{es:List Expr}{ta:TE}{t:TA}
theorem zq3{pins:List (Addr×Obj)}{σ:St}{H:Hp}{s:Shared}{Q:VK}{us:List Value}{vs:List V}(F:FnOk X.prog X.w X.K X.mg X.base CX k f fd ps sp)(hr:Room k X.A)(hb:Binds X.K fd ps ds)(hd:Vals dvs ds)(hx:zjf CX X E)
 (I:Inv X pins σ H s) (r:Vals vs us) (h:sp (vs++dvs) H Q E):wpAny (model X.prog X.w) X.A (call (.ref f) us) (EP X pins σ Q) X.xe s:=by
 have r2:Vals (vs++dvs) (us++ds):=r.append hd
 have hl:(us++ds).length=ps.length:=by rw[<-r2.length];exact F.len _ _ _ _ h
 refine wpAny_call (codeAny_mono (F.run X.A X.stack s H ⟨us,[]⟩ (us++ds) (vs++dvs) Q E hr I.env0 (hb s us I.kIn hl) r2 h) λr s' hq=>?_)
 cases r with
 |error e=>exact hx pins σ H s e s' I hq
 |ok fl=>
  cases fl with
  |ret u=>exact I.after hq
  |next=>exact False.elim hq
  |brk=>exact False.elim hq
  |cont=>exact False.elim hq
theorem zlz(F:FnOk X.prog X.w X.K X.mg X.base CX k f fd ps sp)(hr:Room k X.A)(hg:Gl X x)(hm:X.mg x=some (.ref f))(hk:PySem.W.keepIn X.K (.ref f)=true)(hb:Binds X.K fd ps ds)(hd:Vals dvs ds)(hx:zjf CX X E)
 (ha:PA X (e::es) t) (hdb:(x==("__debug__" : Str))=false:=by decide) (he:starEach (e::es) X.env=(false,eval e X.env)::starEach es X.env:=by rfl) (hpl:(backTo pos (starEach es X.env)).any (·.1)=false:=by rfl) :
 PE X (.Call (.Name x p) (e::es) [] pos) (tCall sp dvs E t):=by
 intro pins s σ H Q I h
 refine vek (zic I hg hm ?_ hdb)
 refine PySem.W.callWith_K (h₀:=X.base) I.ok.mod.kin hk (thn (ha pos pins s σ H _ I h) λus s1 z9=>z9.el λvs H1 I1 r q=>⟨I1.kIn,?_⟩) he hpl
 exact zq3 F hr hb hd hx I1 r q
theorem zo7(F:FnOk X.prog X.w X.K X.mg X.base CX k f fd ps sp)(hr:Room k X.A)(hg:Gl X x)(hm:X.mg x=some (.ref f))(hk:PySem.W.keepIn X.K (.ref f)=true)(hb:Binds X.K fd ps ds)(hd:Vals dvs ds)(hx:zjf CX X E)
 (hdb:(x==("__debug__" : Str))=false:=by decide):PE X (.Call (.Name x p) [] [] pos) (tCall sp dvs E tNil):=by
 intro pins s σ H Q I h
 refine vek (zic I hg hm ?_ hdb)
 exact PySem.W.callWith_K0 I.kIn hk (zq3 (us:=[]) F hr hb hd hx I .nil h)
end
structure FnScope(N P:List Str)(sc:Scope):Prop where
 kind:sc.kind=.function
 co:sc.isCoroutine=false
 gen:sc.isGenerator=false
 nd:N.Nodup
 pre:N.take P.length=P
 par:∀x∈P,sc.names.lookup x=some .local\/sc.names.lookup x=some .cell
 nofree:∀y∈sc.names,y.2≠.free
theorem zgy{kindOf:Str->Option NameKind}{x:Str}:∀{binds:List (Str×Value)} {m:Str->Option Value},(∀v,(x,v)∉binds)->bindL kindOf binds m x=m x
 |[],_,_=>rfl
 |(n,v)::r,m,h=>by
  unfold bindL
  rw[zgy λw hw=>h w (vag _ hw)]
  split
  .have:x≠n:=by rintro rfl;exact h v van
   simp[this]
  .rfl
theorem zgz{kindOf:Str->Option NameKind}{x:Str}:∀{binds:List (Str×Value)} {m:Str->Option Value},(∀v,(x,v)∉binds)->bindC kindOf binds m x=m x
 |[],_,_=>rfl
 |(n,v)::r,m,h=>by
  unfold bindC
  rw[zgz λw hw=>h w (vag _ hw)]
  split
  .rfl
  .have:x≠n:=by rintro rfl;exact h v van
   simp[this]
theorem zg0{kindOf:Str->Option NameKind}{x:Str}{v:Value}:∀{P:List Str} {vs:List Value} {i:Nat} {m:Str->Option Value},P.Nodup->P[i]?=some x->vs[i]?=some v->kindOf x=some .local->
 bindL kindOf (P.zip vs) m x=some v
 |[],_,_,_,_,h,_,_=>by simp at h
 |_::_,[],_,_,_,_,h,_=>by simp at h
 |p::P,w::vs,0,m,nd,h1,h2,hk=>by
  simp at h1 h2;subst h1;subst h2
  show bindL kindOf ((p,w)::P.zip vs) m p=_
  unfold bindL
  rw[zgy λv hv=>(vdz.mp nd).1 (List.of_mem_zip hv).1,if_pos hk]
  simp
 |p::P,w::vs,i+1,m,nd,h1,h2,hk=>by
  show bindL kindOf ((p,w)::P.zip vs) m x=_
  unfold bindL
  exact zg0 (i:=i) (vdz.mp nd).2 (by simpa using h1) (by simpa using h2) hk
theorem zg1{kindOf:Str->Option NameKind}{x:Str}{v:Value}:∀{P:List Str} {vs:List Value} {i:Nat} {m:Str->Option Value},P.Nodup->P[i]?=some x->vs[i]?=some v->kindOf x≠some .local->
 bindC kindOf (P.zip vs) m x=some v
 |[],_,_,_,_,h,_,_=>by simp at h
 |_::_,[],_,_,_,_,h,_=>by simp at h
 |p::P,w::vs,0,m,nd,h1,h2,hk=>by
  simp at h1 h2;subst h1;subst h2
  show bindC kindOf ((p,w)::P.zip vs) m p=_
  unfold bindC
  rw[zgz λv hv=>(vdz.mp nd).1 (List.of_mem_zip hv).1,if_neg hk]
  simp
 |p::P,w::vs,i+1,m,nd,h1,h2,hk=>by
  show bindC kindOf ((p,w)::P.zip vs) m x=_
  unfold bindC
  exact zg1 (i:=i) (vdz.mp nd).2 (by simpa using h1) (by simpa using h2) hk
noncomputable def start(N:List Str)(vs:List V):St:=vs.map some++List.replicate (N.length-vs.length) none
noncomputable def cxOf(CX:CXT)(P:Program)(w:World)(K:PySem.W.Frag)(mg:Str->Option Value)(base:Heap)(N:List Str)(qual:Str)(scope:Scope)(f:Addr)(cd:Value)(A:Around)(outer:List Env)(s:Shared)(H:Hp)(E:XK):Cx where
 prog:=P
 w:=w
 K:=K
 mg:=mg
 base:=base
 A:=A.deeper (envOfC qual scope s.heap.objs.size f cd)
 N:=N
 s₀:=s
 H₀:=H
 env:=envOfC qual scope s.heap.objs.size f cd
 outer:=outer
 stack:=envOfC qual scope s.heap.objs.size f cd::outer
 ex:=[]
 calm:=true
 fn:=λ_=>true
 pn:=[]
 xe:=λe s'=>wpAny (model P w) (A.deeper (envOfC qual scope s.heap.objs.size f cd)) (leaving (envOfC qual scope s.heap.objs.size f cd) e) (λ_ s''=>CX outer H s E e s'') (λe' s''=>CX outer H s E e' s'') s'
theorem zjg{sc:Scope}{n:Nat}{x:Str}(h:sc.names.lookup x=some .cell):∃c,(cellsFrom n sc.names []).lookup x=some c:=by
 have q:=PySem.W.cellsFrom_some sc.names n [] (.inl h)
 exact Option.isSome_iff_exists.mp q
theorem zl0{CX:CXT}{P:Program}{w:World}{K:PySem.W.Frag}{mg:Str->Option Value}{base:Heap}{N ps:List Str}{qual:Str}{scope:Scope}{f:Addr}{cd:Value}{A:Around}{outer:List Env}{s s1:Shared}{H:Hp}{E:XK}{us:List Value}{vs:List V}
 (S:FnScope N ps scope) (hd:A.handled=none) (e0:Env0 P w K mg base A outer s H) (hl:vs.length=ps.length) (r:Vals vs us)
 (x:InCallC s s.heap.objs.size (bindL (envOfC qual scope s.heap.objs.size f cd).kindOf (ps.zip us) λ_=>none) (cellsFrom (s.heap.objs.size+1) scope.names []) (bindC (envOfC qual scope s.heap.objs.size f cd).kindOf (ps.zip us) λ_=>none) s1) :
 Inv (cxOf CX P w K mg base N qual scope f cd A outer s H E) [] (start N vs) H s1:=by
 have hpl:ps.length<=N.length:=by have:=vey List.length S.pre;rw[vcf]at this;omega
 obtain⟨h1,tk,rfl,hk⟩:=x.done
 have noA:∀b:Addr,b∉(cxOf CX P w K mg base N qual scope f cd A outer s H E).ex:=λb z=>absurd (show b∈([]:List Addr)from z) (by simp)
 refine⟨⟨e0.mod,S.kind,rfl,rfl,vae _,λy z c h1 h2=>?_,λy hy=>?_,λy c _ h=>?_,λ_=>hd,Around.frames_deeper e0.frames,.inr ⟨rfl,rfl⟩,λb z=>absurd z (noA b),e0.bs,e0.bsz,λb _ _=>noA b,λb z=>absurd z (noA b),e0.funs,e0.frf⟩,
  rfl,e0.bare,Un.kept hk,⟨_,x.toInCall.ns,λi y v h1 h2 h3=>?_⟩,λy c h=>⟨_,x.cell y c h⟩,e0.hok.fresh (vae _),λy c h=>?_,λp hp=>absurd (show p∈([]:List (Addr×Obj))from hp) (by simp),e0.hok.kept hk,?_⟩
 .exact name_of_addr x.apart (vdn h1) (vdn h2)
 .have hy:scope.names.lookup y=some .cell\/scope.names.lookup y=some .free:=hy
  rcases hy with hy|hy
  .exact zjg hy
  .exact absurd rfl (S.nofree _ (vdn hy))
 .exact ve0 (x.above y c (vdn h))
 .have hi:i<vs.length:=by
   unfold start at h2
   by_cases hi:i<vs.length
   .exact hi
   .rw[va1 (by simpa using hi)]at h2
    rw[List.getElem?_replicate]at h2
    split at h2<;>cases h2
  have ha:vs[i]?=some v:=by
   unfold start at h2
   rw[vce (by simpa using hi),vat]at h2
   cases e:vs[i]? with
   |none=>rw[e]at h2;cases h2
   |some a=>rw[e]at h2;cases h2;rfl
  obtain⟨u,hu,rv⟩:=r.get ha
  have hp:ps[i]?=some y:=by
   rw[<-S.pre,List.getElem?_take_of_lt (by omega)];exact h1
  have ndP:ps.Nodup:=by rw[<-S.pre];exact S.nd.sublist (List.take_sublist _ _)
  refine⟨u,rv,?_⟩
  rcases S.par y (vcn hp)with k|k
  .exact .inl ⟨k,zg0 ndP hp hu k⟩
  .obtain⟨c,e⟩:=zjg (n:=s.heap.objs.size+1) k
   refine .inr ⟨.inl k,c,e,?_⟩
   have q:=x.cell y c e
   rw[zg1 ndP hp hu (by show scope.names.lookup y≠_;rw[k];decide)]at q
   exact q
 .exact e0.hok.fresh (ve0 (x.above y c (vdn h)))
 .unfold start
  show _=N.length
  rw[vao,vad,vb7]
  omega
theorem fn_of{CX:CXT}{P:Program}{w:World}{K:PySem.W.Frag}{mg:Str->Option Value}{base:Heap}{k:Nat}{f:Addr}{name qual:Str}{params:Arguments}{body:List Stmt}{scope:Scope}{dV kV doc pm cdv ct oc:Value}{an od:Option Addr}
 {osl:Array (Option Value)} {N ps:List Str} {sp:Sp} (lk:K.lookup f=some ⟨oc,od,.func (PySem.W.fnOf name qual params body scope dV kV doc pm an cdv ct),osl⟩) (hcd:PySem.W.codeIn K cdv qual=true) (S:FnScope N ps scope)
 (len:∀vs H Q E,sp vs H Q E->vs.length=ps.length)
 (hbody:∀(A:Around)(outer:List Env)(s:Shared)(H:Hp)(vs:List V)(Q:VK)(E:XK),Room k (A.deeper (envOfC qual scope s.heap.objs.size f cdv))->sp vs H Q E->
   ∃t,PSs (cxOf CX P w K mg base N qual scope f cdv A outer s H E) body t/\t {nx:=λ_ H'=>Q .non H',rt:=Q} (start N vs) H) :
 FnOk P w K mg base CX (k+1) f (PySem.W.fnOf name qual params body scope dV kV doc pm an cdv ct) ps sp:=by
 refine⟨len,λA outer s H args us vs Q E hr e0 hb r hsp=>?_⟩
 have hl:=len _ _ _ _ hsp
 have KX:K.In s.heap:=e0.mod.kin.keeps λb o e=>(e0.bs b o e).1
 have lim:s.heap.NoLimit:=e0.mod.nolimit.keeps λb o e=>(e0.bs b o e).1
 have hkind:∀y∈ps.zip us,scope.names.lookup y.1=some .local\/(scope.names.lookup y.1=some .cell/\((cellsFrom (s.heap.objs.size+1) scope.names []).lookup y.1).isSome=true):=λhq0 hy=>by
  obtain⟨n,v⟩:=hq0
  rcases S.par n (List.of_mem_zip hy).1 with q|q
  .exact .inl q
  .exact .inr ⟨q,PySem.W.cellsFrom_some _ _ _ (.inl q)⟩
 refine codeAny_call_function hr.depth (KX _ _ lk) rfl S.co S.gen rfl (PySem.W.codeRec_of KX hcd) (hb _ _ _ _ ?_)
 refine wpAny_newFunctionEnv_cells S.kind hkind λenv he s1 x=>?_
 subst he
 refine⟨lim.keeps x.toInCall.keep,codeAny_func ?_⟩
 obtain⟨t,ht,hq⟩:=hbody A outer s H vs Q E (hr.deeper _) hsp
 have I:Inv (cxOf CX P w K mg base N qual scope f cdv A outer s H E) [] (start N vs) H s1:=zl0 S hr.hd e0 hl r x
 refine vds (ht [] s1 (start N vs) H _ I hq) (λfl s' hs=>?_) λe s' hs=>hs
 have fin:∀{σ':St}{H':Hp}{v:V}{u:Value},Inv (cxOf CX P w K mg base N qual scope f cdv A outer s H E) [] σ' H' s'->RelV v u->Q v H'->CE outer P w H s Q u s':=
  λ{σ' H' v u} J rv q=>⟨v,H',J.os,J.bare,J.base,J.hok,rv,q⟩
 cases fl with
 |ret u=>
  obtain⟨v,σ',H',J,rv,q⟩:=hs
  exact fin J rv q
 |next=>
  obtain⟨σ',H',J,q⟩:=hs
  exact fin (v:=V.non) (u:=Value.none) J rfl q
 |brk=>
  obtain⟨_,_,_,q⟩:=hs
  exact False.elim q
 |cont=>
  obtain⟨_,_,_,q⟩:=hs
  exact False.elim q
section
variable{X:Cx}{x:Str}{p pos:Pos}{e:Expr}{es:List Expr}{t:TA}{id T:String}{r:List V->Hp->VK->Prop}
noncomputable def tCB(r:List V->Hp->VK->Prop)(t:TA):TE:=λσ H Q=>t σ H λvs H1=>r vs H1 Q
theorem zjh(hc:CallR X (.builtin id) r)(hg:Gl X x)(hm:X.mg x=none)(hv:bootBuiltins x=some (.builtin id))(ha:PA X (e::es) t)(hn:x≠"__name__":=by decide)(hdb:(x==("__debug__" : Str))=false:=by decide)
 (he:starEach (e::es) X.env=(false,eval e X.env)::starEach es X.env:=by rfl) (hpl:(backTo pos (starEach es X.env)).any (·.1)=false:=by rfl):PE X (.Call (.Name x p) (e::es) [] pos) (tCB r t):=by
 intro pins s σ H Q I h
 refine vek (zdk I hg hm hv ?_ hn hdb)
 exact PyProof.Rows.callWith_builtin1 (thn (ha pos pins s σ H _ I h) λus s1 z9=>z9.el λvs H1 I1 r1 q1=>hc pins s1 σ H1 vs us Q I1 r1 q1) he hpl
theorem zl1(hc:CallR X (.type T) r)(hg:Gl X x)(hm:X.mg x=none)(hv:bootBuiltins x=some (.type T))(ha:PA X (e::es) t)(hn:x≠"__name__":=by decide)(hdb:(x==("__debug__" : Str))=false:=by decide)
 (he:starEach (e::es) X.env=(false,eval e X.env)::starEach es X.env:=by rfl) (hpl:(backTo pos (starEach es X.env)).any (·.1)=false:=by rfl):PE X (.Call (.Name x p) (e::es) [] pos) (tCB r t):=by
 intro pins s σ H Q I h
 refine vek (zdk I hg hm hv ?_ hn hdb)
 exact vb6 (thn (ha pos pins s σ H _ I h) λus s1 z9=>z9.el λvs H1 I1 r1 q1=>hc pins s1 σ H1 vs us Q I1 r1 q1) he hpl
end
end L2
namespace HT
open PySem PyProof.Rows
section
variable{prog:Program}{w:World}{A:Around}{E:Value->Shared->Prop}{s:Shared}
theorem cat_tup{t b:Addr}{vs ws:List Value}{Q:Value->Shared->Prop}(ht:IsTup s.heap t vs.toArray)(hb:IsTup s.heap b ws.toArray)(hv:vs≠[])
 (h1:ws=[]->Q (.ref t) s) (h2:ws≠[]->Q (.ref s.heap.objs.size) {s with heap:=s.heap.push {cls:=.type "tuple",data:=.seq (vs++ws).toArray}})
 (hsz:vs.length+ws.length<=sizeLine):wpAny (model prog w) A (binaryOp .Add (.ref t) (.ref b)) Q E s:=by
 obtain⟨⟨cls,dd,data,sl⟩,ho,hc,n,hd⟩:=id ht
 obtain⟨⟨cls2,dd2,data2,sl2⟩,ho2,hc2,n2,hd2⟩:=id hb
 simp only at hc hd hc2 hd2
 subst hc hd hc2 hd2
 have e:vs.toArray++ws.toArray=(vs++ws).toArray:=by simp
 by_cases hw:ws=[]
 .exact concat_meets ⟨_,ho,rfl⟩ ⟨_,ho2,rfl⟩ noFill_tuple_add seq_tuple_add PySem.F.slot_tuple_add PySem.F.entry_tuple_add (PySem.F.args_tuple_add_2 _ _)
   (tuple_addW1 t b vs.toArray ws.toArray n n2 dd dd2 sl sl2 (by simpa using hv) (by simp[hw])) ⟨ho,ho2,h1 hw⟩
 .refine concat_meets ⟨_,ho,rfl⟩ ⟨_,ho2,rfl⟩ noFill_tuple_add seq_tuple_add PySem.F.slot_tuple_add PySem.F.entry_tuple_add (PySem.F.args_tuple_add_2 _ _)
   (tuple_addW2 t b vs.toArray ws.toArray n n2 dd dd2 sl sl2 (by simpa using hv) (by simpa using hw) (by rw[vah,vah];exact hsz)) ⟨ho,ho2,?_⟩
  rw[e]
  exact h2 hw
noncomputable def sIx(n d:Nat):Option Int->Nat
 |none=>d
 |some v=>if v<0 then(v+ (n:Int)).toNat else min v.toNat n
theorem sIx_none(n d:Nat):sIx n d none=d:=rfl
theorem sIx_nat(n d k:Nat):sIx n d (some (k:Int))=min k n:=by
 show(if(k:Int)<0 then((k:Int)+ (n:Int)).toNat else min (k:Int).toNat n)=min k n
 rw[if_neg (by omega),vbn]
theorem zvj(n d:Nat)(hd:d<=n)(o:Option Int):sIx n d o<=n:=by
 cases o with
 |none=>exact hd
 |some v=>
  show(if v<0 then(v+ (n:Int)).toNat else min v.toNat n)<=n
  by_cases hv:v<0
  .rw[if_pos hv];omega
  .rw[if_neg hv];exact Nat.min_le_right _ _
theorem zl2(v:Int)(n d:Nat):(if v<0 then max (v+ (n:Int)) 0 else min v (n:Int))=((sIx n d (some v):Nat):Int):=by
 show(if v<0 then max (v+ (n:Int)) 0 else min v (n:Int))=(((if v<0 then(v+ (n:Int)).toNat else min v.toNat n):Nat):Int)
 by_cases hv:v<0
 .simp only[if_pos hv];omega
 .simp only[if_neg hv];omega
theorem zkz(lo hi:Option Int)(n:Nat):Builtin.Slice.sliceAdjust lo hi 1 (n:Int)=(((sIx n 0 lo:Nat):Int),((sIx n n hi:Nat):Int)):=by
 have h1:¬((1:Int)<0):=by omega
 unfold Builtin.Slice.sliceAdjust
 simp only[h1,vbk]
 refine Prod.ext ?_ ?_
 .cases lo with
  |none=>rfl
  |some v=>exact zl2 v n 0
 .cases hi with
  |none=>rfl
  |some v=>exact zl2 v n n
theorem zk0(i j:Nat):Builtin.Slice.slicePlaces (i:Int) (j:Int) 1=j-i:=by
 unfold Builtin.Slice.slicePlaces
 have h1:(1:Int)>0:=by omega
 simp only[h1,vbe,Int.ediv_one]
 split<;>omega
theorem ze5{v:Value}{o:Option Int}{Q:Option Int->Shared->Prop}(p:IsPart v o)(h:Q o s):wpAny (model prog w) A (Builtin.Slice.slicePartIndex v) Q E s:=by
 cases p with
 |none=>exact slicePart_none h
 |int i t=>exact slicePart_int h
theorem zbt{sl:Addr}{vl vu:Value}{lo hi:Option Int}{n:Nat}{Q:Int×Int×Nat->Shared->Prop}(hs:s.heap.IsSliceOf sl vl vu .none)(pl:IsPart vl lo)(pu:IsPart vu hi)
 (h:Q (((sIx n 0 lo:Nat):Int),1,sIx n n hi-sIx n 0 lo) s):wpAny (model prog w) A (Builtin.Slice.sliceApplied (.ref sl) (pure (n:Int))) Q E s:=by
 obtain⟨os,hos,hcs,hds⟩:=id hs
 unfold Builtin.Slice.sliceApplied Builtin.Slice.sliceFields
 refine vaa (vaa (vb1 hos hds (x:=vl) rfl (vaa (vb1 hos hds (x:=vu) rfl (vaa (vb1 hos hds (x:=.none) rfl (vaf ?_)))))))
 refine vaa (slicePart_none ?_)
 show wpAny _ _ (if((1:Int)==0)=true then _ else _) _ _ s
 rw[if_neg (by decide)]
 refine vaa (ze5 pl (vaa (ze5 pu (vaa (vaf ?_)))))
 show wpAny _ _ (match Builtin.Slice.sliceAdjust lo hi 1 (n:Int)with|(lo,hi)=>pure (lo,(1:Int),Builtin.Slice.slicePlaces lo hi 1)) _ _ s
 rw[zkz lo hi n]
 show wpAny _ _ (pure (((sIx n 0 lo:Nat):Int),(1:Int),Builtin.Slice.slicePlaces ((sIx n 0 lo:Nat):Int) ((sIx n n hi:Nat):Int) 1)) _ _ s
 rw[zk0]
 exact vaf h
theorem zo8(xs:Array Value)(i k:Nat):((List.range k).filterMap λ(m:Nat)=>xs[((i:Int)+ (m:Int)*1).toNat]?).toArray=((xs.toList.drop i).take k).toArray:=by
 have e:(λ(m:Nat)=>xs[((i:Int)+ (m:Int)*1).toNat]?)=λm=>xs[i+m]?:=by
  funext m
  have:((i:Int)+ (m:Int)*1).toNat=i+m:=by omega
  rw[this]
 rw[e]
 have:=pick_run xs i k
 rw[List.filterMap_map]at this
 have e2:((λx=>xs[x]?)∘λx=>i+x)=λm=>xs[i+m]?:=rfl
 rw[e2]at this
 rw[this]
theorem getItem_tuple_cut{t sl:Addr}{items:Array Value}{vl vu:Value}{lo hi:Option Int}{Q:Value->Shared->Prop}(ht:IsTup s.heap t items)(hs:s.heap.IsSliceOf sl vl vu .none)(pl:IsPart vl lo)(pu:IsPart vu hi)
 (hw:¬(sIx items.size 0 lo=0/\sIx items.size items.size hi=items.size))
 (h:Q (.ref s.heap.objs.size) {s with heap:=s.heap.push {cls:=.type "tuple",data:=.seq ((items.toList.drop (sIx items.size 0 lo)).take (sIx items.size items.size hi-sIx items.size 0 lo)).toArray}})
 (hsz:items.size<=sizeLine):wpAny (model prog w) A (getItem (.ref t) (.ref sl)) Q E s:=by
 have htake:sizeOk (.seq ((items.toList.drop (sIx items.size 0 lo)).take (sIx items.size items.size hi-sIx items.size 0 lo)).toArray):=by
  show((items.toList.drop (sIx items.size 0 lo)).take (sIx items.size items.size hi-sIx items.size 0 lo)).toArray.size<=sizeLine
  rw[vah,vcf,vcz,veg]
  omega
 have hj:sIx items.size items.size hi<=items.size:=zvj _ _ (vae _) hi
 obtain⟨os,hos,hcs,hds⟩:=id hs
 have hTs:s.TypeIs (.ref sl) "slice":=⟨os,hos,hcs⟩
 unfold getItem
 try with_reducible refine vc3 ?_
 first|refine vaa (vaf ?_)|skip
 refine vaa (wpAny_sequenceKey ht.typeIs (by decide) ?_)
 refine vaa (vbg (name:=Str.ofString "__getitem__") ht.typeIs vbz
  (vbo vbz ht.typeIs entry_tuple_getitem ?_ (args_tuple_getitem _ _)))
 show wpAny _ _ (Builtin.Tuple.tupleItemsOf (.ref t) >>= _) _ _ s
 refine vaa (tupleItemsOf_ ht ?_)
 refine vaa (vfj hTs ?_)
 rw[if_pos (by decide)]
 refine vaa (zbt hs pl pu ?_)
 have hno:¬((((sIx items.size 0 lo:Nat):Int)==0&& (1:Int)==1&& (sIx items.size items.size hi-sIx items.size 0 lo)==items.size)=true):=by
  intro q
  rw[vab,vab]at q
  have q1:((sIx items.size 0 lo:Nat):Int)=0:=eq_of_beq q.1.1
  have q2:sIx items.size items.size hi-sIx items.size 0 lo=items.size:=eq_of_beq q.2
  exact hw ⟨by omega,by omega⟩
 show wpAny _ _ (if(((sIx items.size 0 lo:Nat):Int)==0&& (1:Int)==1&& (sIx items.size items.size hi-sIx items.size 0 lo)==items.size)=true then _ else _) _ _ s
 rw[if_neg hno,zo8]
 first
  |exact vaa (m:=Builtin.Tuple.tupleExact _) (vbj (vaf ⟨_,rfl,vaf h⟩) htake)
  |exact vaa (m:=Builtin.Tuple.tupleExact _) (vbj (vaa (vaf (vaf ⟨_,rfl,vaf h⟩))) htake)
  |exact vaa (vaa (m:=Builtin.Tuple.tupleExact _) (vbj (vaf (vaf ⟨_,rfl,vaf h⟩)) htake))
  |exact vaa (vaa (m:=Builtin.Tuple.tupleExact _) (vbj (vaf ⟨_,rfl,vaf h⟩) htake))
end
end HT
namespace L2
open PySem PySem.Spec PyProof.Rows
noncomputable abbrev TO:=St->Hp->(Option Int->Hp->Prop)->Prop
noncomputable def PO(X:Cx)(e:Option Expr)(t:TO):Prop:=
 ∀(pins:List (Addr×Obj))(s:Shared)(σ:St)(H:Hp)(Q:Option Int->Hp->Prop),Inv X pins σ H s->t σ H Q->
  wpAny (model X.prog X.w) X.A (evalPart e X.env) (λu s'=>∃o H',Inv X pins σ H' s'/\IsPart u o/\Q o H') X.xe s
noncomputable def zsl:TO:=λ_ H Q=>Q none H
noncomputable def tPart(t:TE):TO:=λσ H Q=>t σ H λx H1=>∃i,x=.int i/\Q (some i) H1
section
variable{X:Cx}{e:Expr}{te:TE}{lo hi:Option Expr}{tl th:TO}{pos p2:Pos}
theorem zsm:PO X none zsl:=by
 intro pins s σ H Q I h
 rw[evalPart_none]
 exact vaf ⟨none,H,I,.none,h⟩
theorem zsn(h:PE X e te):PO X (some e) (tPart te):=by
 intro pins s σ H Q I hw
 rw[evalPart_some]
 refine thn (h pins s σ H _ I hw) λu s1 z9=>z9.el λx H1 I1 r1 q1=>?_
 obtain⟨i,rfl,q⟩:=q1
 obtain⟨t,rfl⟩:=r1
 exact⟨some i,H1,I1,.int i t,q⟩
noncomputable def SlR(X:Cx)(r:V->Option Int->Option Int->Hp->VK->Prop):Prop:=
 ∀(pins:List (Addr×Obj))(s:Shared)(σ:St)(H:Hp)(x:V)(v vl vu:Value)(lo hi:Option Int)(sl:Addr)(Q:VK),Inv X pins σ H s->RelV x v->s.heap.IsSliceOf sl vl vu .none->IsPart vl lo->IsPart vu hi->r x lo hi H Q->
  ∃T id,typeLookup (.type T) "__getitem__" = pure (some (.builtin id))/\s.TypeIs v T/\wpAny (model X.prog X.w) X.A (getItem v (.ref sl)) (EP X pins σ Q) X.xe s
theorem SlR.or{r r':V->Option Int->Option Int->Hp->VK->Prop}(h:SlR X r)(h':SlR X r'):SlR X (λx lo hi H Q=>r x lo hi H Q\/r' x lo hi H Q):=by
 intro pins s σ H x v vl vu lo hi sl Q I rx hs pl pu q
 rcases q with q|q
 .exact h pins s σ H x v vl vu lo hi sl Q I rx hs pl pu q
 .exact h' pins s σ H x v vl vu lo hi sl Q I rx hs pl pu q
noncomputable def tSl(r:V->Option Int->Option Int->Hp->VK->Prop)(te:TE)(tl th:TO):TE:=λσ H Q=>te σ H λx H1=>tl σ H1 λl H2=>th σ H2 λu H3=>r x l u H3 Q
theorem zo9{r:V->Option Int->Option Int->Hp->VK->Prop}(hr:SlR X r)(he:PE X e te)(hl:PO X lo tl)(hu:PO X hi th):PE X (.Subscript e (.Slice lo hi none p2) pos) (tSl r te tl th):=by
 intro pins s σ H Q I h
 refine Subscript_ (thn (he pins s σ H _ I h) λv s1 z9=>z9.el λx H1 I1 r1 q1=>?_)
 refine wpAny_Slice (thn (hl pins s1 σ H1 _ I1 q1) λvl s2 ⟨l,H2,I2,pl,q2⟩=>thn (hu pins s2 σ H2 _ I2 q2) λvu s3 hq0=>?_)
 obtain⟨u,H3,I3,pu,q3⟩:=hq0
 rw[evalPart_none]
 refine vaf ?_
 have I4:Inv X pins σ H3 {s3 with heap:=s3.heap.push {cls:=.type "slice",data:=.fields #[vl,vu,.none]}}:=I3.kept (t':=s3.toks) λb ob q=>vac _ q
 obtain⟨T,id,hT,ht,hg⟩:=hr pins {s3 with heap:=s3.heap.push {cls:=.type "slice",data:=.fields #[vl,vu,.none]}} σ H3 x v vl vu l u s3.heap.objs.size Q I4 r1 (Heap.IsSliceOf.new ..) pl pu q3
 show wpAny (model X.prog X.w) X.A (subscriptTail e (.Slice lo hi none p2) v (.ref s3.heap.objs.size)) (EP X pins σ Q) X.xe {s3 with heap:=s3.heap.push {cls:=.type "slice",data:=.fields #[vl,vu,.none]}}
 exact tail_any (ops:=[.ref s3.heap.objs.size,v]) ht hT hg (by with_unfolding_all rfl)
noncomputable def cutV(xs:List V)(lo hi:Option Int):List V:=(xs.drop (HT.sIx xs.length 0 lo)).take (HT.sIx xs.length xs.length hi-HT.sIx xs.length 0 lo)
theorem zed(xs:List V)(lo hi:Option Int):(cutV xs lo hi).length<=xs.length:=by
 unfold cutV
 rw[vcf,vcz]
 omega
noncomputable def rSlT(K:PySem.W.Frag):V->Option Int->Option Int->Hp->VK->Prop:=λx lo hi H Q=>∃a xs,x=.ref a/\SqT K H a xs/\
 ¬(HT.sIx xs.length 0 lo=0/\HT.sIx xs.length xs.length hi=xs.length)/\∀p,H p=none->Q (.ref p) (upd H p (.tup (cutV xs lo hi)))
theorem zvk:SlR X (rSlT X.K):=by
 intro pins s σ H x v vl vu lo hi sl Q I rx hs pl pu h
 obtain⟨a,xs,rfl,hx,hw,q⟩:=h
 cases rx
 obtain⟨its,r,ht,hz⟩:=I.tuple hx
 have hlen:its.toArray.size=xs.length:=by rw[vah];exact r.length.symm
 refine⟨"tuple",_,vbz.lookup,ht.typeIs,?_⟩
 refine HT.getItem_tuple_cut ht hs pl pu (by rw[hlen];exact hw) ?_ (by rw[hlen];exact hz)
 rw[hlen]
 refine⟨.ref s.heap.objs.size,_,I.laid (t':=s.toks) (o:=.tup (cutV xs lo hi)) (λb ob q=>vac _ q) (vae _) ?_,rfl,q _ (I.hok.fresh (vae _))⟩
 exact⟨vbs (zed xs lo hi) hz,_,(r.drop (HT.sIx xs.length 0 lo)).take (HT.sIx xs.length xs.length hi-HT.sIx xs.length 0 lo),za9.new _ _⟩
noncomputable def rCatT(K:PySem.W.Frag):R2:=λx y H Q=>∃a b xs ys,x=.ref a/\y=.ref b/\SqT K H a xs/\SqT K H b ys/\xs≠[]/\xs.length+ys.length<=sizeLine/\
 (ys=[]->Q (.ref a) H)/\(ys≠[]->∀p,H p=none->Q (.ref p) (upd H p (.tup (xs++ys))))
theorem Vals.nil_iff{xs:List V}{us:List Value}(r:Vals xs us):us=[]↔xs=[]:=by
 cases r with
 |nil=>simp
 |cons _ _=>simp
theorem zso:OpR X (binaryOp .Add) (rCatT X.K):=by
 intro pins s σ H x y v u Q I rx ry h
 obtain⟨a,b,xs,ys,rfl,rfl,ha,hb,hx,hz,q1,q2⟩:=h
 cases rx
 cases ry
 obtain⟨its,r1,p1,_⟩:=I.tuple ha
 obtain⟨its2,r2,p2,_⟩:=I.tuple hb
 refine HT.cat_tup p1 p2 (λz=>hx (r1.nil_iff.mp z)) (λz=>⟨.ref a,H,I,rfl,q1 (r2.nil_iff.mp z)⟩) (λz=>?_) (by rw[<-r1.length,<-r2.length];exact hz)
 refine⟨.ref s.heap.objs.size,_,I.laid (t':=s.toks) (o:=.tup (xs++ys)) (λb ob q=>vac _ q) (vae _) ?_,rfl,q2 (λw=>z (r2.nil_iff.mpr w)) _ (I.hok.fresh (vae _))⟩
 exact⟨by rw[vao];exact hz,_,r1.append r2,za9.new _ _⟩
end
noncomputable def ixN(n:Nat)(i:Int):Option Nat:=if 0<=i then(if i<n then some i.toNat else none)else if -(n:Int)<=i then some (i+n).toNat else none
noncomputable def atI{α:Type}(xs:List α)(i:Int):Option α:=(ixN xs.length i).bind λj=>xs[j]?
theorem zl3{n:Nat}{i:Int}{j:Nat}(h:ixN n i=some j):seqIndex? i n=some j/\j<n/\-(n:Int)<=i/\i<n:=by
 unfold ixN at h
 by_cases h0:0<=i
 .rw[if_pos h0]at h
  by_cases h1:i<n
  .rw[if_pos h1]at h
   have e:i.toNat=j:=vbr h
   exact⟨by rw[seqIndex_of h0 h1,e],by omega,by omega,h1⟩
  .rw[if_neg h1]at h;cases h
 .rw[if_neg h0]at h
  by_cases h1:-(n:Int)<=i
  .rw[if_pos h1]at h
   have e:(i+n).toNat=j:=vbr h
   exact⟨by rw[seqIndex_neg (by omega) h1,e],by omega,h1,by omega⟩
  .rw[if_neg h1]at h;cases h
theorem zl4{α:Type}{xs:List α}{i:Int}{v:α}(h:atI xs i=some v):∃j,seqIndex? i xs.length=some j/\xs[j]?=some v/\j<xs.length/\-(xs.length:Int)<=i/\i<xs.length:=by
 unfold atI at h
 cases e:ixN xs.length i with
 |none=>rw[e]at h;cases h
 |some j=>
  rw[e]at h
  obtain⟨h1,h2,h3,h4⟩:=zl3 e
  exact⟨j,h1,h,h2,h3,h4⟩
theorem zbv{α:Type}{xs:List α}{j:Nat}{v:α}(h:xs[j]?=some v):atI xs (j:Int)=some v:=by
 have hj:j<xs.length:=(vau.mp h).1
 have e:ixN xs.length (j:Int)=some j:=by
  unfold ixN
  rw[if_pos (by omega),if_pos (by omega)];simp
 unfold atI;rw[e];exact h
noncomputable def zie(b:Expr):Prop:=∀o i,subscripted b false o i=operate [o,i] (getItem o i)
noncomputable def IxR(X:Cx)(r:R2):Prop:=
 ∀(value slice:Expr)(pins:List (Addr×Obj))(s:Shared)(σ:St)(H:Hp)(x y:V)(v u:Value)(Q:VK),Inv X pins σ H s->RelV x v->RelV y u->r x y H Q->
  subscripted slice false v u=operate [v,u] (getItem v u)->wpAny (model X.prog X.w) X.A (subscriptTail value slice v u) (EP X pins σ Q) X.xe s
noncomputable def MtR(X:Cx)(id:String)(r:V->List V->Hp->VK->Prop):Prop:=
 ∀(pins:List (Addr×Obj))(s:Shared)(σ:St)(H:Hp)(x:V)(xs:List V)(v:Value)(us:List Value)(Q:VK),Inv X pins σ H s->RelV x v->Vals xs us->r x xs H Q->
  wpAny (model X.prog X.w) X.A (call (.builtin id) (v::us)) (EP X pins σ Q) X.xe s
section
variable{X:Cx}{a b:Expr}{ta tb:TE}{pos:Pos}
theorem IxR.or{r r':R2}(h:IxR X r)(h':IxR X r'):IxR X (λx y H Q=>r x y H Q\/r' x y H Q):=by
 intro value slice pins s σ H x y v u Q I rx ry q hs
 rcases q with q|q
 .exact h value slice pins s σ H x y v u Q I rx ry q hs
 .exact h' value slice pins s σ H x y v u Q I rx ry q hs
theorem pe_ix{r:R2}(hr:IxR X r)(ha:PE X a ta)(hb:PE X b tb)(hs:zie b):PE X (.Subscript a b pos) (tOp r ta tb):=by
 intro pins s σ H Q I h
 exact Subscript_ (binT ha hb I h λv u s2 x y H2 I2 rx ry q=>hr a b pins s2 σ H2 x y v u Q I2 rx ry q (hs _ _))
noncomputable def rIxL(K:PySem.W.Frag):R2:=λx y H Q=>∃p xs i v,x=.ref p/\y=.int i/\SqL K H p xs/\atI xs i=some v/\Q v H
noncomputable def rIxT(K:PySem.W.Frag):R2:=λx y H Q=>∃p xs i v,x=.ref p/\y=.int i/\SqT K H p xs/\atI xs i=some v/\Q v H
theorem zsp:IxR X (rIxL X.K):=by
 intro value slice pins s σ H x y v u Q I rx ry h hs
 obtain⟨p,xs,i,z,rfl,rfl,hq,he,q⟩:=h
 cases rx
 obtain⟨t,rfl⟩:=ry
 obtain⟨its,r,pl,hz⟩:=I.list hq
 obtain⟨j,h1,h2,h3,h4,h5⟩:=zl4 he
 obtain⟨w,ew,rw'⟩:=r.get h2
 have hl:=r.length
 have hn:=zgx
 have fin:EP X pins σ Q w s:=⟨z,H,I,rw',q⟩
 by_cases h0:0<=i
 .have hj:i.toNat=j:=by
   rw[seqIndex_of h0 h5]at h1
   exact vbr h1
  exact item_listR pl.isList h0 (by omega) (by rw[hj];simpa using ew) fin hs
 .have hj:(i+ (its.toArray.size:Int)).toNat=j:=by
   rw[seqIndex_neg (by omega) h4]at h1
   rw[vah,<-hl]
   exact vbr h1
  exact subscriptTail_builtinR (x:=w) pl.isList.typeIs slot_list_getitem.lookup
   (wpAny_getItem_list_neg (Q:=λr s'=>r=w/\EP X pins σ Q r s') pl.isList (by omega) (by rw[vah]<;>omega) (by omega) (by rw[hj];simpa using ew) ⟨rfl,fin⟩) hs
theorem zvl:IxR X (rIxT X.K):=by
 intro value slice pins s σ H x y v u Q I rx ry h hs
 obtain⟨p,xs,i,z,rfl,rfl,hq,he,q⟩:=h
 cases rx
 obtain⟨t,rfl⟩:=ry
 obtain⟨its,r,pl,hz⟩:=I.tuple hq
 obtain⟨j,h1,h2,h3,h4,h5⟩:=zl4 he
 obtain⟨w,ew,rw'⟩:=r.get h2
 have hl:=r.length
 have hn:=zgx
 have fin:EP X pins σ Q w s:=⟨z,H,I,rw',q⟩
 exact subscriptTail_builtinR (x:=w) pl.typeIs slot_tuple_getitem.lookup
  (getItem_tuple (j:=j) (Q:=λr s'=>r=w/\EP X pins σ Q r s') pl (by omega) (by omega) (by rw[vah,<-hl];exact h1) (by simpa using ew) ⟨rfl,fin⟩) hs
theorem zk1(its:List Value)(n j:Nat)(u:Value):Obj.mapSeq (·.setIfInBounds j u) {cls:=.type "list",data:=.seq its.toArray n} ={cls:=.type "list",data:=.seq (its.set j u).toArray n}:=by
 simp[Obj.mapSeq]
theorem Inv.lst{pins:List (Addr×Obj)}{σ:St}{H:Hp}{s:Shared}{p:Addr}{xs:List V}(I:Inv X pins σ H s)(h:H p=some (.lst xs)) :
 ∃(its:List Value) (n:Nat),Vals xs its/\s.heap.get? p=some {cls:=.type "list",data:=.seq its.toArray n}/\xs.length<=sizeLine:=by
 obtain⟨z,its,n,r,e⟩:=I.hok p _ h
 exact⟨its,n,r,e,z⟩
theorem Inv.lstUpd{pins:List (Addr×Obj)}{σ:St}{H:Hp}{s:Shared}{p:Addr}{xs ys:List V}{its its':List Value}{n n':Nat}{f:Obj->Obj}(I:Inv X pins σ H s)(h:H p=some (.lst xs))
 (ho:s.heap.get? p=some {cls:=.type "list",data:=.seq its.toArray n}) (hf:f {cls:=.type "list",data:=.seq its.toArray n} ={cls:=.type "list",data:=.seq its'.toArray n'}) (r:Vals ys its') (hz:ys.length<=sizeLine) (t:Nat) :
 Inv X pins σ (upd H p (.lst ys)) {s with heap:=s.heap.update p f,toks:=t}:=by
 have e:(s.heap.update p f).get? p=some {cls:=.type "list",data:=.seq its'.toArray n'}:=by
  rw[vc9 f ho (by rw[hf]<;>rfl),hf]
 refine I.write (x:=p) (e:=p) (by rw[h];trivial) (.inl rfl) (λb u hb q=>(Heap.get?_update_other _ _ (vck hb)).trans q) ⟨_,e⟩ ?_
 exact⟨hz,its',n',r,e⟩
noncomputable def rSetL:V->V->V->Hp->(Hp->Prop)->Prop:=λo i v H Q=>∃p xs k j,o=.ref p/\i=.int k/\H p=some (.lst xs)/\ixN xs.length k=some j/\Q (upd H p (.lst (xs.set j v)))
theorem zpa:PSet X rSetL:=by
 intro pins s σ H o i v ov iv u Q I ro ri rv h
 obtain⟨p,xs,k,j,rfl,rfl,hp,hj,q⟩:=h
 cases ro
 obtain⟨t,rfl⟩:=ri
 obtain⟨its,n,r,ho,hz⟩:=I.lst hp
 obtain⟨h1,h2,h3,h4⟩:=zl3 hj
 have hl:=r.length
 have hn:=zgx
 have I':Inv X pins σ (upd H p (.lst (xs.set j v))) {s with heap:=s.heap.update p (Obj.mapSeq (·.setIfInBounds j u))}:=
  I.lstUpd hp ho (zk1 its n j u) (r.set rv j) (by rw[vel];exact hz) s.toks
 by_cases h0:0<=k
 .have hk:k.toNat=j:=by
   rw[seqIndex_of h0 h4]at h1
   exact vbr h1
  exact PySem.W.ki_setAt ho h0 (by omega) (by rw[vah,<-hl];exact h4) (by rw[hk];exact⟨_,I',q⟩)
 .have hk:(k+ (its.toArray.size:Int)).toNat=j:=by
   rw[seqIndex_neg (by omega) h3]at h1
   rw[vah,<-hl]
   exact vbr h1
  exact PySem.W.ki_setBack ho (by omega) (by rw[vah,<-hl];exact h3) (by omega) (by rw[hk];exact⟨_,I',q⟩)
theorem zg2(lo hi:Option Int)(n:Nat):(sliceBounds lo hi none n).1=((HT.sIx n 0 lo:Nat):Int)/\(sliceBounds lo hi none n).2.1=((HT.sIx n n hi:Nat):Int)/\(sliceBounds lo hi none n).2.2=1:=by
 refine⟨?_,?_,rfl⟩
 .cases lo with
  |none=>simp[sliceBounds,HT.sIx]
  |some i=>
   simp only[sliceBounds,HT.sIx,Option.getD_none,show(1:Int)>0 by decide,vbe]
   by_cases h:i<0
   .simp only[h,vbe]<;>omega
   .simp only[h,vbk]<;>omega
 .cases hi with
  |none=>simp[sliceBounds,HT.sIx]
  |some i=>
   simp only[sliceBounds,HT.sIx,Option.getD_none,show(1:Int)>0 by decide,vbe]
   by_cases h:i<0
   .simp only[h,vbe]<;>omega
   .simp only[h,vbk]<;>omega
theorem zfz(its:List Value)(lo hi:Option Int):slicePick its.toArray lo hi none=((its.drop (HT.sIx its.length 0 lo)).take (HT.sIx its.length its.length hi-HT.sIx its.length 0 lo)).toArray:=by
 obtain⟨h1,h2,h3⟩:=zg2 lo hi its.toArray.size
 unfold slicePick
 rw[h1,h2,h3]
 simp only[sliceRange_one,pick_run,vah]<;>rfl
noncomputable def rSlL(K:PySem.W.Frag):V->Option Int->Option Int->Hp->VK->Prop:=λx lo hi H Q=>∃a xs,x=.ref a/\SqL K H a xs/\∀p,H p=none->Q (.ref p) (upd H p (.lst (cutV xs lo hi)))
theorem zsq:SlR X (rSlL X.K):=by
 intro pins s σ H x v vl vu lo hi sl Q I rx hs pl pu h
 obtain⟨a,xs,rfl,hx,q⟩:=h
 cases rx
 obtain⟨its,r,ht,hz⟩:=I.list hx
 have hlen:=r.length
 refine⟨"list",_,slot_list_getitem.lookup,ht.isList.typeIs,?_⟩
 refine wpAny_getItem_list_slice ht.isList hs pl pu .none (by simp) ?_ (by rw[vah]<;>omega)
 rw[zfz,<-hlen]
 refine⟨.ref s.heap.objs.size,_,I.laid (t':=s.toks) (o:=.lst (cutV xs lo hi)) (λb ob q=>vac _ q) (vae _) ?_,rfl,q _ (I.hok.fresh (vae _))⟩
 exact⟨vbs (zed xs lo hi) hz,_,0,(r.drop (HT.sIx xs.length 0 lo)).take (HT.sIx xs.length xs.length hi-HT.sIx xs.length 0 lo),vas _ rfl⟩
theorem zg3:CallR X (.builtin "len") (λxs H Q=>∃p ys,xs=[.ref p]/\(SqL X.K H p ys\/SqT X.K H p ys)/\Q (.int ys.length) H):=by
 intro pins s σ H xs us Q I r h
 obtain⟨p,ys,rfl,hq,q⟩:=h
 obtain⟨u,rfl,rx⟩:=vals1 r
 cases rx
 have hn:=zgx
 rcases hq with hq|hq
 .obtain⟨its,r',pl,hz⟩:=I.list hq
  have hlen:=r'.length
  exact Calls.call_len_list pl.isList (by simp only[vah]<;>omega) ⟨.int ys.length,H,I.tok _,⟨s.toks+1,by rw[vah,hlen]⟩,q⟩
 .obtain⟨its,r',pl,hz⟩:=I.tuple hq
  have hlen:=r'.length
  exact len_tuple pl (by simp only[vah]<;>omega) ⟨.int ys.length,H,I.tok _,⟨s.toks+1,by rw[vah,hlen]⟩,q⟩
theorem CallR.or{f:Value}{r r':List V->Hp->VK->Prop}(h:CallR X f r)(h':CallR X f r'):CallR X f (λxs H Q=>r xs H Q\/r' xs H Q):=by
 intro pins s σ H xs us Q I rs q
 rcases q with q|q
 .exact h pins s σ H xs us Q I rs q
 .exact h' pins s σ H xs us Q I rs q
theorem zg4:CallR X (.type "list") (λxs H Q=>∃p ys,xs=[.ref p]/\(SqL X.K H p ys\/SqT X.K H p ys)/\∀l,H l=none->Q (.ref l) (upd H l (.lst ys))):=by
 intro pins s σ H xs us Q I r h
 obtain⟨p,ys,rfl,hq,q⟩:=h
 obtain⟨u,rfl,rx⟩:=vals1 r
 cases rx
 have fin:∀(its:List Value),Vals ys its->ys.length<=sizeLine->∀(h':Heap)(c':Nat),(∀b o',s.heap.get? b=some o'->h'.get? b=some o')->
  h'.get? s.heap.objs.size=some {cls:=.type "list",dict:=none,data:=.seq its.toArray c',slots:=#[]}->EP X pins σ Q (.ref s.heap.objs.size) {s with heap:=h'}:=λits r' hz h' c' kp e=>
  ⟨.ref s.heap.objs.size,_,I.laid (t':=s.toks) kp (vae _) (show ObjOk X.prog X.w _ h' _ (.lst ys)from⟨hz,its,c',r',e⟩),rfl,q _ (I.hok.fresh (vae _))⟩
 rcases hq with hq|hq
 .obtain⟨its,r',pl,hz⟩:=I.list hq
  have hlen:=r'.length
  obtain⟨o,ho,hc,n,hd⟩:=pl.isList
  exact call_list_seq p (.inl rfl) ho hc hd (λh' c' kp e=>fin its r' hz h' c' kp e) (by simp only[vah]<;>omega)
 .obtain⟨its,r',pl,hz⟩:=I.tuple hq
  have hlen:=r'.length
  obtain⟨o,ho,hc,n,hd⟩:=pl
  exact call_list_seq p (.inr rfl) ho hc hd (λh' c' kp e=>fin its r' hz h' c' kp e) (by simp only[vah]<;>omega)
theorem zf0:CallR X (.type "tuple") (λxs H Q=>∃p ys,xs=[.ref p]/\((SqL X.K H p ys/\∀l,H l=none->Q (.ref l) (upd H l (.tup ys)))\/(SqT X.K H p ys/\Q (.ref p) H))):=by
 intro pins s σ H xs us Q I r h
 obtain⟨p,ys,rfl,h⟩:=h
 obtain⟨u,rfl,rx⟩:=vals1 r
 cases rx
 rcases h with⟨hq,q⟩|⟨hq,q⟩
 .obtain⟨its,r',pl,hz⟩:=I.list hq
  have hlen:=r'.length
  refine call_tuple_list pl.isList (λh' kp=>?_) (by simp only[vah]<;>omega)
  have I1:Inv X pins σ H {s with heap:=h'}:=I.kept (t':=s.toks) kp
  have I2:Inv X pins σ (upd H h'.objs.size (.tup ys)) {s with heap:=h'.push {cls:=.type "tuple",data:=.seq its.toArray}}:=
   I1.laid (t':=s.toks) (λb o e=>vac _ e) (vae _) (show ObjOk X.prog X.w _ _ _ (.tup ys)from⟨hz,its,r',za9.new _ _⟩)
  exact⟨.ref h'.objs.size,_,I2,rfl,q _ (I1.hok.fresh (vae _))⟩
 .obtain⟨its,r',pl,hz⟩:=I.tuple hq
  exact call_tuple_same pl ⟨.ref p,H,I,rfl,q⟩
noncomputable def tyV(K:PySem.W.Frag)(T:String)(x:V)(H:Hp):Prop:=match x with
 |.str _=>T = "str"
 |.int _=>T = "int"
 |.ref p=>(T = "list"/\∃xs,SqL K H p xs)\/(T = "tuple"/\∃xs,SqT K H p xs)\/
  (T = "dict"/\((∃kvs,H p=some (.dK kvs))\/∃kvs,H p=some (.dT kvs)))\/(T = "set"/\∃S n,H p=some (.set S n))
 |_=>False
theorem zvm{pins:List (Addr×Obj)}{σ:St}{H:Hp}{s:Shared}{T:String}{x:V}{v:Value}(I:Inv X pins σ H s)(r:RelV x v)(ty:tyV X.K T x H) :
 s.TypeIs v T/\∀a,v=.ref a->∃ob,s.heap.get? a=some ob/\ob.dict=none:=by
 cases x with
 |str z=>
  obtain⟨t,rfl⟩:=r
  cases(show T = "str"from ty)
  exact⟨typeIs_str s z t,λ_ e=>nomatch e⟩
 |int i=>
  obtain⟨t,rfl⟩:=r
  cases(show T = "int"from ty)
  exact⟨typeIs_int s i t,λ_ e=>nomatch e⟩
 |ref p=>
  cases r
  rcases ty with⟨rfl,xs,hq⟩|⟨rfl,xs,hq⟩|⟨rfl,hk⟩|⟨rfl,S,n,hk⟩
  .obtain⟨its,_,pl,_⟩:=I.list hq
   refine⟨pl.isList.typeIs,λa e=>?_⟩
   cases e
   obtain⟨o,n,e,c,hd,_⟩:=pl
   exact⟨o,e,hd⟩
  .obtain⟨its,_,⟨o,h1,h2,_,h3⟩,_⟩:=I.tupleD hq
   refine⟨⟨o,h1,h2⟩,λa e=>?_⟩
   cases e
   exact⟨o,h1,h3⟩
  .have z:∃o,s.heap.get? p=some o/\o.ExactDict:=by
    rcases hk with⟨kvs,hk⟩|⟨kvs,hk⟩
    .obtain⟨_,_,_,_,o,_,_,e,ex,_⟩:=I.hok p _ hk
     exact⟨o,e,ex⟩
    .obtain⟨_,_,_,_,o,_,_,e,ex,_⟩:=I.hok p _ hk
     exact⟨o,e,ex⟩
   obtain⟨o,e,ex⟩:=z
   refine⟨⟨o,e,ex.1⟩,λa e2=>?_⟩
   cases e2
   exact⟨o,e,ex.2.1⟩
  .obtain⟨o,_,_,_,e,ex,_⟩:=I.hok p _ hk
   refine⟨⟨o,e,ex.1⟩,λa e2=>?_⟩
   cases e2
   exact⟨o,e,ex.2.1⟩
 |_=>exact False.elim ty
noncomputable def tBM(K:PySem.W.Frag)(T:String)(r:V->List V->Hp->VK->Prop)(to:TE)(t:TA):TE:=λσ H Q=>to σ H λx H1=>tyV K T x H1/\t σ H1 λxs H2=>r x xs H2 Q
variable{o e:Expr}{es:List Expr}{to:TE}{t:TA}{name:Str}{apos cpos:Pos}{T id:String}{r:V->List V->Hp->VK->Prop}
theorem pe_bm(pa:PlainAttrs T)(slot:Slot T name id)(hty:typeOf (.builtin id)=pure (.type "method_descriptor"))(hm:MtR X id r)(ho:PE X o to)(ha:PA X (e::es) t)
 (hbase:attributeBase o name X.env (eval o X.env)=eval o X.env:=by rfl)
 (hfew:((backTo cpos (starEach (e::es) X.env)).all (λx=>!x.1)&& (backToKw cpos (keywordEach [] X.env)).all (λx=>x.1.isSome)
   && decide ((e::es).length+ ([]:List Keyword).length+ (if([]:List Keyword).isEmpty then 0 else 1)<30))=true:=by rfl)
 (hline:(apos.endLine==cpos.line)=true:=by rfl) (hs:starEach (e::es) X.env=(false,eval e X.env)::starEach es X.env:=by rfl) (hplain:(backTo cpos (starEach es X.env)).any (·.1)=false:=by rfl) :
 PE X (.Call (.Attribute o name apos) (e::es) [] cpos) (tBM X.K T r to t):=by
 intro pins s σ H Q I h
 refine wpAny_Call_method_late hbase hfew hline rfl (thn (ho pins s σ H _ I h) λv s1 z9=>z9.el λx H1 I1 r1 hq0=>?_)
 obtain⟨ty,q1⟩:=hq0
 obtain⟨h1,h2⟩:=zvm I1 r1 ty
 refine⟨T,id,pa,slot,hty,h1,h2,?_⟩
 have hA:=ha cpos pins s1 σ H1 _ I1 q1
 rw[hs]at hA ⊢
 refine Calls.callWith_builtin (by show(false|| (backTo cpos (starEach es X.env)).any (·.1))=false;rw[hplain]<;>rfl) (Calls.evalArgs_plain ?_)
 exact thn hA λus s2 z9=>z9.el λvs H2 I2 r2 q2=>hm pins s2 σ H2 x vs v us Q I2 r1 r2 q2
/- xs.append(e),list.index on a module's tuple .. are MtR facts of 06m -/
end
noncomputable def MtM(X:Cx)(id:String)(r:V->List V->Hp->VK->Prop):Prop:=
 ∀(pins:List (Addr×Obj))(s:Shared)(σ:St)(H:Hp)(x:V)(xs:List V)(v:Value)(us:List Value)(Q:VK),Inv X pins σ H s->RelV x v->Vals xs us->r x xs H Q->
  wpAny (model X.prog X.w) X.A (call (.builtin id) (v::us)) (EP X pins σ Q) X.xe s
theorem Vals.one:∀{x:V} {us:List Value},Vals [x] us->∃u,us=[u]/\RelV x u
 |_,_,.cons r .nil=>⟨_,rfl,r⟩
theorem Vals.rep{xs:List V}{us:List Value}(h:Vals xs us):∀k:Nat,Vals (List.replicate k xs).flatten (List.replicate k us).flatten
 |0=>.nil
 |k+1=>by
  rw[vbd,vbd,vcj,vcj]
  exact Vals.append h (Vals.rep h k)
theorem zee(its:List Value):∀(k:Nat) (acc:List Value),
 List.foldl (λx1 x2=>x1++x2) acc.toArray (List.replicate k its.toArray)=(acc++(List.replicate k its).flatten).toArray
 |0,acc=>by simp
 |k+1,acc=>by
  have e:acc.toArray++its.toArray=(acc++its).toArray:=by simp
  have e2:(acc++its)++(List.replicate k its).flatten=acc++(List.replicate (k+1) its).flatten:=by
   rw[vbd,vcj,vd8]
  rw[<-e2,<-zee its k (acc++its),<-e,vbd,List.foldl_cons]
section
variable{X:Cx}{pins:List (Addr×Obj)}{σ:St}{H:Hp}{s:Shared}{l b:Addr}{xs ys zs:List V}
theorem Inv.lset{its its':List Value}{n:Nat}{f:Array Value->Array Value}{t':Nat}(I:Inv X pins σ H s)(hH:H l=some (.lst xs))
 (e:s.heap.get? l=some {cls:=.type "list",data:=.seq its.toArray n}) (hf:f its.toArray=its'.toArray) (hv:Vals ys its') (hz:ys.length<=sizeLine) :
 Inv X pins σ (upd H l (.lst ys)) {s with heap:=s.heap.update l (Obj.mapSeq f),toks:=t'}:=by
 have q:=PySem.IsL.update e f
 rw[hf]at q
 refine I.write (x:=l) (e:=l) (by rw[hH];exact trivial) (.inl rfl) (λb' u hb hu=>(Heap.get?_update_other s.heap (Obj.mapSeq f) (vck hb)).trans hu) ⟨_,q⟩ ?_
 exact⟨hz,its',_,hv,q⟩
theorem Inv.lnew{its:List Value}{t':Nat}(I:Inv X pins σ H s)(hv:Vals ys its)(hz:ys.length<=sizeLine) :
 Inv X pins σ (upd H s.heap.objs.size (.lst ys)) {s with heap:=s.heap.push {cls:=.type "list",data:=.seq its.toArray},toks:=t'}:=
 I.laid (λ_ _ q=>vac _ q) (vae _) ⟨hz,its,0,hv,vas _ rfl⟩
theorem Inv.fresh(I:Inv X pins σ H s):H s.heap.objs.size=none:=I.hok.fresh (vae _)
theorem Inv.lstM(I:Inv X pins σ H s)(hH:H l=some (.lst xs)):xs.length<=sizeLine/\∃(its:List Value) (n:Nat),Vals xs its/\xs.length=its.length/\s.heap.get? l=some {cls:=.type "list",data:=.seq its.toArray n}:=by
 obtain⟨z,its,n,r,e⟩:=I.hok l _ hH
 exact⟨z,its,n,r,r.length,e⟩
theorem zf1{n:Nat}(h:n<=sizeLine):Builtin.List.listTooLong n=false:=by
 unfold Builtin.List.listTooLong
 exact vax (by omega)
end
section
variable{X:Cx}
noncomputable def zsr:V->List V->Hp->VK->Prop:=λx vs H Q=>∃l xs y,x=.ref l/\vs=[y]/\H l=some (.lst xs)/\xs.length<sizeLine/\Q .non (upd H l (.lst (xs++[y])))
theorem zg5:MtM X "list.append" zsr:=by
 intro pins s σ H x vs v us Q I rx rv h
 obtain⟨l,xs,y,rfl,rfl,hH,hz,q⟩:=h
 cases rx
 obtain⟨u,rfl,ru⟩:=rv.one
 obtain⟨z,its,n,r,hl,e⟩:=I.lstM hH
 refine veh F.slot_list_append ⟨_,e,rfl⟩ F.entry_list_append (F.args_list_append_2 _ _) (PySem.list_append l its.toArray n u (by rw[vah];omega)) ⟨e,?_⟩
 refine⟨.non,_,I.lset (its':=its++[u]) hH e (by simp) (r.append (.cons ru .nil)) ?_,rfl,q⟩
 rw[vao,va9]
 omega
noncomputable def zss:V->List V->Hp->VK->Prop:=λx vs H Q=>∃l b xs zs,x=.ref l/\vs=[.ref b]/\H l=some (.lst xs)/\H b=some (.lst zs)/\xs.length+zs.length<=sizeLine/\Q .non (upd H l (.lst (xs++zs)))
theorem zvn:MtM X "list.extend" zss:=by
 intro pins s σ H x vs v us Q I rx rv h
 obtain⟨l,b,xs,zs,rfl,rfl,hH,hB,hz,q⟩:=h
 cases rx
 obtain⟨u,rfl,ru⟩:=rv.one
 cases ru
 obtain⟨z,its,n,r,hl,e⟩:=I.lstM hH
 obtain⟨z2,its2,n2,r2,hl2,e2⟩:=I.lstM hB
 have hsz:its.toArray.size+its2.toArray.size<=sizeLine:=by rw[vah,vah];omega
 have hlong:¬(!its.toArray.isEmpty&&Builtin.List.listTooLong (its.toArray.size+its2.toArray.size))=true:=by
  rw[zf1 hsz,Bool.and_false]
  exact vbb
 refine veh F.slot_list_extend ⟨_,e,rfl⟩ F.entry_list_extend (F.args_list_extend_2 _ _)
  (AutoSeq1.list_extend_list_list_0 l its.toArray n b its2.toArray n2 hlong (by rw[vah];omega) (by omega)) ⟨e,e2,?_⟩
 refine⟨.non,_,I.lset (its':=its++its2) hH e (by simp) (r.append r2) ?_,rfl,q⟩
 rw[vao]
 omega
noncomputable def rCat:R2:=λx y H Q=>∃l b xs zs,x=.ref l/\y=.ref b/\H l=some (.lst xs)/\H b=some (.lst zs)/\xs.length+zs.length<=sizeLine/\∀p,H p=none->Q (.ref p) (upd H p (.lst (xs++zs)))
theorem zvo:OpR X (binaryOp .Add) rCat:=by
 intro pins s σ H x y v u Q I rx ry h
 obtain⟨l,b,xs,zs,rfl,rfl,hH,hB,hz,q⟩:=h
 cases rx
 cases ry
 obtain⟨z,its,n,r,hl,e⟩:=I.lstM hH
 obtain⟨z2,its2,n2,r2,hl2,e2⟩:=I.lstM hB
 refine PySem.P.add_list e e2 ?_ (by rw[vah,vah];omega)
 have ea:its.toArray++its2.toArray=(its++its2).toArray:=by simp
 rw[ea]
 exact⟨.ref _,_,I.lnew (t':=s.toks) (r.append r2) (by rw[vao];omega),rfl,q _ I.fresh⟩
noncomputable def rRep:R2:=λx y H Q=>∃l k xs,x=.ref l/\y=.int k/\H l=some (.lst xs)/\-(2 ^ 63)<=k/\k<2 ^ 63/\xs.length*k.toNat<=sizeLine/\
 ∀p,H p=none->Q (.ref p) (upd H p (.lst (List.replicate k.toNat xs).flatten))
theorem zif{α:Type}(xs:List α)(k:Nat):(List.replicate k xs).flatten.length=k*xs.length:=by
 induction k with
 |zero=>simp
 |succ k ih=>rw[vbd,vcj,vao,ih,Nat.succ_mul,Nat.add_comm]
theorem zvp:OpR X (binaryOp .Mult) rRep:=by
 intro pins s σ H x y v u Q I rx ry h
 obtain⟨l,k,xs,rfl,rfl,hH,h1,h2,hz,q⟩:=h
 cases rx
 obtain⟨t,rfl⟩:=ry
 obtain⟨z,its,n,r,hl,e⟩:=I.lstM hH
 have hlen:its.toArray.size*k.toNat<=sizeLine:=by rw[vah,<-hl];exact hz
 have hcap:¬its.toArray.size*k.toNat> (2 ^ 63-1)/8:=by
  have:(sizeLine:Nat)<=(2 ^ 63-1)/8:=by decide
  omega
 have hfit:¬(!Builtin.List.listFitsIndex k)=true:=by
  rw[fitsIndex_both h1 h2]
  exact vbb
 have hlong:¬Builtin.List.listTooLong (its.toArray.size*k.toNat)=true:=by
  rw[zf1 hlen]
  exact vbb
 have hnew:List.foldl (λx1 x2=>x1++x2) #[] (List.replicate (if its.toArray.isEmpty=true then 0 else k.toNat) its.toArray)=(List.replicate k.toNat its).flatten.toArray:=by
  have f0:∀m:Nat,List.foldl (λx1 x2=>x1++x2) #[] (List.replicate m its.toArray)=(List.replicate m its).flatten.toArray:=λm=>by
   have:=zee its m []
   rw[vb8]at this
   exact this
  rw[f0]
  cases its with
  |nil=>simp
  |cons a r'=>rw[if_neg (by simp)]
 refine wpAny_binaryOp_repeat_ref (T:="list") (U:="int") (by decide) ⟨_,e,rfl⟩ (λs'=>typeIs_int s' k t) noFill_list_mul F.fills_int_mul ve9 repeat_list F.slot_int_index.lookup
  (veh ve9 (typeIs_int s k t) F.entry_int_rmul (F.args_int_rmul_2 _ _) (int___rmul___int_list k t l its.toArray n)
    ⟨e,rfl,⟨_,e,rfl⟩,veh F.slot_list_mul ⟨_,e,rfl⟩ F.entry_list_mul (F.args_list_mul_2 _ _) (AutoListH.list___mul___list_int_3 l its.toArray n k t hfit hcap hlong) ⟨e,?_⟩⟩)
 rw[hnew]
 exact⟨.ref _,_,I.lnew (t':=s.toks) (r.rep k.toNat) (by rw[zif,vfk];exact hz),rfl,q _ I.fresh⟩
end
end L2
namespace Att
open PySem PySem.W PySem.Calls PyProof.Rows
theorem zef{P:Params}{h:Heap}:∀(ns:List Int) (vs:List Value),WellAll P h vs (ns.map WData.int)->IntsAre vs ns:=by
 intro ns
 induction ns with
 |nil=>
  intro vs w
  rw[vda]at w
  cases w
  exact .nil
 |cons n ns ih=>
  intro vs w
  rw[vam]at w
  cases w with
  |cons a b=>
   cases a
   exact .cons _ _ (ih _ b)
theorem zl5{l:OpenLaw}{n:Nat}(hn:l.most=some n){P:Params}{h:Heap}{args:List WData}{vals:List Value}
 (hpre:l.row.toRowW.claim.pre args=true) (hwl:WellAll P h vals args) :
 ∃a vs ns,vals=[Value.ref a]/\args=[WData.list (ns.map WData.int)]/\h.get? a=some {cls:=.type "list",data:=.seq vs.toArray}/\IntsAre vs ns/\ns.length<=n:=by
 have hsh:WShape.hasAll [] args [.list .int]=true:=(pre_splitW hpre).1
 have hc:l.pre.holds [] {args:=args}=true:=(pre_splitW hpre).2
 obtain⟨d,r,rfl,h1,h2⟩:=hasAllW_cons hsh
 obtain rfl:=hasAllW_nil h2
 obtain⟨xs,rfl,h3⟩:=hasW_list h1
 obtain⟨ns,rfl⟩:=items_int h3
 have hlen:ns.length<=n:=by
  unfold OpenLaw.pre at hc
  have h4:(WTm.not (.lt (.lit (.int (n:Int))) (.len (.arg 0)))).holds [] {args:=[.list (ns.map .int)]}=true:=by
   have h4:=(holds_andW hc).1
   rw[hn]at h4
   exact h4
  have h5:=condW_of h4 (w_not (w_lt w_lit (w_len_list (w_arg rfl))))
  rw[vad]at h5
  refine ve2 λq=>?_
  have q':(n:Int)< ((ns.length:Nat):Int):=by omega
  first
   |(rw[vb5 q']at h5;exact absurd h5 (by decide))
   |(simp at h5;omega)
 cases hwl with
 |cons w1 w2=>
  cases w2
  cases w1 with
  |list ho hall=>exact⟨_,_,ns,rfl,rfl,ho,zef ns _ hall,hlen⟩
theorem zl6(l:OpenLaw)(args:List WData):l.row.toRowW.claim.post args (.bool true) args=true:=
 postW_of (r:=l.row.toRowW) (X:=(true==true))
  (show WShape.has [] (.bool true) .bool=true by first|rfl|decide|simp[WShape.has,WShape.arms,WShape.armsAll])
  (show(WTm.eq .res (.lit (.bool true))).value [] {args:=args,res:=some (.bool true),after:=args}=some (.bool (true==true))from w_eq_bool (w_res rfl) w_lit) rfl
theorem attach_call{l:OpenLaw}{n:Nat}{q:Program}{loose:List Str}{XP:(Str->Option Value)->Heap->Prop}{YP:World->Heap->Prop}{d:DefRec}
 (hn:l.most=some n) (hdf:d.params.defaults=[])
 (call:∀(w:World)(s₀ s₁:Shared)(mg mb:Str->Option Value)(fa:Addr)(o:Obj)(pm cd doc:Value)(a:Addr)(vs:List Value)(ns:List Int),
   Ground q loose [] XP w s₀ mg mb s₁.heap->YP w s₁.heap->
   s₁.heap.get? fa=some o->o.data=.func (docDef d.name d.params d.body d.scope pm cd doc)->s₁.heap.CodeRec cd d.name->mg d.name=some (.ref fa)->
   s₁.heap.get? a=some {cls:=.type "list",data:=.seq vs.toArray}->IntsAre vs ns->ns.length<=n->s₁.gens = #[]->
   codeAny (model l.prog w) callerA (.call (.ref fa) ⟨[.ref a],[]⟩) (λr s'=>r=.ok (.ret (.bool true))/\OldK s₁.heap s'.heap/\s'.os=s₁.os/\AllBare s'.gens) s₁) :
 WalkO q loose XP YP l.row.toRowW d [] (λf vs=>PySem.call f vs):=by
 intro w s₀ s₁ mg mb G Y fa o pm cd doc dV kV ho hd hcd hD hmg hg args vals as hpre hlay hrd hwl hlo
 obtain rfl:dV=.none:=Dflts.none hD hdf
 obtain rfl:kV=.none:=Dflts.noKw hD
 obtain⟨a,vs,ns,rfl,rfl,hobj,hints,hlen⟩:=zl5 hn hpre hwl
 refine enter_call (codeAny_mono (call w s₀ s₁ mg mb fa o pm cd doc a vs ns G Y ho (fd_plain hd) hcd hmg hobj hints hlen hg) λr s' hq=>?_)
 obtain⟨rfl,h2,h3,h4⟩:=hq
 exact⟨.inl ⟨.bool true,.bool true,[],rfl,λ_=>rfl,.bool true,zl6 l _,λ_=>⟨List.Pairwise.nil,λ_ hm=>(nomatch hm)⟩⟩,h2,h3,h4⟩
end Att
namespace L2
open PySem PySem.Spec PyProof.Rows
theorem zg6:∀{vs:List Value} {ns:List Int},IntsAre vs ns->Vals (ns.map V.int) vs
 |_,_,.nil=>.nil
 |_,_,.cons n t h=>.cons ⟨t,rfl⟩ (zg6 h)
noncomputable def Only(H:Hp):Prop:=∀b,H b=none\/∃o xs,H b=some (.frz o (.lst xs))
theorem zpb{P:Program}{w:World}{K:PySem.W.Frag}{mg mb:Str->Option Value}{CX:CXT}{k:Nat}{fa a:Addr}{fd:FuncData}{x:Str}{sp:Sp}{s₁:Shared}{vs:List Value}{ns:List Int}
 (KX:K.In s₁.heap) (hns:s₁.heap.Ns mainGlobals mg) (hb:s₁.heap.Ns builtinsNs mb) (hbb:∀x:Str,x≠"__name__"->mb x=bootBuiltins x) (hlim:s₁.heap.NoLimit) (hg:s₁.gens = #[])
 (ha:s₁.heap.get? a=some {cls:=.type "list",data:=.seq vs.toArray}) (hi:IntsAre vs ns) (hl:ns.length<=sizeLine) (hr:Room k callerA)
 (F:∀base:Heap,K.In base->base.Ns mainGlobals mg->FnOk P w K mg base CX k fa fd [x] sp) (hbind:∀(s:Shared)(u:Value),BindsTo s fd ⟨[u],[]⟩ [(x,u)])
 (hsp:∀H:Hp,Only H->SqL K H a (ns.map V.int)->sp [.ref a] H (λv _=>v=.bl true) λ_ _ _=>False)
 (hCX:∀H e s',CX [] H s₁ (λ_ _ _=>False) e s'->False) :
 codeAny (model P w) callerA (.call (.ref fa) ⟨[.ref a],[]⟩) (λr s'=>r=.ok (.ret (.bool true))/\OldK s₁.heap s'.heap/\s'.os=s₁.os/\AllBare s'.gens) s₁:=by
 have rv:=zg6 hi
 have lenV:=hi.length
 have core:∀H:Hp,Only H->SqL K H a (ns.map V.int)->HOk P w H s₁.heap->(∀b,H b≠none->b=a)->(H a≠none->K.lookup a=none)->
  codeAny (model P w) callerA (.call (.ref fa) ⟨[.ref a],[]⟩) (λr s'=>r=.ok (.ret (.bool true))/\OldK s₁.heap s'.heap/\s'.os=s₁.os/\AllBare s'.gens) s₁:=by
  intro H hO hS hok hA hK
  have base_of:∀{b:Addr}{o:Obj},s₁.heap.get? b=some o->H b=none->(hidT s₁.heap H).get? b=some o:=λe n=>zov e n
  have noA:∀{b:Addr}{o:Obj}{es:Array DictEntry}{ep:Nat},s₁.heap.get? b=some o->o.data=.dict es ep->H b=none:=λ{b o es ep} e d=>by
   cases q:H b with
   |none=>rfl
   |some u=>
    have e':b=a:=hA b (by rw[q];simp)
    subst e'
    rw[ha]at e;cases e
    have d':Data.seq vs.toArray _=Data.dict es ep:=d
    cases d'
  have nsK:∀{b:Addr}{m:Str->Option Value},s₁.heap.Ns b m->(hidT s₁.heap H).Ns b m:=λ{b m}⟨o,es,ep,e,d,r⟩=>⟨o,es,ep,base_of e (noA e d),d,r⟩
  have hKb:K.In (hidT s₁.heap H):=λb o e=>base_of (KX b o e) (by
   cases q:H b with
   |none=>rfl
   |some u=>
    have e':b=a:=hA b (by rw[q];simp)
    subst e'
    rw[hK (by rw[q];simp)]at e;cases e)
  have hM:Mod K mg (hidT s₁.heap H):=⟨hKb,nsK hns,⟨mb,nsK hb,hbb⟩,let⟨mc,h1,h2⟩:=hlim;⟨mc,nsK h1,h2⟩⟩
  have e0:Env0 P w K mg (hidT s₁.heap H) callerA [] s₁ H:=⟨rfl,hM,λb o e=>zr6 e,Nat.le_of_eq (zlm _ _),trivial,λb hb=>absurd (show b∈([]:List Addr)from hb) (by simp),hok,.of_eq hg⟩
  refine codeAny_mono ((F _ hKb (nsK hns)).run callerA [] s₁ H ⟨[.ref a],[]⟩ [.ref a] [.ref a] _ _ hr e0 (hbind s₁ (.ref a)) (.cons rfl .nil) (hsp H hO hS)) λr s' h=>?_
  cases r with
  |error e=>exact(hCX H e s' h).elim
  |ok fl=>
   cases fl with
   |next=>exact False.elim h
   |brk=>exact False.elim h
   |cont=>exact False.elim h
   |ret u=>
    obtain⟨v,H',os,bare,un,hok',r',q⟩:=h
    have q':v=.bl true:=q
    subst q'
    obtain rfl:u=Value.bool true:=r'
    refine⟨rfl,OldK.of_keep λb o e=>?_,os,bare⟩
    cases q:H b with
    |none=>exact un.keep b o e q (by intro z;exact absurd (show b∈([]:List Addr)from z) (by simp)) (by simp)
    |some u=>
     rcases hO b with z|⟨ob,xs,z⟩
     .rw[q]at z;cases z
     .have z2:=un.frzs b ob _ z
      obtain⟨e1,_⟩:=hok b _ z
      obtain⟨e2,_⟩:=hok' b _ z2
      rw[e]at e1;cases e1
      exact e2
 cases hk:K.lookup a with
 |some o=>
  have e:=KX a o hk
  rw[ha]at e
  cases e
  refine core (λ_=>none) (λ_=>.inl rfl) (.inr ⟨_,vs.toArray,_,hk,rfl,rfl,rfl,by rw[vah,lenV];exact hl,by simpa using rv⟩) (λb u z=>by have z':(none:Option HO)=some u:=z;cases z') (λb z=>absurd rfl z) λz=>absurd rfl z
 |none=>
  refine core (λb=>if b=a then some (.frz {cls:=.type "list",data:=.seq vs.toArray} (.lst (ns.map V.int)))else none) (λb=>?_) (.inl (.inr ⟨{cls:=.type "list",data:=.seq vs.toArray},if_pos rfl⟩)) (λb u z=>?_) (λb z=>?_) λ_=>hk
  .by_cases hb:b=a
   .exact .inr ⟨_,_,if_pos hb⟩
   .exact .inl (if_neg hb)
  .by_cases hb:b=a
   .have z':=(if_pos hb).symm.trans z
    cases z'
    subst hb
    exact⟨ha,by rw[vad];exact hl,vs,_,rv,ha⟩
   .have z':=(if_neg hb).symm.trans z
    cases z'
  .by_cases hb:b=a
   .exact hb
   .exact absurd (if_neg hb) z
theorem zst{l:PySem.W.OpenLaw}{n k:Nat}{q:Program}{loose:List Str}{XP:(Str->Option Value)->Heap->Prop}{YP:World->Heap->Prop}{d:DefRec}{K:Params->PySem.W.Frag}{CX:World->CXT}{sp:World->Sp}{x:Str}
 (hn:l.most=some n) (hn2:n<=sizeLine) (hdf:d.params.defaults=[]) (hr:Room k callerA)
 (hY:∀(w:World)(h:Heap),YP w h->(K w.params).In h)
 (F:∀(w:World)(mg:Str->Option Value)(fa:Addr)(h:Heap),(K w.params).In h->h.Ns mainGlobals mg->mg d.name=some (.ref fa)->
   ∃fd:FuncData,(∀(s:Shared)(u:Value),BindsTo s fd ⟨[u],[]⟩ [(x,u)])/\
    ∀base:Heap,(K w.params).In base->base.Ns mainGlobals mg->FnOk l.prog w (K w.params) mg base (CX w) k fa fd [x] (sp w))
 (hsp:∀(w:World)(H:Hp)(a:Addr)(ns:List Int),ns.length<=n->Only H->SqL (K w.params) H a (ns.map V.int)->sp w [.ref a] H (λv _=>v=.bl true) λ_ _ _=>False)
 (hCX:∀(w:World)(H:Hp)(s:Shared)(e:Value)(s':Shared),CX w [] H s (λ_ _ _=>False) e s'->False) :
 PySem.W.WalkO q loose XP YP l.row.toRowW d [] (λf vs=>PySem.call f vs):=by
 refine Att.attach_call hn hdf λw s₀ s₁ mg mb fa o pm cd doc a vs ns G Y ho hd hcd hmg hobj hints hlen hg=>?_
 have KX:=hY w _ Y
 obtain⟨fd,hb,hF⟩:=F w mg fa _ KX G.T.g hmg
 exact zpb KX G.T.g G.T.b G.T.builtins G.T.nolimit hg hobj hints (vbs hlen hn2) hr hF hb (λH hO hS=>hsp w H a ns hlen hO hS) λH e s'=>hCX w H s₁ e s'
noncomputable def zsu(s:Stmt):Arguments:=match s with
 |.FunctionDef _ a _ _ _ _ _ _ _ _=>a
 |_=>{posonlyargs:=[],args:=[],vararg:=none,kwonlyargs:=[],kw_defaults:=[],kwarg:=none,defaults:=[]}
noncomputable def zeg(s:Stmt):List Stmt:=match s with
 |.FunctionDef _ _ b _ _ _ _ _ _ _=>b
 |_=>[]
noncomputable def zao(s:Stmt):Scope:=match s with
 |.FunctionDef _ _ _ _ _ _ sc _ _ _=>sc
 |_=>{kind:=.function,names:=[],isGenerator:=false,isCoroutine:=false}
noncomputable abbrev CX0:CXT:=λ_ _ _ _ _ _=>False
noncomputable abbrev E0:XK:=λ_ _ _=>False
theorem pass0{X:Cx}:zjf CX0 X E0:=λ_ _ _ _ _ _ _ h=>h.elim
theorem zg7{n:Nat}(h:n<=1000):n<sizeLine:=Nat.lt_of_le_of_lt h (by decide)
noncomputable def zbw(cells:List (Str×Addr)):List (Str×NameKind)->List (Str×Addr)->List (Str×Addr)
 |[],cs=>cs
 |(n,k)::r,cs=>zbw cells r (if k == .free then(match cells.lookup n with|some c=>(n,c)::cs|none=>cs)else cs)
theorem zcn{scope:Scope}{env:Env}(hf:∀y∈scope.names,y.2=.free->∃c,env.cells.lookup y.1=some c):closureFor scope env=pure (zbw env.cells scope.names []):=by
 have go:∀(l:List (Str×NameKind))(cs:List (Str×Addr)),(∀y∈l,y.2=.free->∃c,env.cells.lookup y.1=some c)->
  (forIn l cs λ(x:Str×NameKind)(r:List (Str×Addr))=>(match x with
    |(name,kind)=>if(kind==NameKind.free)=true then(do let a <-cellOf env name;pure (ForInStep.yield ((name,a)::r)))else pure (ForInStep.yield r):Sem (ForInStep (List (Str×Addr)))))=(pure (zbw env.cells l cs):Sem (List (Str×Addr))):=by
  intro l
  induction l with
  |nil=>intro cs _;rfl
  |cons x r ih=>
   intro cs h
   obtain⟨n,k⟩:=x
   rw[vd0]
   by_cases hk:(k==NameKind.free)=true
   .have hk':k=.free:=by simpa using hk
    obtain⟨c,hc⟩:=h (n,k) van hk'
    have hc':env.cells.lookup n=some c:=hc
    simp only[hk,vbe,cellOf,hc',zbw]
    exact ih _ λy hy=>h y (vag _ hy)
   .have hk':(k==NameKind.free)=false:=by simpa using hk
    simp only[hk',vap,vbk,zbw]
    exact ih _ λy hy=>h y (vag _ hy)
 have e:=go scope.names [] hf
 unfold closureFor
 refine Eq.trans (vey (λt=>t >>= λcs=>pure cs) e) ?_
 rfl
theorem ze6{cells:List (Str×Addr)}:∀(l:List (Str×NameKind)) (cs:List (Str×Addr)),(∀x c,cs.lookup x=some c->cells.lookup x=some c)->∀x c,(zbw cells l cs).lookup x=some c->cells.lookup x=some c
 |[],cs,h=>h
 |(n,k)::r,cs,h=>ze6 r _ λx c e=>by
  by_cases hk:(k==NameKind.free)=true
  .simp only[hk,vbe]at e
   cases hc:cells.lookup n with
   |none=>rw[hc]at e;exact h x c e
   |some d=>
    rw[hc]at e
    simp only[va4]at e
    by_cases hx:(x==n)=true
    .simp only[hx]at e
     cases e
     rw[show x=n by simpa using hx];exact hc
    .have hx':(x==n)=false:=by simpa using hx
     simp only[hx']at e
     exact h x c e
  .have hk':(k==NameKind.free)=false:=by simpa using hk
   simp only[hk',vap,vbk]at e
   exact h x c e
theorem zeh{cells:List (Str×Addr)}{x:Str}{c:Addr}(hc:cells.lookup x=some c):∀(l:List (Str×NameKind)) (cs:List (Str×Addr)),cs.lookup x=some c->(zbw cells l cs).lookup x=some c
 |[],cs,h=>h
 |(n,k)::r,cs,h=>zeh hc r _ (by
  by_cases hk:(k==NameKind.free)=true
  .simp only[hk,vbe]
   cases hn:cells.lookup n with
   |none=>exact h
   |some d=>
    simp only[va4]
    by_cases hx:(x==n)=true
    .have:x=n:=by simpa using hx
     subst this
     rw[hc]at hn;cases hn
     simp
    .have hx':(x==n)=false:=by simpa using hx
     simp only[hx'];exact h
  .have hk':(k==NameKind.free)=false:=by simpa using hk
   simp only[hk',vap,vbk]
   exact h)
theorem zc7{cells:List (Str×Addr)}{x:Str}{c:Addr}(hc:cells.lookup x=some c):∀(l:List (Str×NameKind)) (cs:List (Str×Addr)),(x,NameKind.free)∈l->(zbw cells l cs).lookup x=some c
 |[],cs,h=>by cases h
 |(n,k)::r,cs,h=>by
  rcases vaz.mp h with e|e
  .cases e
   refine zeh hc r _ ?_
   rw[hc]
   simp[va4]
  .exact zc7 hc r _ e
noncomputable abbrev Cx.comp(X:Cx)(N:List Str)(scope:Scope)(C:Addr)(s₀:Shared)(H₀:Hp)(ex:List Addr):Cx:=
 {X with N:=N,s₀:=s₀,H₀:=H₀,env:=compEnvC scope (zbw X.env.cells scope.names []) C X.env,outer:=X.stack,stack:=X.stack,ex:=ex,fn:=λ_=>false,pn:=[],xe:=λ_ _=>False}
structure CompScope(X:Cx)(ow fr:List Str)(ix:List Nat)(scope:Scope):Prop where
 kind:scope.kind=.function
 nocell:∀y∈scope.names,y.2≠.cell
 names:∀y∈scope.names,y.2=.local->scope.names.lookup y.1=some .local
 own:∀x∈ow,scope.names.lookup x=some .local
 free:∀y∈scope.names,y.2=.free->X.env.kindOf y.1=some .cell\/X.env.kindOf y.1=some .free
 at_:∀(k:Nat)(x:Str),fr[k]?=some x->∃j,ix[k]?=some j/\X.N[j]?=some x/\scope.names.lookup x=some .free
 len:ix.length=fr.length
noncomputable def cσ(ow fr:List Str)(ix:List Nat)(σ:St):St:=ow.map (λ_=>none)++ix.map λj=>(σ[j]?).join
theorem ze7{x:Str}{k:NameKind}:∀{l:List (Str×NameKind)},l.lookup x=some k->(x,k)∈l
 |[],h=>by cases h
 |(n,j)::r,h=>by
  simp only[va4]at h
  by_cases hx:(x==n)=true
  .simp only[hx]at h
   cases h
   rw[show x=n by simpa using hx];exact van
  .have hx':(x==n)=false:=by simpa using hx
   simp only[hx']at h
   exact vag _ (ze7 h)
theorem zbx{env:Env}:∀{l:List (Str×NameKind)} {x:Str} {k:NameKind},
 (l.map λ(n,k)=>if(k==NameKind.free&&env.scope.kind == .function&&env.kindOf n==some .cell)then(n,NameKind.cell)else(n,k)).lookup x=some k->k≠.local->(∀y∈l,y.2≠.cell)->k=.cell\/k=.free->(x,NameKind.free)∈l
 |[],x,k,h,_,_,_=>by cases h
 |(n,j)::r,x,k,h,hk,hc,hh=>by
  have ih:=@zbx env r x k
  rw[vam]at h
  by_cases hc':(j==NameKind.free&&env.scope.kind == .function&&env.kindOf n==some .cell)=true
  .simp only[hc',vbe,va4]at h
   have hj:j=.free:=by
    simp only[vab,beq_iff_eq]at hc'
    exact hc'.1.1
   by_cases hx:(x==n)=true
   .rw[show x=n by simpa using hx,hj];exact van
   .have hx':(x==n)=false:=by simpa using hx
    simp only[hx']at h
    exact vag _ (ih h hk (λy hy=>hc y (vag _ hy)) hh)
  .have hcf:(j==NameKind.free&&env.scope.kind == .function&&env.kindOf n==some .cell)=false:=by simpa using hc'
   simp only[hcf,vap,vbk,va4]at h
   by_cases hx:(x==n)=true
   .simp only[hx]at h
    cases h
    rcases hh with z|z
    .exact absurd z (hc _ van)
    .rw[show x=n by simpa using hx,z];exact van
   .have hx':(x==n)=false:=by simpa using hx
    simp only[hx']at h
    exact vag _ (ih h hk (λy hy=>hc y (vag _ hy)) hh)
theorem zbd{env:Env}(hkf:env.scope.kind=.function):∀{l:List (Str×NameKind)} {x:Str},l.lookup x=some .free->
 (l.map λ(n,k)=>if(k==NameKind.free&&env.scope.kind == .function&&env.kindOf n==some .cell)then(n,NameKind.cell)else(n,k)).lookup x=some (if env.kindOf x=some .cell then .cell else .free)
 |[],x,h=>by cases h
 |(n,j)::r,x,h=>by
  have ih:=@zbd env hkf r x
  rw[vam]
  simp only[va4]at h
  by_cases hx:(x==n)=true
  .simp only[hx]at h
   cases h
   have e:x=n:=by simpa using hx
   subst e
   by_cases hq:env.kindOf x=some .cell
   .simp[hkf,hq,va4]
   .simp[hq,va4]
  .have hx':(x==n)=false:=by simpa using hx
   simp only[hx']at h
   by_cases hc':(j==NameKind.free&&env.scope.kind == .function&&env.kindOf n==some .cell)=true
   .simp only[hc',vbe,va4,hx'];exact ih h
   .have hcf:(j==NameKind.free&&env.scope.kind == .function&&env.kindOf n==some .cell)=false:=by simpa using hc'
    simp only[hcf,vap,vbk,va4,hx'];exact ih h
section
variable{X:Cx}{pins:List (Addr×Obj)}{σ:St}{H:Hp}{s:Shared}{ow fr:List Str}{ix:List Nat}{scope:Scope}{fp:List Addr}
theorem zpc(S:CompScope X ow fr ix scope)(I:Inv X pins σ H s)(hfp:∀b∈fp,FpOk X pins H b)(hlt:∀b∈fp,b<s.heap.objs.size){h':Heap}{tk:Nat}{m:Str->Option Value}(hn:h'.Ns s.heap.objs.size m)(hk:∀b o,s.heap.get? b=some o->h'.get? b=some o) :
 Inv (X.comp (ow++fr) scope s.heap.objs.size s H fp) [] (cσ ow fr ix σ) H {s with heap:=h',toks:=tk}:=by
 have sub:=ze6 (cells:=X.env.cells) scope.names [] (λx c e=>by cases e)
 have kf:=I.ok.kind
 have ncell:∀x c,X.env.cells.lookup x=some c->c≠s.heap.objs.size:=λx c e z=>by
  obtain⟨v,q⟩:=I.cell x c e
  exact absurd q.lt (by rw[z];exact vc2 _)
 have hasC:∀x,(x,NameKind.free)∈scope.names->∃c,(zbw X.env.cells scope.names []).lookup x=some c/\X.env.cells.lookup x=some c:=λx hx=>by
  obtain⟨c,hc⟩:=I.ok.has x (S.free _ hx rfl)
  exact⟨c,zc7 hc _ _ hx,hc⟩
 refine⟨⟨I.ok.mod,?_,I.ok.glob,I.ok.blt,vae _,λx y c a b=>I.ok.inj x y c (sub x c a) (sub y c b),λx hx=>?_,λx c e=>?_,I.ok.hd,I.ok.frames,.inl rfl,λb hb=>?_,λb o e=>?_,?_,λb o e hb=>?_,λb hb hz=>?_,I.stack,λb hb=>I.stkFree b hb⟩,
  rfl,I.bare,Un.kept hk,⟨m,hn,λi x v e1 e2 e3=>?_⟩,λx c e=>?_,I.hok.fresh (vae _),λx c e=>I.freeC x c (sub x c e),λp hp=>?_,I.hok.kept hk,?_⟩
 .exact S.kind
 .have hx':(relabel scope X.env).names.lookup x=some .cell\/(relabel scope X.env).names.lookup x=some .free:=hx
  have hm:(x,NameKind.free)∈scope.names:=by
   rcases hx' with z|z
   .exact zbx (env:=X.env) z (by decide) S.nocell (.inl rfl)
   .exact zbx (env:=X.env) z (by decide) S.nocell (.inr rfl)
  obtain⟨c,hc,_⟩:=hasC x hm
  exact⟨c,hc⟩
 .cases e
 .obtain⟨f0,f1,f2,f3,f4,f5⟩:=hfp b hb
  refine⟨λz=>?_,λx c e=>f4 x c (sub x c e)⟩
  have q:=hlt b hb
  rw[z]at q
  exact absurd q (vc2 _)
 .exact⟨(I.bs b o e).1,(I.bs b o e).2⟩
 .exact vbs I.ok.bsz I.sz
 .obtain⟨f0,f1,f2,f3,f4,f5⟩:=hfp b hb
  rcases f3 with z|z
  .exact I.ok.noex b o e z
  .exact absurd (vak (vav (I.ok.bs b o e).1) z) (vc2 _)
 .obtain⟨f0,f1,f2,f3,f4,f5⟩:=hfp b hb
  rcases vaz.mp (I.stkSub b hz)with z|z
  .exact f1 z
  .exact f2 z
 .have hlen:ow.length<=i:=by
   by_cases hi:i<ow.length
   .unfold cσ at e2
    rw[vce (by simpa using hi),vat]at e2
    cases q:ow[i]? with
    |none=>rw[q]at e2;cases e2
    |some y=>rw[q]at e2;cases e2
   .omega
  have e1':fr[i-ow.length]?=some x:=by
   have e1:(ow++fr)[i]?=some x:=e1
   rw[va1 hlen]at e1
   exact e1
  have e2':(ix.map λj=>(σ[j]?).join)[i-ow.length]?=some (some v):=by
   unfold cσ at e2
   rw[va1 (by simpa using hlen)]at e2
   simpa using e2
  obtain⟨j,hj,hN,hl⟩:=S.at_ _ _ e1'
  rw[vat,hj]at e2'
  have e2'':(σ[j]?).join=some v:=vbr e2'
  have hσ:σ[j]?=some (some v):=by
   cases q:σ[j]? with
   |none=>rw[q]at e2'';cases e2''
   |some o=>rw[q]at e2'';cases o with
    |none=>cases e2''
    |some w=>cases e2'';rfl
  obtain⟨m0,hm0,hl0⟩:=I.loc
  have hmem:=ze7 hl
  have hkf:=S.free _ hmem rfl
  have hvis:Vis X.env.scope x:=hkf.elim (λz=>.inr (.inl z)) λz=>.inr (.inr z)
  obtain⟨u,ru,lk⟩:=hl0 j x v hN hσ hvis
  refine⟨u,ru,.inr ?_⟩
  have hcell:∃c,X.env.cells.lookup x=some c/\s.heap.IsCell c (some u):=by
   rcases lk with⟨z,_⟩|⟨_,c,e,z⟩
   .rcases hkf with q|q
    .rw[show X.env.kindOf x=some .local from z]at q;cases q
    .rw[show X.env.kindOf x=some .local from z]at q;cases q
   .exact⟨c,e,z⟩
  obtain⟨c,hc,o,ho,hd⟩:=hcell
  refine⟨?_,c,zc7 hc _ _ hmem,o,hk _ _ ho,hd⟩
  show(relabel scope X.env).names.lookup x=some .cell\/(relabel scope X.env).names.lookup x=some .free
  have q:=zbd (env:=X.env) kf hl
  by_cases z:X.env.kindOf x=some .cell
  .rw[if_pos z]at q;exact .inl q
  .rw[if_neg z]at q;exact .inr q
 .obtain⟨v,q⟩:=I.cell x c (sub x c e)
  obtain⟨o,ho,hd⟩:=q
  exact⟨v,o,hk _ _ ho,hd⟩
 .cases(show p∈([]:List (Addr×Obj))from hp)
 .show(cσ ow fr ix σ).length=(ow++fr).length
  unfold cσ
  rw[vao,vad,vad,vao,S.len]
end
theorem zl7{α:Type}{M:Model}{A:Around}{t:Sem α}{Q:α->Shared->Prop}{E:Value->Shared->Prop}{s:Shared}(h:wpAny M A t Q (λ_ _=>False) s):wpAny M A t Q E s:=vds h (λ_ _ q=>q) λ_ _ z=>z.elim
noncomputable abbrev noX:Value->Shared->Prop:=λ_ _=>False
noncomputable abbrev zl8(ifs:List Expr)(env:Env):Sem Bool:=forIn ifs true λc r=>if r=true then do let ok <-isTrue c env (eval c env);pure (ForInStep.yield ok)else pure (ForInStep.yield r)
theorem zcb{prog:Program}{w:World}{A:Around}{R:Result->Shared->Prop}{s:Shared}{elt target iter:Expr}{ifs:List Expr}{scope:Scope}{pos:Pos}{it acc:Value}{env:Env}(I:Nat->Shared->Prop)
 (turn:∀n s,I n s->wpAny (model prog w) A (pyNext it) (λr s₁=>match r with
   |none=>R (.ok .next) s₁
   |some v=>wpAny (model prog w) A (letOwnedTupleGo target it v) (λ_ s₀=>wpAny (model prog w) A (assign target env v) (λ_ s₂=>
    wpAny (model prog w) A (zl8 ifs env) (λok s₃=>
     if ok=true then wpAny (model prog w) A (eval elt env) (λx s₄=>
      wpAny (model prog w) A (call (.builtin "list.append") [acc,x]) (λ_ s₅=>∃m,m<n/\I m s₅) noX s₄) noX s₃
     else ∃m,m<n/\I m s₃) noX s₂) noX s₀) noX s₁) noX s)
 (n:Nat) (h:I n s) :
 codeAny (model prog w) A (.compLoop (.ListComp elt [⟨target,iter,ifs,0⟩] scope pos) 0 it acc env) R s:=by
 refine codeAny_loop rfl I (λn s hI=>?_) n h
 show wpAny _ A ((compTurn (.ListComp elt [⟨target,iter,ifs,0⟩] scope pos) 0 it acc env).onRaise (λx=>do noteFrame x env;theTreesLotGoes x)) _ _ s
 refine wpAny_noted (zl7 ?_)
 rw[compTurn_list]
 refine vaa (vfn (vaa (vds (turn n s hI) (λr s₁ h₁=>?_) λ_ _ h'=>h')))
 cases r with
 |none=>exact vaf h₁
 |some v=>
  refine vaa (vds h₁ (λ_ s₀ h₀=>?_) λ_ _ h'=>h')
  refine vaa (vds h₀ (λ_ s₂ h₂=>vaa (vds h₂ (λok s₃ h₃=>?_) λ_ _ h'=>h')) λ_ _ h'=>h')
  cases ok with
  |true=>
   simp only[vbe]at h₃ ⊢
   exact vaa (vaa (vds h₃ (λx s₄ h₄=>vaa (vds h₄ (λ_ s₅ h₅=>vaf (vaf ⟨rfl,h₅⟩)) λ_ _ h'=>h')) λ_ _ h'=>h'))
  |false=>
   simp only[vap,vbk]at h₃ ⊢
   exact vaf ⟨rfl,h₃⟩
noncomputable def PTs(X:Cx)(ifs:List Expr)(t:TT):Prop:=
 ∀(pins:List (Addr×Obj))(s:Shared)(σ:St)(H:Hp)(Q:Bool->Hp->Prop),Inv X pins σ H s->t σ H Q->wpAny (model X.prog X.w) X.A (zl8 ifs X.env) (TP X pins σ Q) X.xe s
noncomputable def tYes:TT:=λ_ H Q=>Q true H
theorem zsv{X:Cx}:PTs X [] tYes:=λpins s σ H Q I h=>wpAny_tests_nil ⟨H,I,h⟩
theorem zsw{X:Cx}{c:Expr}{t:TT}(h:PT X c t):PTs X [c] t:=λpins s σ H Q I q=>wpAny_tests_one (h pins s σ H Q I q)
noncomputable def tLC(K:PySem.W.Frag)(f:St->St)(wi:TI)(g:TG)(tc:TT)(te:TE):TE:=λσ H Q=>wi σ H λJ H1=>∀D,H1 D=none->K.lookup D=none->
 ∃W:Nat->Nat->St->Hp->List V->Prop,(∃m,W 0 m (f σ) (upd H1 D (.lst [])) [])/\∀i m σ' H' ys,W i m σ' H' ys->H' D=some (.lst ys)/\
  ((J.stop i H'/\Q (.ref D) H')\/(J.go i H'/\∀x H2,J.yld i H' x H2->g x σ' H2 λσ2 H3=>tc σ2 H3 λb H4=>
    if b=true then te σ2 H4 λy H5=>H5 D=some (.lst ys)/\ys.length<sizeLine/\∃m',m'<m/\W (i+1) m' σ2 (upd H5 D (.lst (ys++[y]))) (ys++[y])
    else ∃m',m'<m/\W (i+1) m' σ2 H4 ys))
section
variable{X:Cx}{ow fr:List Str}{ix:List Nat}{scope:Scope}{tg iter elt:Expr}{ifs:List Expr}{pos:Pos}{wi:TI}{g:TG}{tc:TT}{te:TE}
theorem ze8{pins:List (Addr×Obj)}{s:Shared}{σ:St}{Q:VK}{RR:Value->Addr->Result->Shared->Prop}(S:CompScope X ow fr ix scope)(hc:X.calm=true)
 (hg:∀C s₀ H₀ ex,PG (X.comp (ow++fr) scope C s₀ H₀ ex) tg g) (ht:∀C s₀ H₀ ex,PTs (X.comp (ow++fr) scope C s₀ H₀ ex) ifs tc) (he:∀C s₀ H₀ ex,PE (X.comp (ow++fr) scope C s₀ H₀ ex) elt te)
 {itv:Value} {E:Value->Shared->Prop}
 (h:PIE X pins σ tg (λJ H1=>∀D,H1 D=none->X.K.lookup D=none->
   ∃W:Nat->Nat->St->Hp->List V->Prop,(∃m,W 0 m (cσ ow fr ix σ) (upd H1 D (.lst [])) [])/\∀i m σ' H' ys,W i m σ' H' ys->H' D=some (.lst ys)/\
    ((J.stop i H'/\Q (.ref D) H')\/(J.go i H'/\∀x H2,J.yld i H' x H2->g x σ' H2 λσ2 H3=>tc σ2 H3 λb H4=>
      if b=true then te σ2 H4 λy H5=>H5 D=some (.lst ys)/\ys.length<sizeLine/\∃m',m'<m/\W (i+1) m' σ2 (upd H5 D (.lst (ys++[y]))) (ys++[y])
      else ∃m',m'<m/\W (i+1) m' σ2 H4 ys))) itv s)
 (fin:∀D C H' s' m,FpOk X pins H' C->s'.heap.Ns C m->(∀h'',Heap.SameBut C s'.heap h''->Inv X pins σ H' {s' with heap:=h''})->Q (.ref D) H'->RR (.ref D) C (.ok .next) s') :
 wpAny (model X.prog X.w) X.A (newList []) (λacc s₃=>wpAny (model X.prog X.w) X.A (newFunctionEnv scope X.env.globals (zbw X.env.cells scope.names []) [] X.env.qual none .none (some X.env)) (λcenv s₄=>
  codeAny (model X.prog X.w) X.A (.compStart (.ListComp elt [⟨tg,iter,ifs,0⟩] scope pos) 0 itv acc {cenv with scope:=relabel scope X.env}) (RR acc cenv.locals) s₄) E s₃) E s:=by
 obtain⟨it,fp,tn,J,H1,e,I1,T,st1,f1,hq⟩:=h
 subst e
 have hD:H1 s.heap.objs.size=none:=I1.hok.fresh (vae _)
 have hKD:X.K.lookup s.heap.objs.size=none:=by
  cases e:X.K.lookup s.heap.objs.size with
  |none=>rfl
  |some o=>exact absurd (vav (I1.kIn _ _ e)) (vc2 _)
 obtain⟨W,⟨m0,w0⟩,turn⟩:=hq _ hD hKD
 have I3:Inv X pins σ (upd H1 s.heap.objs.size (.lst [])) {s with heap:=s.heap.push {cls:=.type "list",dict:=none,data:=.seq ([]:List Value).toArray}}:=
  I1.laid (t':=s.toks) (o:=.lst []) (λb u q=>vac _ q) (vae _) ⟨vbw _,[],0,.nil,vas _ rfl⟩
 have hlt1:∀b∈fp,b<s.heap.objs.size:=λb hb=>by
  obtain⟨o,ho,_⟩:=T.obj _ _ st1 b hb
  exact vav ho
 have f3:∀b∈fp,FpOk X pins (upd H1 s.heap.objs.size (.lst [])) b:=λb hb=>⟨by rw[zag (va5 (hlt1 b hb))];exact(f1 b hb).1,(f1 b hb).2⟩
 refine vbj (wpAny_newFunctionEnv S.nocell (by intro y hy;simp at hy) (λh₁ hns hsb=>?_) S.kind)
 dsimp only at hns hsb ⊢
 generalize hS3:({s with heap:=s.heap.push {cls:=.type "list",dict:=none,data:=.seq ([]:List Value).toArray}}:Shared)=s3 at I3
 have hh3:s3.heap=s.heap.push {cls:=.type "list",dict:=none,data:=.seq ([]:List Value).toArray}:=by rw[<-hS3]
 rw[<-hh3]at hns hsb ⊢
 have hk:∀b o,s3.heap.get? b=some o->h₁.get? b=some o:=λb o e=>hsb.extBut b o (va5 (vav e)) (vac _ e)
 have hlt3:∀b∈fp,b<s3.heap.objs.size:=λb hb=>by rw[hh3,vc4];exact vet (hlt1 b hb)
 have J3:=zpc S I3 f3 hlt3 (tk:=s.toks) hns hk
 have st3:tn 0 h₁:=T.keep _ _ _ st1 λb hb o e=>hk b o (by rw[hh3];exact vac _ e)
 have ex3:∀b∈fp,(X.comp (ow++fr) scope s3.heap.objs.size s3 (upd H1 s.heap.objs.size (.lst [])) fp).Ok->∀{H':Hp},H' b=none->FpOk (X.comp (ow++fr) scope s3.heap.objs.size s3 (upd H1 s.heap.objs.size (.lst [])) fp) [] H' b:=λb hb ok H' hn=>
  ⟨hn,(ok.exf b hb).1,ok.exfs b hb,.inl hb,(ok.exf b hb).2,λp hp=>by cases(show p∈([]:List (Addr×Obj))from hp)⟩
 have back:∀{σ':St}{H':Hp}{s':Shared},Inv (X.comp (ow++fr) scope s3.heap.objs.size s3 (upd H1 s.heap.objs.size (.lst [])) fp) [] σ' H' s'->∀h'',Heap.SameBut s3.heap.objs.size s'.heap h''->Inv X pins σ H' {s' with heap:=h''}:=λ{σ' H' s'} I' h'' hs=>by
  have neC:∀b o,s3.heap.get? b=some o->b≠s3.heap.objs.size:=λb o e=>va5 (vav e)
  have un:Un (frs X.stack) fp (upd H1 s.heap.objs.size (.lst [])) H' s3.heap h'':=
   ⟨λb o e n hb hx=>(hs.2 b (neC b o e)).trans (I'.base.keep b o e n hb hx),λb o e n hb hx=>by
    obtain⟨sl,q⟩:=I'.base.slot b o e n hb hx
    exact⟨sl,(hs.2 b (neC b o e)).trans q⟩,I'.base.free,λb o e hx=>by
    obtain⟨o',q⟩:=I'.base.there b o e hx
    exact⟨o',(hs.2 b (neC b o e)).trans q⟩,I'.base.tups,I'.base.frzs,I'.base.tbls⟩
  have hok:HOk X.prog X.w H' h'':=λb ob e=>by
   refine(I'.hok b ob e).stay (λc w' hcc q=>(hs.2 c ?_).trans q) (λ_ q=>q) λ_ _ q=>q
   rintro rfl
   have hfree:=I'.free
   rcases hcc with rfl|hcc
   .rw[show H' s3.heap.objs.size=none from hfree]at e;cases e
   .rw[show H' s3.heap.objs.size=none from hfree]at hcc;cases hcc
  have hos:s'.os=s3.os:=I'.os
  exact I3.call' (s':={s' with heap:=h''}) (ch:=fp) hos un hok I'.bare λb hb=>by
   obtain⟨_,a1,a2,a3,a4,a5⟩:=f1 b hb
   exact⟨a3,a1,a4,a5⟩
 have loop:∀s4:Shared,Inv (X.comp (ow++fr) scope s3.heap.objs.size s3 (upd H1 s.heap.objs.size (.lst [])) fp) [] (cσ ow fr ix σ) (upd H1 s.heap.objs.size (.lst [])) s4->tn 0 s4.heap->
  codeAny (model X.prog X.w) X.A (.compLoop (.ListComp elt [⟨tg,iter,ifs,0⟩] scope pos) 0 (.ref it) (.ref s.heap.objs.size) (X.comp (ow++fr) scope s3.heap.objs.size s3 (upd H1 s.heap.objs.size (.lst [])) fp).env)
   (RR (.ref s.heap.objs.size) s3.heap.objs.size) s4:=by
  intro s4 I4 st4
  refine zcb (λn s'=>∃i σ' H' ys,Inv (X.comp (ow++fr) scope s3.heap.objs.size s3 (upd H1 s.heap.objs.size (.lst [])) fp) [] σ' H' s'/\tn i s'.heap/\(∀b∈fp,H' b=none)/\W i n σ' H' ys) ?_ m0 ⟨0,_,_,[],I4,st4,λb hb=>(f3 b hb).1,w0⟩
  rintro n s5 ⟨i,σ5,H5,ys,I5,st5,fr5,w5⟩
  obtain⟨hDl,alt⟩:=turn i n σ5 H5 ys w5
  rcases alt with⟨stop,q⟩|⟨go,step⟩
  .refine thn (T.done (X.comp (ow++fr) scope s3.heap.objs.size s3 (upd H1 s.heap.objs.size (.lst [])) fp) rfl rfl rfl hc i [] s5 σ5 H5 noX I5 (λb hb=>ex3 b hb I5.ok (fr5 b hb)) st5 stop) λr s6 hq0=>?_
   obtain⟨hr,I6⟩:=hq0
   subst hr
   obtain⟨m6,hn6,_⟩:=I6.loc
   exact fin _ _ H5 s6 m6 (I3.fpOk (vae _) I6.free) hn6 (back I6) q
  .refine thn (T.item (X.comp (ow++fr) scope s3.heap.objs.size s3 (upd H1 s.heap.objs.size (.lst [])) fp) rfl rfl rfl hc i [] s5 σ5 H5 noX I5 (λb hb=>ex3 b hb I5.ok (fr5 b hb)) st5 go) λr s6 hq0=>?_
   obtain⟨u,hr,h6⟩:=hq0
   subst hr
   refine thn h6 λ_ s7 hq0=>?_
   obtain⟨x,H7,I7,r7,y7,st7,fr7⟩:=hq0
   have I7':=I7.pinned (λb hb=>ex3 b hb I7.ok (fr7 b hb)) (T.obj _ _ st7)
   have again:∀{σ8:St}{H8:Hp}{s8:Shared}{zs:List V}{m':Nat},Inv (X.comp (ow++fr) scope s3.heap.objs.size s3 (upd H1 s.heap.objs.size (.lst [])) fp) ([]++zgw fp s7.heap) σ8 H8 s8->m'<n->W (i+1) m' σ8 H8 zs->
    ∃m,m<n/\∃i σ' H' ys,Inv (X.comp (ow++fr) scope s3.heap.objs.size s3 (upd H1 s.heap.objs.size (.lst [])) fp) [] σ' H' s8/\tn i s8.heap/\(∀b∈fp,H' b=none)/\W i m σ' H' ys:=λ{σ8 H8 s8 zs m'} I8 hm w8=>by
    refine⟨m',hm,i+1,σ8,H8,zs,I8.unpinned,T.keep _ _ _ st7 λb hb o e=>(I8.pin (b,o) (va8 _ (va8 _ (zb5 hb e)))).1,λb hb=>?_,w8⟩
    obtain⟨o,e,d⟩:=T.obj _ _ st7 b hb
    exact(I8.pin (b,o) (va8 _ (va8 _ (zb5 hb e)))).2.1
   refine thn (hg _ _ _ _ _ s7 σ5 H7 x u _ I7' r7 (step x H7 y7)) λ_ s8 hq0=>?_
   obtain⟨σ8,H8,I8,q8⟩:=hq0
   refine thn (ht _ _ _ _ _ s8 σ8 H8 _ I8 q8) λok s9 z9=>z9.el λH9 I9 q9=>?_
   cases ok with
   |false=>
    simp only[vap,vbk]at q9 ⊢
    obtain⟨m',hm,w9⟩:=q9
    exact again I9 hm w9
   |true=>
    simp only[vbe]at q9 ⊢
    refine thn (he _ _ _ _ _ s9 σ8 H9 _ I9 q9) λy s10 hq0=>?_
    obtain⟨vy,H10,I10,ry,hD10,hz,m',hm,w10⟩:=hq0
    refine thn (zg5 _ s10 σ8 H10 (.ref s.heap.objs.size) [vy] (.ref s.heap.objs.size) [y] (λv H'=>H'=upd H10 s.heap.objs.size (.lst (ys++[vy]))) I10 rfl (.cons ry .nil) ⟨_,ys,vy,rfl,rfl,hD10,hz,rfl⟩) λ_ s11 hq0=>?_
    obtain⟨v11,H11,I11,_,e11⟩:=hq0
    subst e11
    exact again I11 hm w10
 have J3':Inv (X.comp (ow++fr) scope s3.heap.objs.size s3 (upd H1 s.heap.objs.size (.lst [])) fp) [] (cσ ow fr ix σ) (upd H1 s.heap.objs.size (.lst [])) {s with heap:=h₁,toks:=s.toks}:=by
  rw[<-hS3]at J3 ⊢
  exact J3
 exact codeAny_compStart_list (loop _ J3' st3) (T.self _ 0 _ _ _ st3 (loop _ J3' st3))
theorem pe_lc(S:CompScope X ow fr ix scope)(hc:X.calm=true)(hi:PI X tg iter wi)
 (hg:∀C s₀ H₀ ex,PG (X.comp (ow++fr) scope C s₀ H₀ ex) tg g) (ht:∀C s₀ H₀ ex,PTs (X.comp (ow++fr) scope C s₀ H₀ ex) ifs tc) (he:∀C s₀ H₀ ex,PE (X.comp (ow++fr) scope C s₀ H₀ ex) elt te)
 (hs:∀x,foldedSetIterable iter X.env x=pure x:=by intro _;rfl):PE X (.ListComp elt [⟨tg,iter,ifs,0⟩] scope pos) (tLC X.K (cσ ow fr ix) wi g tc te):=by
 intro pins s σ H Q I h
 rw[eval_ListComp]
 refine wpAny_comprehension_free (use:=none) rfl hs (zcn λy hy e=>I.ok.has _ (S.free y hy e)) S.kind S.names (thn (hi pins s σ H _ I h) λv s1 h1=>thn h1 λitv s2 h2=>?_)
 exact ze8 (RR:=λacc C=>compPost (model X.prog X.w) X.A X.xe none (EP X pins σ Q) acc C) S hc hg ht he h2 λD C H' s' m _ hn hI q=>⟨m,hn,λh'' hs''=>⟨.ref D,H',hI h'' hs'',rfl,q⟩⟩
theorem zpd{i:Nat}{y:Str}{py spos:Pos}(hN:X.N.Nodup)(hiy:X.N[i]?=some y)(hy:Loc X.env.scope y)(S:CompScope X ow fr ix scope)(hc:X.calm=true)(hi:PI X tg iter wi)
 (hg:∀C s₀ H₀ ex,PG (X.comp (ow++fr) scope C s₀ H₀ ex) tg g) (ht:∀C s₀ H₀ ex,PTs (X.comp (ow++fr) scope C s₀ H₀ ex) ifs tc) (he:∀C s₀ H₀ ex,PE (X.comp (ow++fr) scope C s₀ H₀ ex) elt te)
 (hsw:swapsWith (.ListComp elt [⟨tg,iter,ifs,0⟩] scope pos) (some (.Name y py)) spos.line X.env=pure true:=by rfl)
 (hf:X.fn y=true\/X.env.scope.names.lookup y=some .local:=by first|exact .inl rfl|exact .inr rfl|assumption)
 (hs:∀x,foldedSetIterable iter X.env x=pure x:=by intro _;rfl):PS X (.Assign [.Name y py] (.ListComp elt [⟨tg,iter,ifs,0⟩] scope pos) spos) (tAsg (tLC X.K (cσ ow fr ix) wi g tc te) (gName i)):=by
 intro pins s σ H D I h
 rw[exec_Assign_Name_used _ _ _ _ hsw]
 refine vaa (vfn (vaa ?_))
 show wpAny _ X.A (do let _ <-comprehension (.ListComp elt [⟨tg,iter,ifs,0⟩] scope pos) scope X.env _ (newList []) false (eval iter X.env) (some (assign (.Name y py) X.env))) _ _ s
 refine vaa (vds (wpAny_comprehension_free (use:=some (assign (.Name y py) X.env)) (Q:=λ_ s'=>SP X pins D .next s') rfl hs (zcn λy hy e=>I.ok.has _ (S.free y hy e)) S.kind S.names
  (thn (hi pins s σ H _ I h) λv s1 h1=>thn h1 λitv s2 h2=>?_)) (λ_ s' hq=>vaf (vaf hq)) λ_ _ e=>e)
 refine ze8 (Q:=λx H1=>gName i x σ H1 D.nx) (RR:=λacc C=>compPost (model X.prog X.w) X.A X.xe (some (assign (.Name y py) X.env)) (λ_ s'=>SP X pins D .next s') acc C) S hc hg ht he h2 λd C H' s' m hC hn hI q=>?_
 show wpAny _ X.A (assign (.Name y py) X.env (.ref d)) _ _ _
 have I':Inv X pins σ H' s':=by
  have z:=hI s'.heap (.refl ..)
  exact z
 refine wpAny_assign_Name (zgv I' hN hiy hy (v:=.ref d) rfl (λs'' I'' ⟨a,hsb,ha⟩=>?_) hf)
 obtain⟨c0,c1,c2,c3,c4,c5⟩:=hC
 have hCa:C≠a:=by
  rcases ha with rfl|ha
  .exact c1
  .exact λz=>c4 _ _ ha z.symm
 refine⟨m,hn.sameBut hsb hCa,λh'' hs''=>⟨_,H',I''.turned (t':=s''.toks) (it:=C) (λb o hb e=>(hs''.2 b hb).trans e) c0 c1 c3 c4 c5,q⟩⟩
end
end L2
set_option maxHeartbeats 4000000
namespace L2
open PySem PySem.Spec PyProof.Rows
mutual
inductive Rp(K:PySem.W.Frag)(M:Addr->Prop)(H:Hp):V->PyData->Prop
 |non:Rp K M H .non .none
 |bl (b:Bool):Rp K M H (.bl b) (.bool b)
 |int (i:Int):Rp K M H (.int i) (.int i)
 |str (x:Str):Rp K M H (.str x) (.str x)
 |tup {a:Addr} {xs:List V} {ds:List PyData}:SqT K H a xs->¬M a->Rps K M H xs ds->Rp K M H (.ref a) (.tuple ds)
 |lst {a:Addr} {xs:List V} {ds:List PyData}:SqL K H a xs->¬M a->Rps K M H xs ds->Rp K M H (.ref a) (.list ds)
inductive Rps(K:PySem.W.Frag)(M:Addr->Prop)(H:Hp):List V->List PyData->Prop
 |nil:Rps K M H [] []
 |cons {x:V} {d:PyData} {xs:List V} {ds:List PyData}:Rp K M H x d->Rps K M H xs ds->Rps K M H (x::xs) (d::ds)
end
section
variable{X:Cx}{pins:List (Addr×Obj)}{σ:St}{H:Hp}{s:Shared}{M:Addr->Prop}
mutual
theorem Rp.reads(I:Inv X pins σ H s):∀{x:V} {d:PyData} {u:Value},Rp X.K M H x d->RelV x u->∃as,Reads s.heap u d as
 |_,_,_,.non,r=>by cases r;exact⟨_,.none⟩
 |_,_,_,.bl b,r=>by cases r;exact⟨_,.bool b⟩
 |_,_,_,.int i,r=>by obtain⟨t,rfl⟩:=r;exact⟨_,.int i t⟩
 |_,_,_,.str x,r=>by obtain⟨t,rfl⟩:=r;exact⟨_,.str x t⟩
 |_,_,_,.tup h n rr,r=>by
  cases r
  obtain⟨its,rv,p,_⟩:=I.tuple h
  obtain⟨o,ho,hc,m,hd⟩:=p
  obtain⟨as,ra⟩:=Rps.reads I rr rv
  exact⟨_,.tuple ho hc hd (by simpa using ra)⟩
 |_,_,_,.lst h n rr,r=>by
  cases r
  obtain⟨its,rv,p,_⟩:=I.list h
  obtain⟨o,m,ho,hc,_,hd⟩:=p
  obtain⟨as,ra⟩:=Rps.reads I rr rv
  exact⟨_,.list ho hc hd (by simpa using ra)⟩
theorem Rps.reads(I:Inv X pins σ H s):∀{xs:List V} {ds:List PyData} {us:List Value},Rps X.K M H xs ds->Vals xs us->∃as,ReadsAll s.heap us ds as
 |_,_,_,.nil,.nil=>⟨_,.nil⟩
 |_,_,_,.cons r t,.cons q v=>by
  obtain⟨as,h1⟩:=Rp.reads I r q
  obtain⟨bs,h2⟩:=Rps.reads I t v
  exact⟨_,.cons h1 h2⟩
end
noncomputable def rEqD(K:PySem.W.Frag):R2:=λx y H Q=>∃d e,Rp K (λ_=>False) H x d/\Rp K (λ_=>False) H y e/\SeqAt.shaped d=true/\SeqAt.shaped e=true/\Q (.bl (PyData.eqv d e)) H
noncomputable def rNeD(K:PySem.W.Frag):R2:=λx y H Q=>∃d e,Rp K (λ_=>False) H x d/\Rp K (λ_=>False) H y e/\SeqAt.shaped d=true/\SeqAt.shaped e=true/\Q (.bl (!PyData.eqv d e)) H
theorem zvq(hu:X.A.units+64<cLine):OpR X (compareOp .Eq) (rEqD X.K):=by
 intro pins s σ H x y v u Q I rx ry h
 obtain⟨d,e,r1,r2,s1,s2,q⟩:=h
 obtain⟨as,ra⟩:=r1.reads I rx
 obtain⟨bs,rb⟩:=r2.reads I ry
 exact PyProof.Rows.eq_dataH ra rb s1 s2 hu ⟨.bl _,H,I,rfl,q⟩
theorem zvr(hu:X.A.units+64<cLine):OpR X (compareOp .NotEq) (rNeD X.K):=by
 intro pins s σ H x y v u Q I rx ry h
 obtain⟨d,e,r1,r2,s1,s2,q⟩:=h
 obtain⟨as,ra⟩:=r1.reads I rx
 obtain⟨bs,rb⟩:=r2.reads I ry
 exact PyProof.Rows.ne_dataH ra rb s1 s2 hu ⟨.bl _,H,I,rfl,q⟩
end
section
variable{prog:Program}{w:World}{A:Around}{E:Value->Shared->Prop}{s:Shared}
theorem ze9{I t:Addr}{k:Nat}{its:Array Value}{y:Value}{Q:Value->Shared->Prop}(hi:s.heap.IsTupleIter I t k)(ht:s.heap.IsTuple t its)(hy:its[k]?=some y)
 (q:∀g,g.IsTupleIter I t (k+1)->Heap.SameBut I s.heap g->Q y {s with heap:=g}):wpAny (model prog w) A (Builtin.SmallTypes.nextOf (.ref I)) Q E s:=by
 obtain⟨oi,e1,e2,e3⟩:=id hi
 obtain⟨ot,e4,_,kt,e5⟩:=ht
 unfold Builtin.SmallTypes.nextOf
 refine vaa (vbg (name:=Str.ofString "__next__") hi.typeIs vc7 (vbo vc7 hi.typeIs F.entry_tuple_iterator_next ?_ (F.args_tuple_iterator_next_1 _)))
 show wpAny _ _ (field (.ref I) 0 >>= _) _ _ s
 refine vaa (vb1 e1 e3 (x:=.ref t) rfl ?_)
 show wpAny _ _ (if(Value.ref t==Value.none)=true then _ else _) _ _ s
 rw[if_neg (show ¬((Value.ref t==Value.none)=true)from λz=>nomatch z)]
 show wpAny _ _ (field (.ref I) 1 >>= _) _ _ s
 refine vaa (vb1 e1 e3 (x:=.int k 0) rfl ?_)
 show wpAny _ _ (seqItems? (.ref t) >>= _) _ _ s
 refine vaa (vct e4 e5 ?_)
 simp only[vbn,hy]
 refine vaa (vdt e1 e3 (by simp) (vaf ⟨y,rfl,vaf (q _ ?_ (vch ..))⟩))
 refine⟨_,vc9 _ e1 (vd1 (vcl e3 _)),(Obj.cls_mapFields ..).trans e2,?_⟩
 rw[vcl e3]
 simp[rawInt]
theorem zei{I t:Addr}{k:Nat}{its:Array Value}{Q:Value->Shared->Prop}(hA:A.handled=none)(hi:s.heap.IsTupleIter I t k)(ht:s.heap.IsTuple t its)(hy:its[k]?=none)
 (q:∀g e,Heap.ExtBut I s.heap g->(∃o,g.get? e=some o/\o.cls=.type "StopIteration")->E (.ref e) {s with heap:=g}):wpAny (model prog w) A (Builtin.SmallTypes.nextOf (.ref I)) Q E s:=by
 obtain⟨oi,e1,e2,e3⟩:=id hi
 obtain⟨ot,e4,_,kt,e5⟩:=ht
 unfold Builtin.SmallTypes.nextOf
 refine vaa (vbg (name:=Str.ofString "__next__") hi.typeIs vc7 (vbo vc7 hi.typeIs F.entry_tuple_iterator_next ?_ (F.args_tuple_iterator_next_1 _)))
 show wpAny _ _ (field (.ref I) 0 >>= _) _ _ s
 refine vaa (vb1 e1 e3 (x:=.ref t) rfl ?_)
 show wpAny _ _ (if(Value.ref t==Value.none)=true then _ else _) _ _ s
 rw[if_neg (show ¬((Value.ref t==Value.none)=true)from λz=>nomatch z)]
 show wpAny _ _ (field (.ref I) 1 >>= _) _ _ s
 refine vaa (vb1 e1 e3 (x:=.int k 0) rfl ?_)
 show wpAny _ _ (seqItems? (.ref t) >>= _) _ _ s
 refine vaa (vct e4 e5 ?_)
 simp only[vbn,hy]
 refine vaa (veu (vaa (vdt e1 e3 (by simp) ?_)))
 show wpAny _ _ (newExc (.type "StopIteration") [] >>= _) _ _ _
 refine vaa ?_
 simp only[newExc,newTuple]
 refine vaa (vbj ?_ (by size_fits))
 refine vaa (m:=firstArgMember _ _) (vde (a:=Value.none) (by first|rfl|(simp only[firstArgMember];rfl)) ?_)
 refine vbj ?_ (by size_fits)
 simp only[raiseNew]
 refine vaa (wpAny_handled ?_)
 first|rw[show A.in1.handled=none from hA]|rw[hA]
 refine vaa (vaf (wpAny_throw ?_))
 exact q _ _ (((vch ..).extBut.push _).push _) ⟨_,vas _ rfl,rfl⟩
end
theorem zji{h h':Heap}{a:Addr}{its:Array Value}(x:h.IsTuple a its)(e:∀o,h.get? a=some o->h'.get? a=some o):h'.IsTuple a its:=let⟨o,ho,r⟩:=x;⟨o,e _ ho,r⟩
theorem zvs{prog:Program}{w:World}{A:Around}(hA:A.handled=none)(I t:Addr)(hne:t≠I)(its:Array Value) :
 Draws prog w A I [I,t] its.size (λi v=>its[i]?=some v) (λi h=>h.IsTupleIter I t i/\h.IsTuple t its)where
 live:=λ_ _ st=>let⟨o,ho,_⟩:=st.1;⟨o,ho⟩
 frame:=λ_ _ _ st hk=>⟨st.1.at λo e=>hk I (by simp) o e,zji st.2 λo e=>hk t (by simp) o e⟩
 item:=λi s Q E hi st q=>ze9 st.1 st.2 (y:=its[i]) (by simp[hi]) λg a b=>q _ g s.toks (by simp[hi]) ⟨a,st.2.extBut b.extBut hne⟩ b
 done:=λs Q E st q=>zei hA st.1 st.2 (by simp) q
theorem zig(l:Addr)(its:Array Value)(n:Nat)(dc:Option Addr)(sl:Array (Option Value)) :
 Meets (Builtin.«enumerate.__new__» ⟨[.type "enumerate",.ref l],[]⟩) (λ_ R s=>s.heap.get? l=some {cls:=.type "tuple",dict:=dc,data:=.seq its n,slots:=sl}/\
  R (.ok (.ret (.ref (s.heap.push {cls:=.type "tuple_iterator",data:=.fields #[.ref l,.int 0 0]}).objs.size)))
   {s with heap:=(s.heap.push {cls:=.type "tuple_iterator",data:=.fields #[.ref l,.int 0 0]}).push {cls:=.type "enumerate",data:=.fields #[.none,.bool false,.ref s.heap.objs.size,rawInt 0,.none,.none]}}):=
 .of_wp λprog w A R s h=>by
  obtain⟨hp,g,d,tk,os⟩:=s
  obtain⟨e,h⟩:=h
  have hsub:=sub_enumerate
  have hT:Heap.IsTuple (Shared.heap ⟨hp,g,d,tk,os⟩) l its:=⟨_,e,rfl,n,rfl⟩
  wp_walk using vba e
  refine wpAny_stack_any λst=>vaf ?_
  split
  .rename_i c _ _ _ _ _
   cases(c==Value.type "enumerate")<;> (wp_walk using vba e,vcy hT;exact⟨_,rfl,h⟩)
  .wp_walk using vba e,vcy hT
   exact⟨_,rfl,h⟩
theorem zk2{prog:Program}{w:World}{A:Around}{E:Value->Shared->Prop}{s:Shared}{l:Addr}{its:Array Value}{Q:Value->Shared->Prop}(hL:s.heap.IsTuple l its)
 (h:∀g,IsEnum g (s.heap.objs.size+1) s.heap.objs.size 0 .none->g.IsTupleIter s.heap.objs.size l 0->g.objs.size=s.heap.objs.size+2->(∀b o,s.heap.get? b=some o->g.get? b=some o)->Q (.ref (s.heap.objs.size+1)) {s with heap:=g}) :
 wpAny (model prog w) A (call (.type "enumerate") [.ref l]) Q E s:=by
 obtain⟨⟨c,dc,dt,sl⟩,e1,e2,n,e3⟩:=hL
 replace e2:c=.type "tuple":=e2
 replace e3:dt=.seq its n:=e3
 subst e2 e3
 refine callType_new F.called_enumerate (by decide) (F.typeCall_enumerate_1 _) (F.newCall_enumerate_1 _) (λobj=>F.args_object_init_2 obj _) F.entry_enumerate_new (zig l its n dc sl) ⟨e1,?_⟩
 have hz:(s.heap.push {cls:=.type "tuple_iterator",data:=.fields #[.ref l,.int 0 0]}).objs.size=s.heap.objs.size+1:=vc4 ..
 show _/\_
 rw[hz]
 have he:IsEnum ((s.heap.push {cls:=.type "tuple_iterator",data:=.fields #[.ref l,.int 0 0]}).push {cls:=.type "enumerate",data:=.fields #[.none,.bool false,.ref s.heap.objs.size,rawInt 0,.none,.none]}) (s.heap.objs.size+1) s.heap.objs.size 0 .none:=by
  rw[<-hz]
  exact vas _ rfl
 exact⟨⟨_,he,rfl⟩,h _ he ⟨_,vac _ (vas _ rfl),rfl,rfl⟩ (by rw[vc4,hz]) λb o x=>vac _ (vac _ x)⟩
noncomputable def IteT(K:PySem.W.Frag)(a:Addr):It:=
 ⟨λi H=>∃xs x,SqT K H a xs/\xs[i]?=some x,λi H x H'=>∃T v,x=.ref T/\H T=none/\H'=upd H T (.tup [.int i,v])/\∀xs,SqT K H a xs->xs[i]?=some v,λi H=>∃xs,SqT K H a xs/\xs.length<=i⟩
theorem zk3{P:Program}{w:World}{K:PySem.W.Frag}{elts:List Expr}{kx:Nat}{tp:Pos}(a e it:Addr)(hei:e≠it)(hae:a≠e)(hai:a≠it) :
 Turn P w K (.Tuple elts kx tp) (IteT K a) [e,it] e (λi h=>(∃old,IsEnum h e it i old)/\h.IsTupleIter it a i)where
 mem:=by simp
 obj:=λi h st b hb=>by
  obtain⟨⟨old,he⟩,o,ho,hc,hd⟩:=st
  rcases vaz.mp hb with rfl|hb
  .exact⟨_,he,λv z=>by
    have z':Data.fields _=Data.cell v:=z
    cases z'⟩
  .have e':b=it:=by simpa using hb
   subst e'
   exact⟨o,ho,λv z=>by rw[hd]at z;cases z⟩
 keep:=λi h h' st k=>by
  obtain⟨⟨old,he⟩,st⟩:=st
  exact⟨⟨old,k e (by simp) _ he⟩,st.at λo q=>k it (by simp) o q⟩
 item:=by
  intro X hP hw hK hc i pins s σ H E I hf st hg
  subst hP hw hK
  obtain⟨xs,x,hq,hx⟩:=hg
  obtain⟨⟨old,he⟩,st⟩:=st
  obtain⟨its,rv,p,hz⟩:=I.tuple hq
  obtain⟨u,hu,ru⟩:=rv.get hx
  have hd:X.A.in1.handled=none:=I.ok.hd hc
  have p:s.heap.IsTuple a its.toArray:=p
  refine wpAny_pyNext_enum_itemD (zvs hd it a hai its.toArray) he ⟨st,p⟩ (by
   have:i<its.length:=by
    rw[<-rv.length]
    exact(vau.mp hx).1
   simpa using this) hei (by simp[hei,vck hae]) λx' h1 tk hx' ho hit hT hsz hk=>?_
  obtain rfl:u=x':=by
   have:its[i]?=some x':=by simpa using hx'
   rw[hu]at this
   cases this;rfl
  refine⟨_,rfl,wpAny_letOwnedTupleGo_enum ho λh2 he2 hs2=>?_⟩
  have hTn:H s.heap.objs.size=none:=I.hok.fresh (vae _)
  have hTe:s.heap.objs.size≠e:=vdy (vav he)
  have hTi:s.heap.objs.size≠it:=by
   obtain⟨o,q,_⟩:=st
   exact vdy (vav q)
  have hs2:Heap.SameBut e h1 h2:=hs2
  have kk:∀b o,b≠e->b≠it->s.heap.get? b=some o->h2.get? b=some o:=λb o h1 h2 q=>(hs2.2 b h1).trans (hk b o h1 h2 q)
  have f0:=λb hb=>(hf b hb).1
  have nE:∀b o,H b=some o->b≠e/\b≠it:=λb o q=>⟨λz=>(by rw[z,f0 e (by simp)]at q;cases q),λz=>(by rw[z,f0 it (by simp)]at q;cases q)⟩
  have hT2:h2.get? s.heap.objs.size=some {cls:=.type "tuple",data:=.seq #[.int i tk,u]}:=(hs2.2 _ hTe).trans hT
  have I2:Inv X pins σ (upd H s.heap.objs.size (.tup [.int i,x])) {s with heap:=h2,gens:=s.gens,drawn:=s.drawn,toks:=tk+1}:=by
   refine I.step (ch:=[e,it]) (λb hb=>?_) (λb o _ _ hc e1 _=>kk b o (λz=>hc (by simp[z])) (λz=>hc (by simp[z])) e1) (λb o _ _ hc e1 _=>⟨o.slots,kk b o (λz=>hc (by simp[z])) (λz=>hc (by simp[z])) e1⟩)
    (λb o hc e1 n=>by rw[zag (va5 (vav e1))];exact n) (λb o hc e1=>⟨o,kk b o (λz=>hc (by simp[z])) (λz=>hc (by simp[z])) e1⟩)
    (λb ys q=>by rw[zag (zaf q hTn)];exact q) (λb o u q=>by rw[zag (zaf q hTn)];exact q) (λb ps q=>⟨#[],by rw[zag (zaf q hTn),q];simp⟩) (λm hm=>?_) (λb ob q=>?_) I.bare
   .obtain⟨_,a1,a2,a3,a4,a5⟩:=hf b hb
    exact⟨a3,a1,a4,a5⟩
   .obtain⟨o,es,ep,ho',r⟩:=hm
    exact⟨o,es,ep,kk _ o (vck (hf e (by simp)).2.1) (vck (hf it (by simp)).2.1) ho',r⟩
   .by_cases hb:b=s.heap.objs.size
    .subst hb
     rw[zan]at q;cases q
     exact⟨by show 2<=sizeLine;decide,[.int i tk,u],.cons ⟨_,rfl⟩ (.cons ru .nil),⟨_,hT2,rfl,⟨_,rfl⟩,rfl⟩⟩
    .rw[zag hb]at q
     refine(I.hok b ob q).stay (λc v hc z=>kk c v ?_ ?_ z) (λc z=>by rw[zag (zaf z hTn)];exact z) λc ys z=>by rw[zag (zaf z hTn)];exact z
     .rcases hc with rfl|hc
      .exact(nE c ob q).1
      .exact(nE c _ hc).1
     .rcases hc with rfl|hc
      .exact(nE c ob q).2
      .exact(nE c _ hc).2
  refine⟨.ref s.heap.objs.size,_,I2,rfl,⟨_,x,rfl,hTn,rfl,λys hy=>by rw[I.tuple_inj hy hq];exact hx⟩,⟨⟨u,by simpa using he2⟩,hit.1.at λo q=>(hs2.2 it (vck hei)).trans q⟩,λb hb=>?_⟩
  rw[zag ?_]
  .exact f0 b hb
  .rcases vaz.mp hb with rfl|hb
   .exact vck hTe
   .have e':b=it:=by simpa using hb
    subst e'
    exact vck hTi
 done:=by
  intro X hP hw hK hc i pins s σ H E I hf st hg
  subst hP hw hK
  obtain⟨xs,hq,hx⟩:=hg
  obtain⟨⟨old,he⟩,st⟩:=st
  obtain⟨its,rv,p,hz⟩:=I.tuple hq
  obtain⟨f0,f1,f2,f3,f4,f5⟩:=hf it (by simp)
  have hl:=rv.length
  have hd:X.A.in1.handled=none:=I.ok.hd hc
  have p:s.heap.IsTuple a its.toArray:=p
  refine PySem.wpAny_pyNext_enum_endD (n:=0) (P:=λ_ _=>True) (St:=λ_ h=>h.IsTupleIter it a i/\h.IsTuple a its.toArray) (fp:=[it,a]) ⟨?_,?_,?_,?_⟩ he ⟨st,p⟩ λh' eb=>⟨rfl,I.turned (t':=s.toks) (λb o hb q=>eb b o hb q) f0 f1 f3 f4 f5⟩
  .exact λ_ _ st=>let⟨o,ho,_⟩:=st.1;⟨o,ho⟩
  .exact λ_ _ _ st hk=>⟨st.1.at λo e=>hk it (by simp) o e,zji st.2 λo e=>hk a (by simp) o e⟩
  .exact λj s' Q' E' hj=>absurd hj (vfa _)
  .exact λs' Q' E' st' q'=>zei hd st'.1 st'.2 (by simp;omega) q'
 self:=λ_ _ _ _ _ st h=>by
  obtain⟨⟨old,he⟩,_⟩:=st
  exact wpAny_pyIter_enum he h
section
variable{κ:Type}[DecidableEq κ]
noncomputable def valV(kvs:List (κ×V))(k:κ):Option V:=(kvs.find? λkv=>decide (kv.1=k)).map (·.2)
noncomputable def putK(kvs:List (κ×V))(k:κ)(v:V):List (κ×V):=
 if(kvs.any λkv=>decide (kv.1=k))=true then kvs.map (λkv=>if kv.1=k then(kv.1,v)else kv)else kvs++[(k,v)]
theorem zf2{p:κ×V}{r:List (κ×V)}{k:κ}(e:p.1=k):valV (p::r) k=some p.2:=by simp[valV,vbt,e]
theorem zdw{p:κ×V}{r:List (κ×V)}{k:κ}(e:¬p.1=k):valV (p::r) k=valV r k:=by simp[valV,vbt,e]
theorem zih(kvs:List (κ×V))(k:κ)(v:V):(putK kvs k v).length<=kvs.length+1:=by
 unfold putK
 split
 .rw[vad];omega
 .rw[vao,vai,vd2];omega
theorem KV.val{kvs:List (κ×V)}{vs:List (κ×Value)}(r:KV kvs vs)(k:κ):RelO (valV kvs k) (valueAt vs k):=by
 unfold KV at r
 induction r with
 |nil=>exact True.intro
 | @cons p q ps qs h t ih=>
  obtain⟨h1,h2⟩:=h
  by_cases e:p.1=k
  .have e':q.1=k:=h1.symm.trans e
   have b:valueAt (q::qs) k=some q.2:=by simp[valueAt,vbt,e']
   rw[zf2 e,b];exact h2
  .have e':¬q.1=k:=λz=>e (h1.trans z)
   have b:valueAt (q::qs) k=valueAt qs k:=by simp[valueAt,vbt,e']
   rw[zdw e,b];exact ih
theorem KV.any{kvs:List (κ×V)}{vs:List (κ×Value)}(r:KV kvs vs)(k:κ):(kvs.any λkv=>decide (kv.1=k))=vs.any λkv=>decide (kv.1=k):=by
 unfold KV at r
 induction r with
 |nil=>rfl
 |cons h t ih=>rw[vfo,vfo,ih,h.1]
theorem KV.repl{kvs:List (κ×V)}{vs:List (κ×Value)}(r:KV kvs vs)(k:κ){y:V}{u:Value}(ry:RelV y u) :
 KV (kvs.map λkv=>if kv.1=k then(kv.1,y)else kv) (vs.map λkv=>if kv.1=k then(kv.1,u)else kv):=by
 unfold KV at r ⊢
 induction r with
 |nil=>exact .nil
 | @cons p q ps qs h t ih=>
  rw[vam,vam]
  refine .cons ?_ ih
  obtain⟨h1,h2⟩:=h
  by_cases e:p.1=k
  .rw[if_pos e,if_pos (h1.symm.trans e)];exact⟨h1,ry⟩
  .rw[if_neg e,if_neg (λz=>e (h1.trans z))];exact⟨h1,h2⟩
theorem KV.put{kvs:List (κ×V)}{vs:List (κ×Value)}(r:KV kvs vs)(k:κ){y:V}{u:Value}(ry:RelV y u):KV (putK kvs k y) (stored vs k u):=by
 unfold putK stored
 rw[r.any k]
 by_cases e:(vs.any λkv=>decide (kv.1=k))=true
 .rw[if_pos e,if_pos e];exact r.repl k ry
 .rw[if_neg e,if_neg e];exact Paired.snoc r ⟨rfl,ry⟩
end
theorem kV_is{P:Program}{w:World}{k:Key}{u:Value}(r:RelV (kV k) u):(za0 P w).is k u=true:=by
 cases k with
 |inl i=>obtain⟨t,e⟩:=(show ∃t,u=Value.int i t from r);subst e;exact zia P w i t
 |inr x=>obtain⟨t,e⟩:=(show ∃t,u=Value.str x t from r);subst e;exact zib P w x t
theorem zg8{P:Program}{w:World}:∀{ks:List Key} {us:List Value},Vals (ks.map kV) us->ItemsAre (za0 P w) ks us
 |[],_,r=>by rw[vda]at r;cases r;exact .nil
 |k::ks,_,r=>by
  rw[vam]at r
  cases r with
  |cons h t=>exact .cons (kV_is h) (zg8 t)
noncomputable abbrev KT(H:Hp):List (List Key×V)->List (List Key×Addr×Value)->Prop:=Paired λp q=>p.1=q.1/\H q.2.1=some (.tup (p.1.map kV))/\RelV p.2 q.2.2
theorem KT.val{H:Hp}{kvs:List (List Key×V)}{xs:List (List Key×Addr×Value)}(r:KT H kvs xs)(k:List Key):RelO (valV kvs k) ((atKey xs k).map (·.2)):=by
 induction r with
 |nil=>exact True.intro
 | @cons p q ps qs h t ih=>
  obtain⟨h1,_,h2⟩:=h
  by_cases e:p.1=k
  .have e':q.1=k:=h1.symm.trans e
   have b:atKey (q::qs) k=some q.2:=by simp[atKey,vbt,e']
   rw[zf2 e,b];exact h2
  .have e':¬q.1=k:=λz=>e (h1.trans z)
   have b:atKey (q::qs) k=atKey qs k:=by simp[atKey,vbt,e']
   rw[zdw e,b];exact ih
section
variable{P:Program}{w:World}{H:Hp}{h:Heap}{a:Addr}
theorem rd_of{u:HO}(ok:HOk P w H h)(e:Rd H a u):ObjOk P w H h a u:=e.ok ok
theorem dk_rd{kvs:List (Key×V)}(ok:HOk P w H h)(e:Rd H a (.dK kvs)):kvs.length<=sizeLine/\(a==sysModules)=false/\∃vs,KV kvs vs/\h.DictOf (za0 P w) a vs:=
 show ObjOk P w H h a (.dK kvs)from rd_of ok e
theorem dk_of{kvs:List (Key×V)}(ok:HOk P w H h)(e:H a=some (.dK kvs)):kvs.length<=sizeLine/\(a==sysModules)=false/\∃vs,KV kvs vs/\h.DictOf (za0 P w) a vs:=dk_rd ok (.inl e)
theorem zq4{ks:List Key}(ok:HOk P w H h)(e:H a=some (.tup (ks.map kV))):(tupleKind (za0 P w)).is h ks a:=by
 obtain⟨_,its,r,o,h1,h2,⟨n,h3⟩,_⟩:=(show ObjOk P w H h a (.tup (ks.map kV))from ok a _ e)
 exact⟨o,its.toArray,n,h1,h2,h3,by simpa using zg8 r⟩
theorem dt_rd{kvs:List (List Key×V)}(ok:HOk P w H h)(e:Rd H a (.dT kvs)):kvs.length<=sizeLine/\(a==sysModules)=false/\
 ∃xs,KT H kvs xs/\h.DictOfH (tupleKind (za0 P w)) a xs:=by
 obtain⟨z,y,xs,r,o,es,ep,h1,h2,h3,h4,h5⟩:=(show ObjOk P w H h a (.dT kvs)from rd_of ok e)
 refine⟨z,y,xs,r,o,es,ep,h1,h2,h3,h4,λx hx=>?_,h5⟩
 have all:∀{l:List (List Key×V)}{m:List (List Key×Addr×Value)},KT H l m->∀x∈m,(tupleKind (za0 P w)).is h x.1 x.2.1:=by
  intro l m q
  induction q with
  |nil=>intro x hx;exact nomatch hx
  | @cons p q ps qs hq t ih=>
   intro x hx
   rcases vaz.mp hx with e|hx
   .subst e
    exact zq4 ok (by rw[<-hq.1];exact hq.2.1)
   .exact ih x hx
 exact all r x hx
end
noncomputable def DGet(H:Hp)(a:Addr)(y:V)(r:Option V):Prop:=
 (∃kvs k,Rd H a (.dK kvs)/\y=kV k/\r=valV kvs k)\/∃kvs k b,Rd H a (.dT kvs)/\y=.ref b/\H b=some (.tup (k.map kV))/\r=valV kvs k
section
variable{X:Cx}{pins:List (Addr×Obj)}{σ:St}{H:Hp}{s:Shared}{a:Addr}{y v:V}{u r:Value}{o:Option V}{A:Around}{E:Value->Shared->Prop}
theorem Inv.big(I:Inv X pins σ H s):sysModules<s.heap.objs.size:=by
 have h:mainGlobals<s.heap.objs.size:=(I.mod.glob.keeps I.bk).lt
 exact Nat.lt_trans (by decide) h
theorem zl9{Q:Value->Shared->Prop}(hu:A.units+1<cLine)(I:Inv X pins σ H s)(g:DGet H a y (some v))(ry:RelV y u)(h:∀w' s',Inv X pins σ H s'->RelV v w'->Q w' s') :
 wpAny (model X.prog X.w) A (getItem (.ref a) u) Q E s:=by
 rcases g with⟨kvs,k,e,ey,l⟩|⟨kvs,k,b,e,ey,eb,l⟩
 .subst ey
  obtain⟨z,hd,vs,rel,dd⟩:=dk_rd I.hok e
  obtain⟨w',hw,rw'⟩:=RelO.some_of (v:=v) (o:=valueAt vs k) (by rw[l];exact rel.val k)
  exact wpAny_getItem_of (kV_is ry) dd.mapOf hw (h w' _ (I.tok _) rw')
 .subst ey
  cases(show u=Value.ref b from ry)
  obtain⟨z,hd,xs,rel,dd⟩:=dt_rd I.hok e
  obtain⟨w',hw,rw'⟩:=RelO.some_of (v:=v) (o:=(atKey xs k).map (·.2)) (by rw[l];exact rel.val k)
  obtain⟨p,hp,hp2⟩:=Option.map_eq_some_iff.mp hw
  refine wpAny_getItem_heap (tupleKind_room_in1 hu) (zq4 I.hok eb) dd hp ?_
  rw[hp2]
  exact h w' _ (I.tok _) rw'
theorem zii{h':Heap}{t':Nat}{ob:HO}(I:Inv X pins σ H s)(mu:Mut (H a))(hs:Heap.SameBut a s.heap h')(he:∃q,h'.get? a=some q)(new:ObjOk X.prog X.w (upd H a ob) h' a ob) :
 Inv X pins σ (upd H a ob) {s with heap:=h',toks:=t'}:=
 I.write (x:=a) (e:=a) mu (.inl rfl) (λb q hb z=>(hs.2 b hb).trans z) he new
theorem zvt{P:Program}{w:World}{H':Hp}{h':Heap}{kvs:List (Key×V)}{vs:List (Key×Value)}(z:kvs.length<=sizeLine)(hd:(a==sysModules)=false)(rel:KV kvs vs)(dd:h'.DictOf (za0 P w) a vs) :
 ObjOk P w H' h' a (.dK kvs):=⟨z,hd,vs,rel,dd⟩
end
theorem zij{X:Cx}{pins:List (Addr×Obj)}{σ:St}{H:Hp}{s:Shared}{a:Addr}{y:V}{o:Option V}(I:Inv X pins σ H s)(g:DGet H a y o):s.TypeIs (.ref a) "dict":=by
 rcases g with⟨kvs,k,e,_,_⟩|⟨kvs,k,b,e,_,_,_⟩
 .obtain⟨_,_,vs,_,dd⟩:=dk_rd I.hok e
  exact dd.typeIs
 .obtain⟨_,_,xs,_,dd⟩:=dt_rd I.hok e
  exact dd.typeIs
theorem zjj{P:Program}{w:World}{H:Hp}(h:Heap)(hb:sysModules<h.objs.size):ObjOk P w H (h.push {cls:=.type "dict",data:=.dict #[]}) h.objs.size (.dK []):=
 ⟨vbw _,beq_eq_false_iff_ne.mpr (vck (va5 hb)),[],.nil,Heap.DictOf.new h⟩
noncomputable def zvu:TE:=λ_ H Q=>∀p,H p=none->Q (.ref p) (upd H p (.dK []))
section
variable{X:Cx}{pos:Pos}
theorem zpe:PE X (.Dict [] [] pos) zvu:=λpins s σ H Q I h=>
 wpAny_Dict_empty ⟨.ref s.heap.objs.size,_,I.laid (a:=s.heap.objs.size) (o:=.dK []) (t':=s.toks) (λ_ _ q=>vac _ q) (vae _) (zjj s.heap I.big),rfl,h _ (I.hok.fresh (vae _))⟩
end
noncomputable def zjk:List (TE×TE)->St->Hp->(List (V×V)->Hp->Prop)->Prop
 |[],_,H,Q=>Q [] H
 |(tk,tv)::r,σ,H,Q=>tk σ H λx H1=>tv σ H1 λy H2=>zjk r σ H2 λps H3=>Q ((x,y)::ps) H3
noncomputable abbrev VV:List (V×V)->List (Value×Value)->Prop:=Paired λp q=>RelV p.1 q.1/\RelV p.2 q.2
noncomputable def PPs(X:Cx)(pos:Pos)(keys:List (Option Expr))(values:List Expr)(trs:List (TE×TE)):Prop:=
 ∀(pins:List (Addr×Obj))(s:Shared)(σ:St)(H:Hp)(Q:List (V×V)->Hp->Prop),Inv X pins σ H s->zjk trs σ H Q->
  wpAny (model X.prog X.w) X.A (evalPairs (pairTrees keys values X.env pos)) (λvs s'=>∃ps H',Inv X pins σ H' s'/\VV ps vs/\Q ps H') X.xe s
theorem zsx{X:Cx}{pos:Pos}:PPs X pos [] [] []:=λpins s σ H Q I h=>pairTrees_nil_walk ⟨[],H,I,.nil,h⟩
theorem zpf{X:Cx}{pos:Pos}{k v:Expr}{ks:List (Option Expr)}{vs:List Expr}{tk tv:TE}{trs:List (TE×TE)}(hk:PE X k tk)(hv:PE X v tv)(hr:PPs X pos ks vs trs) :
 PPs X pos (some k::ks) (v::vs) ((tk,tv)::trs):=λpins s σ H Q I h=>
 pairTrees_cons_walk (thn (hk pins s σ H _ I h) λu s1 z9=>z9.el λx H1 I1 rx q1=>thn (hv pins s1 σ H1 _ I1 q1) λw2 s2 z9=>z9.el λy H2 I2 ry q2=>
  thn (hr pins s2 σ H2 _ I2 q2) λws s3 ⟨ps,H3,I3,rel,q3⟩=>⟨(x,y)::ps,H3,I3,.cons ⟨rx,ry⟩ rel,q3⟩)
noncomputable def zdl(kvs more:List (Key×V)):List (Key×V):=more.foldl (λacc kv=>putK acc kv.1 kv.2) kvs
theorem KV.merge:∀{more:List (Key×V)} {rs:List (Key×Value)} {kvs:List (Key×V)} {vs:List (Key×Value)},KV more rs->KV kvs vs->KV (zdl kvs more) (merged vs rs):=by
 intro more rs kvs vs r
 unfold KV at r
 induction r generalizing kvs vs with
 |nil=>intro q;exact q
 | @cons p q ps qs h t ih=>
  intro r0
  have e:KV (putK kvs p.1 p.2) (stored vs q.1 q.2):=by
   have:=r0.put p.1 h.2
   rw[<-h.1];exact this
  exact ih e
theorem zco:∀(more kvs:List (Key×V)),(zdl kvs more).length<=kvs.length+more.length
 |[],kvs=>by show kvs.length<=kvs.length+0;omega
 |p::r,kvs=>by
  have h1:=zco r (putK kvs p.1 p.2)
  have h2:=zih kvs p.1 p.2
  show(zdl (putK kvs p.1 p.2) r).length<=_
  rw[vai];omega
theorem zfa{P:Program}{w:World}:∀{kvs:List (Key×V)} {ws:List (Value×Value)},VV (kvs.map λkv=>(kV kv.1,kv.2)) ws->∃rs,Carries (za0 P w) ws rs/\KV kvs rs
 |[],_,r=>by rw[vda]at r;cases r;exact⟨[],True.intro,.nil⟩
 |p::kvs,_,r=>by
  rw[vam]at r
  cases r with
  | @cons a b as bs h t=>
   obtain⟨rs,c,q⟩:=zfa (P:=P) (w:=w) t
   obtain⟨b1,b2⟩:=b
   exact⟨(p.1,b2)::rs,⟨kV_is h.1,rfl,c⟩,.cons ⟨rfl,h.2⟩ q⟩
theorem zf3:fillsNumberSlot (.type "tuple") "mul" = pure false:=
 PySem.fillsNumberSlot_seq (id:="tuple.__mul__") (r:=some (.builtin "tuple.__rmul__")) ved.lookup (by decide +kernel) F.slot_tuple_rmul.lookup (by decide +kernel)
theorem zma:seqRepeat? (.type "tuple")=pure (some (.builtin "tuple.__mul__")):=by
 unfold seqRepeat?
 rw[PySem.seqSlot_of (T:="tuple") (name:="__mul__") (id:="tuple.__mul__") ved.lookup (by decide +kernel),PySem.seqSlot_of (T:="tuple") (name:="__rmul__") (id:="tuple.__rmul__") F.slot_tuple_rmul.lookup (by decide +kernel)]
 rfl
theorem zpg(k:Int)(t:Tok)(l:Addr)(its:Array Value)(n:Nat)(dd:Option Addr)(sl:Array (Option Value)) :
 Meets (Builtin.«int.__rmul__» ⟨[.int k t,.ref l],[]⟩) (λ_ R s=>s.heap.get? l=some {cls:=.type "tuple",dict:=dd,data:=.seq its n,slots:=sl}/\R (.ok (.ret Value.notImplemented)) s):=
 .of_wp λprog w A R s h=>by
  obtain⟨hp,g,d,tk,os⟩:=s
  obtain⟨e,h⟩:=h
  wp_walk using vba e
  exact⟨_,rfl,h⟩
theorem zph(l:Addr)(its:Array Value)(n:Nat)(dd:Option Addr)(sl:Array (Option Value))(k:Int)(t:Tok)(h1:¬(decide (k < -(2 ^ 63))||decide (k>=2 ^ 63))=true)(h2:(its.isEmpty||k==1)=true) :
 Meets (Builtin.«tuple.__mul__» ⟨[.ref l,.int k t],[]⟩) (λ_ R s=>s.heap.get? l=some {cls:=.type "tuple",dict:=dd,data:=.seq its n,slots:=sl}/\R (.ok (.ret (.ref l))) s):=
 .of_wp λprog w A R s h=>by
  obtain⟨hp,g,d,tk,os⟩:=s
  obtain⟨e,h⟩:=h
  have f1:=AutoSeq1.idx_int
  wp_walk using vba e
  refine wpAny_ite ?_
  rw[if_neg h1]
  wp_walk using vba e
  exact⟨_,rfl,h⟩
theorem zpi(l:Addr)(its:Array Value)(n:Nat)(dd:Option Addr)(sl:Array (Option Value))(k:Int)(t:Tok)(h1:¬(decide (k < -(2 ^ 63))||decide (k>=2 ^ 63))=true)(h2:¬(its.isEmpty||k==1)=true)(h3:(decide (k<=0)||its.isEmpty)=true) :
 Meets (Builtin.«tuple.__mul__» ⟨[.ref l,.int k t],[]⟩) (λ_ R s=>s.heap.get? l=some {cls:=.type "tuple",dict:=dd,data:=.seq its n,slots:=sl}/\R (.ok (.ret (.ref s.heap.objs.size))) {s with heap:=s.heap.push {cls:=.type "tuple",data:=.seq #[]}}):=
 .of_wp λprog w A R s h=>by
  obtain⟨hp,g,d,tk,os⟩:=s
  obtain⟨e,h⟩:=h
  have f1:=AutoSeq1.idx_int
  wp_walk using vba e
  refine wpAny_ite ?_
  rw[if_neg h1]
  wp_walk using vba e
  exact⟨_,rfl,h⟩
theorem zpj(l:Addr)(its:Array Value)(n:Nat)(dd:Option Addr)(sl:Array (Option Value))(k:Int)(t:Tok)(h1:¬(decide (k < -(2 ^ 63))||decide (k>=2 ^ 63))=true)(h2:¬(its.isEmpty||k==1)=true)(h3:¬(decide (k<=0)||its.isEmpty)=true)
 (h4:¬(its.size*k> (2 ^ 63-1)/8)) (h5:¬Builtin.Tuple.tupleTooMany (its.size*k)=true) (h6:((List.replicate k.toNat its).foldl (· ++ ·) #[]).size<=sizeLine) :
 Meets (Builtin.«tuple.__mul__» ⟨[.ref l,.int k t],[]⟩) (λ_ R s=>s.heap.get? l=some {cls:=.type "tuple",dict:=dd,data:=.seq its n,slots:=sl}/\R (.ok (.ret (.ref s.heap.objs.size))) {s with heap:=s.heap.push {cls:=.type "tuple",data:=.seq ((List.replicate k.toNat its).foldl (· ++ ·) #[])}}):=
 .of_wp λprog w A R s h=>by
  obtain⟨hp,g,d,tk,os⟩:=s
  obtain⟨e,h⟩:=h
  have f1:=AutoSeq1.idx_int
  wp_walk using vba e
  refine wpAny_ite ?_
  rw[if_neg h1]
  wp_walk using vba e
  refine wpAny_ite ?_
  rw[if_neg h4]
  wp_walk using vba e
  exact⟨_,rfl,h⟩
section
variable{X:Cx}
noncomputable def rRepT(K:PySem.W.Frag):R2:=λx y H Q=>∃a k xs,x=.ref a/\y=.int k/\SqT K H a xs/\-(2 ^ 62)<=k/\k<2 ^ 62/\xs.length*k.toNat<=sizeLine/\
 ((xs.isEmpty||k==1)=true->Q (.ref a) H)/\((xs.isEmpty||k==1)=false->∀p,H p=none->Q (.ref p) (upd H p (.tup (List.replicate k.toNat xs).flatten)))
theorem zej{xs:List V}{us:List Value}(r:Vals xs us):us.toArray.isEmpty=xs.isEmpty:=by
 cases r<;>rfl
theorem zsy:OpR X (binaryOp .Mult) (rRepT X.K):=by
 intro pins s σ H x y v u Q I rx ry h
 obtain⟨a,k,xs,rfl,rfl,ha,k1,k2,hz,q1,q2⟩:=h
 cases rx
 obtain⟨t,rfl⟩:=ry
 obtain⟨its,r,p,_⟩:=I.tuple ha
 obtain⟨⟨c,dd,dt,sl⟩,e1,e2,n,e3⟩:=p
 replace e2:c=.type "tuple":=e2
 replace e3:dt=.seq its.toArray n:=e3
 subst e2 e3
 have hl:xs.length=its.length:=r.length
 have h1:¬(decide (k < -(2 ^ 63))||decide (k>=2 ^ 63))=true:=by
  simp only[vcw,vaw]
  omega
 refine wpAny_binaryOp_repeat_ref (T:="tuple") (U:="int") (by decide) ⟨_,e1,rfl⟩ (λs'=>typeIs_int s' k t) zf3 F.fills_int_mul ve9 zma F.slot_int_index.lookup
  (veh ve9 (typeIs_int s k t) F.entry_int_rmul (F.args_int_rmul_2 _ _) (zpg k t a its.toArray n dd sl) ⟨e1,rfl,⟨_,e1,rfl⟩,?_⟩)
 by_cases h2:(its.toArray.isEmpty||k==1)=true
 .refine veh ved ⟨_,e1,rfl⟩ F.entry_tuple_mul (F.args_tuple_mul_2 _ _) (zph a its.toArray n dd sl k t h1 h2) ⟨e1,?_⟩
  exact⟨.ref a,H,I,rfl,q1 (by rw[<-zej r];exact h2)⟩
 .have q2:=q2 (by rw[<-zej r];simpa using h2)
  by_cases h3:(decide (k<=0)||its.toArray.isEmpty)=true
  .have hk:k.toNat=0:=by
    have:its.toArray.isEmpty=false:=by
     cases q:its.toArray.isEmpty with
     |false=>rfl
     |true=>rw[q]at h2;exact absurd rfl h2
    rw[this,Bool.or_false,vaw]at h3
    omega
   refine veh ved ⟨_,e1,rfl⟩ F.entry_tuple_mul (F.args_tuple_mul_2 _ _) (zpi a its.toArray n dd sl k t h1 h2 h3) ⟨e1,?_⟩
   rw[hk]at q2
   exact⟨.ref s.heap.objs.size,_,I.laid (t':=s.toks) (o:=.tup []) (λb ob q=>vac _ q) (vae _) ⟨vbw _,[],.nil,za9.new _ _⟩,rfl,q2 _ (I.hok.fresh (vae _))⟩
  .have hk:0<k:=by
    simp only[vcw,vaw,not_or]at h3
    omega
   have hkn:((k.toNat:Nat):Int)=k:=Int.toNat_of_nonneg (by omega)
   have hmul:(its.toArray.size:Int)*k=((xs.length*k.toNat:Nat):Int):=by
    rw[vah,<-hl,vfb,hkn]
   have hsl:(sizeLine:Nat)=16777216:=rfl
   have fl:(List.replicate k.toNat its.toArray).foldl (· ++ ·) #[]=(List.replicate k.toNat its).flatten.toArray:=by
    have:=zee its k.toNat []
    rw[vb8]at this
    exact this
   refine veh ved ⟨_,e1,rfl⟩ F.entry_tuple_mul (F.args_tuple_mul_2 _ _) (zpj a its.toArray n dd sl k t h1 h2 h3 (by rw[hmul];omega) (by
    unfold Builtin.Tuple.tupleTooMany
    rw[hmul,vaw]
    omega) (by rw[fl,vah,zif,vfk,<-hl];exact hz)) ⟨e1,?_⟩
   rw[fl]
   exact⟨.ref s.heap.objs.size,_,I.laid (t':=s.toks) (o:=.tup (List.replicate k.toNat xs).flatten) (λb ob q=>vac _ q) (vae _) ⟨by rw[zif,vfk];exact hz,_,r.rep k.toNat,za9.new _ _⟩,rfl,q2 _ (I.hok.fresh (vae _))⟩
noncomputable def zq5(K:PySem.W.Frag):R2:=λx y H Q=>∃a b ys,x=.ref a/\y=.ref b/\SqT K H a []/\SqT K H b ys/\Q (.ref b) H
theorem zpk:OpR X (binaryOp .Add) (zq5 X.K):=by
 intro pins s σ H x y v u Q I rx ry h
 obtain⟨a,b,ys,rfl,rfl,ha,hb,q⟩:=h
 cases rx
 cases ry
 obtain⟨its,r1,p1,_⟩:=I.tuple ha
 obtain⟨its2,r2,p2,_⟩:=I.tuple hb
 cases r1
 obtain⟨⟨c,dd,dt,sl⟩,e1,e2,n,e3⟩:=p1
 obtain⟨⟨c2,dd2,dt2,sl2⟩,f1,f2,n2,f3⟩:=p2
 replace e2:c=.type "tuple":=e2
 replace e3:dt=.seq ([]:List Value).toArray n:=e3
 replace f2:c2=.type "tuple":=f2
 replace f3:dt2=.seq its2.toArray n2:=f3
 subst e2 e3 f2 f3
 exact concat_meets ⟨_,e1,rfl⟩ ⟨_,f1,rfl⟩ noFill_tuple_add seq_tuple_add PySem.F.slot_tuple_add PySem.F.entry_tuple_add (PySem.F.args_tuple_add_2 _ _) (tuple_addW0 a b ([]:List Value).toArray its2.toArray n n2 dd dd2 sl sl2 rfl) ⟨e1,f1,⟨.ref b,H,I,rfl,q⟩⟩
noncomputable def anyEq(ds:List PyData)(d:PyData):Bool:=ds.any λe=>PyData.eqv e d
noncomputable def rInD(K:PySem.W.Frag)(neg:Bool):R2:=λx y H Q=>∃p xs ds d,y=.ref p/\(SqL K H p xs\/SqT K H p xs)/\Rps K (λ_=>False) H xs ds/\Rp K (λ_=>False) H x d/\ds.all SeqAt.shaped=true/\SeqAt.shaped d=true/\Q (.bl (if neg then !anyEq ds d else anyEq ds d)) H
theorem zby{h:Heap}:∀{us:List Value} {ds:List PyData} {as:List Addr} {i:Nat} {u:Value},ReadsAll h us ds as->us[i]?=some u->∃d bs,ds[i]?=some d/\Reads h u d bs
 |_,_,_,i,u,.nil,e=>by simp at e
 |_,_,_,0,u,.cons r _,e=>by simp at e;subst e;exact⟨_,_,rfl,r⟩
 |_,_,_,i+1,u,.cons _ rs,e=>by
  obtain⟨d,bs,h1,h2⟩:=zby rs (by simpa using e)
  exact⟨d,bs,by simpa using h1,h2⟩
open Classical in
noncomputable def eqOf(us:List Value)(ds:List PyData)(d:PyData)(u:Value):Bool:=decide (∃(i:Nat) (e:PyData),us[i]?=some u/\ds[i]?=some e/\PyData.eqv e d=true)
open Classical in
theorem zdx{us:List Value}{ds:List PyData}{d:PyData}{u:Value}:eqOf us ds d u=true↔∃(i:Nat) (e:PyData),us[i]?=some u/\ds[i]?=some e/\PyData.eqv e d=true:=by
 unfold eqOf
 exact decide_eq_true_iff
theorem zdy{us:List Value}{ds:List PyData}{d:PyData}(hl:us.length=ds.length):us.any (eqOf us ds d)=anyEq ds d:=by
 cases q:anyEq ds d with
 |true=>
  unfold anyEq at q
  rw[List.any_eq_true]at q
  obtain⟨e,h1,h2⟩:=q
  obtain⟨i,hi,h3⟩:=List.mem_iff_getElem.mp h1
  rw[List.any_eq_true]
  refine⟨us[i]'(by omega),vdr _,?_⟩
  rw[zdx]
  exact⟨i,e,by simp,by rw[vaq hi,h3],h2⟩
 |false=>
  unfold anyEq at q
  rw[List.any_eq_false]at q ⊢
  intro u hu z
  rw[zdx]at z
  obtain⟨i,e,h1,h2,h3⟩:=z
  exact q e (vcn h2) h3
theorem zbz{h:Heap}:∀{us:List Value} {ds:List PyData} {as:List Addr},ReadsAll h us ds as->us.length=ds.length
 |_,_,_,.nil=>rfl
 |_,_,_,.cons _ r=>by rw[vai,vai,zbz r]
theorem zf4{A:Around}{s:Shared}{us:List Value}{ds:List PyData}{as bs:List Addr}{d:PyData}{v:Value}(hu:A.units+64<cLine)(ra:ReadsAll s.heap us ds as)(rb:Reads s.heap v d bs)(s1:ds.all SeqAt.shaped=true)(s2:SeqAt.shaped d=true) :
 ∀u∈us,SeqAt.EqAt A s u v (eqOf us ds d u):=by
 intro u hm
 have sh:∀(i:Nat)(e:PyData),ds[i]?=some e->SeqAt.shaped e=true:=λi e q=>vbp.mp s1 e (vcn q)
 cases q:eqOf us ds d u with
 |true=>
  rw[zdx]at q
  obtain⟨i,e,h1,h2,h3⟩:=q
  obtain⟨e',cs,h4,h5⟩:=zby ra h1
  rw[h2]at h4;cases h4
  have:=SeqAt.eqAt_reads e d A s u v cs bs h5 rb (vdv (sh i e h2)) (vdv s2) (SeqAt.room_of_shaped (sh i e h2) hu)
  rw[h3]at this;exact this
 |false=>
  obtain⟨i,hi,h1⟩:=List.mem_iff_getElem.mp hm
  have h1:us[i]?=some u:=by rw[vaq hi,h1]
  obtain⟨e,cs,h4,h5⟩:=zby ra h1
  have h3:PyData.eqv e d=false:=by
   cases z:PyData.eqv e d with
   |false=>rfl
   |true=>
    rw[zdx.mpr ⟨i,e,h1,h4,z⟩]at q
    cases q
  have:=SeqAt.eqAt_reads e d A s u v cs bs h5 rb (vdv (sh i e h4)) (vdv s2) (SeqAt.room_of_shaped (sh i e h4) hu)
  rw[h3]at this;exact this
theorem zvv(hu:X.A.in1.units+64<cLine):OpR X (compareOp .In) (rInD X.K false):=by
 intro pins s σ H x y v u Q I rx ry h
 obtain⟨p,xs,ds,d,rfl,hq,r1,r2,s1,s2,q⟩:=h
 cases ry
 obtain⟨bs,rb⟩:=r2.reads I rx
 rcases hq with hq|hq
 .obtain⟨its,r,pl,hz⟩:=I.list hq
  obtain⟨as,ra⟩:=r1.reads I r
  refine SeqAt.in_listAt (eqOf its ds d) pl.isList (λw hw=>zf4 hu ra rb s1 s2 w (by simpa using hw)) ⟨.bl _,H,I,rfl,?_⟩
  rw[show its.toArray.any (eqOf its ds d)=its.any (eqOf its ds d) by simp,zdy (zbz ra)]
  exact q
 .obtain⟨its,r,pl,hz⟩:=I.tuple hq
  obtain⟨as,ra⟩:=r1.reads I r
  refine SeqAt.in_tupleAt (eqOf its ds d) pl (λw hw=>zf4 hu ra rb s1 s2 w (by simpa using hw)) ⟨.bl _,H,I,rfl,?_⟩
  rw[show its.toArray.any (eqOf its ds d)=its.any (eqOf its ds d) by simp,zdy (zbz ra)]
  exact q
theorem zmb(hu:X.A.in1.units+64<cLine):OpR X (compareOp .NotIn) (rInD X.K true):=by
 intro pins s σ H x y v u Q I rx ry h
 obtain⟨p,xs,ds,d,rfl,hq,r1,r2,s1,s2,q⟩:=h
 cases ry
 obtain⟨bs,rb⟩:=r2.reads I rx
 rcases hq with hq|hq
 .obtain⟨its,r,pl,hz⟩:=I.list hq
  obtain⟨as,ra⟩:=r1.reads I r
  refine SeqAt.notIn_listAt (eqOf its ds d) pl.isList (λw hw=>zf4 hu ra rb s1 s2 w (by simpa using hw)) ⟨.bl _,H,I,rfl,?_⟩
  rw[show its.toArray.any (eqOf its ds d)=its.any (eqOf its ds d) by simp,zdy (zbz ra)]
  exact q
 .obtain⟨its,r,pl,hz⟩:=I.tuple hq
  obtain⟨as,ra⟩:=r1.reads I r
  refine SeqAt.notIn_tupleAt (eqOf its ds d) pl (λw hw=>zf4 hu ra rb s1 s2 w (by simpa using hw)) ⟨.bl _,H,I,rfl,?_⟩
  rw[show its.toArray.any (eqOf its ds d)=its.any (eqOf its ds d) by simp,zdy (zbz ra)]
  exact q
end
end L2
namespace HT
open PySem PySem.Spec PyProof.Rows
section
variable{prog:Program}{w:World}{A:Around}{E:Value->Shared->Prop}{s:Shared}
theorem getItem_tuple_whole{t sl:Addr}{items:Array Value}{vl vu:Value}{lo hi:Option Int}{Q:Value->Shared->Prop}(ht:IsTup s.heap t items)(hs:s.heap.IsSliceOf sl vl vu .none)(pl:IsPart vl lo)(pu:IsPart vu hi)
 (hw:sIx items.size 0 lo=0/\sIx items.size items.size hi=items.size)
 (h:Q (.ref t) s):wpAny (model prog w) A (getItem (.ref t) (.ref sl)) Q E s:=by
 obtain⟨os,hos,hcs,hds⟩:=id hs
 have hTs:s.TypeIs (.ref sl) "slice":=⟨os,hos,hcs⟩
 unfold getItem
 try with_reducible refine vc3 ?_
 first|refine vaa (vaf ?_)|skip
 refine vaa (wpAny_sequenceKey ht.typeIs (by decide) ?_)
 refine vaa (vbg (name:=Str.ofString "__getitem__") ht.typeIs vbz
  (vbo vbz ht.typeIs entry_tuple_getitem ?_ (args_tuple_getitem _ _)))
 show wpAny _ _ (Builtin.Tuple.tupleItemsOf (.ref t) >>= _) _ _ s
 refine vaa (tupleItemsOf_ ht ?_)
 refine vaa (vfj hTs ?_)
 rw[if_pos (by decide)]
 refine vaa (zbt hs pl pu ?_)
 have hyes:((((sIx items.size 0 lo:Nat):Int)==0&& (1:Int)==1&& (sIx items.size items.size hi-sIx items.size 0 lo)==items.size)=true):=by
  rw[hw.1,hw.2];simp
 show wpAny _ _ (if(((sIx items.size 0 lo:Nat):Int)==0&& (1:Int)==1&& (sIx items.size items.size hi-sIx items.size 0 lo)==items.size)=true then _ else _) _ _ s
 rw[if_pos hyes]
 unfold Builtin.Tuple.tupleIsExact
 refine vaa (vaa (vfj ht.typeIs (vaf ?_)))
 rw[if_pos (by decide)]
 refine vaa (veu ?_)
 exact vaf ⟨_,rfl,vaf h⟩
end
end HT
namespace L2
open PySem PySem.Spec PyProof.Rows
variable{X:Cx}
noncomputable def rSlW(K:PySem.W.Frag):V->Option Int->Option Int->Hp->VK->Prop:=λx lo hi H Q=>∃a xs,x=.ref a/\SqT K H a xs/\
 (HT.sIx xs.length 0 lo=0/\HT.sIx xs.length xs.length hi=xs.length)/\Q (.ref a) H
theorem zsz:SlR X (rSlW X.K):=by
 intro pins s σ H x v vl vu lo hi sl Q I rx hs pl pu h
 obtain⟨a,xs,rfl,hx,hw,q⟩:=h
 cases rx
 obtain⟨its,r,ht,hz⟩:=I.tuple hx
 have hlen:its.toArray.size=xs.length:=by rw[vah];exact r.length.symm
 refine⟨"tuple",_,vbz.lookup,ht.typeIs,?_⟩
 refine HT.getItem_tuple_whole ht hs pl pu (by rw[hlen];exact hw) ?_
 exact⟨.ref a,_,I,rfl,q⟩
noncomputable def rSlA(K:PySem.W.Frag):V->Option Int->Option Int->Hp->VK->Prop:=λx lo hi H Q=>(rSlT K x lo hi H Q\/rSlW K x lo hi H Q)\/rSlL K x lo hi H Q
theorem zvw:SlR X (rSlA X.K):=(zvk.or zsz).or zsq
noncomputable def ZI(b:Bool)(h:Heap)(I l:Addr)(k:Nat):Prop:=match b with|true=>h.IsTupleIter I l k|false=>h.IsListIter I l k
noncomputable def ZS(b:Bool)(h:Heap)(l:Addr)(xs:Array Value):Prop:=match b with|true=>h.IsTuple l xs|false=>h.IsList l xs
noncomputable def zName(b:Bool):String:=match b with|true=>"tuple_iterator" |false=>"list_iterator"
noncomputable def zIt(b:Bool)(l:Addr):Obj:={cls:=.type (zName b),data:=.fields #[.ref l,.int 0 0]}
theorem ZI.ex{b:Bool}{h h':Heap}{I l c:Addr}{k:Nat}(x:ZI b h I l k)(s:Heap.ExtBut c h h')(n:I≠c):ZI b h' I l k:=by
 cases b
 .exact Heap.IsListIter.extBut x s n
 .exact Heap.IsTupleIter.extBut x s n
theorem ZS.ex{b:Bool}{h h':Heap}{l c:Addr}{xs:Array Value}(x:ZS b h l xs)(s:Heap.ExtBut c h h')(n:l≠c):ZS b h' l xs:=by
 cases b
 .exact Heap.IsList.extBut x s n
 .exact Heap.IsTuple.extBut x s n
theorem ZI.mv{b:Bool}{h h':Heap}{I l:Addr}{k:Nat}(x:ZI b h I l k)(e:∀o,h.get? I=some o->h'.get? I=some o):ZI b h' I l k:=by
 cases b
 .exact Heap.IsListIter.at x e
 .exact Heap.IsTupleIter.at x e
theorem ZI.ob{b:Bool}{h:Heap}{I l:Addr}{k:Nat}(x:ZI b h I l k):∃o,h.get? I=some o/\∀v,o.data≠.cell v:=by
 cases b
 .obtain⟨o,h1,h2,h3⟩:=x;exact⟨o,h1,λv z=>by rw[h3]at z;cases z⟩
 .obtain⟨o,h1,h2,h3⟩:=x;exact⟨o,h1,λv z=>by rw[h3]at z;cases z⟩
theorem ZS.lt{b:Bool}{h:Heap}{l:Addr}{xs:Array Value}(x:ZS b h l xs):l<h.objs.size:=by
 cases b<;> (obtain⟨o,h1,_⟩:=x;exact vav h1)
theorem ZS.push{b:Bool}{h:Heap}{l:Addr}{xs:Array Value}(x:ZS b h l xs)(o:Obj):ZS b (h.push o) l xs:=by
 cases b
 .exact Heap.IsList.push x o
 .exact Heap.IsTuple.push x o
section
variable{prog:Program}{w:World}{A:Around}{E:Value->Shared->Prop}{s:Shared}
theorem zmc{b:Bool}{I l:Addr}{k:Nat}{xs:Array Value}{y:Value}{Q:Value->Shared->Prop}(hi:ZI b s.heap I l k)(hl:ZS b s.heap l xs)(hy:xs[k]?=some y)
 (q:∀g,ZI b g I l (k+1)->Heap.SameBut I s.heap g->Q y {s with heap:=g}):wpAny (model prog w) A (Builtin.SmallTypes.nextOf (.ref I)) Q E s:=by
 cases b
 .exact wpAny_nextOf_list_item hi hl hy q
 .exact ze9 hi hl hy q
theorem z_end{b:Bool}{I l:Addr}{k:Nat}{xs:Array Value}{Q:Value->Shared->Prop}(hA:A.handled=none)(hi:ZI b s.heap I l k)(hl:ZS b s.heap l xs)(hy:xs[k]?=none)
 (q:∀g e,Heap.ExtBut I s.heap g->(∃o,g.get? e=some o/\o.cls=.type "StopIteration")->E (.ref e) {s with heap:=g}):wpAny (model prog w) A (Builtin.SmallTypes.nextOf (.ref I)) Q E s:=by
 cases b
 .exact wpAny_nextOf_list_end hA hi hl hy q
 .exact zei hA hi hl hy q
structure ZA(z TI TO i1 i2 l1 l2:Addr):Prop where
 a1:TI≠z/\TO≠z/\i1≠z/\i2≠z
 a2:TI≠TO/\TI≠i1/\TI≠i2/\TO≠i1/\TO≠i2/\i1≠i2
 a3:l1≠z/\l1≠TO/\l1≠i1/\l1≠i2
 a4:l2≠z/\l2≠TO/\l2≠i1/\l2≠i2
theorem zvx{n l1 l2:Nat}(h1:l1<n)(h2:l2<n):ZA (n+4) (n+2) (n+3) n (n+1) l1 l2:=by
 have e:∀{a b:Nat},(a<b\/b<a)->a≠b:=λh=>h.elim va5 vdy
 refine⟨⟨?_,?_,?_,?_⟩,⟨?_,?_,?_,?_,?_,?_⟩,⟨?_,?_,?_,?_⟩,?_,?_,?_,?_⟩<;>exact e (by omega)
theorem zs0{b c:Bool}{z TI TO i1 i2 l1 l2:Addr}{k:Nat}{xs ys:Array Value}{x y p q:Value}{Q:Value->Shared->Prop}(D:ZA z TI TO i1 i2 l1 l2)
 (hz:IsZip s.heap z TI TO .none) (hTI:IsPair s.heap TI (.ref i1) (.ref i2)) (hTO:IsPair s.heap TO p q)
 (h1:ZI b s.heap i1 l1 k) (h2:ZI c s.heap i2 l2 k) (hl1:ZS b s.heap l1 xs) (hl2:ZS c s.heap l2 ys) (hx:xs[k]?=some x) (hy:ys[k]?=some y)
 (hQ:∀h',IsZip h' z TI TO (rawInt s.heap.objs.size)->IsPair h' TO x y->ZI b h' i1 l1 (k+1)->ZI c h' i2 l2 (k+1)->IsPair h' s.heap.objs.size x y->h'.objs.size=s.heap.objs.size+1->
   (∀c o,c≠z->c≠TO->c≠i1->c≠i2->s.heap.get? c=some o->h'.get? c=some o)->Q (.ref s.heap.objs.size) {s with heap:=h'}) :
 wpAny (model prog w) A (Builtin.«zip.__next__» ⟨[.ref z],[]⟩) (λfin s'=>∃v,fin=.done (.ret v)/\Q v s') E s:=by
 obtain⟨⟨d1,d2,d3,d4⟩,⟨d5,d6,d7,d8,d9,d10⟩,⟨d11,d12,d13,d14⟩,d15,d16,d17,d18⟩:=D
 show wpAny _ _ (field (.ref z) 2 >>= _) _ _ _;refine vaa (vb1 hz rfl (x:=.bool false) rfl ?_)
 show wpAny _ _ (field (.ref z) 3 >>= _) _ _ _;refine vaa (vb1 hz rfl (x:=.ref TI) rfl (vaa (vct hTI rfl ?_)))
 show wpAny _ _ (Builtin.SmallTypes.ownedTupleIsFree (.ref z) >>= _) _ _ _;refine vaa ?_;unfold Builtin.SmallTypes.ownedTupleIsFree
 refine vaa (vb1 hz rfl (x:=.none) rfl (vaf ?_));simp only[vbe]
 refine vaa (veu (vaa (vb1 hz rfl (x:=.ref TO) rfl (vaa (vdb hz (by simp) λg1 z1 s1=>?_)))))
 replace z1:IsZip g1 z TI TO .ellipsis:=z1
 refine vaa ?_;simp only[List.zipIdx_cons,List.zipIdx_nil,vd0,vdu]
 refine vaa (vaa (vfp ?_));show wpAny _ _ (Builtin.SmallTypes.nextOf (.ref i1) >>= _) _ _ _
 refine vaa (zmc (h1.ex s1.extBut d3) (hl1.ex s1.extBut d11) hx λg2 y1 s2=>vaf ?_)
 have t2:IsPair g2 TO p q:=s2.extBut _ _ d8 (s1.extBut _ _ d2 hTO)
 refine vaa (vct t2 rfl (vaa (wpAny_updateSeq_pair t2 λg3 t3 s3=>?_)))
 replace t3:IsPair g3 TO x q:=t3
 refine vaa (wpAny_letGo (vaf (vaa (vaa (vfp ?_)))));show wpAny _ _ (Builtin.SmallTypes.nextOf (.ref i2) >>= _) _ _ _
 refine vaa (zmc (((h2.ex s1.extBut d4).ex s2.extBut (vck d10)).ex s3.extBut (vck d9)) (((hl2.ex s1.extBut d15).ex s2.extBut d17).ex s3.extBut d16) hy λg4 y2 s4=>vaf ?_)
 have t4:IsPair g4 TO x q:=s4.extBut _ _ d9 t3
 refine vaa (vct t4 rfl (vaa (wpAny_updateSeq_pair t4 λg5 t5 s5=>?_)))
 replace t5:IsPair g5 TO x y:=t5
 refine vaa (wpAny_letGo (vaf (vaf (vaa (vct t5 rfl (vaa (wpAny_newTuple ?_)))))))
 have hsz:g5.objs.size=s.heap.objs.size:=by rw[s5.1,s4.1,s3.1,s2.1,s1.1]
 have z5:IsZip g5 z TI TO .ellipsis:=s5.extBut _ _ (vck d2) (s4.extBut _ _ (vck d4) (s3.extBut _ _ (vck d2) (s2.extBut _ _ (vck d3) z1)))
 have k5:∀c o,c≠z->c≠TO->c≠i1->c≠i2->s.heap.get? c=some o->g5.get? c=some o:=λc o c1 c2 c3 c4 e=>s5.extBut _ _ c2 (s4.extBut _ _ c4 (s3.extBut _ _ c2 (s2.extBut _ _ c3 (s1.extBut _ _ c1 e))))
 have i15:ZI b g5 i1 l1 (k+1):=((y1.ex s3.extBut (vck d8)).ex s4.extBut d10).ex s5.extBut (vck d8)
 have i25:ZI c g5 i2 l2 (k+1):=y2.ex s5.extBut (vck d9)
 have zlt:z<g5.objs.size:=vav z5
 show wpAny _ _ (Builtin.SmallTypes.ownedTupleHandOut (.ref z) (.ref g5.objs.size) >>= _) _ _ _;refine vaa ?_;unfold Builtin.SmallTypes.ownedTupleHandOut
 have z6:IsZip (g5.push {cls:=.type "tuple",data:=.seq #[x,y]}) z TI TO .ellipsis:=vac _ z5
 refine vaa (vdb z6 (by simp) λg7 z7 s7=>?_)
 replace z7:IsZip g7 z TI TO (rawInt g5.objs.size):=z7
 refine vdb z7 (by simp) λg8 z8 s8=>?_
 replace z8:IsZip g8 z TI TO (rawInt g5.objs.size):=z8
 have up:∀c o,c≠z->g5.get? c=some o->g8.get? c=some o:=λc o c1 e=>s8.extBut _ _ c1 (s7.extBut _ _ c1 (vac _ e))
 have p8:IsPair g8 g5.objs.size x y:=s8.extBut _ _ (vdy zlt) (s7.extBut _ _ (vdy zlt) (vas _ rfl))
 have n8:g8.objs.size=g5.objs.size+1:=by rw[s8.1,s7.1,vc4]
 rw[hsz]at z8 p8 n8
 refine vaf ⟨_,rfl,?_⟩;show Q (.ref g5.objs.size) _;rw[hsz]
 exact hQ g8 z8 (up _ _ d2 t5) (i15.mv λo e=>up _ o d3 e) (i25.mv λo e=>up _ o d4 e) p8 n8 λc o c1 c2 c3 c4 e=>up c o c1 (k5 c o c1 c2 c3 c4 e)
theorem zvy{b c:Bool}{z TI TO i1 i2 l1 l2:Addr}{k:Nat}{xs ys:Array Value}{p q:Value}{Q:Fin->Shared->Prop}(hA:A.handled=none)(D:ZA z TI TO i1 i2 l1 l2)
 (hz:IsZip s.heap z TI TO .none) (hTI:IsPair s.heap TI (.ref i1) (.ref i2)) (hTO:IsPair s.heap TO p q)
 (h1:ZI b s.heap i1 l1 k) (h2:ZI c s.heap i2 l2 k) (hl1:ZS b s.heap l1 xs) (hl2:ZS c s.heap l2 ys) (he:xs[k]?=none\/ys[k]?=none)
 (hE:∀h' e,(∀c o,c≠z->c≠TO->c≠i1->c≠i2->s.heap.get? c=some o->h'.get? c=some o)->(∃o,h'.get? e=some o/\o.cls=.type "StopIteration")->E (.ref e) {s with heap:=h'}) :
 wpAny (model prog w) A (Builtin.«zip.__next__» ⟨[.ref z],[]⟩) Q E s:=by
 obtain⟨⟨d1,d2,d3,d4⟩,⟨d5,d6,d7,d8,d9,d10⟩,⟨d11,d12,d13,d14⟩,d15,d16,d17,d18⟩:=D
 show wpAny _ _ (field (.ref z) 2 >>= _) _ _ _;refine vaa (vb1 hz rfl (x:=.bool false) rfl ?_)
 show wpAny _ _ (field (.ref z) 3 >>= _) _ _ _;refine vaa (vb1 hz rfl (x:=.ref TI) rfl (vaa (vct hTI rfl ?_)))
 show wpAny _ _ (Builtin.SmallTypes.ownedTupleIsFree (.ref z) >>= _) _ _ _;refine vaa ?_;unfold Builtin.SmallTypes.ownedTupleIsFree
 refine vaa (vb1 hz rfl (x:=.none) rfl (vaf ?_));simp only[vbe]
 refine vaa (veu (vaa (vb1 hz rfl (x:=.ref TO) rfl (vaa (vdb hz (by simp) λg1 z1 s1=>?_)))))
 replace z1:IsZip g1 z TI TO .ellipsis:=z1
 refine vaa ?_;simp only[List.zipIdx_cons,List.zipIdx_nil,vd0,vdu]
 refine vaa (vaa (vfp ?_));show wpAny _ _ (Builtin.SmallTypes.nextOf (.ref i1) >>= _) _ _ _
 cases hx:xs[k]? with
 |none=>
  refine vaa (z_end hA (h1.ex s1.extBut d3) (hl1.ex s1.extBut d11) hx λg2 e s2 hs=>?_)
  obtain⟨oe,hoe,hce⟩:=hs
  have z2:IsZip g2 z TI TO .ellipsis:=s2 _ _ (vck d3) z1
  have nez:e≠z:=λx=>by subst x;rw[z2]at hoe;cases hoe;simp at hce
  exact vdb z2 (by simp) λg3 _ s3=>hE g3 e (λc o c1 _ c3 _ x=>s3.extBut _ _ c1 (s2 _ _ c3 (s1.extBut _ _ c1 x))) ⟨oe,s3.extBut _ _ nez hoe,hce⟩
 |some x=>
  have hy:ys[k]?=none:=by rcases he with h|h;rw[hx]at h;cases h;exact h
  refine vaa (zmc (h1.ex s1.extBut d3) (hl1.ex s1.extBut d11) hx λg2 y1 s2=>vaf ?_)
  have t2:IsPair g2 TO p q:=s2.extBut _ _ d8 (s1.extBut _ _ d2 hTO)
  refine vaa (vct t2 rfl (vaa (wpAny_updateSeq_pair t2 λg3 t3 s3=>?_)))
  refine vaa (wpAny_letGo (vaf (vaa (vaa (vfp ?_)))));show wpAny _ _ (Builtin.SmallTypes.nextOf (.ref i2) >>= _) _ _ _
  refine vaa (z_end hA (((h2.ex s1.extBut d4).ex s2.extBut (vck d10)).ex s3.extBut (vck d9)) (((hl2.ex s1.extBut d15).ex s2.extBut d17).ex s3.extBut d16) hy λg4 e s4 hs=>?_)
  obtain⟨oe,hoe,hce⟩:=hs
  have z4:IsZip g4 z TI TO .ellipsis:=s4 _ _ (vck d4) (s3.extBut _ _ (vck d2) (s2.extBut _ _ (vck d3) z1))
  have nez:e≠z:=λx=>by subst x;rw[z4]at hoe;cases hoe;simp at hce
  exact vdb z4 (by simp) λg5 _ s5=>hE g5 e (λc o c1 c2 c3 c4 x=>s5.extBut _ _ c1 (s4 _ _ c4 (s3.extBut _ _ c2 (s2.extBut _ _ c3 (s1.extBut _ _ c1 x))))) ⟨oe,s5.extBut _ _ nez hoe,hce⟩
theorem zs1{b c:Bool}{z TI TO i1 i2 l1 l2:Addr}{k:Nat}{xs ys:Array Value}{x y p q:Value}{Q:Option Value->Shared->Prop}(D:ZA z TI TO i1 i2 l1 l2)
 (hz:IsZip s.heap z TI TO .none) (hTI:IsPair s.heap TI (.ref i1) (.ref i2)) (hTO:IsPair s.heap TO p q)
 (h1:ZI b s.heap i1 l1 k) (h2:ZI c s.heap i2 l2 k) (hl1:ZS b s.heap l1 xs) (hl2:ZS c s.heap l2 ys) (hx:xs[k]?=some x) (hy:ys[k]?=some y)
 (hQ:∀h',IsZip h' z TI TO (rawInt s.heap.objs.size)->IsPair h' TO x y->ZI b h' i1 l1 (k+1)->ZI c h' i2 l2 (k+1)->IsPair h' s.heap.objs.size x y->h'.objs.size=s.heap.objs.size+1->
   (∀c o,c≠z->c≠TO->c≠i1->c≠i2->s.heap.get? c=some o->h'.get? c=some o)->Q (some (.ref s.heap.objs.size)) {s with heap:=h'}):wpAny (model prog w) A (pyNext (.ref z)) Q E s:=by
 have hT:s.TypeIs (.ref z) "zip":=⟨_,hz,rfl⟩
 unfold pyNext
 exact vaa (vem (vbg (name:=Str.ofString "__next__") hT vfc (vbo vfc hT F.entry_zip_next (zs0 D hz hTI hTO h1 h2 hl1 hl2 hx hy λh' a1 a2 a3 a4 a5 a6 a7=>vaf (hQ h' a1 a2 a3 a4 a5 a6 a7)) (F.args_zip_next_1 _))))
theorem zvz{b c:Bool}{z TI TO i1 i2 l1 l2:Addr}{k:Nat}{xs ys:Array Value}{p q:Value}{Q:Option Value->Shared->Prop}(hA:A.in1.handled=none)(D:ZA z TI TO i1 i2 l1 l2)
 (hz:IsZip s.heap z TI TO .none) (hTI:IsPair s.heap TI (.ref i1) (.ref i2)) (hTO:IsPair s.heap TO p q)
 (h1:ZI b s.heap i1 l1 k) (h2:ZI c s.heap i2 l2 k) (hl1:ZS b s.heap l1 xs) (hl2:ZS c s.heap l2 ys) (he:xs[k]?=none\/ys[k]?=none)
 (hQ:∀h',(∀c o,c≠z->c≠TO->c≠i1->c≠i2->s.heap.get? c=some o->h'.get? c=some o)->Q none {s with heap:=h'}):wpAny (model prog w) A (pyNext (.ref z)) Q E s:=by
 have hT:s.TypeIs (.ref z) "zip":=⟨_,hz,rfl⟩
 unfold pyNext
 refine vaa (vem (vbg (name:=Str.ofString "__next__") hT vfc (vbo vfc hT F.entry_zip_next (zvy hA D hz hTI hTO h1 h2 hl1 hl2 he λh' e hk hs=>?_) (F.args_zip_next_1 _))))
 obtain⟨o,ho,hc⟩:=hs
 exact vaa (vc8 (T:="StopIteration") (b:=true) ⟨o,ho,hc⟩ isSubtype_stop (vaf (hQ _ hk)))
noncomputable def zh1(h:Heap)(b:Bool)(l1:Addr):Heap:=h.push (zIt b l1)
noncomputable def zh2(h:Heap)(b c:Bool)(l1 l2:Addr):Heap:=(zh1 h b l1).push (zIt c l2)
noncomputable def zh3(h:Heap)(b c:Bool)(l1 l2:Addr):Heap:=(zh2 h b c l1 l2).push {cls:=.type "tuple",data:=.seq #[.ref h.objs.size,.ref (zh1 h b l1).objs.size]}
noncomputable def zh4(h:Heap)(b c:Bool)(l1 l2:Addr):Heap:=(zh3 h b c l1 l2).push {cls:=.type "tuple",data:=.seq #[.none,.none]}
noncomputable def zh5(h:Heap)(b c:Bool)(l1 l2:Addr):Heap:=(zh4 h b c l1 l2).push {cls:=.type "zip",data:=.fields #[.none,.bool false,.bool false,.ref (zh2 h b c l1 l2).objs.size,.ref (zh3 h b c l1 l2).objs.size]}
theorem zpl(b c:Bool)(l1 l2:Addr)(xs ys:Array Value):Meets (Builtin.«zip.__new__» ⟨[.type "zip",.ref l1,.ref l2],[]⟩) (λ_ R s=>ZS b s.heap l1 xs/\ZS c s.heap l2 ys/\
 R (.ok (.ret (.ref (zh4 s.heap b c l1 l2).objs.size))) {s with heap:=zh5 s.heap b c l1 l2}):=
 .of_wp λprog w A R s h=>by
  obtain⟨hp,g,d,tk,os⟩:=s;obtain⟨m1,m2,h⟩:=h
  have hsub:=sub_zip
  have e1:ZS b (Shared.heap ⟨hp,g,d,tk,os⟩) l1 xs:=m1
  have e2:ZS c (Shared.heap ⟨hp.push (zIt b l1),g,d,tk,os⟩) l2 ys:=m2.push _
  cases b<;>cases c
  .have q1:Heap.IsList (Shared.heap ⟨hp,g,d,tk,os⟩) l1 xs:=e1
   have q2:Heap.IsList (Shared.heap ⟨hp.push {cls:=.type "list_iterator",data:=.fields #[.ref l1,.int 0 0]},g,d,tk,os⟩) l2 ys:=e2
   wp_walk using vdl q1,vdl q2
   exact⟨_,rfl,h⟩
  .have q1:Heap.IsList (Shared.heap ⟨hp,g,d,tk,os⟩) l1 xs:=e1
   have q2:Heap.IsTuple (Shared.heap ⟨hp.push {cls:=.type "list_iterator",data:=.fields #[.ref l1,.int 0 0]},g,d,tk,os⟩) l2 ys:=e2
   wp_walk using vdl q1,vcy q2
   exact⟨_,rfl,h⟩
  .have q1:Heap.IsTuple (Shared.heap ⟨hp,g,d,tk,os⟩) l1 xs:=e1
   have q2:Heap.IsList (Shared.heap ⟨hp.push {cls:=.type "tuple_iterator",data:=.fields #[.ref l1,.int 0 0]},g,d,tk,os⟩) l2 ys:=e2
   wp_walk using vcy q1,vdl q2
   exact⟨_,rfl,h⟩
  .have q1:Heap.IsTuple (Shared.heap ⟨hp,g,d,tk,os⟩) l1 xs:=e1
   have q2:Heap.IsTuple (Shared.heap ⟨hp.push {cls:=.type "tuple_iterator",data:=.fields #[.ref l1,.int 0 0]},g,d,tk,os⟩) l2 ys:=e2
   wp_walk using vcy q1,vcy q2
   exact⟨_,rfl,h⟩
theorem zq6{b:Bool}{h:Heap}{l:Addr}{a:Addr}(e:h.get? a=some (zIt b l)):ZI b h a l 0:=by
 cases b<;>exact⟨_,e,rfl,rfl⟩
theorem zs2{b c:Bool}{l1 l2:Addr}{xs ys:Array Value}{Q:Value->Shared->Prop}(m1:ZS b s.heap l1 xs)(m2:ZS c s.heap l2 ys)
 (h:∀h',IsZip h' (s.heap.objs.size+4) (s.heap.objs.size+2) (s.heap.objs.size+3) .none->IsPair h' (s.heap.objs.size+2) (.ref s.heap.objs.size) (.ref (s.heap.objs.size+1))->
   IsPair h' (s.heap.objs.size+3) .none .none->ZI b h' s.heap.objs.size l1 0->ZI c h' (s.heap.objs.size+1) l2 0->h'.objs.size=s.heap.objs.size+5->
   (∀c o,s.heap.get? c=some o->h'.get? c=some o)->Q (.ref (s.heap.objs.size+4)) {s with heap:=h'}):wpAny (model prog w) A (call (.type "zip") [.ref l1,.ref l2]) Q E s:=by
 refine callType_new F.called_zip (by decide) (F.typeCall_zip_2 _ _) (F.newCall_zip_2 _ _) (λobj=>F.args_object_init_3 obj _ _) F.entry_zip_new (zpl b c l1 l2 xs ys) ⟨m1,m2,?_⟩
 have n1:(zh1 s.heap b l1).objs.size=s.heap.objs.size+1:=vc4 ..
 have n2:(zh2 s.heap b c l1 l2).objs.size=s.heap.objs.size+2:=by unfold zh2;rw[vc4,n1]
 have n3:(zh3 s.heap b c l1 l2).objs.size=s.heap.objs.size+3:=by unfold zh3;rw[vc4,n2]
 have n4:(zh4 s.heap b c l1 l2).objs.size=s.heap.objs.size+4:=by unfold zh4;rw[vc4,n3]
 have n5:(zh5 s.heap b c l1 l2).objs.size=s.heap.objs.size+5:=by unfold zh5;rw[vc4,n4]
 have g5:(zh5 s.heap b c l1 l2).get? (zh4 s.heap b c l1 l2).objs.size=some _:=vas _ rfl
 have g4:(zh5 s.heap b c l1 l2).get? (zh3 s.heap b c l1 l2).objs.size=some _:=vac _ (vas _ rfl)
 have g3:(zh5 s.heap b c l1 l2).get? (zh2 s.heap b c l1 l2).objs.size=some _:=vac _ (vac _ (vas _ rfl))
 have g2:(zh5 s.heap b c l1 l2).get? (zh1 s.heap b l1).objs.size=some _:=vac _ (vac _ (vac _ (vas _ rfl)))
 have g1:(zh5 s.heap b c l1 l2).get? s.heap.objs.size=some _:=vac _ (vac _ (vac _ (vac _ (vas _ rfl))))
 show _/\_
 rw[n2,n3,n4]at g5
 rw[n1,n2]at g3
 rw[n3]at g4
 rw[n1]at g2
 rw[n4]
 exact⟨⟨_,g5,rfl⟩,h _ g5 g3 g4 (zq6 g1) (zq6 g2) n5 λc o x=>vac _ (vac _ (vac _ (vac _ (vac _ x))))⟩
end
noncomputable def SqB(b:Bool)(K:PySem.W.Frag)(H:Hp)(a:Addr)(xs:List V):Prop:=match b with|true=>SqT K H a xs|false=>SqL K H a xs
theorem zfb{b:Bool}{X:Cx}{pins:List (Addr×Obj)}{σ:St}{H:Hp}{s:Shared}{a:Addr}{xs:List V}(I:Inv X pins σ H s)(h:SqB b X.K H a xs):∃its:List Value,Vals xs its/\ZS b s.heap a its.toArray/\xs.length<=sizeLine:=by
 cases b
 .obtain⟨its,r,p,z⟩:=I.list h
  exact⟨its,r,p.isList,z⟩
 .exact I.tuple h
theorem zmd{b:Bool}{X:Cx}{pins:List (Addr×Obj)}{σ:St}{H:Hp}{s:Shared}{a:Addr}{xs ys:List V}(I:Inv X pins σ H s)(h:SqB b X.K H a xs)(h':SqB b X.K H a ys):xs=ys:=by
 cases b
 .exact I.list_inj h h'
 .exact I.tuple_inj h h'
noncomputable def IteZ(K:PySem.W.Frag)(b c:Bool)(a1 a2:Addr):It:=
 ⟨λi H=>∃xs ys x y,SqB b K H a1 xs/\SqB c K H a2 ys/\xs[i]?=some x/\ys[i]?=some y,
  λi H v H'=>∃T x y,v=.ref T/\H T=none/\H'=upd H T (.tup [x,y])/\(∀xs,SqB b K H a1 xs->xs[i]?=some x)/\∀ys,SqB c K H a2 ys->ys[i]?=some y,
  λi H=>∃xs ys,SqB b K H a1 xs/\SqB c K H a2 ys/\(xs.length<=i\/ys.length<=i)⟩
theorem Inv.turnedZ{X:Cx}{pins:List (Addr×Obj)}{σ:St}{H:Hp}{s:Shared}{h2:Heap}{t':Nat}{fp:List Addr}(I:Inv X pins σ H s)(hf:∀b∈fp,FpOk X pins H b)(kk:∀b o,b∉fp->s.heap.get? b=some o->h2.get? b=some o) :
 Inv X pins σ H {s with heap:=h2,toks:=t'}:=by
 have f0:=λb hb=>(hf b hb).1
 have nE:∀b o,H b=some o->b∉fp:=λb o q z=>by rw[f0 b z]at q;cases q
 refine I.step (g':=s.gens) (d':=s.drawn) (ch:=fp) (λb hb=>?_) (λb o _ _ hc e1 _=>kk b o hc e1) (λb o _ _ hc e1 _=>⟨o.slots,kk b o hc e1⟩) (λ_ _ _ _ n=>n) (λb o hc e1=>⟨o,kk b o hc e1⟩)
  (λ_ _ q=>q) (λ_ _ _ q=>q) (λb ps q=>⟨#[],by rw[q];simp⟩) (λm hm=>?_) (λb ob q=>?_) I.bare
 .obtain⟨_,a1,a2,a3,a4,a5⟩:=hf b hb
  exact⟨a3,a1,a4,a5⟩
 .obtain⟨o,es,ep,ho',r⟩:=hm
  exact⟨o,es,ep,kk _ o (λz=>(hf _ z).2.1 rfl) ho',r⟩
 .refine(I.hok b ob q).stay (λc v hc z=>kk c v ?_ z) (λ_ z=>z) λ_ _ z=>z
  rcases hc with rfl|hc
  .exact nE c ob q
  .exact nE c _ hc
theorem Inv.turnedT{X:Cx}{pins:List (Addr×Obj)}{σ:St}{H:Hp}{s:Shared}{h2:Heap}{fp:List Addr}{xs:List V}{us:List Value}(I:Inv X pins σ H s)(hf:∀b∈fp,FpOk X pins H b)(kk:∀b o,b∉fp->s.heap.get? b=some o->h2.get? b=some o)
 (hT:h2.get? s.heap.objs.size=some {cls:=.type "tuple",data:=.seq us.toArray}) (hv:Vals xs us) (hz:xs.length<=sizeLine):Inv X pins σ (upd H s.heap.objs.size (.tup xs)) {s with heap:=h2}:=by
 have hTn:H s.heap.objs.size=none:=I.hok.fresh (vae _)
 have f0:=λb hb=>(hf b hb).1
 have nE:∀b o,H b=some o->b∉fp:=λb o q z=>by rw[f0 b z]at q;cases q
 refine I.step (g':=s.gens) (d':=s.drawn) (ch:=fp) (λb hb=>?_) (λb o _ _ hc e1 _=>kk b o hc e1) (λb o _ _ hc e1 _=>⟨o.slots,kk b o hc e1⟩) (λb o hc e1 n=>by rw[zag (va5 (vav e1))];exact n) (λb o hc e1=>⟨o,kk b o hc e1⟩)
  (λb ys q=>by rw[zag (zaf q hTn)];exact q) (λb o u q=>by rw[zag (zaf q hTn)];exact q) (λb ps q=>⟨#[],by rw[zag (zaf q hTn),q];simp⟩) (λm hm=>?_) (λb ob q=>?_) I.bare
 .obtain⟨_,a1,a2,a3,a4,a5⟩:=hf b hb
  exact⟨a3,a1,a4,a5⟩
 .obtain⟨o,es,ep,ho',r⟩:=hm
  exact⟨o,es,ep,kk _ o (λz=>(hf _ z).2.1 rfl) ho',r⟩
 .by_cases hb:b=s.heap.objs.size
  .subst hb
   rw[zan]at q;cases q
   exact⟨hz,us,hv,⟨_,hT,rfl,⟨_,rfl⟩,rfl⟩⟩
  .rw[zag hb]at q
   refine(I.hok b ob q).stay (λc v hc z=>kk c v ?_ z) (λc z=>by rw[zag (zaf z hTn)];exact z) λc ys z=>by rw[zag (zaf z hTn)];exact z
   rcases hc with rfl|hc
   .exact nE c ob q
   .exact nE c _ hc
theorem zpm{P:Program}{w:World}{K:PySem.W.Frag}{elts:List Expr}{kx:Nat}{tp:Pos}{b c:Bool}(a1 a2 z TI TO i1 i2:Addr)(D:ZA z TI TO i1 i2 a1 a2) :
 Turn P w K (.Tuple elts kx tp) (IteZ K b c a1 a2) [z,TI,TO,i1,i2] z (λi h=>IsZip h z TI TO .none/\IsPair h TI (.ref i1) (.ref i2)/\(∃p q,IsPair h TO p q)/\ZI b h i1 a1 i/\ZI c h i2 a2 i)where
 mem:=by simp
 obj:=λi h st d hd=>by
  obtain⟨hz,hTI,⟨p,q,hTO⟩,h1,h2⟩:=st
  simp only[vaz,vcg,ve7]at hd
  rcases hd with rfl|rfl|rfl|rfl|rfl
  .exact⟨_,hz,λv z=>by
    have z':Data.fields _=Data.cell v:=z
    cases z'⟩
  .exact⟨_,hTI,λv z=>by
    have z':Data.seq _ _=Data.cell v:=z
    cases z'⟩
  .exact⟨_,hTO,λv z=>by
    have z':Data.seq _ _=Data.cell v:=z
    cases z'⟩
  .exact h1.ob
  .exact h2.ob
 keep:=λi h h' st k=>by
  obtain⟨hz,hTI,⟨p,q,hTO⟩,h1,h2⟩:=st
  exact⟨k z (by simp) _ hz,k TI (by simp) _ hTI,⟨p,q,k TO (by simp) _ hTO⟩,h1.mv λo e=>k i1 (by simp) o e,h2.mv λo e=>k i2 (by simp) o e⟩
 item:=by
  intro X hP hw hK hc i pins s σ H E I hf st hg
  subst hP hw hK
  obtain⟨xs,ys,x,y,q1,q2,hx,hy⟩:=hg
  obtain⟨hz,hTI,⟨p,q,hTO⟩,h1,h2⟩:=st
  obtain⟨its,rv,m1,_⟩:=zfb I q1
  obtain⟨jts,rw',m2,_⟩:=zfb I q2
  obtain⟨u,hu,ru⟩:=rv.get hx
  obtain⟨v,hv,rv'⟩:=rw'.get hy
  refine zs1 D hz hTI hTO h1 h2 m1 m2 (x:=u) (y:=v) (by simpa using hu) (by simpa using hv) λg b1 b2 b3 b4 b5 b6 b7=>⟨_,rfl,wpAny_letOwnedTupleGo_zip b1 λg2 c1 c2=>?_⟩
  obtain⟨⟨d1,d2,d3,d4⟩,⟨d5,d6,d7,d8,d9,d10⟩,_,_⟩:=D
  have c2:Heap.SameBut z g g2:=c2
  have zlt:s.heap.objs.size≠z:=vdy (vav hz)
  have kk:∀d o,d∉[z,TI,TO,i1,i2]->s.heap.get? d=some o->g2.get? d=some o:=λd o hd e=>(c2.2 d λx=>hd (by simp[x])).trans (b7 d o (λx=>hd (by simp[x])) (λx=>hd (by simp[x])) (λx=>hd (by simp[x])) (λx=>hd (by simp[x])) e)
  have hT:g2.get? s.heap.objs.size=some {cls:=.type "tuple",data:=.seq [u,v].toArray}:=(c2.2 _ zlt).trans b5
  have I2:=Inv.turnedT (xs:=[x,y]) I hf kk hT (.cons ru (.cons rv' .nil)) (by show 2<=sizeLine;decide)
  have hTn:H s.heap.objs.size=none:=I.hok.fresh (vae _)
  refine⟨.ref s.heap.objs.size,_,I2,rfl,⟨_,x,y,rfl,hTn,rfl,λzs hzs=>by rw[zmd I hzs q1];exact hx,λzs hzs=>by rw[zmd I hzs q2];exact hy⟩,
   ⟨c1,(c2.2 TI d1).trans (b7 TI _ d1 d5 d6 d7 hTI),⟨u,v,(c2.2 TO d2).trans b2⟩,b3.mv λo e=>(c2.2 i1 d3).trans e,b4.mv λo e=>(c2.2 i2 d4).trans e⟩,λd hd=>?_⟩
  rw[zag ?_]
  .exact(hf d hd).1
  .intro e
   obtain⟨o,ho⟩:∃o,s.heap.get? d=some o:=by
    simp only[vaz,vcg,ve7]at hd
    rcases hd with rfl|rfl|rfl|rfl|rfl
    .exact⟨_,hz⟩
    .exact⟨_,hTI⟩
    .exact⟨_,hTO⟩
    .exact let⟨o,h,_⟩:=h1.ob;⟨o,h⟩
    .exact let⟨o,h,_⟩:=h2.ob;⟨o,h⟩
   exact va5 (vav ho) e
 done:=by
  intro X hP hw hK hc i pins s σ H E I hf st hg
  subst hP hw hK
  obtain⟨xs,ys,q1,q2,hl⟩:=hg
  obtain⟨hz,hTI,⟨p,q,hTO⟩,h1,h2⟩:=st
  obtain⟨its,rv,m1,_⟩:=zfb I q1
  obtain⟨jts,rw',m2,_⟩:=zfb I q2
  have l1:=rv.length
  have l2:=rw'.length
  exact zvz (I.ok.hd hc) D hz hTI hTO h1 h2 m1 m2 (hl.imp (λh=>by simp;omega) λh=>by simp;omega) λg hk=>⟨rfl,Inv.turnedZ (t':=s.toks) I hf λd o hd e=>hk d o (λx=>hd (by simp[x])) (λx=>hd (by simp[x])) (λx=>hd (by simp[x])) (λx=>hd (by simp[x])) e⟩
 self:=λ_ _ _ _ _ st h=>wpAny_pyIter_zip st.1 h
theorem zpn{bs:List Bool}{its:List Value}(r:Vals (bs.map .bl) its)(i:Nat){v:Value}(h:its[i]?=some v):∃b,bs[i]?=some b/\v=.bool b:=by
 have hl:=r.length
 rw[vad]at hl
 obtain⟨hi,_⟩:=vau.mp h
 have hb:bs[i]?=some bs[i]:=vaq (by omega)
 obtain⟨u,hu,ru⟩:=r.get (i:=i) (x:=.bl bs[i]) (by rw[vat,hb];rfl)
 rw[h]at hu;cases hu
 exact⟨_,hb,ru⟩
theorem zme(bs:List Bool):((List.range bs.length).all λi=>(bs[i]?).getD true)=bs.all id:=by
 rw[Bool.eq_iff_iff,vbp,vbp]
 refine⟨λh b hb=>?_,λh i hi=>?_⟩
 .obtain⟨i,hi,rfl⟩:=List.getElem_of_mem hb
  have:=h i (vca.mpr hi)
  rw[vaq hi]at this
  exact this
 .have hi':=vca.mp hi
  rw[vaq hi']
  exact h _ (vdr hi')
section
variable{X:Cx}
theorem zpo(hc:X.calm=true):CallR X (.builtin "all") (λxs H Q=>∃(p:Addr) (bs:List Bool),xs=[.ref p]/\SqL X.K H p (bs.map .bl)/\Q (.bl (bs.all id)) H):=by
 intro pins s σ H xs us Q I r h
 obtain⟨p,bs,rfl,hq,q⟩:=h
 obtain⟨u,rfl,ru⟩:=vals1 r
 cases ru
 obtain⟨its,rv,pl,hz⟩:=I.list hq
 have hL:s.heap.IsList p its.toArray:=pl.isList
 have hlt:p<s.heap.objs.size:=by obtain⟨_,e,_⟩:=hL;exact vav e
 have hd:X.A.in1.handled=none:=I.ok.hd hc
 have hlen:its.toArray.size=bs.length:=by rw[vah,<-rv.length,vad]
 refine call_all_walk (vdl hL ⟨s.heap.objs.size,[s.heap.objs.size,p],[s.heap.objs.size],its.toArray.size,_,_,λi=>(bs[i]?).getD true,rfl,Walks.list (A:=X.A.in1) hd _ p (va5 hlt) its.toArray,?_,?_,?_⟩)
 .exact⟨⟨_,vas _ rfl,rfl,rfl⟩,hL.push _⟩
 .intro i v s' Q' E' hP hQ
  obtain⟨b,e,rfl⟩:=zpn rv i (by simpa using hP)
  simp only[e,ve3]at hQ
  exact vcb hQ
 .intro h' tk hk
  rw[hlen,zme]
  refine⟨.bl (bs.all id),H,I.kept (t':=tk) λb o e=>hk b o (λhm=>?_) (vac _ e),rfl,q⟩
  rw[vbu.mp hm]at e
  exact vc2 _ (vav e)
end
noncomputable def oIs:Option Int->Value->Bool
 |none,.none=>true
 |some i,v=>Value.isInt i v
 |none,_=>false
noncomputable def oHash:Option Int->Int
 |none=>0xFCA86420
 |some i=>hashInt i
theorem za4:∀{k:Option Int} {v:Value},oIs k v=true->(k=none/\v=.none)\/∃i t,k=some i/\v=.int i t
 |none,v,h=>by cases v<;>first|exact .inl ⟨rfl,rfl⟩|cases h
 |some i,v,h=>by
  obtain⟨t,e⟩:=Value.isInt_shape (k:=i) (v:=v) h
  exact .inr ⟨i,t,rfl,e⟩
theorem zmf{prog:Program}{w:World}{A:Around}{E:Value->Shared->Prop}{s:Shared}{Q:Int->Shared->Prop}(h:Q 0xFCA86420 {s with toks:=s.toks+1}):wpAny (model prog w) A (PySem.pyHash .none) Q E s:=by
 have hT:s.TypeIs .none "NoneType":=rfl
 unfold pyHash
 refine vaa (wpAny_cRoomFor_or (.inl rfl) ?_)
 refine vaa (vcx hT veb.lookup ?_)
 show wpAny _ _ (if(some (Value.builtin "NoneType.__hash__")==some Value.none)=true then _ else _) Q E s
 rw[if_neg (by rw[beq_builtin_none];exact vbb)]
 refine vaa (vcx hT veb.lookup ?_)
 show wpAny _ _ (callSpecialIfBoundUnlessNone? .none "__hash__" _ >>= _) Q E s
 refine vaa (wpAny_callSpecialIfBoundUnlessNone?_slot hT veb
  (vbo veb hT F.entry_NoneType_hash
    (show wpAny _ _ (do ret (<-mkInt 0xFCA86420)) _ _ s from wpAny_ret_mkInt ?_) (F.args_NoneType_hash_1 _)))
 show wpAny _ _ (if(decide (-(2:Int) ^ 63<=0xFCA86420)&&decide ((0xFCA86420:Int)<2 ^ 63))=true then _ else _) Q E _
 rw[if_pos (by decide)]
 exact vaf h
noncomputable def oKind(prog:Program)(w:World):KeyKind prog w (Option Int)where
 is:=oIs
 hash:=oHash
 inj:=λv a b ha hb=>by
  rcases za4 ha with⟨rfl,rfl⟩|⟨i,t,rfl,rfl⟩
  .rcases za4 hb with⟨rfl,_⟩|⟨j,u,rfl,e⟩
   .rfl
   .cases e
  .rcases za4 hb with⟨rfl,e⟩|⟨j,u,rfl,e⟩
   .cases e
   .cases e;rfl
 byValue:=λk v h=>by
  rcases za4 h with⟨rfl,rfl⟩|⟨i,t,rfl,rfl⟩<;>rfl
 pyHash:=λhv h=>by
  rcases za4 hv with⟨rfl,rfl⟩|⟨i,t,rfl,rfl⟩
  .exact zmf h
  .exact wpAny_pyHash_int h
 eqBool:=λ{A E s a b u v Q} hu hv h=>by
  rcases za4 hu with⟨rfl,rfl⟩|⟨i,t,rfl,rfl⟩
  .rcases za4 hv with⟨rfl,rfl⟩|⟨j,u,rfl,rfl⟩
   .exact SeqAt.EqAt.same (A:=A) (s:=s) .none prog w E Q (by simpa using h)
   .exact SeqAt.EqAt.none_int (A:=A) (s:=s) j u prog w E Q (by simpa using h)
  .rcases za4 hv with⟨rfl,rfl⟩|⟨j,u,rfl,rfl⟩
   .exact SeqAt.EqAt.int_none (A:=A) (s:=s) i t prog w E Q (by simpa using h)
   .refine wpAny_eqBool_int ?_
    by_cases e:i=j
    .subst e;simpa using h
    .have e':(i==j)=false:=by simpa using e
     rw[e'];simpa[e]using h
 «strs»:=λk x t v h=>by
  rcases za4 h with⟨_,e⟩|⟨i,t,_,e⟩<;>cases e
noncomputable abbrev DK:=List Int×Option Int
section
variable(prog:Program)(w:World)
noncomputable def IsDK(h:Heap)(k:DK)(a:Addr):Prop:=∃o n b v,h.get? a=some o/\o.cls=.type "tuple"/\o.data=.seq #[.ref b,v] n/\IsTupleKey (intKind prog w) h k.1 b/\oIs k.2 v=true
noncomputable def zmg(k:DK):Int:=reduceHash (Builtin.Tuple.tupleHashOf [tupleKeyHash (intKind prog w) k.1,oHash k.2])
variable{prog w}
theorem IsDK.typeIs{s:Shared}{k:DK}{a:Addr}(x:IsDK prog w s.heap k a):s.TypeIs (.ref a) "tuple":=let⟨o,_,_,_,ho,hc,_⟩:=x;⟨o,ho,hc⟩
theorem IsDK.inj{h:Heap}{a:Addr}{x y:DK}(hx:IsDK prog w h x a)(hy:IsDK prog w h y a):x=y:=by
 obtain⟨o,n,b,v,ho,_,hd,hi,hv⟩:=hx
 obtain⟨o',n',b',v',ho',_,hd',hi',hv'⟩:=hy
 obtain rfl:o=o':=vbr (ho.symm.trans ho')
 rw[hd]at hd'
 injection hd' with h1 _
 have h2:=vey Array.toList h1
 simp only[vfd,and_true,Value.ref.injEq]at h2
 obtain⟨rfl,rfl⟩:=h2
 exact Prod.ext (hi.inj hi') ((oKind prog w).inj _ _ _ hv hv')
theorem IsDK.keeps{h h':Heap}{k:DK}{a d:Addr}{o:Obj}{es ep}(x:IsDK prog w h k a)(ho:h.get? d=some o)(hd:o.data=.dict es ep)(hs:Heap.SameBut d h h'):IsDK prog w h' k a:=by
 obtain⟨o',n,b,v,ho',hc,hd',hi,hv⟩:=x
 have hne:a≠d:=by
  rintro rfl
  obtain rfl:o'=o:=vbr (ho'.symm.trans ho)
  rw[hd]at hd';exact nomatch hd'
 exact⟨o',n,b,v,(hs.2 a hne).trans ho',hc,hd',hi.keeps ho hd hs,hv⟩
variable{A:Around}{E:Value->Shared->Prop}{s:Shared}
theorem zmh{k:DK}{a:Addr}{Q:Int->Shared->Prop}(hu:A.units+1<cLine)(hk:IsDK prog w s.heap k a)(h:Q (zmg prog w k) {s with toks:=s.toks+ (k.1.length+3)}) :
 wpAny (model prog w) A (pyHash (.ref a)) Q E s:=by
 have hT:=hk.typeIs
 obtain⟨o,n,b,v,ho,_,hd,hi,hv⟩:=hk
 unfold pyHash
 refine vaa (wpAny_cRoomFor_or (.inr (by omega)) ?_)
 refine vaa (vcx hT vev.lookup ?_)
 show wpAny _ _ (if(some (Value.builtin "tuple.__hash__")==some Value.none)=true then _ else _) Q E s
 rw[if_neg (by rw[beq_builtin_none];exact vbb)]
 refine vaa (vcx hT vev.lookup ?_)
 show wpAny _ _ (callSpecialIfBoundUnlessNone? (.ref a) "__hash__" _ >>= _) Q E s
 refine vaa (wpAny_callSpecialIfBoundUnlessNone?_slot hT vev (vbo vev hT F.entry_tuple_hash ?_ (F.args_tuple_hash_1 _)))
 show wpAny _ _ (Builtin.Tuple.tupleItemsOf (.ref a) >>= _) _ _ s
 refine vaa (wpAny_tupleItemsOf ho hd ?_)
 refine vaa ?_
 rw[<-Array.forIn_toList]
 refine ve4 _
  (λrest (acc:Array Int) s'=>(rest=[.ref b,v]/\acc.toList=[]/\s'=s)\/(rest=[v]/\acc.toList=[tupleKeyHash (intKind prog w) k.1]/\s' ={s with toks:=s.toks+ (k.1.length+1)})\/(rest=[]/\acc.toList=[tupleKeyHash (intKind prog w) k.1,oHash k.2]/\s' ={s with toks:=s.toks+ (k.1.length+1)+1}))
  _ ?_ ?_ _ _ (.inl ⟨rfl,rfl,rfl⟩)
 .rintro x rest acc s' (⟨e,ha,rfl⟩|⟨e,ha,rfl⟩|⟨e,_⟩)
  .cases e
   refine vaa (wpAny_pyHash_tuple hu hi ?_)
   first
    |exact vaf (.inr (.inl ⟨rfl,by simp[ha],rfl⟩))
    |exact vaa (vaf (vaf (.inr (.inl ⟨rfl,by simp[ha],rfl⟩))))
  .cases e
   refine vaa ((oKind prog w).pyHash (k:=k.2) hv ?_)
   first
    |exact vaf (.inr (.inr ⟨rfl,by simp[ha];rfl,rfl⟩))
    |exact vaa (vaf (vaf (.inr (.inr ⟨rfl,by simp[ha];rfl,rfl⟩))))
  .cases e
 .rintro acc s' (⟨e,_⟩|⟨e,_⟩|⟨_,ha,rfl⟩)
  .cases e
  .cases e
  .show wpAny _ _ (retInt (Builtin.Tuple.tupleHashOf acc.toList)) _ _ _
   rw[ha]
   refine wpAny_ret_mkInt ?_
   show wpAny _ _ (if(decide (-(2:Int) ^ 63<=Builtin.Tuple.tupleHashOf [tupleKeyHash (intKind prog w) k.1,oHash k.2])&&decide (Builtin.Tuple.tupleHashOf [tupleKeyHash (intKind prog w) k.1,oHash k.2]<2 ^ 63))=true then _ else _) Q E _
   unfold zmg reduceHash at h
   by_cases hr:(decide (-(2:Int) ^ 63<=Builtin.Tuple.tupleHashOf [tupleKeyHash (intKind prog w) k.1,oHash k.2])&&decide (Builtin.Tuple.tupleHashOf [tupleKeyHash (intKind prog w) k.1,oHash k.2]<2 ^ 63))=true
   .rw[if_pos hr]
    rw[if_pos hr]at h
    exact vaf (by simpa[vdo]using h)
   .rw[if_neg hr]
    rw[if_neg hr]at h
    exact vaa (veu (vaf (by simpa[vdo]using h)))
theorem zk4{x y:DK}{a b:Addr}{P:Fin->Shared->Prop}(hu:A.units<cLine)(hx:IsDK prog w s.heap x a)(hy:IsDK prog w s.heap y b)(h:P (.done (.ret (.bool (decide (x=y))))) s) :
 wpAny (model prog w) A (Builtin.«tuple.__eq__» ⟨[.ref a,.ref b],[]⟩) P E s:=by
 have hTb:=hy.typeIs
 obtain⟨oa,na,a1,v1,hoa,_,hda,hia,hva⟩:=hx
 obtain⟨ob,nb,b1,v2,hob,_,hdb,hib,hvb⟩:=hy
 show wpAny _ _ (isInstance (.ref b) (.type "tuple") >>= _) _ _ s
 refine vaa (vc8 hTb isSubtype_tuple_tuple ?_)
 simp only[vcu,vap,vbk]
 refine vaa (wpAny_tupleItemsOf hoa hda ?_)
 refine vaa (wpAny_tupleItemsOf hob hdb ?_)
 refine vaa ?_
 refine ve4 _
  (λrest r s'=>r.1=none/\s'=s/\((rest=[(Value.ref a1,Value.ref b1),(v1,v2)])\/(rest=[(v1,v2)]/\x.1=y.1)\/(rest=[]/\x=y)))
  _ ?_ ?_ _ _ ⟨rfl,rfl,.inl rfl⟩
 .rintro⟨u,v⟩ rest r s' ⟨hr,rfl,e|⟨e,hxy⟩|⟨e,_⟩⟩
  .cases e
   refine vaa (wpAny_eqBool_tuple hu hia hib ?_)
   by_cases hk:x.1=y.1
   .rw[vb5 hk]
    simp only[vcu,vap,vbk]
    exact vaf ⟨rfl,rfl,.inr (.inl ⟨(by first|rfl|trivial),hk⟩)⟩
   .rw[vax hk]
    simp only[vez,vbe]
    have hf:decide (x=y)=false:=vax λz=>hk (by rw[z])
    rw[hf]at h
    exact vaa (vaf (vaf (vaf h)))
  .cases e
   refine vaa ((oKind prog w).eqBool (a:=x.2) (b:=y.2) hva hvb ?_)
   by_cases hk:x.2=y.2
   .rw[vb5 hk]
    simp only[vcu,vap,vbk]
    exact vaf ⟨rfl,rfl,.inr (.inr ⟨(by first|rfl|trivial),Prod.ext hxy hk⟩)⟩
   .rw[vax hk]
    simp only[vez,vbe]
    have hf:decide (x=y)=false:=vax λz=>hk (by rw[z])
    rw[hf]at h
    exact vaa (vaf (vaf (vaf h)))
  .cases e
 .rintro⟨r1,r2⟩ s' ⟨hr,rfl,e|⟨e,_⟩|⟨_,e⟩⟩
  .cases e
  .cases e
  .simp only at hr
   subst hr
   refine vaf ?_
   rw[vb5 e]at h
   exact h
theorem zmi{x y:DK}{a b:Addr}{Q:Bool->Shared->Prop}(hu:A.units+1<cLine)(hx:IsDK prog w s.heap x a)(hy:IsDK prog w s.heap y b)(h:Q (decide (x=y)) s) :
 wpAny (model prog w) A (eqBool (.ref a) (.ref b)) Q E s:=by
 unfold eqBool
 try with_reducible refine vc3 ?_
 show wpAny _ _ (if(Value.ref a==Value.ref b)=true then _ else _) Q E s
 by_cases hab:(Value.ref a==Value.ref b)=true
 .rw[if_pos hab]
  have e:a=b:=by have:=eq_of_beq hab;injection this
  subst e
  obtain rfl:=hx.inj hy
  exact vaa (veu (vaf (by simpa using h)))
 .rw[if_neg hab]
  exact vaa (wpAny_richCompare_same_room (op:=.Eq) hx.typeIs hy.typeIs vfe
   (vbo vfe hx.typeIs F.entry_tuple_eq (zk4 hu hx hy ⟨_,rfl,(λe=>nomatch e),vcb h⟩) (F.args_tuple_eq_2 _ _)) (by omega))
theorem zik{n:Nat}{ks:List Int}{a:Addr}{Q:Bool->Shared->Prop}(hk:IsTupleKey (intKind prog w) s.heap ks a)(h:Q true s):wpAny (model prog w) A (eqIsQuiet (n+1) (.ref a)) Q E s:=by
 have hT:=hk.typeIs
 obtain⟨o,items,m,ho,_,hd,hi⟩:=hk
 unfold eqIsQuiet
 refine vaa (vcx hT vfe.lookup ?_)
 show wpAny _ _ (isInstance (.ref a) (.type "tuple") >>= _) _ _ s
 refine vaa (vc8 hT isSubtype_tuple_tuple ?_)
 simp only[vcu,vap,vbk]
 refine vaa (vct ho hd ?_)
 refine vaa ?_
 show wpAny _ _ (forIn items _ _) _ _ s
 rw[<-Array.forIn_toList]
 refine ve4 _ (λrest r s'=>r.1=none/\s'=s/\∀v∈rest,carriedByValue v=true) _ ?_ ?_ _ _ ⟨rfl,rfl,hi.byValue⟩
 .rintro v rest r s' ⟨hr,rfl,hall⟩
  rw[eqIsQuiet_byValue _ (hall v van)]
  refine vaa (vaf ?_)
  simp only[vcu,vap,vbk]
  exact vaf ⟨rfl,rfl,λu hu'=>hall u (vag _ hu')⟩
 .rintro⟨r1,r2⟩ s' ⟨hr,rfl,_⟩
  simp only at hr
  subst hr
  exact vaf h
theorem zpp{k:DK}{a:Addr}{Q:Bool->Shared->Prop}(hk:IsDK prog w s.heap k a)(h:Q true s):wpAny (model prog w) A (eqIsQuiet 8 (.ref a)) Q E s:=by
 have hT:=hk.typeIs
 obtain⟨o,n,b,v,ho,_,hd,hi,hv⟩:=hk
 unfold eqIsQuiet
 refine vaa (vcx hT vfe.lookup ?_)
 show wpAny _ _ (isInstance (.ref a) (.type "tuple") >>= _) _ _ s
 refine vaa (vc8 hT isSubtype_tuple_tuple ?_)
 simp only[vcu,vap,vbk]
 refine vaa (vct ho hd ?_)
 refine vaa ?_
 show wpAny _ _ (forIn #[.ref b,v] _ _) _ _ s
 rw[<-Array.forIn_toList]
 refine ve4 _ (λrest r s'=>r.1=none/\s'=s/\(rest=[.ref b,v]\/rest=[v]\/rest=[])) _ ?_ ?_ _ _ ⟨rfl,rfl,.inl rfl⟩
 .rintro u rest r s' ⟨hr,rfl,e|e|e⟩
  .cases e
   refine vaa (zik hi ?_)
   simp only[vcu,vap,vbk]
   exact vaf ⟨rfl,rfl,.inr (.inl (by first|rfl|trivial))⟩
  .cases e
   rw[eqIsQuiet_byValue _ ((oKind prog w).byValue _ _ hv)]
   refine vaa (vaf ?_)
   simp only[vcu,vap,vbk]
   exact vaf ⟨rfl,rfl,.inr (.inr (by first|rfl|trivial))⟩
  .cases e
 .rintro⟨r1,r2⟩ s' ⟨hr,rfl,_⟩
  simp only at hr
  subst hr
  exact vaf h
end
noncomputable def dKind(prog:Program)(w:World):HeapKind prog w DK where
 is:=IsDK prog w
 hash:=zmg prog w
 draws:=λk=>k.1.length+3
 room:=λA=>A.units+1<cLine
 inj:=λhx hy=>hx.inj hy
 keeps:=λx ho hd hs=>x.keeps ho hd hs
 pyHash:=λhu hk h=>zmh hu hk h
 eqBool:=λhu hx hy h=>zmi hu hx hy h
 quiet:=λhk h=>zpp hk h
noncomputable def dkh(k:DK):Int:=reduceHash (Builtin.Tuple.tupleHashOf [reduceHash (Builtin.Tuple.tupleHashOf (k.1.map hashInt)),oHash k.2])
noncomputable def ovV:Option Int->V
 |none=>.non
 |some i=>.int i
noncomputable abbrev DX:=List (DK×Addr×V)
noncomputable abbrev dtP(xs:DX)(us:List (DK×Addr×Value)):Prop:=Paired (λ(p:DK×Addr×V) (q:DK×Addr×Value)=>p.1=q.1/\p.2.1=q.2.1/\RelV p.2.2 q.2.2) xs us
noncomputable def dtF(xs:DX)(a:Addr)(h:Heap):Prop:=xs.length<=sizeLine/\(a==sysModules)=false/\(xs.map (·.1)).Nodup/\∃us,dtP xs us/\∃o es ep,h.get? a=some o/\o.ExactDict/\o.data=.dict es ep/\es.toList=us.map λx=>⟨dkh x.1,.ref x.2.1,x.2.2⟩
noncomputable def dtH(xs:DX)(a:Addr):HO:=.ext (dtF xs a)
theorem zq7{P:Program}{w:World}{H:Hp}{h:Heap}{a:Addr}{xs:DX}(e:dtF xs a h):ObjOk P w H h a (dtH xs a):=by
 refine⟨e,?_,?_⟩
 .obtain⟨_,_,_,us,_,o,_,_,h1,_⟩:=e
  exact⟨o,h1⟩
 .rintro h1 h2 ⟨a1,a2,a3,us,a4,o,es,ep,b1,b2⟩ k
  exact⟨a1,a2,a3,us,a4,o,es,ep,k o b1,b2⟩
theorem zv0{P:Program}{w:World}{H:Hp}{h:Heap}{a:Addr}{xs:DX}(ok:HOk P w H h)(e:H a=some (dtH xs a)):dtF xs a h:=(ok a _ e).1
noncomputable def KeyAt(K:PySem.W.Frag)(H:Hp)(k:DK)(b:Addr):Prop:=∃c,SqT K H b [.ref c,ovV k.2]/\SqT K H c (k.1.map .int)
noncomputable def DT(K:PySem.W.Frag)(H:Hp)(a:Addr)(xs:DX):Prop:=(H a=some (dtH xs a)/\∀p∈xs,KeyAt K H p.1 p.2.1)\/(xs=[]/\Rd H a (.dK []))
noncomputable def findX(xs:DX)(k:DK):Option (Addr×V):=(xs.find? λx=>decide (x.1=k)).map (·.2)
noncomputable def putX(xs:DX)(k:DK)(b:Addr)(v:V):DX:=if(findX xs k).isSome then xs.map (λx=>if x.1=k then(x.1,x.2.1,v)else x)else xs++[(k,b,v)]
theorem zdz{xs:DX}{us:List (DK×Addr×Value)}(r:dtP xs us)(k:DK):(findX xs k=none/\atKey us k=none)\/∃p q,findX xs k=some p/\atKey us k=some q/\RelV p.2 q.2:=by
 induction r with
 |nil=>exact .inl ⟨rfl,rfl⟩
 | @cons p q ps qs h t ih=>
  obtain⟨h1,h2,h3⟩:=h
  by_cases e:p.1=k
  .refine .inr ⟨p.2,q.2,?_,?_,h3⟩
   .simp[findX,vbt,e]
   .simp[atKey,vbt,h1.symm.trans e]
  .have e':¬q.1=k:=λz=>e (h1.trans z)
   have b1:findX (p::ps) k=findX ps k:=by simp[findX,vbt,e]
   have b2:atKey (q::qs) k=atKey qs k:=by simp[atKey,vbt,e']
   rw[b1,b2];exact ih
theorem zs3{xs:DX}{us:List (DK×Addr×Value)}(r:dtP xs us)(k:DK)(b:Addr){v:V}{u:Value}(rv:RelV v u):dtP (putX xs k b v) (storedH us k b u):=by
 unfold putX storedH
 have e:(findX xs k).isSome=(atKey us k).isSome:=by
  rcases zdz r k with⟨h1,h2⟩|⟨p,q,h1,h2,_⟩<;> (rw[h1,h2];rfl)
 rw[e]
 by_cases z:(atKey us k).isSome=true
 .rw[if_pos z,if_pos z]
  clear e z
  induction r with
  |nil=>exact .nil
  | @cons p q ps qs h t ih=>
   rw[vam,vam]
   refine .cons ?_ ih
   obtain⟨h1,h2,h3⟩:=h
   unfold putAt
   by_cases e:p.1=k
   .rw[if_pos e,if_pos (h1.symm.trans e)];exact⟨h1,h2,rv⟩
   .rw[if_neg e,if_neg (λz=>e (h1.trans z))];exact⟨h1,h2,h3⟩
 .rw[if_neg z,if_neg z]
  exact Paired.snoc r ⟨rfl,rfl,rv⟩
theorem zs4(xs:DX)(k:DK)(b:Addr)(v:V):(putX xs k b v).length<=xs.length+1:=by
 unfold putX
 split
 .rw[vad];omega
 .rw[vao];exact vae _
section
variable{X:Cx}{pins:List (Addr×Obj)}{σ:St}{H:Hp}{s:Shared}{a b:Addr}{k:DK}{xs:DX}{v:V}{r:Value}{A:Around}{E:Value->Shared->Prop}
theorem zjl:∀{ls:List Int} {us:List Value},Vals (ls.map .int) us->ItemsAre (intKind X.prog X.w) ls us
 |[],_,.nil=>.nil
 |x::ls,_,.cons h t=>by
  obtain⟨t',rfl⟩:=h
  exact .cons (by show Value.isInt x (.int x t')=true;simp[Value.isInt]) (zjl t)
theorem KeyAt.is(I:Inv X pins σ H s)(h:KeyAt X.K H k b):IsDK X.prog X.w s.heap k b:=by
 obtain⟨c,h1,h2⟩:=h
 obtain⟨its,r1,⟨o,e1,e2,n,e3⟩,_⟩:=I.tuple h1
 obtain⟨its2,r2,⟨o2,f1,f2,n2,f3⟩,_⟩:=I.tuple h2
 cases r1 with
 | @cons _ u0 _ us0 q1 q2=>
  cases q2 with
  | @cons _ u1 _ us1 q3 q4=>
   cases q4
   have q1:u0=.ref c:=q1
   subst q1
   refine⟨o,n,c,u1,e1,e2,e3,⟨o2,its2.toArray,n2,f1,f2,f3,zjl r2⟩,?_⟩
   cases z:k.2 with
   |none=>rw[z]at q3;cases q3;rfl
   |some i=>rw[z]at q3;obtain⟨t,rfl⟩:=q3;show Value.isInt i (.int i t)=true;simp[Value.isInt]
theorem DT.dict(I:Inv X pins σ H s)(h:DT X.K H a xs):xs.length<=sizeLine/\(a==sysModules)=false/\∃us,dtP xs us/\s.heap.DictOfH (dKind X.prog X.w) a us:=by
 rcases h with⟨e,hk⟩|⟨rfl,e⟩
 .obtain⟨a1,a2,a3,us,a4,o,es,ep,b1,b2,b3,b4⟩:=zv0 I.hok e
  refine⟨a1,a2,us,a4,o,es,ep,b1,b2,b3,b4,?_,?_⟩
  .intro x hx
   have:∃p∈xs,p.1=x.1/\p.2.1=x.2.1:=by
    clear a1 a3 b4 hk e
    induction a4 with
    |nil=>cases hx
    | @cons p q ps qs h t ih=>
     rcases vaz.mp hx with rfl|hx
     .exact⟨p,van,h.1,h.2.1⟩
     .obtain⟨p',h1,h2⟩:=ih hx
      exact⟨p',vag _ h1,h2⟩
   obtain⟨p,hp,h1,h2⟩:=this
   have:=KeyAt.is I (hk p hp)
   rw[h1,h2]at this
   exact this
  .have:us.map (·.1)=xs.map (·.1):=by
    clear a1 a3 b4 hk e
    induction a4 with
    |nil=>rfl
    | @cons p q ps qs h t ih=>rw[vam,vam,ih,h.1]
   rw[this];exact a3
 .obtain⟨z,y,vs,r,o,es,ep,b1,b2,b3,b4,b5,b6⟩:=dk_rd I.hok e
  cases r
  refine⟨vbw _,y,[],.nil,o,es,ep,b1,b2,b3,?_,(λx hx=>nomatch hx),vfl⟩
  generalize es.toList=l at b5 ⊢
  cases b5
  rfl
theorem zv1{Q:Value->Shared->Prop}{p:Addr×V}(hu:A.units+2<cLine)(I:Inv X pins σ H s)(d:DT X.K H a xs)(kk:KeyAt X.K H k b)(g:findX xs k=some p)(h:∀w' s',Inv X pins σ H s'->RelV p.2 w'->Q w' s') :
 wpAny (model X.prog X.w) A (getItem (.ref a) (.ref b)) Q E s:=by
 obtain⟨_,_,us,r,dd⟩:=d.dict I
 rcases zdz r k with⟨h1,_⟩|⟨p',q,h1,h2,h3⟩
 .rw[g]at h1;cases h1
 .rw[g]at h1;cases h1
  exact wpAny_getItem_heap (knd:=dKind X.prog X.w) (by show A.in1.units+1<cLine;exact hu) (kk.is I) dd h2 (h _ _ (I.tok _) h3)
theorem dt_in{Q:Value->Shared->Prop}(hu:A.units+2<cLine)(I:Inv X pins σ H s)(d:DT X.K H a xs)(kk:KeyAt X.K H k b)(h:∀s',Inv X pins σ H s'->Q (.bool (findX xs k).isSome) s') :
 wpAny (model X.prog X.w) A (compareOp .In (.ref b) (.ref a)) Q E s:=by
 obtain⟨_,y,us,r,dd⟩:=d.dict I
 have e:(findX xs k).isSome=(atKey us k).isSome:=by
  rcases zdz r k with⟨h1,h2⟩|⟨p,q,h1,h2,_⟩<;> (rw[h1,h2];rfl)
 refine wpAny_in_heap (knd:=dKind X.prog X.w) (by show A.in1.units+1<cLine;exact hu) (kk.is I) y dd ?_
 rw[<-e]
 exact h _ (I.tok _)
theorem zpq{Q:Value->Shared->Prop}(hu:A.units+2<cLine)(I:Inv X pins σ H s)(d:DT X.K H a xs)(kk:KeyAt X.K H k b)(h:∀s',Inv X pins σ H s'->Q (.bool (!(findX xs k).isSome)) s') :
 wpAny (model X.prog X.w) A (compareOp .NotIn (.ref b) (.ref a)) Q E s:=by
 obtain⟨_,y,us,r,dd⟩:=d.dict I
 have e:(findX xs k).isSome=(atKey us k).isSome:=by
  rcases zdz r k with⟨h1,h2⟩|⟨p,q,h1,h2,_⟩<;> (rw[h1,h2];rfl)
 refine wpAny_notIn_heap (knd:=dKind X.prog X.w) (by show A.in1.units+1<cLine;exact hu) (kk.is I) y dd ?_
 rw[<-e]
 exact h _ (I.tok _)
theorem zv2{Q:Unit->Shared->Prop}(hu:A.units+2<cLine)(I:Inv X pins σ H s)(d:DT X.K H a xs)(mu:Mut (H a))(kk:KeyAt X.K H k b)(hz:xs.length<sizeLine)(rv:RelV v r)(h:∀s',Inv X pins σ (upd H a (dtH (putX xs k b v) a)) s'->Q () s') :
 wpAny (model X.prog X.w) A (setItem (.ref a) (.ref b) r) Q E s:=by
 obtain⟨_,y,us,rl,dd⟩:=d.dict I
 refine wpAny_setItem_heap (knd:=dKind X.prog X.w) (hsz:=by rw[<-ve6 rl];omega) (by show A.in1.units+1<cLine;exact hu) (kk.is I) dd λh' dd' hs=>h _ ?_
 obtain⟨q,es,ep,hq,h2,h3,h4,_,h5⟩:=dd'
 have pr:=zs3 rl k b rv
 refine zii I mu hs ⟨q,hq⟩ (zq7 ⟨?_,y,?_,_,pr,q,es,ep,hq,h2,h3,h4⟩)
 .have:=zs4 xs k b v;omega
 .have:(putX xs k b v).map (·.1)=(storedH us k b r).map (·.1):=by
   generalize putX xs k b v=ys at pr
   generalize storedH us k b r=zs at pr
   clear h4 h5
   induction pr with
   |nil=>rfl
   | @cons p q ps qs h t ih=>rw[vam,vam,ih,h.1]
  rw[this];exact h5
end
end L2
namespace L2
open PySem PySem.Spec PyProof.Rows PySem.W
open AutoSeq1 (wpAny_loadPart')
noncomputable def DE(h:Heap)(d:Addr)(es:Array DictEntry)(ep:Nat):Prop:=∃o,h.get? d=some o/\o.ExactDict/\o.data=.dict es ep
theorem DE.ty{s:Shared}{d:Addr}{es:Array DictEntry}{ep:Nat}(x:DE s.heap d es ep):s.TypeIs (.ref d) "dict":=let⟨o,a,b,_⟩:=x;⟨o,a,b.1⟩
theorem DE.at_{h h':Heap}{d:Addr}{es:Array DictEntry}{ep:Nat}(x:DE h d es ep)(k:∀o,h.get? d=some o->h'.get? d=some o):DE h' d es ep:=let⟨o,a,b⟩:=x;⟨o,k o a,b⟩
theorem DE.lt{h:Heap}{d:Addr}{es:Array DictEntry}{ep:Nat}(x:DE h d es ep):d<h.objs.size:=let⟨_,a,_⟩:=x;vav a
section
variable{prog:Program}{w:World}{A:Around}{E:Value->Shared->Prop}{s:Shared}{d it:Addr}{es:Array DictEntry}{ep i:Nat}
theorem zv3{Q:Value->Shared->Prop}(hd:(d==sysModules)=false)(hm:DE s.heap d es ep)(hf:(es.size:Int)<2 ^ 63)(h:∀t tk,Q (.int es.size t) {s with toks:=tk}) :
 wpAny (model prog w) A (call (.builtin "len") [.ref d]) Q E s:=by
 refine Calls.call_function_entry kind_len plain_len entry_len (args_len1 _) ?_
 unfold Builtin.«len»
 refine vaa (m:=oneArg "len" _) (vaf ?_)
 have M:MeetsIn prog w (Builtin.«dict.__len__» ⟨[.ref d],[]⟩) (λ_ R s=>DE s.heap d es ep/\R (.ok (.ret (.int es.size s.toks))) {s with toks:=s.toks+1}):=
  .of_wp λA R s hq0=>by
   obtain⟨⟨o,a,b,c⟩,h⟩:=hq0
   show wpAny _ _ (dictSize d >>= _) _ _ s
   unfold dictSize
   exact vaa (vaa (wpAny_dictEntries a c (vaf (vaa (wpAny_pendingCount_other hd (wpAny_ret_mkInt h))))))
 refine vaa (m:=callSpecial? (.ref d) (Str.ofString "__len__")) (vbg (name:=Str.ofString "__len__") hm.ty F.slot_dict_len
  (call_meetsIn F.slot_dict_len hm.ty F.entry_dict_len (F.args_dict_len_1 _) M ⟨hm,?_⟩))
 refine vaa (vc3 (vaf (vaa (wpAny_letGo ?_))))
 show wpAny _ _ (if((es.size:Nat):Int)<0 then _ else _) _ _ _
 rw[if_neg (by omega)]
 show wpAny _ _ (if((es.size:Nat):Int)>=2 ^ 63 then _ else _) _ _ _
 rw[if_neg (by omega)]
 exact vaa (wpAny_mkInt (vaf ⟨_,rfl,h _ _⟩))
theorem zs5{Q:Value->Shared->Prop}(hd:(d==sysModules)=false)(hm:DE s.heap d es ep)
 (hQ:Q (.ref s.heap.objs.size) {s with heap:=s.heap.push {cls:=.type "dict_keyiterator",data:=.fields #[.ref d,.int 0 0,.int es.size 0,.int ep 0]}}) :
 wpAny (model prog w) A (pyIter (.ref d)) Q E s:=by
 have hT:=hm.ty
 obtain⟨o,a,b,c⟩:=hm
 refine wpAny_pyIter_slot hT F.slot_dict_iter (vbo F.slot_dict_iter hT F.entry_dict_iter ?_ (F.args_dict_iter_1 _))
 unfold Builtin.«dict.__iter__» Builtin.Dict.dictSlotNone
 refine vaa (vaa (wpAny_notOrdered_dict hT (vaf ?_)))
 show wpAny _ _ (Builtin.Dict.showsAll d >>= _) _ _ s
 unfold Builtin.Dict.showsAll
 rw[if_neg (by rw[hd];exact vbb)]
 refine vaa (vaf (vaa (wpAny_dictEntries a c (vaa (wpAny_dictEpoch a c (vaa (vbj (vaf
  ⟨_,rfl,"dict_keyiterator",_,⟨_,vas _ rfl,rfl⟩,F.slot_dict_keyiterator_next.lookup,?_⟩))))))))
 simpa[rawInt]using hQ
theorem zmj{Q:Option Value->Shared->Prop}(hh:A.handled=none)(hit:s.heap.IsKeyIter it d i es.size ep)(hm:DE s.heap d es ep)
 (hI:∀e h',es[i]?=some e->h'.IsKeyIter it d (i+1) es.size ep->Heap.SameBut it s.heap h'->Q (some e.key) {s with heap:=h'})
 (hE:es[i]?=none->∀h',Heap.ExtBut it s.heap h'->Q none {s with heap:=h'}):wpAny (model prog w) A (pyNext (.ref it)) Q E s:=by
 have hT:=hit.typeIs
 obtain⟨o,ho,hc,hd⟩:=id hit
 obtain⟨od,hod,_,hdd⟩:=hm
 unfold pyNext
 refine vaa (vem (vbg (name:=Str.ofString "__next__") hT F.slot_dict_keyiterator_next
  (vbo F.slot_dict_keyiterator_next hT F.entry_dict_keyiterator_next ?_ (F.args_dict_keyiterator_next_1 _))))
 refine vaa (vaf (vaa (vaa ?_)))
 first|refine vaa (wpAny_typeNameOfWhole_keyiter hT (vaf ?_))|refine vaa (wpAny_typeNameOf_keyiter hT (vaf ?_))
 refine vaa (wpAny_fieldsOf ho hd ?_)
 have hown:Builtin.Dict_items.ownsTuple "dict_keyiterator" = false:=by decide
 simp only[hown,vap,vbk]
 show wpAny _ _ (if(Value.ref d==Value.none)=true then _ else _) _ _ s
 rw[if_neg (show ¬((Value.ref d==Value.none)=true)from vbb)]
 refine vaa (vaf (vaa (wpAny_dictEntries hod hdd ?_)))
 rw[if_neg (by simp)]
 refine vaa (vaf (vaa (wpAny_dictEpoch hod hdd ?_)))
 rw[if_neg (by simp)]
 refine vaf ?_
 simp only[show ¬((i:Int)<0)from by omega,vbk,vbn]
 cases hx:es[i]? with
 |some e=>
  refine vaa ?_
  first|refine vaa (wpAny_typeNameOfWhole_keyiter hT (vaf ?_))|refine vaa (wpAny_typeNameOf_keyiter hT (vaf ?_))
  refine vaa (wpAny_isOneOf_keyiter hT ?_)
  show wpAny _ _ (setField (.ref it) 1 (rawInt ((i:Int)+1)) >>= _) _ _ s
  refine vaa (vdt ho hd (by simp) ?_)
  have hit':(s.heap.update it (Obj.mapFields (·.setIfInBounds 1 (rawInt ((i:Int)+1))))).IsKeyIter it d (i+1) es.size ep:=
   ⟨_,vc9 _ ho (vd1 (vcl hd _)),(Obj.cls_mapFields ..).trans hc,by rw[vcl hd];simp[rawInt]⟩
  refine vaa (vc3 (vaa (wpAny_isOneOf_keyiter (s:={s with heap:=s.heap.update it (Obj.mapFields (·.setIfInBounds 1 (rawInt ((i:Int)+1))))}) hit'.typeIs ?_)))
  show wpAny _ _ (pure e.key) _ _ _
  exact vaf (vaf ⟨_,rfl,vaf (hI _ _ hx hit' (vch ..))⟩)
 |none=>
  refine vaa ?_
  first|refine vaa (wpAny_typeNameOfWhole_keyiter hT (vaf ?_))|refine vaa (wpAny_typeNameOf_keyiter hT (vaf ?_))
  show wpAny _ _ (setField (.ref it) 0 .none >>= _) _ _ s
  refine vaa (vdt ho hd (by simp) ?_)
  show wpAny _ _ (newExc (.type "StopIteration") [] >>= _) _ _ _
  refine vaa ?_
  simp only[newExc,newTuple]
  refine vaa (vbj ?_ (by size_fits))
  refine vaa (m:=firstArgMember _ _) (vde (a:=Value.none) (by first|rfl|(simp only[firstArgMember];rfl)) ?_)
  refine vbj ?_ (by size_fits)
  simp only[raiseNew]
  refine vaa (wpAny_handled ?_)
  rw[show A.in1.handled=none from hh]
  refine vaa (vaf (wpAny_throw ?_))
  refine vaa (vc8 (T:="StopIteration") (b:=true) ⟨_,vas _ rfl,rfl⟩ isSubtype_stop ?_)
  exact vaf (hE hx _ (((vch ..).extBut.push _).push _))
theorem zs6(hh:A.handled=none)(hne:d≠it):Walks prog w A it [it,d] [it] es.size (λi v=>∃e,es[i]?=some e/\v=e.key) (λi h=>h.IsKeyIter it d i es.size ep/\DE h d es ep)where
 sub:=λb hb=>by simp at hb;simp[hb]
 frame:=λ_ _ _ st k=>⟨st.1.at λo e=>k it (by simp) o e,st.2.at_ λo e=>k d (by simp) o e⟩
 item:=λi s Q E hi st hQ=>by
  refine zmj hh st.1 st.2 (λe h' hx hit' hs=>?_) λhx=>?_
  .exact hQ _ h' s.toks ⟨e,hx,rfl⟩ ⟨hit',st.2.at_ λo q=>hs.extBut d o hne q⟩ λb o hb q=>hs.extBut b o (λh=>hb (by simp[h])) q
  .simp at hx;omega
 done:=λs Q E st hQ=>by
  refine zmj hh st.1 st.2 (λe h' hx hit' hs=>?_) λhx h' he=>?_
  .simp at hx
  .exact hQ h' s.toks λb o hb q=>he b o (λh=>hb (by simp[h])) q
 self:=λ_ _ _ _ st hQ=>wpAny_pyIter_keyiter st.1 hQ
theorem zv4(hd:(d==sysModules)=false):KdlSrc prog w "dict" d d es.size (λi v=>∃e,es[i]?=some e/\v=e.key) (λh=>DE h d es ep)where
 type:=λ_ hm=>hm.ty
 there:=λ_ hm=>⟨hm.lt,hm.lt⟩
 keep:=λ_ _ hm hk=>hm.at_ λo e=>hk d (.inl rfl) o e
 notList:=by decide
 notTuple:=by decide
 hint:=λ_ _ _ _ hm hq=>kdl_hint_dict hm.ty hq
 iter:=λ_ _ hh hm=>⟨_,_,(λ_ _ hq=>zs5 hd hm hq),zs6 hh (va5 hm.lt),⟨⟨_,vas _ rfl,rfl,rfl⟩,hm.at_ λo e=>vac _ e⟩⟩
end
theorem zv5{d:Addr}{es:Array DictEntry}{ep:Nat}(hd:(d==sysModules)=false)(hz:es.size<=sizeLine) :
 Meets (Builtin.«tuple.__new__» ⟨[.type "tuple",.ref d],[]⟩)
  (λA R s=>A.handled=none/\DE s.heap d es ep/\∀(h':Heap)(tk:Nat),(∀b o',s.heap.get? b=some o'->h'.get? b=some o')->R (.ok (.ret (.ref h'.objs.size))) {s with heap:=h'.push {cls:=.type "tuple",data:=.seq (es.map (·.key))},toks:=tk}):=
 .of_wp λprog w A R s h=>by
  obtain⟨hp,g,dd,tk,os⟩:=s;obtain⟨hh,ht,h⟩:=h
  have hsub:=sub_tuple_self
  have hinit:=init_tuple_lookup
  have hmh:=madeHere_tuple
  obtain⟨o,e1,e2,e3⟩:=id ht
  have hT:Shared.TypeIs ⟨hp,g,dd,tk,os⟩ (.ref d) "dict":=ht.ty
  wp_walk using wpAny_loadPart' e1,vfj hT,kdu_collect (A:=A.in1) (zv4 (ep:=ep) (es:=es) hd) hh ht hz
  intro h' tk' acc hk hacc
  have e:acc=es.map (·.key):=by
   apply Array.ext_getElem?
   intro j
   rw[Array.getElem?_map]
   cases q:acc[j]? with
   |none=>
    have:es.size<=j:=by rw[<-hacc.1];simpa using q
    rw[Array.getElem?_eq_none this];rfl
   |some v=>
    obtain⟨x,h1,h2⟩:=hacc.2 j v q
    rw[h1,h2];rfl
  show wpAny _ _ (Builtin.Tuple.tupleExact acc.toList.toArray >>= λv=>ret v) _ _ _
  unfold Builtin.Tuple.tupleExact
  refine vaa (vbj ?_ (by show acc.toList.toArray.size<=sizeLine;simpa[hacc.1]using hz))
  refine vaf ⟨_,rfl,?_⟩
  have e':acc.toList.toArray=acc:=by simp
  rw[e',e]
  exact h h' tk' hk
section
variable{prog:Program}{w:World}{A:Around}{E:Value->Shared->Prop}{s:Shared}{d:Addr}{es:Array DictEntry}{ep:Nat}
theorem zpr{Q:Value->Shared->Prop}(hh:A.handled=none)(hd:(d==sysModules)=false)(hm:DE s.heap d es ep)(hz:es.size<=sizeLine)
 (h:∀(h':Heap)(tk:Nat),(∀b o',s.heap.get? b=some o'->h'.get? b=some o')->Q (.ref h'.objs.size) {s with heap:=h'.push {cls:=.type "tuple",data:=.seq (es.map (·.key))},toks:=tk}) :
 wpAny (model prog w) A (call (.type "tuple") [.ref d]) Q E s:=
 callType_new F.called_tuple (by decide) (F.typeCall_tuple_1 _) (F.newCall_tuple_1 _) (λobj=>F.args_object_init_2 obj _) F.entry_tuple_new
  (zv5 hd hz) ⟨hh,hm,λh' tk hk=>⟨⟨_,vas _ rfl,rfl⟩,h h' tk hk⟩⟩
end
end L2
namespace L2
open PySem PySem.Spec PyProof.Rows PySem.W
section
variable{X:Cx}{pins:List (Addr×Obj)}{σ:St}{H:Hp}{s:Shared}{a b:Addr}{k:DK}{xs:DX}
theorem DT.de(I:Inv X pins σ H s)(h:DT X.K H a xs):∃(es:Array DictEntry) (ep:Nat),DE s.heap a es ep/\es.size=xs.length/\∀(i:Nat) (p:DK×Addr×V),xs[i]?=some p->∃e:DictEntry,es[i]?=some e/\e.key=Value.ref p.2.1:=by
 obtain⟨g1,_,us,r,o,es,ep,b1,b2,b3,b4,g2⟩:=h.dict I
 clear h g1 g2
 refine⟨es,ep,⟨o,b1,b2,b3⟩,?_,λi p hp=>?_⟩
 .rw[<-veg,b4,vad,ve6 r]
 .have:∃q,us[i]?=some q/\p.2.1=q.2.1:=by
   clear b4
   revert i
   induction r with
   |nil=>intro i hp;simp at hp
   | @cons p0 q0 ps qs h t ih=>
    intro i hp
    cases i with
    |zero=>simp at hp;subst hp;exact⟨q0,rfl,h.2.1⟩
    |succ i=>exact ih i (by simpa using hp)
  obtain⟨q,h1,h2⟩:=this
  refine⟨⟨dkh q.1,.ref q.2.1,q.2.2⟩,?_,by rw[h2]⟩
  rw[<-Array.getElem?_toList,b4,vat,h1];rfl
noncomputable def rInX(K:PySem.W.Frag)(neg:Bool):R2:=λx y H Q=>∃a b xs k,y=.ref a/\x=.ref b/\DT K H a xs/\KeyAt K H k b/\Q (.bl (if neg then !(findX xs k).isSome else(findX xs k).isSome)) H
theorem zv6(hu:X.A.units+2<cLine):OpR X (compareOp .In) (rInX X.K false):=by
 intro pins s σ H x y v u Q I rx ry h
 obtain⟨a,b,xs,k,rfl,rfl,d,kk,q⟩:=h
 cases rx;cases ry
 exact dt_in hu I d kk λs' I'=>⟨.bl _,H,I',rfl,q⟩
theorem zmk(hu:X.A.units+2<cLine):OpR X (compareOp .NotIn) (rInX X.K true):=by
 intro pins s σ H x y v u Q I rx ry h
 obtain⟨a,b,xs,k,rfl,rfl,d,kk,q⟩:=h
 cases rx;cases ry
 exact zpq hu I d kk λs' I'=>⟨.bl _,H,I',rfl,q⟩
theorem DT.typeIs(I:Inv X pins σ H s)(h:DT X.K H a xs):s.TypeIs (.ref a) "dict":=let⟨_,_,d,_⟩:=h.de I;d.ty
noncomputable def rIxX(K:PySem.W.Frag):R2:=λx y H Q=>∃a b xs k p,x=.ref a/\y=.ref b/\DT K H a xs/\KeyAt K H k b/\findX xs k=some p/\Q p.2 H
theorem ix_dt(hu:X.A.units+2<cLine):IxR X (rIxX X.K):=by
 intro value slice pins s σ H x y v u Q I rx ry q hs
 obtain⟨a,b,xs,k,p,rfl,rfl,d,kk,g,q⟩:=q
 cases rx;cases ry
 exact tail_any (d.typeIs I) PySem.F.slot_dict_getitem.lookup (zv1 hu I d kk g λw' s3 I3 rw'=>⟨p.2,H,I3,rw',q⟩) hs
noncomputable def rSetX(K:PySem.W.Frag):V->V->V->Hp->(Hp->Prop)->Prop:=λo i v H Q=>∃a b xs k,o=.ref a/\i=.ref b/\DT K H a xs/\Mut (H a)/\KeyAt K H k b/\xs.length<sizeLine/\Q (upd H a (dtH (putX xs k b v) a))
theorem zv7(hu:X.A.units+2<cLine):PSet X (rSetX X.K):=by
 intro pins s σ H o i v ov iv u Q I ro ri rv h
 obtain⟨a,b,xs,k,rfl,rfl,d,mu,kk,hz,q⟩:=h
 cases ro;cases ri
 exact zv2 hu I d mu kk hz rv λs' I'=>⟨_,I',q⟩
theorem PSet.or{t t':V->V->V->Hp->(Hp->Prop)->Prop}(h:PSet X t)(h':PSet X t'):PSet X (λo i v H Q=>t o i v H Q\/t' o i v H Q):=by
 intro pins s σ H o i v ov iv u Q I ro ri rv q
 rcases q with q|q
 .exact h pins s σ H o i v ov iv u Q I ro ri rv q
 .exact h' pins s σ H o i v ov iv u Q I ro ri rv q
theorem zml:CallR X (.builtin "len") (λys H Q=>∃a xs,ys=[.ref a]/\DT X.K H a xs/\Q (.int xs.length) H):=by
 intro pins s σ H ys us Q I r h
 obtain⟨a,xs,rfl,d,q⟩:=h
 obtain⟨u,rfl,rx⟩:=vals1 r
 cases rx
 obtain⟨es,ep,de,hz,_⟩:=d.de I
 obtain⟨hl,hd,_⟩:=d.dict I
 refine zv3 hd de (by rw[hz];have:=ves;omega) λt tk=>⟨.int xs.length,H,I.tok _,⟨t,by rw[hz]⟩,q⟩
theorem zmm(hc:X.calm=true):CallR X (.type "tuple") (λys H Q=>∃a xs,ys=[.ref a]/\DT X.K H a xs/\∀l,H l=none->Q (.ref l) (upd H l (.tup (xs.map λp=>.ref p.2.1)))):=by
 intro pins s σ H ys us Q I r h
 obtain⟨a,xs,rfl,d,q⟩:=h
 obtain⟨u,rfl,rx⟩:=vals1 r
 cases rx
 obtain⟨es,ep,de,hz,hk⟩:=d.de I
 obtain⟨hl,hd,_⟩:=d.dict I
 refine zpr (I.ok.hd hc) hd de (by omega) λh' tk kp=>?_
 have I1:Inv X pins σ H {s with heap:=h',toks:=tk}:=I.kept (t':=tk) kp
 have rv:Vals (xs.map λp=>.ref p.2.1) (es.map (·.key)).toList:=by
  have:∀(xs:DX)(ls:List DictEntry),ls.length=xs.length->(∀(i:Nat)(p:DK×Addr×V),xs[i]?=some p->∃e:DictEntry,ls[i]?=some e/\e.key=Value.ref p.2.1)->Vals (xs.map λp=>V.ref p.2.1) (ls.map (·.key)):=by
   intro xs
   induction xs with
   |nil=>intro ls e _;cases ls with|nil=>exact .nil|cons=>cases e
   |cons p ps ih=>
    intro ls e h
    cases ls with
    |nil=>cases e
    |cons l ls=>
     obtain⟨e',h1,h2⟩:=h 0 p rfl
     cases h1
     refine .cons ?_ (ih ls (by simpa using e) λi q hq=>by simpa using h (i+1) q (by simpa using hq))
     exact h2
  have:=this xs es.toList (by simpa using hz) (λi p hp=>by simpa using hk i p hp)
  simpa using this
 have I2:Inv X pins σ (upd H h'.objs.size (.tup (xs.map λp=>.ref p.2.1))) {s with heap:=h'.push {cls:=.type "tuple",data:=.seq (es.map (·.key))},toks:=tk}:=
  I1.laid (t':=tk) (λb o e=>vac _ e) (vae _) (show ObjOk X.prog X.w _ _ _ (.tup _)from⟨by rw[vad];exact hl,_,rv,by rw[Array.toArray_toList];exact za9.new h' (es.map (·.key))⟩)
 exact⟨.ref h'.objs.size,_,I2,rfl,q _ (I1.hok.fresh (vae _))⟩
noncomputable def zv8(K:PySem.W.Frag)(trs:List (TE×TE)):TE:=λσ H Q=>∀p,H p=none->zjk trs σ (upd H p (.dK [])) λps H2=>H2 p=some (.dK [])/\((∃kvs:List (Key×V),ps=kvs.map (λkv=>(kV kv.1,kv.2))/\kvs.length<=15/\Q (.ref p) (upd H2 p (.dK (zdl [] kvs))))\/
 ∃b k v,ps=[(.ref b,v)]/\KeyAt K H2 k b/\Q (.ref p) (upd H2 p (dtH [(k,b,v)] p)))
theorem zps{pos:Pos}{keys:List (Option Expr)}{values:List Expr}{trs:List (TE×TE)}(hu:X.A.units+2<cLine)(h:PPs X pos keys values trs)(hall:keys.all (·.isSome)=true)(hl:keys.length=values.length)(h0:keys≠[])
 (h15:keys.length<=15):PE X (.Dict keys values pos) (zv8 X.K trs):=by
 intro pins s σ H Q I q
 have hn:=I.hok.fresh (vae s.heap.objs.size)
 have I1:=I.laid (a:=s.heap.objs.size) (o:=.dK []) (h':=s.heap.push {cls:=.type "dict",data:=.dict #[]}) (t':=s.toks) (λ_ _ q=>vac _ q) (vae _) (zjj s.heap I.big)
 refine wpAny_Dict_any hall hl h0 h15 (thn (h pins _ σ _ _ I1 (q _ hn)) λws s2 hq0=>?_)
 obtain⟨ps,H2,I2,rel,e,q2⟩:=hq0
 unfold storeAll
 rcases q2 with⟨kvs,ep,lk,q2⟩|⟨b,k,v,ep,kk,q2⟩
 .subst ep
  obtain⟨rs,c,rk⟩:=zfa (P:=X.prog) (w:=X.w) rel
  obtain⟨z,hd,vs0,r0,dd⟩:=dk_of I2.hok e
  cases r0
  have hr:rs.length=kvs.length:=(ve6 rk).symm
  refine wpAny_storeAll (knd:=za0 X.prog X.w) ws rs [] s2 _ c dd (by rw[vd2,ves];omega) λh' dd' hs=>⟨.ref s.heap.objs.size,_,?_,rfl,q2⟩
  have hz:(zdl [] kvs).length<=sizeLine:=by
   have h1:=zco kvs []
   rw[vd2]at h1
   rw[ves];omega
  have he:∃q,h'.get? s.heap.objs.size=some q:=let⟨q,_,_,hq,_⟩:=dd';⟨q,hq⟩
  exact zii I2 (by rw[e];exact True.intro) hs he (zvt hz hd (rk.merge .nil) dd')
 .subst ep
  cases rel with
  | @cons p0 w0 ps0 ws0 rp rr=>
   cases rr
   obtain⟨w1,w2⟩:=w0
   obtain⟨r1,r2⟩:=rp
   cases r1
   have d:DT X.K H2 s.heap.objs.size []:=.inr ⟨rfl,.inl e⟩
   obtain⟨_,y,us,rl,dd⟩:=d.dict I2
   cases rl
   rw[vd0]
   refine vaa (vaa (wpAny_dictSet_heap (knd:=dKind X.prog X.w) (hsz:=by simp) (by show X.A.units+1<cLine;omega) (kk.is I2) dd λh' dd' hs=>vaf ?_))
   show wpAny _ _ (pure _) _ _ _
   refine vaf ⟨.ref s.heap.objs.size,_,?_,rfl,q2⟩
   obtain⟨q,es,ep,hq,h2,h3,h4,_,h5⟩:=dd'
   refine zii I2 (by rw[e];exact True.intro) hs ⟨q,hq⟩ (zq7 ⟨by rw[ves];exact Nat.le_add_left 1 16777215,y,by simp,[(k,b,w2)],.cons ⟨rfl,rfl,r2⟩ .nil,q,es,ep,hq,h2,h3,h4⟩)
end
end L2
namespace RF
open PySem
inductive W where
 |non|bl (b:Bool)|int (i:Int)|str (x:Str)|tup (ws:List W)|fz (ws:List W)|ref (i:Nat)
mutual
noncomputable def W.lt(n:Nat):W->Bool
 |.tup ws=>W.lts n ws
 |.fz ws=>W.lts n ws
 |.ref i=>Nat.blt i n
 |_=>true
noncomputable def W.lts(n:Nat):List W->Bool
 |[]=>true
 |w::ws=>W.lt n w&&W.lts n ws
end
inductive VO where
 |lst (ws:List W)|dk (kvs:List (L2.Key×W))|dt (ks ws:List W)
structure VH where
 n:Nat
 lo:Nat
 os:List VO
noncomputable def VH.get(h:VH)(i:Nat):Option VO:=if Nat.blt i h.n then h.os[h.n-1-i]? else none
noncomputable def VH.set(h:VH)(i:Nat)(o:VO):VH:=⟨h.n,if Nat.blt i h.lo then i else h.lo,h.os.set (h.n-1-i) o⟩
noncomputable def VH.new(h:VH)(o:VO):VH:=⟨h.n+1,h.lo,o::h.os⟩
inductive Res(α:Type)where
 |ok (a:α) (h:VH)|ex (x:W) (h:VH)|no
noncomputable def Res.bind{α β:Type}(r:Res α)(f:α->VH->Res β):Res β:=match r with
 |.ok a h=>f a h
 |.ex x h=>.ex x h
 |.no=>.no
noncomputable def Res.of{α:Type}(o:Option α)(h:VH):Res α:=match o with
 |some a=>.ok a h
 |none=>.no
inductive Op where
 |add|sub|mul|fdiv|mod|shl|pow
 deriving DecidableEq
inductive Cp where
 |eq|ne|lt|le|gt|ge|isn|notn|inn|nin
 deriving DecidableEq
inductive Ty where
 |int|bool|tuple|list|str|dict
 deriving DecidableEq
inductive Bi where
 |len|list|tuple|int|abs|max|min|all|lrng
 deriving DecidableEq
inductive Mt where
 |append
 deriving DecidableEq
inductive Kd where
 |seq|rng1|rng2|enm|zip|rev
 deriving DecidableEq
inductive Tg where
 |one (i:Nat)|many (is:List Nat)
 deriving DecidableEq
inductive E where
 |var (i:Nat)|cst (w:W)
 |nil|cons (a r:E)
 |tup (a:E)|lst (a:E)|dsp (a:E)
 |op (o:Op) (a b:E)|neg (a:E)
 |cmp (c:Cp) (a b:E)|chn (c d:Cp) (a b e:E)
 |not (a:E)|and (a b:E)|or (a b:E)|tru (a:E)|ite (c a b:E)
 |idx (a b:E)|slc (a:E) (bl:Bool) (lo:E) (bh:Bool) (hi:E)
 |call (f:Nat) (a:E)|bi (b:Bi) (a:E)|isi (t:Ty) (a:E)|mt (m:Mt) (o a:E)
 |lc (k:Kd) (a:E) (t:Tg) (ow:Nat) (ix:List Nat) (c e:E)
inductive S where
 |skip|seq (a b:S)|set (i:Nat) (e:E)|unp (is:List Nat) (e:E)|aug (i:Nat) (o:Op) (e:E)
 |put (o i v:E)|ite (c:E) (a b:S)|ret (e:E)|expr (e:E)|brk|cnt
 |for (k:Kd) (a:E) (t:Tg) (b:S)|whl (c:E) (b:S)|no
noncomputable abbrev En:=List (Option W)
inductive Fl where
 |nx (ρ:En)|rt (w:W)|bk (ρ:En)|ct (ρ:En)
noncomputable def mapO{α β:Type}(f:α->Option β):List α->Option (List β)
 |[]=>some []
 |a::r=>match f a with
  |some b=>(match mapO f r with
   |some bs=>some (b::bs)
   |none=>none)
  |none=>none
noncomputable def toD(h:VH):Nat->W->Option PyData
 |0,_=>none
 |n+1,w=>match w with
  |.non=>some .none
  |.bl b=>some (.bool b)
  |.int i=>some (.int i)
  |.str x=>some (.str x)
  |.tup ws=>(mapO (toD h n) ws).map .tuple
  |.fz ws=>(mapO (toD h n) ws).map .list
  |.ref i=>match h.get i with
   |some (.lst ws)=>(mapO (toD h n) ws).map .list
   |_=>none
noncomputable def eqW(h:VH)(x y:W):Option Bool:=
 match toD h 24 x,toD h 24 y with
 |some d,some e=>if SeqAt.shaped d&&SeqAt.shaped e then some (PyData.eqv d e)else none
 |_,_=>none
noncomputable def big:Nat:=16777216
noncomputable def za7(i:Int):Bool:=decide (-(2 ^ 64)<i)&&decide (i<2 ^ 64)
noncomputable def opI:Op->Int->Int->Option Int
 |.add,i,j=>some (i+j)
 |.sub,i,j=>some (i-j)
 |.mul,i,j=>if za7 i||za7 j then some (i*j)else none
 |.fdiv,i,j=>if decide (0<j)&&decide (j<1073741824)then some (i/j)else none
 |.mod,i,j=>if decide (0<j)then some (i % j)else none
 |.shl,i,j=>if decide (0<=j)&&decide (j<=1000000)&&decide (i.natAbs<2 ^ 64)then some (i*2 ^ j.toNat)else none
 |.pow,i,j=>if decide (0<=j)&&decide (j<=1000000)&&decide (i.natAbs<2 ^ 64)then some (i ^ j.toNat)else none
noncomputable def opT:Op->List W->List W->Option (List W)
 |.add,xs,ys=>if Nat.ble (xs.length+ys.length) big then some (xs++ys)else none
 |_,_,_=>none
noncomputable def opL:Op->List W->List W->Option (List W)
 |.add,xs,ys=>if Nat.ble (xs.length+ys.length) big then some (xs++ys)else none
 |_,_,_=>none
noncomputable def fits(i:Int):Bool:=decide (-(2 ^ 62)<=i)&&decide (i<2 ^ 62)
noncomputable def repW(o:Op)(xs:List W)(k:Int):Option (List W):=match o with
 |.mul=>if fits k&&Nat.ble (xs.length*k.toNat) big then some (List.replicate k.toNat xs).flatten else none
 |_=>none
noncomputable def opW(o:Op)(x y:W)(h:VH):Res W:=match x,y with
 |.int i,.int j=>.of ((opI o i j).map .int) h
 |.tup xs,.tup ys=>.of ((opT o xs ys).map .tup) h
 |.tup xs,.int k=>.of ((repW o xs k).map .tup) h
 |.ref i,.int k=>(match h.get i with
  |some (.lst xs)=>(match repW o xs k with
   |some zs=>.ok (.ref h.n) (h.new (.lst zs))
   |none=>.no)
  |_=>.no)
 |.ref i,.ref j=>match h.get i,h.get j with
  |some (.lst xs),some (.lst ys)=>(match opL o xs ys with
   |some zs=>.ok (.ref h.n) (h.new (.lst zs))
   |none=>.no)
  |_,_=>.no
 |_,_=>.no
noncomputable def ipW(o:Op)(x y:W)(h:VH):Res W:=match x,y with
 |.int i,.int j=>(match o with
  |.add=>.ok (.int (i+j)) h
  |.sub=>.ok (.int (i-j)) h
  |.mul=>.of ((opI .mul i j).map .int) h
  |.fdiv=>.of ((opI .fdiv i j).map .int) h
  |_=>.no)
 |.ref i,.ref j=>match o,h.get i,h.get j with
  |.add,some (.lst xs),some (.lst ys)=>if Nat.ble (xs.length+ys.length) big then .ok (.ref i) (h.set i (.lst (xs++ys)))else .no
  |_,_,_=>.no
 |_,_=>.no
noncomputable def cmpI:Cp->Int->Int->Option Bool
 |.lt,i,j=>some (decide (i<j))
 |.le,i,j=>some (decide (i<=j))
 |.gt,i,j=>some (decide (j<i))
 |.ge,i,j=>some (decide (j<=i))
 |_,_,_=>none
noncomputable def isNon:W->Bool
 |.non=>true
 |_=>false
noncomputable def seqW(h:VH):W->Option (List W)
 |.tup ws=>some ws
 |.fz ws=>some ws
 |.ref i=>match h.get i with
  |some (.lst ws)=>some ws
  |_=>none
 |_=>none
noncomputable def intD:W->Option Int
 |.int i=>some i
 |_=>none
noncomputable def keyD:W->Option L2.DK
 |.tup [.tup ws,.non]=>(mapO intD ws).map λis=>(is,none)
 |.tup [.tup ws,.int i]=>(mapO intD ws).map λis=>(is,some i)
 |_=>none
noncomputable def lookD:List W->List W->L2.DK->Option W
 |k::ks,w::ws,d=>if keyD k=some d then some w else lookD ks ws d
 |_,_,_=>none
noncomputable def inD(h:VH)(x y:W):Option Bool:=match y with
 |.ref a=>(match h.get a,keyD x with
  |some (.dt ks ws),some k=>some (lookD ks ws k).isSome
  |_,_=>none)
 |_=>none
noncomputable def idxD(h:VH)(a:Nat)(y:W):Option W:=match h.get a,keyD y with
 |some (.dt ks ws),some k=>lookD ks ws k
 |_,_=>none
noncomputable def keysD(h:VH)(x:W):Option (List W):=match x with
 |.ref a=>(match h.get a with
  |some (.dt ks _)=>some ks
  |_=>none)
 |_=>none
noncomputable def inW(h:VH)(x y:W):Option Bool:=match seqW h y,toD h 24 x with
 |some ws,some d=>(match mapO (toD h 24) ws with
  |some ds=>if ds.all SeqAt.shaped&&SeqAt.shaped d then some (L2.anyEq ds d)else none
  |none=>none)
 |_,_=>inD h x y
noncomputable def isB:W->W->Option Bool
 |.bl c,.bl b=>some (c==b)
 |_,_=>none
noncomputable def cmpW(c:Cp)(h:VH)(x y:W):Option Bool:=match c with
 |.inn=>inW h x y
 |.nin=>(inW h x y).map (!·)
 |.eq=>eqW h x y
 |.ne=>(eqW h x y).map (!·)
 |.isn=>if isNon y then some (isNon x)else isB x y
 |.notn=>if isNon y then some (!isNon x)else(isB x y).map (!·)
 |c=>match x,y with
  |.int i,.int j=>cmpI c i j
  |_,_=>none
noncomputable def truW(h:VH):W->Option Bool
 |.bl b=>some b
 |.int i=>some (i != 0)
 |.non=>some false
 |.tup ws=>some (!ws.isEmpty)
 |.ref i=>match h.get i with
  |some (.lst ws)=>some (!ws.isEmpty)
  |_=>none
 |_=>none
noncomputable def keyW:W->Option L2.Key
 |.int i=>some (.inl i)
 |.str x=>some (.inr x)
 |_=>none
noncomputable def lookK(kvs:List (L2.Key×W))(k:L2.Key):Option W:=(kvs.find? λkv=>decide (kv.1=k)).map (·.2)
noncomputable def putKW(kvs:List (L2.Key×W))(k:L2.Key)(w:W):List (L2.Key×W):=
 if(kvs.any λkv=>decide (kv.1=k))=true then kvs.map (λkv=>if kv.1=k then(kv.1,w)else kv)else kvs++[(k,w)]
noncomputable def idxW(h:VH)(x y:W):Option W:=match x,y with
 |.tup ws,.int i=>L2.atI ws i
 |.fz ws,.int i=>L2.atI ws i
 |.ref a,.int i=>(match h.get a with
  |some (.lst ws)=>L2.atI ws i
  |some (.dk kvs)=>lookK kvs (.inl i)
  |_=>none)
 |.ref a,.str x=>(match h.get a with
  |some (.dk kvs)=>lookK kvs (.inr x)
  |_=>none)
 |.ref a,y=>idxD h a y
 |_,_=>none
noncomputable def partW(b:Bool)(w:W):Option (Option Int):=match b,w with
 |false,_=>some none
 |true,.int i=>some (some i)
 |_,_=>none
noncomputable def cutW(ws:List W)(lo hi:Option Int):List W:=(ws.drop (HT.sIx ws.length 0 lo)).take (HT.sIx ws.length ws.length hi-HT.sIx ws.length 0 lo)
noncomputable def slcW(x:W)(l u:Option Int)(h:VH):Res W:=match x with
 |.tup ws=>.ok (.tup (cutW ws l u)) h
 |.ref i=>(match h.get i with
  |some (.lst ws)=>.ok (.ref h.n) (h.new (.lst (cutW ws l u)))
  |_=>.no)
 |_=>.no
@[simp] theorem slcW_tup {ws:List W} {l u:Option Int} {h:VH}:slcW (.tup ws) l u h=.ok (.tup (cutW ws l u)) h:=rfl
noncomputable def tyIs:Ty->VH->W->Option Bool
 |t,_,.non=>some false
 |t,_,.bl _=>some (t == .int||t == .bool)
 |t,_,.int _=>some (t == .int)
 |t,_,.str _=>some (t == .str)
 |t,_,.tup _=>some (t == .tuple)
 |_,_,.fz _=>none
 |t,h,.ref i=>match h.get i with
  |some (.lst _)=>some (t == .list)
  |some (.dk _)=>some (t == .dict)
  |_=>none
noncomputable def lenW(xs:List W)(h:VH):Res W:=match xs with
 |[x]=>.of (match seqW h x with
  |some ws=>some (.int ws.length)
  |none=>(keysD h x).map λks=>.int ks.length) h
 |_=>.no
noncomputable def listW(xs:List W)(h:VH):Res W:=match xs with
 |[x]=>(match seqW h x with
  |some ws=>.ok (.ref h.n) (h.new (.lst ws))
  |none=>.no)
 |_=>.no
noncomputable def zdm(xs:List W)(h:VH):Res W:=match xs with
 |[x]=>.of (match seqW h x with
  |some ws=>some (.tup ws)
  |none=>(keysD h x).map .tup) h
 |_=>.no
noncomputable def intW(xs:List W)(h:VH):Res W:=match xs with
 |[.int i]=>.ok (.int i) h
 |[.bl b]=>.ok (.int (if b then 1 else 0)) h
 |_=>.no
noncomputable def absW(xs:List W)(h:VH):Res W:=match xs with
 |[.int i]=>.ok (.int (if i<0 then -i else i)) h
 |_=>.no
noncomputable def maxW(xs:List W)(h:VH):Res W:=match xs with
 |[.int i,.int j]=>.ok (.int (if j>i then j else i)) h
 |_=>.no
noncomputable def minW(xs:List W)(h:VH):Res W:=match xs with
 |[.int i,.int j]=>.ok (.int (if j<i then j else i)) h
 |_=>.no
noncomputable def blW:W->Option Bool
 |.bl b=>some b
 |_=>none
noncomputable def allW(xs:List W)(h:VH):Res W:=match xs with
 |[.ref i]=>(match h.get i with
  |some (.lst ws)=>.of ((mapO blW ws).map λbs=>.bl (bs.all id)) h
  |_=>.no)
 |_=>.no
noncomputable def ints0(j:Nat):List W:=(List.range' 0 j).map λ(i:Nat)=>W.int (0+ (i:Int))
noncomputable def lrngW(xs:List W)(h:VH):Res W:=match xs with
 |[.int i]=>if decide (0<=i)&&Nat.ble i.toNat big then .ok (.ref h.n) (h.new (.lst (ints0 i.toNat)))else .no
 |_=>.no
noncomputable def biW(b:Bi)(xs:List W)(h:VH):Res W:=match b with
 |.abs=>absW xs h
 |.max=>maxW xs h
 |.min=>minW xs h
 |.all=>allW xs h
 |.lrng=>lrngW xs h
 |.len=>lenW xs h
 |.list=>listW xs h
 |.tuple=>zdm xs h
 |.int=>intW xs h
noncomputable def mtW(m:Mt)(o:W)(xs:List W)(h:VH):Res W:=match m,o,xs with
 |.append,.ref i,[x]=>(match h.get i with
  |some (.lst ws)=>if Nat.blt ws.length big then .ok .non (h.set i (.lst (ws++[x])))else .no
  |_=>.no)
 |_,_,_=>.no
noncomputable def zg9(m:Mt)(h:VH)(o:W):Bool:=match m,o with
 |.append,.ref i=>(match h.get i with
  |some (.lst _)=>true
  |_=>false)
 |_,_=>false
noncomputable def nxt(k:Kd)(x:W)(i:Nat)(h:VH):Option (Option W):=match k with
 |.seq=>(seqW h x).map λws=>ws[i]?
 |.enm=>(match x with
  |.tup ws=>some ((ws[i]?).map λw=>.tup [.int i,w])
  |_=>none)
 |.rev=>(match x with
  |.tup ws=>some ws.reverse[i]?
  |_=>none)
 |.zip=>(match x with
  |.tup [u,v]=>(match seqW h u,seqW h v with
   |some ws,some zs=>some (match ws[i]?,zs[i]? with
    |some a,some b=>some (.tup [a,b])
    |_,_=>none)
   |_,_=>none)
  |_=>none)
 |.rng1=>(match x with
  |.tup [.int j]=>if fits j then some (if decide ((i:Int)<j)then some (.int (0+i))else none)else none
  |_=>none)
 |.rng2=>(match x with
  |.tup [.int a,.int b]=>if fits a&&fits b then some (if decide ((i:Int)<b-a)then some (.int (a+i))else none)else none
  |_=>none)
noncomputable def zaz:List Nat->List W->En->Option En
 |[],[],ρ=>some ρ
 |i::is,w::ws,ρ=>zaz is ws (ρ.set i (some w))
 |_,_,_=>none
noncomputable def tgW(t:Tg)(w:W)(h:VH)(ρ:En):Option En:=match t with
 |.one i=>some (ρ.set i (some w))
 |.many is=>match seqW h w with
  |some ws=>zaz is ws ρ
  |none=>none
noncomputable def fuel:Nat:=1000000
noncomputable def inner(ow:Nat)(ix:List Nat)(ρ:En):En:=List.replicate ow none++ix.map λj=>(ρ[j]?).join
noncomputable def lcG(nx:Nat->VH->Option (Option W))(tg:W->VH->En->Option En)(c:En->VH->Res W)(e:En->VH->Res W):Nat->Nat->En->VH->List W->Res (List W)
 |0,_,_,_,_=>.no
 |f+1,i,ρ,h,acc=>match nx i h with
  |none=>.no
  |some none=>.ok acc.reverse h
  |some (some w)=>match tg w h ρ with
   |none=>.no
   |some ρ=>(c ρ h).bind λb h=>match b with
    |.bl true=>(e ρ h).bind λy h=>lcG nx tg c e f (i+1) ρ h (y::acc)
    |.bl false=>lcG nx tg c e f (i+1) ρ h acc
    |_=>.no
noncomputable def forG(nx:Nat->VH->Option (Option W))(tg:W->VH->En->Option En)(b:En->VH->Res Fl):Nat->Nat->En->VH->Res Fl
 |0,_,_,_=>.no
 |f+1,i,ρ,h=>match nx i h with
  |none=>.no
  |some none=>.ok (.nx ρ) h
  |some (some w)=>match tg w h ρ with
   |none=>.no
   |some ρ=>(b ρ h).bind λfl h=>match fl with
    |.nx ρ=>forG nx tg b f (i+1) ρ h
    |.ct ρ=>forG nx tg b f (i+1) ρ h
    |.bk ρ=>.ok (.nx ρ) h
    |.rt w=>.ok (.rt w) h
noncomputable def whlG(c:En->VH->Res W)(b:En->VH->Res Fl):Nat->En->VH->Res Fl
 |0,_,_=>.no
 |f+1,ρ,h=>(c ρ h).bind λt h=>match t with
  |.bl false=>.ok (.nx ρ) h
  |.bl true=>(b ρ h).bind λfl h=>match fl with
   |.nx ρ=>whlG c b f ρ h
   |.ct ρ=>whlG c b f ρ h
   |.bk ρ=>.ok (.nx ρ) h
   |.rt w=>.ok (.rt w) h
  |_=>.no
noncomputable def zcp:List W->Option (List (L2.Key×W))
 |[]=>some []
 |k::v::r=>match keyW k with
  |some k=>(match zcp r with
   |some kvs=>some ((k,v)::kvs)
   |none=>none)
  |none=>none
 |_=>none
noncomputable def zq8(kvs more:List (L2.Key×W)):List (L2.Key×W):=more.foldl (λacc kv=>putKW acc kv.1 kv.2) kvs
noncomputable def dkO:List (L2.Key×W)->VO
 |[]=>.dt [] []
 |kvs=>.dk (zq8 [] kvs)
noncomputable def dspD(ys:List W)(h:VH):Res W:=match ys with
 |[k,w]=>(match keyD k with
  |some _=>.ok (.ref h.n) (h.new (.dt [k] [w]))
  |none=>.no)
 |_=>.no
noncomputable def putD(ρ:En)(a:Nat)(y w:W)(h:VH):Res Fl:=match h.get a,keyD y with
 |some (.dt ks ws),some k=>if(lookD ks ws k).isNone&&Nat.blt ks.length big then .ok (.nx ρ) (h.set a (.dt (ks++[y]) (ws++[w])))else .no
 |_,_=>.no
noncomputable abbrev Call:=Nat->List W->VH->Res W
noncomputable def ev(cl:Call):E->En->VH->Res W
 |.var i,ρ,h=>.of (ρ[i]?).join h
 |.cst w,_,h=>.ok w h
 |.nil,_,h=>.ok (.tup []) h
 |.cons a r,ρ,h=>(ev cl a ρ h).bind λx h=>(ev cl r ρ h).bind λy h=>match y with
  |.tup ys=>.ok (.tup (x::ys)) h
  |_=>.no
 |.tup a,ρ,h=>(ev cl a ρ h).bind λy h=>match y with
  |.tup ys=>if Nat.ble ys.length 1000 then .ok (.tup ys) h else .no
  |_=>.no
 |.lst a,ρ,h=>(ev cl a ρ h).bind λy h=>match y with
  |.tup ys=>if Nat.ble ys.length 1000 then .ok (.ref h.n) (h.new (.lst ys))else .no
  |_=>.no
 |.dsp a,ρ,h=>(ev cl a ρ h).bind λy h=>match y with
  |.tup ys=>(match zcp ys with
   |some kvs=>if Nat.ble kvs.length 15 then .ok (.ref h.n) (h.new (dkO kvs))else .no
   |none=>dspD ys h)
  |_=>.no
 |.op o a b,ρ,h=>(ev cl a ρ h).bind λx h=>(ev cl b ρ h).bind λy h=>opW o x y h
 |.neg a,ρ,h=>(ev cl a ρ h).bind λx h=>match x with
  |.int i=>.ok (.int (-i)) h
  |_=>.no
 |.cmp c a b,ρ,h=>(ev cl a ρ h).bind λx h=>(ev cl b ρ h).bind λy h=>.of ((cmpW c h x y).map .bl) h
 |.chn c d a b e,ρ,h=>(ev cl a ρ h).bind λx h=>(ev cl b ρ h).bind λy h=>match cmpW c h x y with
  |some true=>(ev cl e ρ h).bind λz h=>.of ((cmpW d h y z).map .bl) h
  |some false=>.ok (.bl false) h
  |none=>.no
 |.not a,ρ,h=>(ev cl a ρ h).bind λx h=>match x with
  |.bl b=>.ok (.bl (!b)) h
  |_=>.no
 |.and a b,ρ,h=>(ev cl a ρ h).bind λx h=>match x with
  |.bl true=>ev cl b ρ h
  |.bl false=>.ok (.bl false) h
  |_=>.no
 |.or a b,ρ,h=>(ev cl a ρ h).bind λx h=>match x with
  |.bl true=>.ok (.bl true) h
  |.bl false=>ev cl b ρ h
  |_=>.no
 |.tru a,ρ,h=>(ev cl a ρ h).bind λx h=>.of ((truW h x).map .bl) h
 |.ite c a b,ρ,h=>(ev cl c ρ h).bind λx h=>match x with
  |.bl true=>ev cl a ρ h
  |.bl false=>ev cl b ρ h
  |_=>.no
 |.idx a b,ρ,h=>(ev cl a ρ h).bind λx h=>(ev cl b ρ h).bind λy h=>.of (idxW h x y) h
 |.slc a bl lo bh hi,ρ,h=>(ev cl a ρ h).bind λx h=>(ev cl lo ρ h).bind λl h=>(ev cl hi ρ h).bind λu h=>match partW bl l,partW bh u with
  |some l,some u=>slcW x l u h
  |_,_=>.no
 |.call f a,ρ,h=>(ev cl a ρ h).bind λy h=>match y with
  |.tup ys=>cl f ys h
  |_=>.no
 |.bi b a,ρ,h=>(ev cl a ρ h).bind λy h=>match y with
  |.tup ys=>biW b ys h
  |_=>.no
 |.isi t a,ρ,h=>(ev cl a ρ h).bind λx h=>.of ((tyIs t h x).map .bl) h
 |.mt m o a,ρ,h=>(ev cl o ρ h).bind λx h=>if zg9 m h x then(ev cl a ρ h).bind λy h=>match y with
  |.tup ys=>mtW m x ys h
  |_=>.no
  else .no
 |.lc k a t ow ix c e,ρ,h=>(ev cl a ρ h).bind λx h=>(lcG (nxt k x) (tgW t) (ev cl c) (ev cl e) fuel 0 (inner ow ix ρ) h []).bind λys h=>if Nat.ble ys.length big then .ok (.ref h.n) (h.new (.lst ys))else .no
noncomputable def exs(cl:Call):S->En->VH->Res Fl
 |.skip,ρ,h=>.ok (.nx ρ) h
 |.seq a b,ρ,h=>(exs cl a ρ h).bind λfl h=>match fl with
  |.nx ρ=>exs cl b ρ h
  |fl=>.ok fl h
 |.set i e,ρ,h=>(ev cl e ρ h).bind λw h=>.ok (.nx (ρ.set i (some w))) h
 |.unp is e,ρ,h=>(ev cl e ρ h).bind λw h=>.of ((tgW (.many is) w h ρ).map .nx) h
 |.aug i o e,ρ,h=>match(ρ[i]?).join with
  |some x=>(ev cl e ρ h).bind λy h=>(ipW o x y h).bind λz h=>.ok (.nx (ρ.set i (some z))) h
  |none=>.no
 |.put o i v,ρ,h=>(ev cl v ρ h).bind λw h=>(ev cl o ρ h).bind λx h=>(ev cl i ρ h).bind λy h=>match x,y with
  |.ref a,.int j=>(match h.get a with
   |some (.lst ws)=>(match L2.ixN ws.length j with
    |some k=>.ok (.nx ρ) (h.set a (.lst (ws.set k w)))
    |none=>.no)
   |_=>.no)
  |.ref a,y=>putD ρ a y w h
  |_,_=>.no
 |.ite c a b,ρ,h=>(ev cl c ρ h).bind λx h=>match x with
  |.bl true=>exs cl a ρ h
  |.bl false=>exs cl b ρ h
  |_=>.no
 |.ret e,ρ,h=>(ev cl e ρ h).bind λw h=>.ok (.rt w) h
 |.expr e,ρ,h=>(ev cl e ρ h).bind λ_ h=>.ok (.nx ρ) h
 |.brk,ρ,h=>.ok (.bk ρ) h
 |.cnt,ρ,h=>.ok (.ct ρ) h
 |.for k a t b,ρ,h=>(ev cl a ρ h).bind λx h=>forG (nxt k x) (tgW t) (exs cl b) fuel 0 ρ h
 |.whl c b,ρ,h=>whlG (ev cl c) (exs cl b) fuel ρ h
 |.no,_,_=>.no
structure Fn where
 ps:Nat
 n:Nat
 body:S
noncomputable def leave(h:VH)(w:W)(h':VH):Res W:=
 if Nat.ble h.n h'.lo&&W.lt h.n w then .ok w h else .ok w ⟨h'.n,if Nat.ble h.lo h'.lo then h.lo else h'.lo,h'.os⟩
noncomputable def run(F:Nat->Option Fn):Nat->Call
 |0,_,_,_=>.no
 |k+1,f,ws,h=>match F f with
  |some fn=>if Nat.beq ws.length fn.ps then
   (exs (run F k) fn.body (ws.map some++List.replicate (fn.n-fn.ps) none) ⟨h.n,h.n,h.os⟩).bind λfl h'=>match fl with
     |.nx _=>leave h .non h'
     |.rt w=>leave h w h'
     |_=>.no
   else .no
  |none=>.no
open L2 PyProof.Rows PySem.Spec
noncomputable def Fz(K:PySem.W.Frag)(H:Hp)(a:Addr)(xs:List V):Prop:=
 (∃o,H a=some (.frz o (.lst xs)))\/∃(o:Obj) (its:Array Value) (n:Nat),K.lookup a=some o/\o.cls=.type "list"/\o.dict=none/\o.data=.seq its n/\its.size<=sizeLine/\Vals xs its.toList
theorem Fz.sq{K:PySem.W.Frag}{H:Hp}{a:Addr}{xs:List V}(h:Fz K H a xs):SqL K H a xs:=h.elim (λ⟨o,q⟩=>.inl (.inr ⟨o,q⟩)) .inr
mutual
inductive VRep(K:PySem.W.Frag)(m:Nat->Addr)(n:Nat)(H:Hp):V->W->Prop
 |non:VRep K m n H .non .non
 |bl (b:Bool):VRep K m n H (.bl b) (.bl b)
 |int (i:Int):VRep K m n H (.int i) (.int i)
 |str (x:Str):VRep K m n H (.str x) (.str x)
 |tup {a:Addr} {vs:List V} {ws:List W}:SqT K H a vs->VReps K m n H vs ws->VRep K m n H (.ref a) (.tup ws)
 |fz {a:Addr} {vs:List V} {ws:List W}:Fz K H a vs->VReps K m n H vs ws->VRep K m n H (.ref a) (.fz ws)
 |ref {i:Nat}:i<n->VRep K m n H (.ref (m i)) (.ref i)
inductive VReps(K:PySem.W.Frag)(m:Nat->Addr)(n:Nat)(H:Hp):List V->List W->Prop
 |nil:VReps K m n H [] []
 |cons {v:V} {w:W} {vs:List V} {ws:List W}:VRep K m n H v w->VReps K m n H vs ws->VReps K m n H (v::vs) (w::ws)
end
inductive KReps(K:PySem.W.Frag)(m:Nat->Addr)(n:Nat)(H:Hp):List (Key×V)->List (Key×W)->Prop
 |nil:KReps K m n H [] []
 |cons {k:Key} {v:V} {w:W} {vs:List (Key×V)} {ws:List (Key×W)}:VRep K m n H v w->KReps K m n H vs ws->KReps K m n H ((k,v)::vs) ((k,w)::ws)
noncomputable def ORep(K:PySem.W.Frag)(m:Nat->Addr)(n:Nat)(H:Hp)(a:Addr):VO->Prop
 |.lst ws=>∃vs,H a=some (.lst vs)/\VReps K m n H vs ws
 |.dk kvs=>∃kv,Rd H a (.dK kv)/\KReps K m n H kv kvs
 |.dt ks ws=>∃xs:DX,(H a=some (dtH xs a)\/(xs=[]/\H a=some (.dK [])))/\mapO keyD ks=some (xs.map (·.1))/\VReps K m n H (xs.map λx=>.ref x.2.1) ks/\VReps K m n H (xs.map λx=>x.2.2) ws
structure Rel(K:PySem.W.Frag)(m:Nat->Addr)(h:VH)(H:Hp):Prop where
 obj:∀i,i<h.n->∃o,h.get i=some o/\ORep K m h.n H (m i) o
 inj:∀i j,i<h.n->j<h.n->m i=m j->i=j
 len:h.os.length=h.n
structure Stp(m:Nat->Addr)(n:Nat)(H:Hp)(m':Nat->Addr)(n':Nat)(H':Hp):Prop where
 le:n<=n'
 same:∀i,i<n->m' i=m i
 new:∀i,n<=i->i<n'->H (m' i)=none
 apart:∀i j,n<=i->i<n'->j<n->m' i≠m' j
 tup:∀b vs,H b=some (.tup vs)->H' b=some (.tup vs)
 frz:∀b o u,H b=some (.frz o u)->H' b=some (.frz o u)
 keep:∀b o,(∀i,i<n->m i≠b)->H b=some o->H' b=some o
section
variable{K:PySem.W.Frag}{m m' m1 m2:Nat->Addr}{n n' n1 n2:Nat}{h h':VH}{H H' H1 H2:Hp}
theorem Stp.refl:Stp m n H m n H:=⟨vae _,λ_ _=>rfl,λi a b=>absurd b (vco.mpr a),λi j a b=>absurd b (vco.mpr a),λ_ _ q=>q,λ_ _ _ q=>q,λ_ _ _ q=>q⟩
theorem Stp.trans(a:Stp m n H m1 n1 H1)(b:Stp m1 n1 H1 m2 n2 H2):Stp m n H m2 n2 H2 where
 le:=vbs a.le b.le
 same:=λi hi=>(b.same i (vak hi a.le)).trans (a.same i hi)
 new:=λi hi hi2=>by
  by_cases hc:i<n1
  .rw[b.same i hc];exact a.new i hi hc
  .have hc:=vco.mp hc
   cases q:H (m2 i)with
   |none=>rfl
   |some o=>
    have q1:H1 (m2 i)=none:=b.new i hc hi2
    rw[a.keep _ o (λj hj z=>b.apart i j hc hi2 (vak hj a.le) ((b.same j (vak hj a.le)).trans ((a.same j hj).trans z)).symm) q]at q1
    cases q1
 apart:=λi j hi hi2 hj=>by
  by_cases hc:i<n1
  .rw[b.same i hc,b.same j (vak hj a.le)];exact a.apart i j hi hc hj
  .exact b.apart i j (vco.mp hc) hi2 (vak hj a.le)
 tup:=λc vs q=>b.tup c vs (a.tup c vs q)
 frz:=λc o u q=>b.frz c o u (a.frz c o u q)
 keep:=λc o hc q=>b.keep c o (λi hi=>by
  by_cases hl:i<n
  .rw[a.same i hl];exact hc i hl
  .intro z
   have:=a.new i (vco.mp hl) hi
   rw[z,q]at this;cases this) (a.keep c o hc q)
theorem Stp.sqT{a:Addr}{vs:List V}(s:Stp m n H m' n' H')(q:SqT K H a vs):SqT K H' a vs:=by
 rcases q with(q|⟨o,q⟩)|q
 .exact .inl (.inl (s.tup _ _ q))
 .exact .inl (.inr ⟨o,s.frz _ _ _ q⟩)
 .exact .inr q
theorem Stp.fz{a:Addr}{vs:List V}(s:Stp m n H m' n' H')(q:Fz K H a vs):Fz K H' a vs:=by
 rcases q with⟨o,q⟩|q
 .exact .inl ⟨o,s.frz _ _ _ q⟩
 .exact .inr q
mutual
theorem VRep.stp(s:Stp m n H m' n' H'):∀{v:V} {w:W},VRep K m n H v w->VRep K m' n' H' v w
 |_,_,.non=>.non
 |_,_,.bl b=>.bl b
 |_,_,.int b=>.int b
 |_,_,.str b=>.str b
 |_,_,.tup q r=>.tup (s.sqT q) (VReps.stp s r)
 |_,_,.fz q r=>.fz (s.fz q) (VReps.stp s r)
 |_,_,.ref (i:=i) q=>by rw[<-s.same i q];exact .ref (vak q s.le)
theorem VReps.stp(s:Stp m n H m' n' H'):∀{vs:List V} {ws:List W},VReps K m n H vs ws->VReps K m' n' H' vs ws
 |_,_,.nil=>.nil
 |_,_,.cons q r=>.cons (VRep.stp s q) (VReps.stp s r)
end
theorem KReps.stp(s:Stp m n H m' n' H'):∀{vs:List (Key×V)} {ws:List (Key×W)},KReps K m n H vs ws->KReps K m' n' H' vs ws
 |_,_,.nil=>.nil
 |_,_,.cons q r=>.cons (q.stp s) (KReps.stp s r)
theorem VReps.length:∀{vs:List V} {ws:List W},VReps K m n H vs ws->vs.length=ws.length
 |_,_,.nil=>rfl
 |_,_,.cons _ r=>by rw[vai,vai,VReps.length r]
theorem VReps.get:∀{vs:List V} {ws:List W} {i:Nat} {w:W},VReps K m n H vs ws->ws[i]?=some w->∃v,vs[i]?=some v/\VRep K m n H v w
 |_,_,_,_,.nil,e=>by simp at e
 |_,_,0,_,.cons q _,e=>by simp at e;subst e;exact⟨_,rfl,q⟩
 |_,_,i+1,w,.cons _ r,e=>by
  obtain⟨v,h1,h2⟩:=VReps.get (i:=i) (w:=w) r (by simpa using e)
  exact⟨v,by simpa using h1,h2⟩
theorem VReps.append:∀{vs us:List V} {ws zs:List W},VReps K m n H vs ws->VReps K m n H us zs->VReps K m n H (vs++us) (ws++zs)
 |_,_,_,_,.nil,r=>r
 |_,_,_,_,.cons q r,t=>.cons q (VReps.append r t)
theorem VReps.drop:∀(k:Nat) {vs:List V} {ws:List W},VReps K m n H vs ws->VReps K m n H (vs.drop k) (ws.drop k)
 |0,_,_,r=>r
 |_+1,_,_,.nil=>.nil
 |k+1,_,_,.cons _ r=>VReps.drop k r
theorem VReps.take:∀(k:Nat) {vs:List V} {ws:List W},VReps K m n H vs ws->VReps K m n H (vs.take k) (ws.take k)
 |0,_,_,r=>.nil
 |_+1,_,_,.nil=>.nil
 |k+1,_,_,.cons q r=>.cons q (VReps.take k r)
theorem VReps.set{v:V}{w:W}(q:VRep K m n H v w):∀(k:Nat) {vs:List V} {ws:List W},VReps K m n H vs ws->VReps K m n H (vs.set k v) (ws.set k w)
 |_,_,_,.nil=>.nil
 |0,_,_,.cons _ r=>.cons q r
 |k+1,_,_,.cons p r=>.cons p (VReps.set q k r)
theorem ORep.stp{a:Addr}{o:VO}(s:Stp m n H m' n' H')(e:H' a=H a)(q:ORep K m n H a o):ORep K m' n' H' a o:=by
 cases o with
 |lst ws=>obtain⟨vs,h1,h2⟩:=q;exact⟨vs,e.trans h1,h2.stp s⟩
 |dk ws=>obtain⟨vs,h1,h2⟩:=q;exact⟨vs,h1.imp (λz=>e.trans z) λ⟨o,z⟩=>⟨o,e.trans z⟩,h2.stp s⟩
 |dt ks ws=>obtain⟨xs,h1,h0,h2,h3⟩:=q;exact⟨xs,h1.imp (λz=>e.trans z) λ⟨o,z⟩=>⟨o,e.trans z⟩,h0,h2.stp s,h3.stp s⟩
theorem ORep.some{a:Addr}{o:VO}(q:ORep K m n H a o):∃u,H a=some u:=by
 cases o with
 |lst ws=>obtain⟨vs,h1,h2⟩:=q;exact⟨_,h1⟩
 |dk ws=>
  obtain⟨vs,h1,h2⟩:=q
  rcases h1 with h1|⟨o,h1⟩<;>exact⟨_,h1⟩
 |dt ks ws=>
  obtain⟨xs,h1,_⟩:=q
  rcases h1 with h1|⟨_,h1⟩<;>exact⟨_,h1⟩
theorem zar{i j:Nat}:Nat.blt i j=true↔i<j:=by
 unfold Nat.blt;rw[ve8];exact Iff.rfl
theorem zam{i:Nat}{o:VO}(q:h.get i=some o):i<h.n:=by
 unfold VH.get at q
 split at q
 .rename_i z;exact zar.mp z
 .cases q
theorem Rel.at_(r:Rel K m h H){i:Nat}{o:VO}(q:h.get i=some o):ORep K m h.n H (m i) o:=by
 obtain⟨o',h1,h2⟩:=r.obj i (zam q)
 rw[q]at h1;cases h1;exact h2
theorem Rel.lst(r:Rel K m h H){i:Nat}{ws:List W}(q:h.get i=some (.lst ws)):∃vs,H (m i)=some (.lst vs)/\VReps K m h.n H vs ws:=r.at_ q
theorem Rel.dk(r:Rel K m h H){i:Nat}{ws:List (Key×W)}(q:h.get i=some (.dk ws)):∃vs,Rd H (m i) (.dK vs)/\KReps K m h.n H vs ws:=r.at_ q
theorem Rel.dt(r:Rel K m h H){i:Nat}{ks ws:List W}(q:h.get i=some (.dt ks ws)):∃xs:DX,(H (m i)=some (dtH xs (m i))\/(xs=[]/\H (m i)=some (.dK [])))/\mapO keyD ks=some (xs.map (·.1))/\VReps K m h.n H (xs.map λx=>.ref x.2.1) ks/\VReps K m h.n H (xs.map λx=>x.2.2) ws:=r.at_ q
theorem zab{i:Nat}{o:VO}(hi:i<h.n):(h.new o).get i=h.get i:=by
 unfold VH.get VH.new
 have h1:Nat.blt i (h.n+1)=true:=zar.mpr (vet hi)
 have h2:Nat.blt i h.n=true:=zar.mpr hi
 simp only[h1,h2,vbe]
 have:h.n+1-1-i=(h.n-1-i)+1:=by omega
 rw[this];rfl
theorem zad{o:VO}:(h.new o).get h.n=some o:=by
 unfold VH.get VH.new
 have h1:Nat.blt h.n (h.n+1)=true:=zar.mpr (vbq _)
 simp only[h1,vbe]
 have:h.n+1-1-h.n=0:=by omega
 rw[this];rfl
theorem Rel.alloc(r:Rel K m h H){p:Addr}{o:VO}{u:HO}(hp:H p=none)(hu:∀t,u≠.tup t)
 (ho:Stp m h.n H (λi=>if i=h.n then p else m i) (h.n+1) (upd H p u)->ORep K (λi=>if i=h.n then p else m i) (h.n+1) (upd H p u) p o) :
 Stp m h.n H (λi=>if i=h.n then p else m i) (h.n+1) (upd H p u)/\Rel K (λi=>if i=h.n then p else m i) (h.new o) (upd H p u):=by
 have tr:∀i,i<h.n->m i≠p:=λi hi z=>by
  obtain⟨o',_,h2⟩:=r.obj i hi
  obtain⟨u',h3⟩:=h2.some
  rw[z,hp]at h3;cases h3
 have st:Stp m h.n H (λi=>if i=h.n then p else m i) (h.n+1) (upd H p u):=by
  refine⟨vfq _,λi hi=>by simp only[if_neg (va5 hi)],λi hi hi2=>?_,λi j hi hi2 hj=>?_,λb vs q=>?_,λb o u q=>?_,λb o _ q=>?_⟩
  .have:i=h.n:=by omega
   subst this;simp only[vbe];exact hp
  .have:i=h.n:=by omega
   subst this;simp only[vbe,if_neg (va5 hj)];exact(tr j hj).symm
  .rw[zag (zaf q hp)];exact q
  .rw[zag (zaf q hp)];exact q
  .rw[zag (zaf q hp)];exact q
 refine⟨st,⟨λi hi=>?_,λi j hi hj z=>?_,?_⟩⟩
 .have hi:i<h.n+1:=hi
  by_cases e:i=h.n
  .subst e;exact⟨o,zad,by simp only[vbe];exact ho st⟩
  .have hl:i<h.n:=by omega
   obtain⟨o',h1,h2⟩:=r.obj i hl
   refine⟨o',(zab hl).trans h1,?_⟩
   simp only[if_neg e]
   exact ORep.stp st (zag (tr i hl)) h2
 .have hi:i<h.n+1:=hi
  have hj:j<h.n+1:=hj
  by_cases e:i=h.n
  .by_cases e2:j=h.n
   .omega
   .simp only[if_pos e,if_neg e2]at z
    exact absurd z.symm (tr j (by omega))
  .by_cases e2:j=h.n
   .simp only[if_neg e,if_pos e2]at z
    exact absurd z (tr i (by omega))
   .simp only[if_neg e,if_neg e2]at z
    exact r.inj i j (by omega) (by omega) z
 .show(o::h.os).length=h.n+1
  rw[vai,r.len]
theorem zha(r:Rel K m h H){i:Nat}{o:VO}(hi:i<h.n):(h.set i o).get i=some o:=by
 unfold VH.get VH.set
 have h1:Nat.blt i h.n=true:=zar.mpr hi
 simp only[h1,vbe]
 rw[vcr]
 rw[r.len];omega
theorem zc8{i j:Nat}{o:VO}(hi:i<h.n)(hj:j≠i):(h.set i o).get j=h.get j:=by
 unfold VH.get VH.set
 by_cases h1:j<h.n
 .have h2:Nat.blt j h.n=true:=zar.mpr h1
  simp only[h2,vbe]
  rw[vdi]
  omega
 .have h2:Nat.blt j h.n=false:=by
   cases q:Nat.blt j h.n with
   |false=>rfl
   |true=>exact absurd (zar.mp q) h1
  simp only[h2,vap,vbk]
theorem Rel.write(r:Rel K m h H){i:Nat}{o:VO}{u u0:HO}(hi:i<h.n)(h0:H (m i)=some u0)(hn:∀t,u0≠.tup t)(hf:∀o t,u0≠.frz o t)
 (ho:Stp m h.n H m h.n (upd H (m i) u)->ORep K m h.n (upd H (m i) u) (m i) o) :
 Stp m h.n H m h.n (upd H (m i) u)/\Rel K m (h.set i o) (upd H (m i) u):=by
 have st:Stp m h.n H m h.n (upd H (m i) u):=by
  refine⟨vae _,λ_ _=>rfl,λj a b=>absurd b (vco.mpr a),λj k a b=>absurd b (vco.mpr a),λb vs q=>?_,λb o t q=>?_,λb o nb q=>?_⟩
  .rw[zag (ne_of q h0 (λz=>hn vs z.symm))];exact q
  .rw[zag (ne_of q h0 (λz=>hf o t z.symm))];exact q
  .rw[zag (nb i hi).symm];exact q
 refine⟨st,⟨λj hj=>?_,λa b ha hb=>r.inj a b ha hb,?_⟩⟩
 .have hj:j<h.n:=hj
  by_cases e:j=i
  .subst e;exact⟨o,zha r hj,ho st⟩
  .obtain⟨o',h1,h2⟩:=r.obj j hj
   exact⟨o',(zc8 hi e).trans h1,ORep.stp st (zag λz=>e (r.inj j i hj hi z)) h2⟩
 .show(h.os.set _ o).length=h.n
  rw[vel,r.len]
theorem Rel.more(r:Rel K m h H){p:Addr}{u:HO}(hp:H p=none):Stp m h.n H m h.n (upd H p u)/\Rel K m h (upd H p u):=by
 have st:Stp m h.n H m h.n (upd H p u):=by
  refine⟨vae _,λ_ _=>rfl,λj a b=>absurd b (vco.mpr a),λj k a b=>absurd b (vco.mpr a),λb vs q=>?_,λb o t q=>?_,λb o nb q=>?_⟩
  .rw[zag (zaf q hp)];exact q
  .rw[zag (zaf q hp)];exact q
  .rw[zag (zaf q hp)];exact q
 refine⟨st,⟨λj hj=>?_,r.inj,r.len⟩⟩
 obtain⟨o',h1,h2⟩:=r.obj j hj
 obtain⟨u',h3⟩:=h2.some
 exact⟨o',h1,ORep.stp st (zag (zaf h3 hp)) h2⟩
end
theorem zs7{α β:Type}{r:Res α}{f:α->VH->Res β}{b:β}{h':VH}(q:r.bind f=.ok b h'):∃a h1,r=.ok a h1/\f a h1=.ok b h':=by
 cases r with
 |ok a h=>exact⟨a,h,rfl,q⟩
 |ex x h=>cases q
 |no=>cases q
theorem zac{α β:Type}{r:Res α}{f:α->VH->Res β}{w:β}{h':VH}{P:Prop}(e:r.bind f=.ok w h')(k:∀x h1,r=.ok x h1->f x h1=.ok w h'->P):P:=by
 obtain⟨x,h1,a,b⟩:=zs7 e
 exact k x h1 a b
theorem of_ok{α:Type}{o:Option α}{h h':VH}{a:α}(q:Res.of o h=.ok a h'):o=some a/\h'=h:=by
 cases o with
 |none=>cases q
 |some b=>cases q;exact⟨rfl,rfl⟩
structure Fr(K:PySem.W.Frag)(m:Nat->Addr)(n:Nat)(H:Hp)(σ:L2.St)(ρ:En):Prop where
 len:σ.length=ρ.length
 val:∀(i:Nat)(w:W),ρ[i]?=some (some w)->∃v,σ[i]?=some (some v)/\VRep K m n H v w
noncomputable abbrev FE:=En->VH->Res W
noncomputable abbrev FS:=En->VH->Res Fl
noncomputable def lft(K:PySem.W.Frag)(f:FE):TE:=λσ H Q=>∃ρ h m w h',Fr K m h.n H σ ρ/\Rel K m h H/\f ρ h=.ok w h'/\
 ∀v H' m',Stp m h.n H m' h'.n H'->Rel K m' h' H'->VRep K m' h'.n H' v w->Q v H'
noncomputable def lftT(K:PySem.W.Frag)(f:FE):TT:=λσ H Q=>∃ρ h m b h',Fr K m h.n H σ ρ/\Rel K m h H/\f ρ h=.ok (.bl b) h'/\
 ∀H' m',Stp m h.n H m' h'.n H'->Rel K m' h' H'->Q b H'
noncomputable def lftA(K:PySem.W.Frag)(f:FE):TA:=λσ H Q=>∃ρ h m ws h',Fr K m h.n H σ ρ/\Rel K m h H/\f ρ h=.ok (.tup ws) h'/\
 ∀vs H' m',Stp m h.n H m' h'.n H'->Rel K m' h' H'->VReps K m' h'.n H' vs ws->Q vs H'
section
variable{K:PySem.W.Frag}{m:Nat->Addr}{σ:L2.St}{H:Hp}{P:Prop}{fa:FE}{ρ:En}{h h':VH}
theorem lft.el{Q:VK}(q:lft K fa σ H Q)(k:∀ρ h m w h',Fr K m h.n H σ ρ->Rel K m h H->fa ρ h=.ok w h'->(∀v H' m',Stp m h.n H m' h'.n H'->Rel K m' h' H'->VRep K m' h'.n H' v w->Q v H')->P):P:=by
 obtain⟨ρ,h,m,w,h',f,r,e,k'⟩:=q
 exact k ρ h m w h' f r e k'
theorem lft.mk{Q:VK}{w:W}(f:Fr K m h.n H σ ρ)(r:Rel K m h H)(e:fa ρ h=.ok w h')(k:∀v H' m',Stp m h.n H m' h'.n H'->Rel K m' h' H'->VRep K m' h'.n H' v w->Q v H'):lft K fa σ H Q:=⟨ρ,h,m,w,h',f,r,e,k⟩
theorem lftT.el{Q:Bool->Hp->Prop}(q:lftT K fa σ H Q)(k:∀ρ h m b h',Fr K m h.n H σ ρ->Rel K m h H->fa ρ h=.ok (.bl b) h'->(∀H' m',Stp m h.n H m' h'.n H'->Rel K m' h' H'->Q b H')->P):P:=by
 obtain⟨ρ,h,m,w,h',f,r,e,k'⟩:=q
 exact k ρ h m w h' f r e k'
theorem lftT.mk{Q:Bool->Hp->Prop}{b:Bool}(f:Fr K m h.n H σ ρ)(r:Rel K m h H)(e:fa ρ h=.ok (.bl b) h')(k:∀H' m',Stp m h.n H m' h'.n H'->Rel K m' h' H'->Q b H'):lftT K fa σ H Q:=⟨ρ,h,m,b,h',f,r,e,k⟩
theorem lftA.el{Q:List V->Hp->Prop}(q:lftA K fa σ H Q)(k:∀ρ h m ws h',Fr K m h.n H σ ρ->Rel K m h H->fa ρ h=.ok (.tup ws) h'->(∀vs H' m',Stp m h.n H m' h'.n H'->Rel K m' h' H'->VReps K m' h'.n H' vs ws->Q vs H')->P):P:=by
 obtain⟨ρ,h,m,w,h',f,r,e,k'⟩:=q
 exact k ρ h m w h' f r e k'
theorem lftA.mk{Q:List V->Hp->Prop}{ws:List W}(f:Fr K m h.n H σ ρ)(r:Rel K m h H)(e:fa ρ h=.ok (.tup ws) h')(k:∀vs H' m',Stp m h.n H m' h'.n H'->Rel K m' h' H'->VReps K m' h'.n H' vs ws->Q vs H'):lftA K fa σ H Q:=⟨ρ,h,m,ws,h',f,r,e,k⟩
end
noncomputable abbrev SE(X:Cx)(e:Expr)(f:FE):Prop:=PE X e (lft X.K f)
noncomputable abbrev ST(X:Cx)(e:Expr)(f:FE):Prop:=PT X e (lftT X.K f)
noncomputable abbrev SW(X:Cx)(e:Expr)(f:FE):Prop:=PW X e (lftT X.K f)
noncomputable abbrev SA(X:Cx)(es:List Expr)(f:FE):Prop:=PA X es (lftA X.K f)
theorem _root_.L2.PE.imp{X:Cx}{e:Expr}{t t':TE}(h:PE X e t)(k:∀σ H Q,t' σ H Q->t σ H Q):PE X e t':=λpins s σ H Q I q=>h pins s σ H Q I (k σ H Q q)
theorem _root_.L2.PT.imp{X:Cx}{e:Expr}{t t':TT}(h:PT X e t)(k:∀σ H Q,t' σ H Q->t σ H Q):PT X e t':=λpins s σ H Q I q=>h pins s σ H Q I (k σ H Q q)
theorem _root_.L2.PW.imp{X:Cx}{e:Expr}{t t':TT}(h:PW X e t)(k:∀σ H Q,t' σ H Q->t σ H Q):PW X e t':=λwh pins s σ H Q I q=>h wh pins s σ H Q I (k σ H Q q)
theorem _root_.L2.PA.imp{X:Cx}{es:List Expr}{t t':TA}(h:PA X es t)(k:∀σ H Q,t' σ H Q->t σ H Q):PA X es t':=λp pins s σ H Q I q=>h p pins s σ H Q I (k σ H Q q)
theorem _root_.L2.PS.imp{X:Cx}{st:Stmt}{t t':TS}(h:PS X st t)(k:∀D σ H,t' D σ H->t D σ H):PS X st t':=λpins s σ H D I q=>h pins s σ H D I (k D σ H q)
theorem _root_.L2.PSs.imp{X:Cx}{st:List Stmt}{t t':TS}(h:PSs X st t)(k:∀D σ H,t' D σ H->t D σ H):PSs X st t':=λpins s σ H D I q=>h pins s σ H D I (k D σ H q)
section
variable{K:PySem.W.Frag}{m m':Nat->Addr}{n n':Nat}{h h':VH}{H H':Hp}{σ:L2.St}{ρ:En}
theorem Fr.stp(f:Fr K m n H σ ρ)(s:Stp m n H m' n' H'):Fr K m' n' H' σ ρ:=⟨f.len,λi w e=>let⟨v,h1,h2⟩:=f.val i w e;⟨v,h1,h2.stp s⟩⟩
theorem Fr.set(f:Fr K m n H σ ρ){v:V}{w:W}(q:VRep K m n H v w)(i:Nat):Fr K m n H (σ.set i (some v)) (ρ.set i (some w)):=by
 refine⟨by rw[vel,vel];exact f.len,λj w' e=>?_⟩
 by_cases hj:i=j
 .subst hj
  by_cases hl:i<ρ.length
  .rw[vcr hl]at e
   cases e
   exact⟨v,by rw[vcr (by rw[f.len];exact hl)],q⟩
  .rw[vbi (by rw[vel];omega)]at e;cases e
 .rw[vdi hj]at e
  obtain⟨v',h1,h2⟩:=f.val j w' e
  exact⟨v',by rw[vdi hj];exact h1,h2⟩
noncomputable def Wants(K:PySem.W.Frag)(m:Nat->Addr)(n:Nat)(H:Hp)(w:W)(h':VH)(Q:VK):Prop:=∀v H' m',Stp m n H m' h'.n H'->Rel K m' h' H'->VRep K m' h'.n H' v w->Q v H'
theorem Wants.here{w:W}{Q:VK}(k:Wants K m h.n H w h Q)(r:Rel K m h H){v:V}(q:VRep K m h.n H v w):Q v H:=k v H m .refl r q
theorem Wants.list{ws:List W}{vs:List V}{Q:VK}(k:Wants K m h.n H (.ref h.n) (h.new (.lst ws)) Q)(r:Rel K m h H)(q:VReps K m h.n H vs ws){p:Addr}(hp:H p=none):Q (.ref p) (upd H p (.lst vs)):=by
 obtain⟨st,r'⟩:=r.alloc (o:=.lst ws) (u:=.lst vs) hp (λ_ z=>nomatch z) (λst=>⟨vs,zan,q.stp st⟩)
 refine k _ _ _ st r' ?_
 have:VRep K (λi=>if i=h.n then p else m i) (h.n+1) (upd H p (.lst vs)) (.ref ((λi=>if i=h.n then p else m i) h.n)) (.ref h.n):=.ref (vbq _)
 simp only[vbe]at this
 exact this
theorem Wants.dictD{ks ws:List W}{xs:DX}{u:HO}{Q:VK}(k:Wants K m h.n H (.ref h.n) (h.new (.dt ks ws)) Q)(r:Rel K m h H){p:Addr}(hp:H p=none)(hu:u=dtH xs p\/(xs=[]/\u=.dK []))(q0:mapO keyD ks=some (xs.map (·.1)))(q1:VReps K m h.n H (xs.map λx=>.ref x.2.1) ks)(q2:VReps K m h.n H (xs.map λx=>x.2.2) ws):Q (.ref p) (upd H p u):=by
 obtain⟨st,r'⟩:=r.alloc (o:=.dt ks ws) (u:=u) hp (λt z=>by rcases hu with e|⟨_,e⟩<;> (rw[e]at z;exact nomatch z)) (λst=>⟨xs,hu.imp (λe=>by rw[zan,e]) λ⟨a,e⟩=>⟨a,by rw[zan,e]⟩,q0,q1.stp st,q2.stp st⟩)
 refine k _ _ _ st r' ?_
 have:VRep K (λi=>if i=h.n then p else m i) (h.n+1) (upd H p u) (.ref ((λi=>if i=h.n then p else m i) h.n)) (.ref h.n):=.ref (vbq _)
 simp only[vbe]at this
 exact this
theorem Wants.tuple{ws:List W}{vs:List V}{Q:VK}(k:Wants K m h.n H (.tup ws) h Q)(r:Rel K m h H)(q:VReps K m h.n H vs ws){p:Addr}(hp:H p=none):Q (.ref p) (upd H p (.tup vs)):=by
 obtain⟨st,r'⟩:=r.more (u:=.tup vs) hp
 exact k _ _ _ st r' (.tup (SqT.of zan) (q.stp st))
theorem zq9{fa:FE}{g:W->VH->Res W}{G:V->Hp->VK->Prop}
 (hG:∀(m:Nat->Addr)(h:VH)(H:Hp)(v:V)(x w:W)(h':VH)(Q:VK),Rel K m h H->VRep K m h.n H v x->g x h=.ok w h'->Wants K m h.n H w h' Q->G v H Q) {Q:VK}
 (q:lft K (λρ h=>(fa ρ h).bind λx h=>g x h) σ H Q):lft K fa σ H λv H1=>G v H1 Q:=by
 refine q.el λρ h m w h' f r e k=>?_
 refine zac e λx h1 e1 e2=>?_
 exact(.mk f r e1 λv H1 m1 s1 r1 q1=>hG m1 h1 H1 v x w h' Q r1 q1 e2 λv' H' m' s' r' q'=>k v' H' m' (s1.trans s') r' q')
theorem zf5{fa fb:FE}{g:W->W->VH->Res W}{G:V->V->Hp->VK->Prop}
 (hG:∀(m:Nat->Addr)(h:VH)(H:Hp)(v u:V)(x y w:W)(h':VH)(Q:VK),Rel K m h H->VRep K m h.n H v x->VRep K m h.n H u y->g x y h=.ok w h'->Wants K m h.n H w h' Q->G v u H Q) {Q:VK}
 (q:lft K (λρ h=>(fa ρ h).bind λx h=>(fb ρ h).bind λy h=>g x y h) σ H Q):lft K fa σ H λv H1=>lft K fb σ H1 λu H2=>G v u H2 Q:=by
 refine q.el λρ h m w h' f r e k=>?_
 refine zac e λx h1 e1 e2=>?_
 refine zac e2 λy h2 e3 e4=>?_
 refine(.mk f r e1 λv H1 m1 s1 r1 q1=>(.mk (f.stp s1) r1 e3 λu H2 m2 s2 r2 q2=>?_))
 exact hG m2 h2 H2 v u x y w h' Q r2 (q1.stp s2) q2 e4 λv' H' m' s' r' q'=>k v' H' m' ((s1.trans s2).trans s') r' q'
theorem zc9{fa:FE}{g:List W->VH->Res W}{G:List V->Hp->VK->Prop}
 (hG:∀(m:Nat->Addr)(h:VH)(H:Hp)(vs:List V)(xs:List W)(w:W)(h':VH)(Q:VK),Rel K m h H->VReps K m h.n H vs xs->g xs h=.ok w h'->Wants K m h.n H w h' Q->G vs H Q) {Q:VK}
 (q:lft K (λρ h=>(fa ρ h).bind λy h=>match y with|.tup ys=>g ys h|_=>.no) σ H Q):lftA K fa σ H λvs H1=>G vs H1 Q:=by
 refine q.el λρ h m w h' f r e k=>?_
 refine zac e λx h1 e1 e2=>?_
 cases x with
 |tup ys=>exact(.mk f r e1 λvs H1 m1 s1 r1 q1=>hG m1 h1 H1 vs ys w h' Q r1 q1 e2 λv' H' m' s' r' q'=>k v' H' m' (s1.trans s') r' q')
 |_=>cases e2
theorem zjm{f:FE}{Q:Bool->Hp->Prop}(q:lftT K f σ H Q):lft K f σ H λx H'=>∃k,x=.bl k/\Q k H':=by
 refine q.el λρ h m b h' f r e k=>?_
 exact(.mk f r e λv H' m' s' r' q'=>by cases q';exact⟨b,rfl,k H' m' s' r'⟩)
end
section
variable{X:Cx}{a b c e:Expr}{es:List Expr}{fa fb fc:FE}{pos:Pos}
theorem zv9{i:Nat}{x:Str}{pos:Pos}(hN:X.N[i]?=some x)(hv:Vis X.env.scope x)(hd:(x==("__debug__" : Str))=false)(hcd:(x==("__classdict__" : Str))=false):SE X (.Name x pos) (λρ h=>.of (ρ[i]?).join h):=
 (zun hN hv hd hcd).imp λσ H Q z9=>z9.el λρ h m w h' f r e k=>by
   obtain⟨e1,e2⟩:=of_ok e
   subst e2
   have e3:ρ[i]?=some (some w):=by
    cases q:ρ[i]? with
    |none=>rw[q]at e1;cases e1
    |some o=>rw[q]at e1;rw[<-e1];rfl
   obtain⟨v,h1,h2⟩:=f.val i w e3
   exact⟨v,h1,k v H m .refl r h2⟩
theorem zhb{w:W}{v:V}(h:PE X e (tC v))(hv:∀m n H,VRep X.K m n H v w):SE X e (λ_ h=>.ok w h):=
 h.imp λσ H Q z9=>z9.el λρ h m w h' f r e k=>by cases e;exact k v H m .refl r (hv m h.n H)
theorem zwa{i j pos}:SE X (.Constant (.int i) j pos) (λ_ h=>.ok (.int i) h):=zhb zuo λ_ _ _=>.int i
theorem se_bl{i j pos}:SE X (.Constant (.bool i) j pos) (λ_ h=>.ok (.bl i) h):=zhb pe_bl λ_ _ _=>.bl i
theorem zwb{j pos}:SE X (.Constant .none j pos) (λ_ h=>.ok .non h):=zhb zup λ_ _ _=>.non
theorem zwc{i j pos}:SE X (.Constant (.str i) j pos) (λ_ h=>.ok (.str i) h):=zhb zuq λ_ _ _=>.str i
theorem zjn:SA X [] (λ_ h=>.ok (.tup []) h):=zje.imp λσ H Q z9=>z9.el λρ h m ws h' f r e k=>by cases e;exact k [] H m .refl r .nil
theorem zda(ha:SE X e fa)(hr:SA X es fb)(hs:starEach (e::es) X.env=(false,eval e X.env)::starEach es X.env) :
 SA X (e::es) (λρ h=>(fa ρ h).bind λx h=>(fb ρ h).bind λy h=>match y with|.tup ys=>.ok (.tup (x::ys)) h|_=>.no):=
 (zec ha hr hs).imp λσ H Q z9=>z9.el λρ h m ws h' f r e k=>by
   refine zac e λx h1 e1 e2=>?_
   refine zac e2 λy h2 e3 e4=>?_
   cases y with
   |tup ys=>
    cases e4
    exact(.mk f r e1 λv H1 m1 s1 r1 q1=>(.mk (f.stp s1) r1 e3 λvs H2 m2 s2 r2 q2=>k _ H2 m2 (s1.trans s2) r2 (.cons (q1.stp s2) q2)))
   |_=>cases e4
theorem zra{k:Nat}(h:Nat.ble k 1000=true):k<=sizeLine:=ve0 (zg7 (va3 h))
theorem zwd{x1:Nat}(ha:SA X es fa):SE X (.Tuple es x1 pos) (λρ h=>(fa ρ h).bind λy h=>match y with|.tup ys=>(if Nat.ble ys.length 1000 then .ok (.tup ys) h else .no)|_=>.no):=
 (zvh ha).imp λσ H Q q=>zc9 (g:=λys h=>if Nat.ble ys.length 1000 then .ok (.tup ys) h else .no) (G:=λxs H1 Q=>xs.length<=sizeLine/\∀p,H1 p=none->Q (.ref p) (upd H1 p (.tup xs)))
   (λm h H vs xs w h' Q r q e k=>by
     split at e
     .rename_i hl
      cases e
      exact⟨by rw[q.length];exact zra hl,λp hp=>Wants.tuple k r q hp⟩
     .cases e) q
theorem zwe(ha:SA X es fa):SE X (.List es pos) (λρ h=>(fa ρ h).bind λy h=>match y with|.tup ys=>(if Nat.ble ys.length 1000 then .ok (.ref h.n) (h.new (.lst ys))else .no)|_=>.no):=
 (zvi ha).imp λσ H Q q=>zc9 (g:=λys h=>if Nat.ble ys.length 1000 then .ok (.ref h.n) (h.new (.lst ys))else .no) (G:=λxs H1 Q=>xs.length<=sizeLine/\∀p,H1 p=none->Q (.ref p) (upd H1 p (.lst xs)))
   (λm h H vs xs w h' Q r q e k=>by
     split at e
     .rename_i hl
      cases e
      exact⟨by rw[q.length];exact zra hl,λp hp=>Wants.list k r q hp⟩
     .cases e) q
noncomputable def OpV(K:PySem.W.Frag)(r:R2)(g:W->W->VH->Res W):Prop:=∀(m:Nat->Addr) (h:VH) (H:Hp) (v u:V) (x y w:W) (h':VH) (Q:VK),Rel K m h H->VRep K m h.n H v x->VRep K m h.n H u y->g x y h=.ok w h'->Wants K m h.n H w h' Q->r v u H Q
theorem se_op{O:Operator}{r:R2}{g:W->W->VH->Res W}(ho:OpR X (binaryOp O) r)(hg:OpV X.K r g)(ha:SE X a fa)(hb:SE X b fb):SE X (.BinOp a O b pos) (λρ h=>(fa ρ h).bind λx h=>(fb ρ h).bind λy h=>g x y h):=
 (pe_op ho ha hb).imp λσ H Q q=>zf5 (G:=r) hg q
noncomputable def opOf:Operator->Option Op
 |.Add=>some .add|.Sub=>some .sub|.Mult=>some .mul|.FloorDiv=>some .fdiv|.Mod=>some .mod|.Pow=>some .pow
 |_=>none
noncomputable def cI:Op->Int->Int->Prop
 |.mul=>CMul|.fdiv=>CDiv|.mod=>λ_ j=>0<j|.shl=>CPow|.pow=>CPow
 |_=>λ_ _=>True
noncomputable def gI:Op->Int->Int->Int
 |.add=>(· + ·)|.sub=>(· - ·)|.mul=>(· * ·)|.fdiv=>(· / ·)|.mod=>(· % ·)|.shl=>λi j=>i*2 ^ j.toNat|.pow=>λi j=>i ^ j.toNat
noncomputable def rX(K:PySem.W.Frag):Op->R2
 |.add=>λx y H Q=>rCatT K x y H Q\/zq5 K x y H Q\/rCat x y H Q
 |.mul=>λx y H Q=>rRepT K x y H Q\/rRep x y H Q
 |_=>λ_ _ _ _=>False
noncomputable def rB(K:PySem.W.Frag)(o:Op):R2:=λx y H Q=>rI (cI o) (λi j=>.int (gI o i j)) x y H Q\/rX K o x y H Q
theorem zdb{f:Value->Value->Sem Value}{r r':R2}(h:OpR X f r)(k:∀x y H Q,r' x y H Q->r x y H Q):OpR X f r':=λpins s σ H x y v u Q I rx ry q=>h pins s σ H x y v u Q I rx ry (k _ _ _ _ q)
theorem op_ok{O:Operator}{o:Op}(e:opOf O=some o):OpR X (binaryOp O) (rB X.K o):=by
 have tr:∀{g:Int->Int->V}{x y H Q},rI (λ_ _=>True) g x y H Q->rI0 g x y H Q:=λ⟨i,j,h1,h2,_,h3⟩=>⟨i,j,h1,h2,h3⟩
 cases O<;>cases e
 .exact zdb (zu9.or (zso.or (zpk.or zvo))) λx y H Q q=>q.elim (λz=>.inl (tr z)) .inr
 .exact zdb zva λx y H Q q=>q.elim (λz=>tr z) λz=>z.elim
 .exact zdb (zvb.or (zsy.or zvp)) λx y H Q q=>q
 .exact zdb zvc λx y H Q q=>q.elim id λz=>z.elim
 .exact zdb zvd λx y H Q q=>q.elim id λz=>z.elim
 .exact zdb zsf λx y H Q q=>q.elim id λz=>z.elim
theorem zek{i:Int}(h:za7 i=true):-(2 ^ 64)<i/\i<2 ^ 64:=by
 unfold za7 at h
 rw[vab]at h
 exact⟨vbc h.1,vbc h.2⟩
theorem zmn{o:Op}{i j z:Int}(e:opI o i j=some z):cI o i j/\z=gI o i j:=by
 cases o<;>simp only[opI]at e
 .cases e;exact⟨trivial,rfl⟩
 .cases e;exact⟨trivial,rfl⟩
 .split at e
  .rename_i hc
   cases e
   rw[vcw]at hc
   exact⟨hc.elim (λq=>.inl (zek q)) (λq=>.inr (zek q)),rfl⟩
  .cases e
 .split at e
  .rename_i hc
   cases e
   rw[vab]at hc
   exact⟨⟨vbc hc.1,vbc hc.2⟩,rfl⟩
  .cases e
 .split at e
  .rename_i hc
   cases e
   exact⟨(vbc hc:0<j),rfl⟩
  .cases e
 .split at e
  .rename_i hc
   cases e
   rw[vab,vab]at hc
   exact⟨⟨vbc hc.1.1,vbc hc.1.2,vbc hc.2⟩,rfl⟩
  .cases e
 .split at e
  .rename_i hc
   cases e
   rw[vab,vab]at hc
   exact⟨⟨vbc hc.1.1,vbc hc.1.2,vbc hc.2⟩,rfl⟩
  .cases e
theorem zcf{i:Int}(h:fits i=true):-(2 ^ 62)<=i/\i<2 ^ 62:=by
 unfold fits at h
 rw[vab]at h
 exact⟨vbc h.1,vbc h.2⟩
theorem zmo{o:Op}{xs zs:List W}{k:Int}(e:repW o xs k=some zs):o=.mul/\(-(2 ^ 62)<=k/\k<2 ^ 62)/\xs.length*k.toNat<=sizeLine/\zs=(List.replicate k.toNat xs).flatten:=by
 unfold repW at e
 split at e
 .split at e
  .rename_i hc
   cases e
   rw[vab]at hc
   exact⟨rfl,zcf hc.1,va3 hc.2,rfl⟩
  .cases e
 .cases e
theorem VReps.rep{K:PySem.W.Frag}{m:Nat->Addr}{n:Nat}{H:Hp}{vs:List V}{ws:List W}(q:VReps K m n H vs ws):∀k:Nat,VReps K m n H (List.replicate k vs).flatten (List.replicate k ws).flatten
 |0=>.nil
 |k+1=>by
  rw[vbd,vbd,vcj,vcj]
  exact q.append (VReps.rep q k)
theorem zil{K:PySem.W.Frag}{m:Nat->Addr}{n:Nat}{H:Hp}{vs:List V}{ws:List W}(q:VReps K m n H vs ws):vs.isEmpty=ws.isEmpty:=by cases q<;>rfl
theorem zpt{ws:List W}{k:Int}(h:(ws.isEmpty||k==1)=true):(List.replicate k.toNat ws).flatten=ws:=by
 rw[vcw]at h
 rcases h with h|h
 .have:ws=[]:=by simpa using h
  subst this
  induction k.toNat with
  |zero=>rfl
  |succ j ih=>rw[vbd,vcj,ih];rfl
 .have:k=1:=by simpa using h
  subst this
  show(List.replicate 1 ws).flatten=ws
  simp
theorem zwf{K:PySem.W.Frag}(o:Op):OpV K (rB K o) (opW o):=by
 intro m h H v u x y w h' Q r qv qu e k
 unfold opW at e
 split at e
 .rename_i i j
  obtain⟨e,rfl⟩:=of_ok e
  cases qv;cases qu
  cases q:opI o i j with
  |none=>rw[q]at e;cases e
  |some z=>
   rw[q]at e;cases e
   obtain⟨h1,rfl⟩:=zmn q
   exact .inl ⟨i,j,rfl,rfl,h1,Wants.here k r (.int _)⟩
 .rename_i xs ys
  obtain⟨e,rfl⟩:=of_ok e
  cases q:opT o xs ys with
  |none=>rw[q]at e;cases e
  |some zs=>
   rw[q]at e;cases e
   cases o<;>simp only[opT]at q
   split at q
   .rename_i hc
    cases q
    cases qv with
    |tup qa ra=>
     cases qu with
     |tup qb rb=>
      rename_i a va b vb
      have hl:=va3 hc
      cases xs with
      |nil=>
       cases ra
       exact .inr (.inr (.inl ⟨a,b,vb,rfl,rfl,qa,qb,Wants.here k r (.tup qb rb)⟩))
      |cons x0 xs0=>
       refine .inr (.inl ⟨a,b,va,vb,rfl,rfl,qa,qb,λz=>?_,by rw[ra.length,rb.length];exact hl,λz=>?_,λ_ p hp=>Wants.tuple k r (ra.append rb) hp⟩)
       .subst z;cases ra
       .subst z;cases rb
        rw[vcd]at k
        exact Wants.here k r (.tup qa ra)
   .cases q
   all_goals cases q
 .rename_i xs kk
  obtain⟨e,rfl⟩:=of_ok e
  cases q:repW o xs kk with
  |none=>rw[q]at e;cases e
  |some zs=>
   rw[q]at e;cases e
   obtain⟨rfl,⟨k1,k2⟩,hz,rfl⟩:=zmo q
   cases qu
   cases qv with
   |tup qa ra=>
    rename_i a va
    refine .inr (.inl ⟨a,kk,va,rfl,rfl,qa,k1,k2,by rw[ra.length];exact hz,λz=>?_,λz p hp=>Wants.tuple k r (ra.rep _) hp⟩)
    rw[zil ra]at z
    rw[zpt z]at k
    exact Wants.here k r (.tup qa ra)
 .rename_i i kk
  split at e
  .rename_i xs hx
   split at e
   .rename_i zs q
    cases e
    obtain⟨rfl,⟨k1,k2⟩,hz,rfl⟩:=zmo q
    obtain⟨va,pa,ra⟩:=r.lst hx
    cases qv;cases qu
    exact .inr (.inr ⟨m i,kk,va,rfl,rfl,pa,by omega,by omega,by rw[ra.length];exact hz,λp hp=>Wants.list k r (ra.rep _) hp⟩)
   .cases e
  .cases e
 .rename_i i j
  split at e
  .rename_i xs ys hx hy
   split at e
   .rename_i zs q
    cases e
    cases o<;>simp only[opL]at q
    split at q
    .rename_i hc
     cases q
     obtain⟨va,pa,ra⟩:=r.lst hx
     obtain⟨vb,pb,rb⟩:=r.lst hy
     cases qv;cases qu
     exact .inr (.inr (.inr ⟨m i,m j,va,vb,rfl,rfl,pa,pb,by rw[ra.length,rb.length];exact va3 hc,λp hp=>Wants.list k r (ra.append rb) hp⟩))
    .cases q
    all_goals cases q
   .cases e
  .cases e
 .cases e
end
section
variable{K:PySem.W.Frag}{m:Nat->Addr}{h:VH}{H:Hp}
theorem zhc{f:W->Option PyData}(ih:∀(w:W) (d:PyData) (v:V),f w=some d->VRep K m h.n H v w->Rp K (λ_=>False) H v d):∀{ws:List W} {ds:List PyData} {vs:List V},mapO f ws=some ds->VReps K m h.n H vs ws->Rps K (λ_=>False) H vs ds
 |[],ds,_,e,.nil=>by cases e;exact .nil
 |w::ws,ds,_,e,.cons q r=>by
  unfold mapO at e
  split at e
  .rename_i d hd
   split at e
   .rename_i bs hb
    cases e
    exact .cons (ih w d _ hd q) (zhc ih hb r)
   .cases e
  .cases e
theorem rp_of(r:Rel K m h H):∀(n:Nat) (w:W) (d:PyData) (v:V),toD h n w=some d->VRep K m h.n H v w->Rp K (λ_=>False) H v d
 |0,_,_,_,e,_=>by cases e
 |n+1,w,d,v,e,q=>by
  cases q with
  |non=>cases e;exact .non
  |bl b=>cases e;exact .bl b
  |int b=>cases e;exact .int b
  |str b=>cases e;exact .str b
  | @tup a vs ws sq rs=>
   simp only[toD]at e
   cases z:mapO (toD h n) ws with
   |none=>rw[z]at e;cases e
   |some ds=>rw[z]at e;cases e;exact .tup sq (λz=>z) (zhc (rp_of r n) z rs)
  | @fz a vs ws sq rs=>
   simp only[toD]at e
   cases z:mapO (toD h n) ws with
   |none=>rw[z]at e;cases e
   |some ds=>rw[z]at e;cases e;exact .lst sq.sq (λz=>z) (zhc (rp_of r n) z rs)
  | @ref i hi=>
   simp only[toD]at e
   cases g:h.get i with
   |none=>rw[g]at e;cases e
   |some o=>
    rw[g]at e
    cases o with
    |dk _=>cases e
    |dt _ _=>cases e
    |lst ws=>
     obtain⟨vs,h1,h2⟩:=r.lst g
     simp only at e
     cases z:mapO (toD h n) ws with
     |none=>rw[z]at e;cases e
     |some ds=>rw[z]at e;cases e;exact .lst (SqL.of h1) (λz=>z) (zhc (rp_of r n) z h2)
theorem zrb(r:Rel K m h H){x y:W}{v u:V}{b:Bool}(e:eqW h x y=some b)(qv:VRep K m h.n H v x)(qu:VRep K m h.n H u y) :
 ∃d e',Rp K (λ_=>False) H v d/\Rp K (λ_=>False) H u e'/\SeqAt.shaped d=true/\SeqAt.shaped e'=true/\b=PyData.eqv d e':=by
 unfold eqW at e
 split at e
 .rename_i d e' h1 h2
  split at e
  .rename_i hc
   cases e
   rw[vab]at hc
   exact⟨d,e',rp_of r _ _ _ _ h1 qv,rp_of r _ _ _ _ h2 qu,hc.1,hc.2,rfl⟩
  .cases e
 .cases e
end
theorem zdc{K:PySem.W.Frag}{m:Nat->Addr}{h:VH}{H:Hp}{v:V}{w:W}{ws:List W}(r:Rel K m h H)(q:VRep K m h.n H v w)(e:seqW h w=some ws):∃p vs,v=.ref p/\(SqL K H p vs\/SqT K H p vs)/\VReps K m h.n H vs ws:=by
 cases q<;>try cases e
 .exact⟨_,_,rfl,.inr ‹_›,‹_›⟩
 .rename_i q _;exact⟨_,_,rfl,.inl q.sq,‹_›⟩
 .rename_i i hi
  simp only[seqW]at e
  cases g:h.get i with
  |none=>rw[g]at e;cases e
  |some o=>
   rw[g]at e
   cases o with
   |dk _=>cases e
   |dt _ _=>cases e
   |lst ws=>
    cases e
    obtain⟨vs,h1,h2⟩:=r.lst g
    exact⟨_,vs,rfl,.inl (SqL.of h1),h2⟩
theorem zim{K:PySem.W.Frag}{m:Nat->Addr}{n:Nat}{H:Hp}:∀{vs:List V} {ws:List W} {is:List Int},VReps K m n H vs ws->mapO intD ws=some is->vs=is.map .int
 |_,_,_,.nil,e=>by cases e;rfl
 |_,_,_,.cons (w:=w) q r,e=>by
  simp only[mapO]at e
  cases q<;>try cases e
  rename_i i _ ws _
  simp only[intD]at e
  cases z:mapO intD ws with
  |none=>rw[z]at e;cases e
  |some js=>rw[z]at e;cases e;rw[vam,zim r z]
theorem zel{K:PySem.W.Frag}{m:Nat->Addr}{n:Nat}{H:Hp}{v:V}{w:W}{k:DK}(q:VRep K m n H v w)(e:keyD w=some k):∃b,v=.ref b/\KeyAt K H k b:=by
 unfold keyD at e
 split at e
 .rename_i ws
  cases z:mapO intD ws with
  |none=>rw[z]at e;cases e
  |some is=>
   rw[z]at e;cases e
   cases q with
   | @tup b vs _ sq rs=>
    cases rs with
    |cons q1 rs=>
     cases rs with
     |cons q2 rs=>
      cases rs;cases q2
      cases q1 with
      | @tup c us _ sq1 rs1=>
       refine⟨b,rfl,c,sq,?_⟩
       rw[<-zim rs1 z];exact sq1
 .rename_i ws i
  cases z:mapO intD ws with
  |none=>rw[z]at e;cases e
  |some is=>
   rw[z]at e;cases e
   cases q with
   | @tup b vs _ sq rs=>
    cases rs with
    |cons q1 rs=>
     cases rs with
     |cons q2 rs=>
      cases rs;cases q2
      cases q1 with
      | @tup c us _ sq1 rs1=>
       refine⟨b,rfl,c,sq,?_⟩
       rw[<-zim rs1 z];exact sq1
 .cases e
theorem dt_ok{K:PySem.W.Frag}{m:Nat->Addr}{n:Nat}{H:Hp}:∀{xs:DX} {ks:List W},mapO keyD ks=some (xs.map (·.1))->VReps K m n H (xs.map λx=>.ref x.2.1) ks->∀p∈xs,KeyAt K H p.1 p.2.1
 |[],_,_,_,p,hp=>nomatch hp
 |x::xs,ks,e,r,p,hp=>by
  rw[vam]at r
  obtain⟨w,ks,rfl,q,r⟩:∃w ks',ks=w::ks'/\VRep K m n H (.ref x.2.1) w/\VReps K m n H (xs.map λx=>.ref x.2.1) ks':=by cases r with|cons q r=>exact⟨_,_,rfl,q,r⟩
  simp only[mapO]at e
  cases z:keyD w with
  |none=>rw[z]at e;cases e
  |some k=>
   rw[z]at e
   simp only at e
   cases z2:mapO keyD ks with
   |none=>rw[z2]at e;cases e
   |some js=>
    rw[z2]at e
    simp only[vam,vd9,vfd]at e
    rcases vaz.mp hp with rfl|hp
    .obtain⟨b,e1,e2⟩:=zel q z
     cases e1
     rw[<-e.1];exact e2
    .exact dt_ok (by rw[z2,e.2]) r p hp
theorem dt_DT{K:PySem.W.Frag}{m:Nat->Addr}{n:Nat}{H:Hp}{a:Addr}{xs:DX}{ks:List W}(h:H a=some (dtH xs a)\/(xs=[]/\H a=some (.dK [])))(e:mapO keyD ks=some (xs.map (·.1)))(q:VReps K m n H (xs.map λx=>.ref x.2.1) ks):DT K H a xs:=
 h.imp (λz=>⟨z,dt_ok e q⟩) λ⟨z,y⟩=>⟨z,.inl y⟩
theorem zf6{K:PySem.W.Frag}{m:Nat->Addr}{n:Nat}{H:Hp}:∀{xs:DX} {ks ws:List W} (k:DK),mapO keyD ks=some (xs.map (·.1))->VReps K m n H (xs.map λx=>x.2.2) ws->(findX xs k=none/\lookD ks ws k=none)\/∃p w,findX xs k=some p/\lookD ks ws k=some w/\VRep K m n H p.2 w
 |[],ks,ws,k,e,r=>by
  cases ks with
  |nil=>exact .inl ⟨rfl,by unfold lookD;rfl⟩
  |cons c ks=>
   simp only[mapO]at e
   split at e
   .split at e<;>cases e
   .cases e
 |x::xs,ks,ws,k,e,r=>by
  rw[vam]at r
  obtain⟨w,ws,rfl,q,r⟩:∃w ws',ws=w::ws'/\VRep K m n H x.2.2 w/\VReps K m n H (xs.map λx=>x.2.2) ws':=by cases r with|cons q r=>exact⟨_,_,rfl,q,r⟩
  cases ks with
  |nil=>cases e
  |cons c ks=>
   simp only[mapO]at e
   cases z:keyD c with
   |none=>rw[z]at e;cases e
   |some k'=>
    rw[z]at e
    simp only at e
    cases z2:mapO keyD ks with
    |none=>rw[z2]at e;cases e
    |some js=>
     rw[z2]at e
     simp only[vam,vd9,vfd]at e
     unfold lookD
     rw[z,e.1]
     by_cases y:x.1=k
     .rw[if_pos (by rw[y])]
      exact .inr ⟨x.2,w,by simp[findX,vbt,y],rfl,q⟩
     .rw[if_neg (λz=>y (vbr z))]
      have:findX (x::xs) k=findX xs k:=by simp[findX,vbt,y]
      rw[this]
      exact zf6 k (by rw[z2,e.2]) r
theorem zrc{K:PySem.W.Frag}{m:Nat->Addr}{h:VH}{H:Hp}(r:Rel K m h H){x y:W}{v u:V}{b:Bool}(e:inD h x y=some b)(qv:VRep K m h.n H v x)(qu:VRep K m h.n H u y) :
 ∃a c xs k,u=.ref a/\v=.ref c/\DT K H a xs/\KeyAt K H k c/\b=(findX xs k).isSome:=by
 unfold inD at e
 split at e
 .rename_i i
  split at e
  .rename_i ks ws k g hk
   cases e
   cases qu
   obtain⟨xs,p1,p2,p3,p4⟩:=r.dt g
   obtain⟨c,rfl,kk⟩:=zel qv hk
   refine⟨m i,c,xs,k,rfl,rfl,dt_DT p1 p2 p3,kk,?_⟩
   rcases zf6 k p2 p4 with⟨z1,z2⟩|⟨p,w,z1,z2,_⟩<;> (rw[z1,z2];rfl)
  .cases e
 .cases e
theorem zrd{K:PySem.W.Frag}{m:Nat->Addr}{h:VH}{H:Hp}(r:Rel K m h H){x y:W}{v u:V}{b:Bool}(e:inW h x y=some b)(qv:VRep K m h.n H v x)(qu:VRep K m h.n H u y) :
 (∃p vs ds d,u=.ref p/\(SqL K H p vs\/SqT K H p vs)/\Rps K (λ_=>False) H vs ds/\Rp K (λ_=>False) H v d/\ds.all SeqAt.shaped=true/\SeqAt.shaped d=true/\b=anyEq ds d)\/inD h x y=some b:=by
 unfold inW at e
 split at e
 .rename_i ws d h1 h2
  split at e
  .rename_i ds h3
   split at e
   .rename_i hc
    cases e
    rw[vab]at hc
    obtain⟨p,vs,rfl,h4,h5⟩:=zdc r qu h1
    exact .inl ⟨p,vs,ds,d,rfl,h4,zhc (rp_of r 24) h3 h5,rp_of r _ _ _ _ h2 qv,hc.1,hc.2,rfl⟩
   .cases e
  .cases e
 .exact .inr e
noncomputable def cpOf:CmpOp->Option Cp
 |.Eq=>some .eq|.NotEq=>some .ne|.Lt=>some .lt|.LtE=>some .le|.Gt=>some .gt|.GtE=>some .ge|.Is=>some .isn|.IsNot=>some .notn|.In=>some .inn|.NotIn=>some .nin
noncomputable def rC(K:PySem.W.Frag):Cp->R2
 |.eq=>rEqD K
 |.ne=>rNeD K
 |.lt=>rI0 λi j=>.bl (decide (i<j))
 |.le=>rI0 λi j=>.bl (decide (i<=j))
 |.gt=>rI0 λi j=>.bl (decide (j<i))
 |.ge=>rI0 λi j=>.bl (decide (j<=i))
 |.isn=>λx y H Q=>(y=.non/\Q (.bl (decide (x=.non))) H)\/∃c b,x=.bl c/\y=.bl b/\Q (.bl (c==b)) H
 |.notn=>λx y H Q=>(y=.non/\Q (.bl (!decide (x=.non))) H)\/∃c b,x=.bl c/\y=.bl b/\Q (.bl (!(c==b))) H
 |.inn=>λx y H Q=>rInD K false x y H Q\/rInX K false x y H Q
 |.nin=>λx y H Q=>rInD K true x y H Q\/rInX K true x y H Q
noncomputable def zcc:Expr->Bool
 |.Set ..=>false
 |_=>true
theorem zin{op:CmpOp}{b:Expr}(h:zcc b=true):behindInMarks op b=false:=by
 cases b<;>first|rfl|cases h
section
variable{X:Cx}{a b c e:Expr}{es:List Expr}{fa fb fc:FE}{pos:Pos}
theorem zwg:OpR X (compareOp .Is) (λx y H Q=>∃c b,x=.bl c/\y=.bl b/\Q (.bl (c==b)) H):=by
 intro pins s σ H x y v u Q I rx ry h
 obtain⟨c,b,rfl,rfl,q⟩:=h
 cases rx;cases ry
 exact wpAny_is_plain rfl (zjd I q (by cases c<;>cases b<;>rfl))
theorem zmp:OpR X (compareOp .IsNot) (λx y H Q=>∃c b,x=.bl c/\y=.bl b/\Q (.bl (!(c==b))) H):=by
 intro pins s σ H x y v u Q I rx ry h
 obtain⟨c,b,rfl,rfl,q⟩:=h
 cases rx;cases ry
 exact wpAny_isNot_plain rfl (zjd I q (by cases c<;>cases b<;>rfl))
theorem zfc(hu:X.A.units+65<cLine){O:CmpOp}{c:Cp}(e:cpOf O=some c):OpR X (compareOp O) (rC X.K c):=by
 cases O<;>cases e
 .exact zvq (by omega)
 .exact zvr (by omega)
 .exact op_lt
 .exact op_le
 .exact op_gt
 .exact op_ge
 .exact zvf.or zwg
 .exact zsh.or zmp
 .exact(zvv (by show X.A.units+1+64<cLine;omega)).or (zv6 (by omega))
 .exact(zmb (by show X.A.units+1+64<cLine;omega)).or (zmk (by omega))
theorem zd0{K:PySem.W.Frag}{m:Nat->Addr}{n:Nat}{H:Hp}{v:V}{w:W}(q:VRep K m n H v w):isNon w=decide (v=.non):=by
 cases q<;>simp[isNon]
theorem zf7{K:PySem.W.Frag}(c:Cp):OpV K (rC K c) (λx y h=>.of ((cmpW c h x y).map .bl) h):=by
 intro m h H v u x y w h' Q r qv qu e k
 obtain⟨e,rfl⟩:=of_ok e
 cases z:cmpW c h' x y with
 |none=>rw[z]at e;cases e
 |some b=>
  rw[z]at e;cases e
  have fin:Q (.bl b) H:=Wants.here k r (.bl b)
  unfold cmpW at z
  split at z
  .rcases zrd r z qv qu with⟨p,vs,ds,d,h1,h2,h3,h4,h5,h6,rfl⟩|z3
   .exact .inl ⟨p,vs,ds,d,h1,h2,h3,h4,h5,h6,fin⟩
   .obtain⟨a,c,xs,dk,h1,h2,h3,h4,rfl⟩:=zrc r z3 qv qu
    exact .inr ⟨a,c,xs,dk,h1,h2,h3,h4,fin⟩
  .cases z2:inW h' x y with
   |none=>rw[z2]at z;cases z
   |some b2=>
    rw[z2]at z;cases z
    rcases zrd r z2 qv qu with⟨p,vs,ds,d,h1,h2,h3,h4,h5,h6,rfl⟩|z3
    .exact .inl ⟨p,vs,ds,d,h1,h2,h3,h4,h5,h6,fin⟩
    .obtain⟨a,c,xs,dk,h1,h2,h3,h4,rfl⟩:=zrc r z3 qv qu
     exact .inr ⟨a,c,xs,dk,h1,h2,h3,h4,fin⟩
  .obtain⟨d,e',h1,h2,h3,h4,rfl⟩:=zrb r z qv qu
   exact⟨d,e',h1,h2,h3,h4,fin⟩
  .cases z2:eqW h' x y with
   |none=>rw[z2]at z;cases z
   |some b2=>
    rw[z2]at z;cases z
    obtain⟨d,e',h1,h2,h3,h4,rfl⟩:=zrb r z2 qv qu
    exact⟨d,e',h1,h2,h3,h4,fin⟩
  .split at z
   .rename_i hn
    cases z
    have:=zd0 qu
    rw[hn]at this
    refine .inl ⟨vbc this.symm,?_⟩
    rw[<-zd0 qv];exact fin
   .unfold isB at z
    split at z
    .rename_i c b
     cases z
     cases qv;cases qu
     exact .inr ⟨_,_,rfl,rfl,fin⟩
    .cases z
  .split at z
   .rename_i hn
    cases z
    have:=zd0 qu
    rw[hn]at this
    refine .inl ⟨vbc this.symm,?_⟩
    rw[<-zd0 qv];exact fin
   .cases z2:isB x y with
    |none=>rw[z2]at z;cases z
    |some b2=>
     rw[z2]at z;cases z
     unfold isB at z2
     split at z2
     .rename_i c b
      cases z2
      cases qv;cases qu
      exact .inr ⟨_,_,rfl,rfl,fin⟩
     .cases z2
  .split at z
   .rename_i i j
    cases qv;cases qu
    cases c<;>simp only[cmpI]at z<;>cases z<;>exact⟨i,j,rfl,rfl,fin⟩
   .cases z
theorem zwh(hu:X.A.units+65<cLine){O:CmpOp}{c:Cp}(e:cpOf O=some c)(hs:zcc b=true)(ha:SE X a fa)(hb:SE X b fb) :
 SE X (.Compare a [O] [b] pos) (λρ h=>(fa ρ h).bind λx h=>(fb ρ h).bind λy h=>.of ((cmpW c h x y).map .bl) h):=
 (zsi (zfc hu e) ha hb (zin hs)).imp λσ H Q q=>zf5 (G:=rC X.K c) (zf7 c) q
theorem zwi(hu:X.A.units+65<cLine){O:CmpOp}{c:Cp}(e:cpOf O=some c)(hs:zcc b=true)(ha:SE X a fa)(hb:SE X b fb) :
 ST X (.Compare a [O] [b] pos) (λρ h=>(fa ρ h).bind λx h=>(fb ρ h).bind λy h=>.of ((cmpW c h x y).map .bl) h):=
 (zsj (zfc hu e) ha hb (zin hs)).imp λσ H Q q=>zf5 (G:=rC X.K c) (zf7 c) (zjm q)
theorem lm2{O O':CmpOp}{a b:Expr}(h:zcc b=true):lastMarks [O,O'] [a,b]=false:=zin h
theorem zhd{K:PySem.W.Frag}{c1 c2:Cp}{σ:L2.St}{H:Hp}{Q:VK}
 (q:lft K (λρ h=>(fa ρ h).bind λx h=>(fb ρ h).bind λy h=>match cmpW c1 h x y with
   |some true=>(fc ρ h).bind λz h=>.of ((cmpW c2 h y z).map .bl) h
   |some false=>.ok (.bl false) h
   |none=>.no) σ H Q):zlu (rC K c1) (rC K c2) (lft K fa) (lft K fb) (lft K fc) σ H Q:=by
 refine q.el λρ h m w h' f r e k=>?_
 refine zac e λx h1 e1 e2=>?_
 refine zac e2 λy h2 e3 e4=>?_
 refine(.mk f r e1 λv H1 m1 s1 r1 q1=>(.mk (f.stp s1) r1 e3 λu H2 m2 s2 r2 q2=>?_))
 have f2:=(f.stp s1).stp s2
 have k2:Wants K m2 h2.n H2 w h' Q:=λv' H' m' s' r' q'=>k v' H' m' ((s1.trans s2).trans s') r' q'
 cases z:cmpW c1 h2 x y with
 |none=>rw[z]at e4;cases e4
 |some b=>
  rw[z]at e4
  refine zf7 c1 m2 h2 H2 v u x y (.bl b) h2 _ r2 (q1.stp s2) q2 (by show Res.of ((cmpW c1 h2 x y).map W.bl) h2=_;rw[z];rfl) λv3 H3 m3 s3 r3 q3=>?_
  cases q3
  refine⟨b,rfl,?_⟩
  cases b with
  |true=>
   refine zac e4 λz' h4 e5 e6=>?_
   rw[if_pos rfl]
   refine⟨ρ,h2,m3,z',h4,f2.stp s3,r3,e5,λv4 H4 m4 s4 r4 q4=>?_⟩
   exact zf7 c2 m4 h4 H4 u v4 y z' w h' Q r4 ((q2.stp s3).stp s4) q4 e6 λv' H' m' s' r' q'=>k2 v' H' m' ((s3.trans s4).trans s') r' q'
  |false=>
   cases e4
   simp only[vap,vbk]
   exact k2 _ H3 m3 s3 r3 (.bl false)
theorem zwj(hu:X.A.units+65<cLine){O O':CmpOp}{c1 c2:Cp}(e:cpOf O=some c1)(e':cpOf O'=some c2)(hs:zcc c=true)(ha:SE X a fa)(hb:SE X b fb)(hc:SE X c fc) :
 SE X (.Compare a [O,O'] [b,c] pos) (λρ h=>(fa ρ h).bind λx h=>(fb ρ h).bind λy h=>match cmpW c1 h x y with
  |some true=>(fc ρ h).bind λz h=>.of ((cmpW c2 h y z).map .bl) h
  |some false=>.ok (.bl false) h
  |none=>.no):=(zo3 (zfc hu e) (zfc hu e') ha hb hc (lm2 hs)).imp λσ H Q q=>zhd q
theorem zwk(hu:X.A.units+65<cLine){O O':CmpOp}{c1 c2:Cp}(e:cpOf O=some c1)(e':cpOf O'=some c2)(hs:zcc c=true)(ha:SE X a fa)(hb:SE X b fb)(hc:SE X c fc) :
 ST X (.Compare a [O,O'] [b,c] pos) (λρ h=>(fa ρ h).bind λx h=>(fb ρ h).bind λy h=>match cmpW c1 h x y with
  |some true=>(fc ρ h).bind λz h=>.of ((cmpW c2 h y z).map .bl) h
  |some false=>.ok (.bl false) h
  |none=>.no):=(zo4 (zfc hu e) (zfc hu e') ha hb hc (lm2 hs)).imp λσ H Q q=>zhd (zjm q)
noncomputable abbrev gNot(fa:FE):FE:=λρ h=>(fa ρ h).bind λx h=>match x with|.bl b=>.ok (.bl (!b)) h|_=>.no
noncomputable abbrev gAnd(fa fb:FE):FE:=λρ h=>(fa ρ h).bind λx h=>match x with|.bl true=>fb ρ h|.bl false=>.ok (.bl false) h|_=>.no
noncomputable abbrev gOr(fa fb:FE):FE:=λρ h=>(fa ρ h).bind λx h=>match x with|.bl true=>.ok (.bl true) h|.bl false=>fb ρ h|_=>.no
noncomputable abbrev gIte(fa fb fc:FE):FE:=λρ h=>(fa ρ h).bind λx h=>match x with|.bl true=>fb ρ h|.bl false=>fc ρ h|_=>.no
variable{rest:List Expr}
theorem zwl(ha:ST X a fa):ST X (.UnaryOp .Not a pos) (gNot fa):=(zut ha).imp λσ H Q z9=>z9.el λρ h m b h' f r e k=>by
 refine zac e λx h1 e1 e2=>?_
 cases x<;>try cases e2
 rename_i b
 exact(.mk f r e1 λH' m' s' r'=>k H' m' s' r')
theorem zwm(ha:SE X a fa):SE X (.UnaryOp .Not a pos) (gNot fa):=(zuw ha).imp λσ H Q z9=>z9.el λρ h m b h' f r e k=>by
 refine zac e λx h1 e1 e2=>?_
 cases x<;>try cases e2
 rename_i b
 exact(.mk f r e1 λv H' m' s' r' q=>by cases q;exact⟨b,rfl,k _ H' m' s' r' (.bl _)⟩)
theorem zre{op:BoolOp}(ha:ST X a fa):SW X (.BoolOp op [a] pos) fa:=by
 cases op
 .exact zr9 ha
 .exact zur ha
theorem zwn(ha:ST X a fa)(hb:SW X (.BoolOp .And (b::rest) pos) fb):SW X (.BoolOp .And (a::b::rest) pos) (gAnd fa fb):=(zus ha hb).imp λσ H Q z9=>z9.el λρ h m b h' f r e k=>by
 refine zac e λx h1 e1 e2=>?_
 cases x<;>try cases e2
 rename_i c
 refine(.mk f r e1 λH1 m1 s1 r1=>?_)
 cases c with
 |true=>rw[if_pos rfl];exact(.mk (f.stp s1) r1 e2 λH' m' s' r'=>k H' m' (s1.trans s') r')
 |false=>cases e2;simp only[vap,vbk];exact k H1 m1 s1 r1
theorem sw_or(ha:ST X a fa)(hb:SW X (.BoolOp .Or (b::rest) pos) fb):SW X (.BoolOp .Or (a::b::rest) pos) (gOr fa fb):=(pw_or ha hb).imp λσ H Q z9=>z9.el λρ h m b h' f r e k=>by
 refine zac e λx h1 e1 e2=>?_
 cases x<;>try cases e2
 rename_i c
 refine(.mk f r e1 λH1 m1 s1 r1=>?_)
 cases c with
 |true=>cases e2;rw[if_pos rfl];exact k H1 m1 s1 r1
 |false=>simp only[vap,vbk];exact(.mk (f.stp s1) r1 e2 λH' m' s' r'=>k H' m' (s1.trans s') r')
theorem zrf{op:BoolOp}(ha:SE X a fa):SE X (.BoolOp op [a] pos) fa:=zuu ha
theorem zwo(ha:SE X a fa)(hb:SE X (.BoolOp .And (b::rest) pos) fb):SE X (.BoolOp .And (a::b::rest) pos) (gAnd fa fb):=(zuv ha hb).imp λσ H Q z9=>z9.el λρ h m w h' f r e k=>by
 refine zac e λx h1 e1 e2=>?_
 cases x<;>try cases e2
 rename_i c
 refine(.mk f r e1 λv H1 m1 s1 r1 q1=>?_)
 cases q1
 refine⟨c,rfl,?_⟩
 cases c with
 |true=>rw[if_pos rfl];exact(.mk (f.stp s1) r1 e2 λv H' m' s' r' q'=>k v H' m' (s1.trans s') r' q')
 |false=>cases e2;simp only[vap,vbk];exact k _ H1 m1 s1 r1 (.bl false)
theorem se_or(ha:SE X a fa)(hb:SE X (.BoolOp .Or (b::rest) pos) fb):SE X (.BoolOp .Or (a::b::rest) pos) (gOr fa fb):=(pe_or ha hb).imp λσ H Q z9=>z9.el λρ h m w h' f r e k=>by
 refine zac e λx h1 e1 e2=>?_
 cases x<;>try cases e2
 rename_i c
 refine(.mk f r e1 λv H1 m1 s1 r1 q1=>?_)
 cases q1
 refine⟨c,rfl,?_⟩
 cases c with
 |true=>cases e2;rw[if_pos rfl];exact k _ H1 m1 s1 r1 (.bl true)
 |false=>simp only[vap,vbk];exact(.mk (f.stp s1) r1 e2 λv H' m' s' r' q'=>k v H' m' (s1.trans s') r' q')
theorem zwp(hc:ST X c fc)(ha:SE X a fa)(hb:SE X b fb):SE X (.IfExp c a b pos) (gIte fc fa fb):=(zow hc ha hb).imp λσ H Q z9=>z9.el λρ h m w h' f r e k=>by
 refine zac e λx h1 e1 e2=>?_
 cases x<;>try cases e2
 rename_i c
 refine(.mk f r e1 λH1 m1 s1 r1=>?_)
 cases c with
 |true=>rw[if_pos rfl];exact(.mk (f.stp s1) r1 e2 λv H' m' s' r' q'=>k v H' m' (s1.trans s') r' q')
 |false=>simp only[vap,vbk];exact(.mk (f.stp s1) r1 e2 λv H' m' s' r' q'=>k v H' m' (s1.trans s') r' q')
theorem zdn{K:PySem.W.Frag}{m:Nat->Addr}{n:Nat}{H:Hp}{vs:List V}{ws:List W}(q:VReps K m n H vs ws):vs.isEmpty=ws.isEmpty:=by cases q<;>rfl
theorem zs8{K:PySem.W.Frag}{m:Nat->Addr}{h:VH}{H:Hp}{v:V}{w:W}{b:Bool}(r:Rel K m h H)(q:VRep K m h.n H v w)(e:truW h w=some b):TruV K v H b:=by
 cases q with
 |non=>cases e;rfl
 |bl x=>cases e;rfl
 |int i=>cases e;rfl
 |str x=>cases e
 |fz _ _=>cases e
 |tup sq rs=>cases e;exact .inr (.inl ⟨_,sq,by rw[zdn rs]⟩)
 | @ref i hi=>
  simp only[truW]at e
  cases g:h.get i with
  |none=>rw[g]at e;cases e
  |some o=>
   rw[g]at e
   cases o with
   |dk _=>cases e
   |dt _ _=>cases e
   |lst ws=>
    cases e
    obtain⟨vs,h1,h2⟩:=r.lst g
    exact .inl ⟨vs,SqL.of h1,by rw[zdn h2]⟩
theorem zmq(ha:SE X a fa)(he:∀whole,isTrue a X.env whole=(do let v <-whole;standAt a.pos;holding [v] (truthy v))) :
 ST X a (λρ h=>(fa ρ h).bind λx h=>.of ((truW h x).map .bl) h):=(zo5 ha he).imp λσ H Q z9=>z9.el λρ h m b h' f r e k=>by
 refine zac e λx h1 e1 e2=>?_
 obtain⟨e2,rfl⟩:=of_ok e2
 cases z:truW h' x with
 |none=>rw[z]at e2;cases e2
 |some c=>
  rw[z]at e2;cases e2
  exact(.mk f r e1 λv H' m' s' r' q=>⟨b,zs8 r' q z,k H' m' s' r'⟩)
theorem zwq(ha:SE X a fa):SE X (.UnaryOp .USub a pos) (λρ h=>(fa ρ h).bind λx h=>match x with|.int i=>.ok (.int (-i)) h|_=>.no):=
 (pe_un zve ha).imp λσ H Q q=>zq9 (g:=λx h=>match x with|.int i=>.ok (.int (-i)) h|_=>.no) (G:=rU λi=>.int (-i)) (λm h H v x w h' Q r q e k=>by
   cases q<;>try cases e
   rename_i i
   exact⟨i,rfl,Wants.here k r (.int _)⟩) q
end
section
variable{K:PySem.W.Frag}{m m0:Nat->Addr}{n n0:Nat}{h:VH}{H H0:Hp}
theorem Rel.adopt(r:Rel K m h H){p:Addr}{o:VO}{u u0:HO}(hp:∀i,i<h.n->m i≠p)(hu:H p=some u0)(ht:∀t,u0≠.tup t)(hf:∀o t,u0≠.frz o t)(s:Stp m0 n0 H0 m h.n H)(h0:H0 p=none)
 (ho:Stp m h.n H (λi=>if i=h.n then p else m i) (h.n+1) (upd H p u)\/True->(∀{v:V}{w:W},VRep K m h.n H v w->VRep K (λi=>if i=h.n then p else m i) (h.n+1) (upd H p u) v w)->ORep K (λi=>if i=h.n then p else m i) (h.n+1) (upd H p u) p o) :
 Stp m0 n0 H0 (λi=>if i=h.n then p else m i) (h.n+1) (upd H p u)/\Rel K (λi=>if i=h.n then p else m i) (h.new o) (upd H p u):=by
 have kt:∀b vs,H b=some (.tup vs)->upd H p u b=some (.tup vs):=λb vs q=>by rw[zag (ne_of q hu λz=>ht vs z.symm)];exact q
 have kf:∀b o t,H b=some (.frz o t)->upd H p u b=some (.frz o t):=λb o t q=>by rw[zag (ne_of q hu λz=>hf o t z.symm)];exact q
 have mv:∀{v:V}{w:W},VRep K m h.n H v w->VRep K (λi=>if i=h.n then p else m i) (h.n+1) (upd H p u) v w:=by
  intro v w q
  have st:Stp m h.n (λb=>if b=p then none else H b) (λi=>if i=h.n then p else m i) (h.n+1) (upd H p u):=by
   refine⟨vfq _,λi hi=>by simp only[if_neg (va5 hi)],λi hi hi2=>?_,λi j hi hi2 hj=>?_,λb vs q=>?_,λb o t q=>?_,λb o _ q=>?_⟩
   .have:i=h.n:=by omega
    subst this;simp only[vbe]
   .have:i=h.n:=by omega
    subst this;simp only[vbe,if_neg (va5 hj)];exact(hp j hj).symm
   .split at q
    .cases q
    .exact kt b vs q
   .split at q
    .cases q
    .exact kf b o t q
   .split at q
    .cases q
    .rename_i z;rw[zag z];exact q
  refine VRep.stp st ?_
  have back:∀{a vs},SqT K H a vs->SqT K (λb=>if b=p then none else H b) a vs:=by
   intro a vs q
   rcases q with(q|⟨o,q⟩)|q
   .exact .inl (.inl (by simp only[if_neg (ne_of q hu λz=>ht vs z.symm)];exact q))
   .exact .inl (.inr ⟨o,by simp only[if_neg (ne_of q hu λz=>hf o _ z.symm)];exact q⟩)
   .exact .inr q
  have backf:∀{a vs},Fz K H a vs->Fz K (λb=>if b=p then none else H b) a vs:=by
   intro a vs q
   rcases q with⟨o,q⟩|q
   .exact .inl ⟨o,by simp only[if_neg (ne_of q hu λz=>hf o _ z.symm)];exact q⟩
   .exact .inr q
  exact(VRep.rec (K:=K) (m:=m) (n:=h.n) (H:=H) (motive_1:=λv w _=>VRep K m h.n (λb=>if b=p then none else H b) v w) (motive_2:=λvs ws _=>VReps K m h.n (λb=>if b=p then none else H b) vs ws)
   .non .bl .int .str (λsq _ ih=>.tup (back sq) ih) (λsq _ ih=>.fz (backf sq) ih) (λhi=>.ref hi) .nil (λ_ _ i1 i2=>.cons i1 i2) q)
 refine⟨⟨Nat.le_succ_of_le s.le,λi hi=>?_,λi hi hi2=>?_,λi j hi hi2 hj=>?_,λb vs q=>kt b vs (s.tup b vs q),λb o t q=>kf b o t (s.frz b o t q),λb o nb q=>?_⟩,⟨λi hi=>?_,λi j hi hj z=>?_,?_⟩⟩
 .have:=s.le
  simp only[if_neg (show i≠h.n by omega)];exact s.same i hi
 .by_cases e:i=h.n
  .subst e;simp only[vbe];exact h0
  .simp only[if_neg e];exact s.new i hi (by omega)
 .have:=s.le
  simp only[if_neg (show j≠h.n by omega)]
  by_cases e:i=h.n
  .subst e;simp only[vbe];exact(hp j (by omega)).symm
  .simp only[if_neg e];exact s.apart i j hi (by omega) hj
 .rw[zag (zaf q h0)];exact s.keep b o nb q
 .have hi:i<h.n+1:=hi
  by_cases e:i=h.n
  .subst e;exact⟨o,zad,by simp only[vbe];exact ho (.inr trivial) mv⟩
  .have hl:i<h.n:=by omega
   obtain⟨o',h1,h2⟩:=r.obj i hl
   refine⟨o',(zab hl).trans h1,?_⟩
   simp only[if_neg e]
   have eq:upd H p u (m i)=H (m i):=zag (hp i hl)
   cases o' with
   |lst ws=>
    obtain⟨vs,q1,q2⟩:=h2
    exact⟨vs,eq.trans q1,VReps.rec (K:=K) (m:=m) (n:=h.n) (H:=H) (motive_1:=λv w _=>VRep K m h.n H v w) (motive_2:=λvs ws _=>VReps K (λi=>if i=h.n then p else m i) (h.n+1) (upd H p u) vs ws)
     .non .bl .int .str (λsq q _=>.tup sq q) (λsq q _=>.fz sq q) (λhi=>.ref hi) .nil (λq _ _ i2=>.cons (mv q) i2) q2⟩
   |dk ws=>
    obtain⟨vs,q1,q2⟩:=h2
    have go:∀{vs:List (Key×V)}{ws:List (Key×W)},KReps K m h.n H vs ws->KReps K (λi=>if i=h.n then p else m i) (h.n+1) (upd H p u) vs ws:=by
     intro vs ws q2
     induction q2 with
     |nil=>exact .nil
     |cons q _ ih=>exact .cons (mv q) ih
    exact⟨vs,q1.imp (λz=>eq.trans z) λ⟨o,z⟩=>⟨o,eq.trans z⟩,go q2⟩
   |dt ks ws=>
    obtain⟨xs,q1,q0,q2,q3⟩:=h2
    have go:∀{vs:List V}{ws:List W},VReps K m h.n H vs ws->VReps K (λi=>if i=h.n then p else m i) (h.n+1) (upd H p u) vs ws:=λq2=>
     VReps.rec (K:=K) (m:=m) (n:=h.n) (H:=H) (motive_1:=λv w _=>VRep K m h.n H v w) (motive_2:=λvs ws _=>VReps K (λi=>if i=h.n then p else m i) (h.n+1) (upd H p u) vs ws)
      .non .bl .int .str (λsq q _=>.tup sq q) (λsq q _=>.fz sq q) (λhi=>.ref hi) .nil (λq _ _ i2=>.cons (mv q) i2) q2
    exact⟨xs,q1.imp (λz=>eq.trans z) λ⟨o,z⟩=>⟨o,eq.trans z⟩,q0,go q2,go q3⟩
 .have hi:i<h.n+1:=hi
  have hj:j<h.n+1:=hj
  by_cases e:i=h.n
  .by_cases e2:j=h.n
   .omega
   .simp only[if_pos e,if_neg e2]at z
    exact absurd z.symm (hp j (by omega))
  .by_cases e2:j=h.n
   .simp only[if_neg e,if_pos e2]at z
    exact absurd z (hp i (by omega))
   .simp only[if_neg e,if_neg e2]at z
    exact r.inj i j (by omega) (by omega) z
 .show(o::h.os).length=h.n+1
  rw[vai,r.len]
theorem VReps.map{m':Nat->Addr}{n':Nat}{H':Hp}(mv:∀{v:V} {w:W},VRep K m n H v w->VRep K m' n' H' v w):∀{vs:List V} {ws:List W},VReps K m n H vs ws->VReps K m' n' H' vs ws
 |_,_,.nil=>.nil
 |_,_,.cons q r=>.cons (mv q) (VReps.map mv r)
theorem KReps.map{m':Nat->Addr}{n':Nat}{H':Hp}(mv:∀{v:V} {w:W},VRep K m n H v w->VRep K m' n' H' v w):∀{vs:List (Key×V)} {ws:List (Key×W)},KReps K m n H vs ws->KReps K m' n' H' vs ws
 |_,_,.nil=>.nil
 |_,_,.cons q r=>.cons (mv q) (KReps.map mv r)
theorem KReps.look(k:Key):∀{vs:List (Key×V)} {ws:List (Key×W)},KReps K m n H vs ws->(valV vs k=none/\lookK ws k=none)\/∃v w,valV vs k=some v/\lookK ws k=some w/\VRep K m n H v w
 |_,_,.nil=>.inl ⟨rfl,rfl⟩
 |_,_,.cons (k:=k') (v:=v) (w:=w) q r=>by
  by_cases e:k'=k
  .refine .inr ⟨v,w,zf2 (p:=(k',v)) e,?_,q⟩
   unfold lookK;rw[vbt];simp[e]
  .rcases KReps.look k r with⟨a,b⟩|⟨v',w',a,b,c⟩
   .refine .inl ⟨(zdw (p:=(k',v)) e).trans a,?_⟩
    unfold lookK at b ⊢;rw[vbt];simp only[vax e];exact b
   .refine .inr ⟨v',w',(zdw (p:=(k',v)) e).trans a,?_,c⟩
    unfold lookK at b ⊢;rw[vbt];simp only[vax e];exact b
theorem KReps.any(k:Key):∀{vs:List (Key×V)} {ws:List (Key×W)},KReps K m n H vs ws->(vs.any λkv=>decide (kv.1=k))=(ws.any λkv=>decide (kv.1=k))
 |_,_,.nil=>rfl
 |_,_,.cons q r=>by rw[vfo,vfo,KReps.any k r]
theorem KReps.repl{v:V}{w:W}(q:VRep K m n H v w)(k:Key):∀{vs:List (Key×V)} {ws:List (Key×W)},KReps K m n H vs ws->KReps K m n H (vs.map λkv=>if kv.1=k then(kv.1,v)else kv) (ws.map λkv=>if kv.1=k then(kv.1,w)else kv)
 |_,_,.nil=>.nil
 |_,_,.cons (k:=k') p r=>by
  rw[vam,vam]
  by_cases e:k'=k
  .simp only[if_pos e];exact .cons q (KReps.repl q k r)
  .simp only[if_neg e];exact .cons p (KReps.repl q k r)
theorem KReps.snoc{v:V}{w:W}(q:VRep K m n H v w)(k:Key):∀{vs:List (Key×V)} {ws:List (Key×W)},KReps K m n H vs ws->KReps K m n H (vs++[(k,v)]) (ws++[(k,w)])
 |_,_,.nil=>.cons q .nil
 |_,_,.cons p r=>.cons p (KReps.snoc q k r)
theorem KReps.put{v:V}{w:W}(q:VRep K m n H v w)(k:Key){vs:List (Key×V)}{ws:List (Key×W)}(r:KReps K m n H vs ws):KReps K m n H (putK vs k v) (putKW ws k w):=by
 unfold putK putKW
 rw[r.any k]
 split
 .exact r.repl q k
 .exact r.snoc q k
theorem KReps.merge{vs:List (Key×V)}{ws:List (Key×W)}(q:KReps K m n H vs ws):∀{va:List (Key×V)} {wa:List (Key×W)},KReps K m n H va wa->KReps K m n H (zdl va vs) (zq8 wa ws):=by
 induction q with
 |nil=>exact λa=>a
 |cons q r ih=>exact λa=>ih (a.put q _)
theorem KReps.length:∀{vs:List (Key×V)} {ws:List (Key×W)},KReps K m n H vs ws->vs.length=ws.length
 |_,_,.nil=>rfl
 |_,_,.cons _ r=>by rw[vai,vai,KReps.length r]
theorem zs9{v:V}{w:W}{k:Key}(q:VRep K m n H v w)(e:keyW w=some k):v=kV k:=by
 cases q<;>cases e<;>rfl
theorem zf8{vs:List V}{ws:List W}{i:Int}{w:W}(q:VReps K m n H vs ws)(e:atI ws i=some w):∃v,atI vs i=some v/\VRep K m n H v w:=by
 unfold atI at e ⊢
 rw[q.length]
 cases z:ixN ws.length i with
 |none=>rw[z]at e;cases e
 |some j=>
  rw[z]at e
  exact q.get e
end
noncomputable def rIdx(K:PySem.W.Frag):R2:=λx y H Q=>rIxL K x y H Q\/rIxT K x y H Q\/(∃a v,x=.ref a/\DGet H a y (some v)/\Q v H)\/rIxX K x y H Q
section
variable{X:Cx}{a b c e o:Expr}{es:List Expr}{fa fb fc fo:FE}{pos:Pos}
theorem zta(hu:X.A.units+1<cLine):IxR X (λx y H Q=>∃a v,x=.ref a/\DGet H a y (some v)/\Q v H):=by
 intro value slice pins s σ H x y v u Q I rx ry q hs
 obtain⟨a,v',rfl,g,q⟩:=q
 obtain rfl:v=Value.ref a:=rx
 exact tail_any (zij I g) PySem.F.slot_dict_getitem.lookup (zl9 hu I g ry λw' s3 I3 rw'=>⟨v',H,I3,rw',q⟩) hs
theorem ix_ok(hu:X.A.units+2<cLine):IxR X (rIdx X.K):=zsp.or (zvl.or ((zta (by omega)).or (ix_dt hu)))
theorem ztb{K:PySem.W.Frag}:OpV K (rIdx K) (λx y h=>.of (idxW h x y) h):=by
 intro m h H v u x y w h' Q r qv qu e0 k
 obtain⟨e,e1⟩:=of_ok e0
 clear e0
 subst e1
 unfold idxW at e
 split at e
 .cases qv with
  |tup sq rs=>
   cases qu
   obtain⟨v',h1,h2⟩:=zf8 rs e
   exact .inr (.inl ⟨_,_,_,v',rfl,rfl,sq,h1,Wants.here k r h2⟩)
 .cases qv with
  |fz sq rs=>
   cases qu
   obtain⟨v',h1,h2⟩:=zf8 rs e
   exact .inl ⟨_,_,_,v',rfl,rfl,sq.sq,h1,Wants.here k r h2⟩
 .rename_i i j
  cases qv;cases qu
  cases g:h'.get i with
  |none=>rw[g]at e;cases e
  |some ob=>
   rw[g]at e
   cases ob with
   |lst ws=>
    obtain⟨vs,p1,p2⟩:=r.lst g
    obtain⟨v',h1,h2⟩:=zf8 p2 e
    exact .inl ⟨_,_,_,v',rfl,rfl,SqL.of p1,h1,Wants.here k r h2⟩
   |dk ws=>
    have e:lookK ws (.inl j)=some w:=e
    obtain⟨vs,p1,p2⟩:=r.dk g
    rcases p2.look (.inl j)with⟨_,z⟩|⟨v',w',z1,z2,z3⟩
    .rw[z]at e;cases e
    .rw[z2]at e;cases e
     exact .inr (.inr (.inl ⟨_,v',rfl,by rw[<-z1];exact .inl ⟨vs,.inl j,p1,rfl,rfl⟩,Wants.here k r z3⟩))
   |dt _ _=>cases e
 .rename_i i j
  cases qv;cases qu
  cases g:h'.get i with
  |none=>rw[g]at e;cases e
  |some ob=>
   rw[g]at e
   cases ob with
   |lst ws=>cases e
   |dk ws=>
    have e:lookK ws (.inr j)=some w:=e
    obtain⟨vs,p1,p2⟩:=r.dk g
    rcases p2.look (.inr j)with⟨_,z⟩|⟨v',w',z1,z2,z3⟩
    .rw[z]at e;cases e
    .rw[z2]at e;cases e
     exact .inr (.inr (.inl ⟨_,v',rfl,by rw[<-z1];exact .inl ⟨vs,.inr j,p1,rfl,rfl⟩,Wants.here k r z3⟩))
   |dt _ _=>cases e
 .rename_i i _ _
  cases qv
  unfold idxD at e
  split at e
  .rename_i ks ws dk g hk
   obtain⟨xs,p1,p2,p3,p4⟩:=r.dt g
   obtain⟨c,rfl,kk⟩:=zel qu hk
   rcases zf6 dk p2 p4 with⟨_,z2⟩|⟨p,w',z1,z2,z3⟩
   .rw[z2]at e;cases e
   .rw[z2]at e;cases e
    exact .inr (.inr (.inr ⟨_,c,xs,dk,p,rfl,rfl,dt_DT p1 p2 p3,kk,z1,Wants.here k r z3⟩))
  .cases e
 .cases e
theorem zwr(hu:X.A.units+2<cLine)(ha:SE X a fa)(hb:SE X b fb)(hs:zie b):SE X (.Subscript a b pos) (λρ h=>(fa ρ h).bind λx h=>(fb ρ h).bind λy h=>.of (idxW h x y) h):=
 (pe_ix (ix_ok hu) ha hb hs).imp λσ H Q q=>zf5 (G:=rIdx X.K) ztb q
noncomputable def lftO(K:PySem.W.Frag)(b:Bool)(f:FE):TO:=λσ H Q=>∃ρ h m w o h',Fr K m h.n H σ ρ/\Rel K m h H/\f ρ h=.ok w h'/\partW b w=some o/\∀H' m',Stp m h.n H m' h'.n H'->Rel K m' h' H'->Q o H'
theorem lftO.el{K:PySem.W.Frag}{σ:L2.St}{H:Hp}{P:Prop}{b:Bool}{fa:FE}{Q:Option Int->Hp->Prop}(q:lftO K b fa σ H Q)(k:∀ρ h m w o h',Fr K m h.n H σ ρ->Rel K m h H->fa ρ h=.ok w h'->partW b w=some o->(∀H' m',Stp m h.n H m' h'.n H'->Rel K m' h' H'->Q o H')->P):P:=by
 obtain⟨ρ,h,m,w,o,h',f,r,e,ep,k'⟩:=q
 exact k ρ h m w o h' f r e ep k'
theorem lftO.mk{K:PySem.W.Frag}{σ:L2.St}{H:Hp}{m:Nat->Addr}{ρ:En}{h h':VH}{w:W}{o:Option Int}{b:Bool}{fa:FE}{Q:Option Int->Hp->Prop}(f:Fr K m h.n H σ ρ)(r:Rel K m h H)(e:fa ρ h=.ok w h')(ep:partW b w=some o)(k:∀H' m',Stp m h.n H m' h'.n H'->Rel K m' h' H'->Q o H'):lftO K b fa σ H Q:=⟨ρ,h,m,w,o,h',f,r,e,ep,k⟩
theorem ztc{w:W}:PO X none (lftO X.K false (λ_ h=>.ok w h)):=λpins s σ H Q I z9=>z9.el λρ h m w o h' f r e ep k=>by
 cases e
 have:o=none:=by
  unfold partW at ep
  cases ep;rfl
 subst this
 exact zsm pins s σ H Q I (k H m .refl r)
theorem ztd(ha:SE X e fa):PO X (some e) (lftO X.K true fa):=λpins s σ H Q I z9=>z9.el λρ h m w o h' f r e ep k=>by
 refine zsn ha pins s σ H Q I (.mk f r e λv H' m' s' r' q=>?_)
 cases q<;>cases ep
 exact⟨_,rfl,k H' m' s' r'⟩
theorem zjo{K:PySem.W.Frag}{m:Nat->Addr}{n:Nat}{H:Hp}{vs:List V}{ws:List W}(q:VReps K m n H vs ws)(lo hi:Option Int):VReps K m n H (cutV vs lo hi) (cutW ws lo hi):=by
 unfold cutV cutW
 rw[q.length]
 exact(q.drop _).take _
theorem zk5{ws:List W}{lo hi:Option Int}(h:HT.sIx ws.length 0 lo=0/\HT.sIx ws.length ws.length hi=ws.length):cutW ws lo hi=ws:=by
 unfold cutW
 rw[h.1,h.2]
 simp
theorem zws{lo hi:Option Expr}{fl fh:FE}{p2:Pos}{bl bh:Bool}(ha:SE X a fa)(hl:PO X lo (lftO X.K bl fl))(hh:PO X hi (lftO X.K bh fh)) :
 SE X (.Subscript a (.Slice lo hi none p2) pos) (λρ h=>(fa ρ h).bind λx h=>(fl ρ h).bind λl h=>(fh ρ h).bind λu h=>match partW bl l,partW bh u with
 |some l,some u=>slcW x l u h
 |_,_=>.no):=
 (zo9 zvw ha hl hh).imp λσ H Q z9=>z9.el λρ h m w h' f r e k=>by
   refine zac e λx h1 e1 e2=>?_
   refine zac e2 λl h2 e3 e4=>?_
   refine zac e4 λu h3 e5 e6=>?_
   split at e6
   .rename_i l' u' pl pu
    refine(.mk f r e1 λv H1 m1 s1 r1 q1=>(.mk (f.stp s1) r1 e3 pl λH2 m2 s2 r2=>(.mk ((f.stp s1).stp s2) r2 e5 pu λH3 m3 s3 r3=>?_)))
    have q3:=(q1.stp s2).stp s3
    have kk:Wants X.K m3 h3.n H3 w h' Q:=λv' H' m' s' r' q'=>k v' H' m' (((s1.trans s2).trans s3).trans s') r' q'
    unfold slcW at e6
    split at e6
    .rename_i ws
     cases e6
     cases q3 with
     | @tup a vs _ sq rs=>
      by_cases hw:HT.sIx vs.length 0 l'=0/\HT.sIx vs.length vs.length u'=vs.length
      .refine .inl (.inr ⟨_,_,rfl,sq,hw,?_⟩)
       have hw':=hw
       rw[rs.length]at hw'
       rw[zk5 hw']at kk
       exact Wants.here kk r3 (.tup sq rs)
      .exact .inl (.inl ⟨_,_,rfl,sq,hw,λp hp=>Wants.tuple kk r3 (zjo rs l' u') hp⟩)
    .rename_i i
     cases q3
     cases g:h3.get i with
     |none=>rw[g]at e6;cases e6
     |some ob=>
      rw[g]at e6
      cases ob with
      |lst ws=>
       cases e6
       obtain⟨vs,p1,p2⟩:=r3.lst g
       exact .inr ⟨_,_,rfl,SqL.of p1,λp hp=>Wants.list kk r3 (zjo p2 l' u') hp⟩
      |dk ws=>cases e6
      |dt _ _=>cases e6
    .cases e6
   .cases e6
end
noncomputable def zaw:Expr->Bool
 |.Starred ..=>false
 |_=>true
theorem zah{e:Expr}{es:List Expr}{env:Env}(h:zaw e=true):starEach (e::es) env=(false,eval e env)::starEach es env:=by
 cases e<;>first|rfl|cases h
theorem zcq{pos:Pos}{env:Env}:∀{es:List Expr},es.all zaw=true->(backTo pos (starEach es env)).any (·.1)=false
 |[],_=>rfl
 |e::es,h=>by
  rw[vdc,vab]at h
  rw[zah h.1]
  show(false|| (backTo pos (starEach es env)).any (·.1))=false
  rw[zcq h.2];rfl
noncomputable abbrev aNil:FE:=λ_ h=>.ok (.tup []) h
noncomputable abbrev aCons(fa fb:FE):FE:=λρ h=>(fa ρ h).bind λx h=>(fb ρ h).bind λy h=>match y with|.tup ys=>.ok (.tup (x::ys)) h|_=>.no
section
variable{X:Cx}{a b c e o:Expr}{es:List Expr}{fa fb fc fo:FE}{pos p:Pos}{x:Str}
noncomputable abbrev gArg(fa:FE)(g:List W->VH->Res W):FE:=λρ h=>(fa ρ h).bind λy h=>match y with|.tup ys=>g ys h|_=>.no
noncomputable def CallV(K:PySem.W.Frag)(r:List V->Hp->VK->Prop)(g:List W->VH->Res W):Prop:=∀(m:Nat->Addr) (h:VH) (H:Hp) (vs:List V) (xs:List W) (w:W) (h':VH) (Q:VK),Rel K m h H->VReps K m h.n H vs xs->g xs h=.ok w h'->Wants K m h.n H w h' Q->r vs H Q
theorem zd1{id:String}{r:List V->Hp->VK->Prop}{g:List W->VH->Res W}(hc:CallR X (.builtin id) r)(hv:CallV X.K r g)(hg:Gl X x)(hm:X.mg x=none)(hb:bootBuiltins x=some (.builtin id))(ha:SA X (e::es) fa)(hs:(e::es).all zaw=true)
 (hn:x≠"__name__") (hdb:(x==("__debug__" : Str))=false):SE X (.Call (.Name x p) (e::es) [] pos) (gArg fa g):=by
 rw[vdc,vab]at hs
 exact(zjh hc hg hm hb ha hn hdb (zah hs.1) (zcq hs.2)).imp λσ H Q q=>zc9 hv q
theorem zem{T:String}{r:List V->Hp->VK->Prop}{g:List W->VH->Res W}(hc:CallR X (.type T) r)(hv:CallV X.K r g)(hg:Gl X x)(hm:X.mg x=none)(hb:bootBuiltins x=some (.type T))(ha:SA X (e::es) fa)(hs:(e::es).all zaw=true)
 (hn:x≠"__name__") (hdb:(x==("__debug__" : Str))=false):SE X (.Call (.Name x p) (e::es) [] pos) (gArg fa g):=by
 rw[vdc,vab]at hs
 exact(zl1 hc hg hm hb ha hn hdb (zah hs.1) (zcq hs.2)).imp λσ H Q q=>zc9 hv q
theorem reps1{K:PySem.W.Frag}{m:Nat->Addr}{n:Nat}{H:Hp}{vs:List V}{w:W}(q:VReps K m n H vs [w]):∃v,vs=[v]/\VRep K m n H v w:=by
 cases q with|cons q r=>cases r;exact⟨_,rfl,q⟩
theorem zwt{K:PySem.W.Frag}:CallV K (λxs H Q=>(∃p ys,xs=[.ref p]/\(SqL K H p ys\/SqT K H p ys)/\Q (.int ys.length) H)\/∃a ys,xs=[.ref a]/\DT K H a ys/\Q (.int ys.length) H) lenW:=by
 intro m h H vs xs w h' Q r q e k
 unfold lenW at e
 split at e<;>try cases e
 rename_i x
 obtain⟨v,rfl,q1⟩:=reps1 q
 obtain⟨e,rfl⟩:=of_ok e
 cases z:seqW h' x with
 |none=>
  rw[z]at e
  simp only[keysD]at e
  cases q1<;>try cases e
  rename_i i _ _
  cases g:h'.get i with
  |none=>simp[g]at e
  |some ob=>
   cases ob with
   |lst _=>simp[g]at e
   |dk _=>simp[g]at e
   |dt ks ws=>
    simp only[g,vaj,vd9]at e
    subst e
    obtain⟨xs,p1,p2,p3,p4⟩:=r.dt g
    have:=p3.length
    rw[vad]at this
    exact .inr ⟨_,xs,rfl,dt_DT p1 p2 p3,by rw[this];exact Wants.here k r (.int _)⟩
 |some ws=>
  rw[z]at e;cases e
  obtain⟨p,us,rfl,h1,h2⟩:=zdc r q1 z
  exact .inl ⟨p,us,rfl,h1,by rw[h2.length];exact Wants.here k r (.int _)⟩
theorem zte{K:PySem.W.Frag}:CallV K (λxs H Q=>∃p ys,xs=[.ref p]/\(SqL K H p ys\/SqT K H p ys)/\∀l,H l=none->Q (.ref l) (upd H l (.lst ys))) listW:=by
 intro m h H vs xs w h' Q r q e k
 unfold listW at e
 split at e<;>try cases e
 rename_i x
 obtain⟨v,rfl,q1⟩:=reps1 q
 cases z:seqW h x with
 |none=>rw[z]at e;cases e
 |some ws=>
  rw[z]at e;cases e
  obtain⟨p,us,rfl,h1,h2⟩:=zdc r q1 z
  exact⟨p,us,rfl,h1,λl hl=>Wants.list k r h2 hl⟩
theorem zpu{K:PySem.W.Frag}:CallV K (λxs H Q=>(∃p ys,xs=[.ref p]/\((SqL K H p ys/\∀l,H l=none->Q (.ref l) (upd H l (.tup ys)))\/(SqT K H p ys/\Q (.ref p) H)))\/∃a ys,xs=[.ref a]/\DT K H a ys/\∀l,H l=none->Q (.ref l) (upd H l (.tup (ys.map λp=>.ref p.2.1)))) zdm:=by
 intro m h H vs xs w h' Q r q e k
 unfold zdm at e
 split at e<;>try cases e
 rename_i x
 obtain⟨v,rfl,q1⟩:=reps1 q
 obtain⟨e,rfl⟩:=of_ok e
 cases z:seqW h' x with
 |none=>
  rw[z]at e
  simp only[keysD]at e
  cases q1<;>try cases e
  rename_i i _ _
  cases g:h'.get i with
  |none=>simp[g]at e
  |some ob=>
   cases ob with
   |lst _=>simp[g]at e
   |dk _=>simp[g]at e
   |dt ks ws=>
    simp only[g,vaj,vd9]at e
    subst e
    obtain⟨xs,p1,p2,p3,p4⟩:=r.dt g
    exact .inr ⟨_,xs,rfl,dt_DT p1 p2 p3,λl hl=>Wants.tuple k r p3 hl⟩
 |some ws=>
  rw[z]at e;cases e
  obtain⟨p,us,rfl,h1,h2⟩:=zdc r q1 z
  rcases h1 with h1|h1
  .exact .inl ⟨p,us,rfl,.inl ⟨h1,λl hl=>Wants.tuple k r h2 hl⟩⟩
  .exact .inl ⟨p,us,rfl,.inr ⟨h1,Wants.here k r (.tup h1 h2)⟩⟩
theorem zwu{K:PySem.W.Frag}:CallV K (λxs H Q=>(∃i,xs=[.int i]/\Q (.int i) H)\/∃k,xs=[.bl k]/\Q (.int (if k then 1 else 0)) H) intW:=by
 intro m h H vs xs w h' Q r q e k
 unfold intW at e
 split at e<;>try cases e
 .obtain⟨v,rfl,q1⟩:=reps1 q
  cases q1
  exact .inl ⟨_,rfl,Wants.here k r (.int _)⟩
 .obtain⟨v,rfl,q1⟩:=reps1 q
  cases q1
  exact .inr ⟨_,rfl,Wants.here k r (.int _)⟩
theorem zwv{K:PySem.W.Frag}:CallV K (λxs H Q=>∃i,xs=[.int i]/\Q (.int (if i<0 then -i else i)) H) absW:=by
 intro m h H vs xs w h' Q r q e k
 unfold absW at e
 split at e<;>try cases e
 obtain⟨v,rfl,q1⟩:=reps1 q
 cases q1
 exact⟨_,rfl,Wants.here k r (.int _)⟩
theorem reps2{K:PySem.W.Frag}{m:Nat->Addr}{n:Nat}{H:Hp}{vs:List V}{w z:W}(q:VReps K m n H vs [w,z]):∃v u,vs=[v,u]/\VRep K m n H v w/\VRep K m n H u z:=by
 cases q with|cons q r=>obtain⟨u,rfl,h⟩:=reps1 r;exact⟨_,_,rfl,q,h⟩
theorem zww{K:PySem.W.Frag}:CallV K (λxs H Q=>∃i j,xs=[.int i,.int j]/\Q (.int (if j<i then j else i)) H) minW:=by
 intro m h H vs xs w h' Q r q e k
 unfold minW at e
 split at e<;>try cases e
 obtain⟨v,u,rfl,q1,q2⟩:=reps2 q
 cases q1;cases q2
 exact⟨_,_,rfl,Wants.here k r (.int _)⟩
theorem zjp{K:PySem.W.Frag}{m:Nat->Addr}{n:Nat}{H:Hp}:∀{vs:List V} {ws:List W} {bs:List Bool},VReps K m n H vs ws->mapO blW ws=some bs->vs=bs.map .bl
 |_,_,bs,.nil,e=>by cases e;rfl
 |_,_,bs,.cons (w:=w) (ws:=ws) q r,e=>by
  unfold mapO at e
  cases z:blW w with
  |none=>rw[z]at e;cases e
  |some b=>
   rw[z]at e
   cases z2:mapO blW ws with
   |none=>rw[z2]at e;cases e
   |some cs=>
    rw[z2]at e;cases e
    unfold blW at z
    split at z<;>cases z
    cases q
    rw[zjp r z2];rfl
theorem zwx{K:PySem.W.Frag}:CallV K (λxs H Q=>∃(p:Addr) (bs:List Bool),xs=[.ref p]/\SqL K H p (bs.map .bl)/\Q (.bl (bs.all id)) H) allW:=by
 intro m h H vs xs w h' Q r q e k
 unfold allW at e
 split at e<;>try cases e
 rename_i i
 split at e<;>try cases e
 rename_i ws g
 obtain⟨v,rfl,q1⟩:=reps1 q
 obtain⟨e,rfl⟩:=of_ok e
 cases z:mapO blW ws with
 |none=>rw[z]at e;cases e
 |some bs=>
  rw[z]at e;cases e
  cases q1
  obtain⟨us,p1,p2⟩:=r.lst g
  refine⟨_,bs,rfl,?_,Wants.here k r (.bl _)⟩
  rw[<-zjp p2 z]
  exact .inl (.inl p1)
noncomputable def tyN:Ty->String
 |.int=>"int" |.bool=>"bool" |.tuple=>"tuple" |.list=>"list" |.str=>"str" |.dict=>"dict"
noncomputable def rIsi(K:PySem.W.Frag)(n:String):List V->Hp->VK->Prop:=λxs H Q=>∃x b,xs=[x,.ty n]/\((∃t,TyOf K H x t/\PySem.W.kitOne K t (.type n)=some b)\/(∃a vs,x=.ref a/\SqT K H a vs/\PySem.W.kitOne K (.type "tuple") (.type n)=some b)\/∃a kvs,x=.ref a/\Rd H a (.dK kvs)/\PySem.W.kitOne K (.type "dict") (.type n)=some b)/\Q (.bl b) H
theorem zpv(n:String):CallR X (.builtin "isinstance") (rIsi X.K n):=by
 intro pins s σ H xs us Q I r h
 obtain⟨x,b,rfl,hi,q⟩:=h
 obtain⟨u,u2,rfl,rx,rc⟩:=vals2 r
 obtain rfl:u2=Value.type n:=rc
 rcases hi with⟨t,ty,e⟩|⟨a,vs,rfl,sq,e⟩|⟨a,kvs,rfl,rd,e⟩
 .exact zly I rx ty e λtk=>⟨.bl b,H,I.tok _,rfl,q⟩
 .obtain rfl:u=Value.ref a:=rx
  obtain⟨its,_,p,_⟩:=I.tuple sq
  obtain⟨o,h1,h2,_⟩:=p
  exact vb3 PySem.W.kitx_tuple I.kIn ⟨o,h1,h2⟩ e (λz=>nomatch z) λtk=>⟨.bl b,H,I.tok _,rfl,q⟩
 .obtain rfl:u=Value.ref a:=rx
  obtain⟨_,_,_,_,o,_,_,h1,h2,_⟩:=dk_rd I.hok rd
  exact vb3 PySem.W.kitx_dict I.kIn ⟨o,h1,h2.1⟩ e (λz=>nomatch z) λtk=>⟨.bl b,H,I.tok _,rfl,q⟩
theorem zwy{K:PySem.W.Frag}(t:Ty){m:Nat->Addr}{h:VH}{H:Hp}{v:V}{x:W}{b:Bool}(r:Rel K m h H)(q:VRep K m h.n H v x)(e:tyIs t h x=some b) :
 (∃t',TyOf K H v t'/\PySem.W.kitOne K t' (.type (tyN t))=some b)\/(∃a vs,v=.ref a/\SqT K H a vs/\PySem.W.kitOne K (.type "tuple") (.type (tyN t))=some b)\/∃a kvs,v=.ref a/\Rd H a (.dK kvs)/\PySem.W.kitOne K (.type "dict") (.type (tyN t))=some b:=by
 cases q with
 |non=>cases e;refine .inl ⟨_,.non,?_⟩;cases t<;>rfl
 |bl x=>cases e;refine .inl ⟨_,.bl x,?_⟩;cases t<;>rfl
 |int x=>cases e;refine .inl ⟨_,.int x,?_⟩;cases t<;>rfl
 |str x=>cases e;refine .inl ⟨_,.str x,?_⟩;cases t<;>rfl
 |tup sq rs=>cases e;refine .inr (.inl ⟨_,_,rfl,sq,?_⟩);cases t<;>rfl
 |fz _ _=>cases e
 | @ref i hi=>
  simp only[tyIs]at e
  cases g:h.get i with
  |none=>rw[g]at e;cases e
  |some o=>
   rw[g]at e
   cases o with
   |lst ws=>
    cases e
    obtain⟨vs,h1,h2⟩:=r.lst g
    refine .inl ⟨_,.lst h1,?_⟩;cases t<;>rfl
   |dk ws=>
    cases e
    obtain⟨vs,h1,h2⟩:=r.dk g
    refine .inr (.inr ⟨_,_,rfl,h1,?_⟩);cases t<;>rfl
   |dt _ _=>cases e
theorem zwz(t:Ty){T:Str}{p2:Pos}(ha:SE X e fa)(hs:zaw e=true)(hg:Gl X "isinstance")(hm:X.mg "isinstance" = none)(hgT:Gl X T)(hmT:X.mg T=none)(hbT:bootBuiltins T=some (.type (tyN t)))(hn:T≠"__name__")(hd:(T==("__debug__" : Str))=false) :
 SE X (.Call (.Name "isinstance" p) [e,.Name T p2] [] pos) (λρ h=>(fa ρ h).bind λx h=>.of ((tyIs t h x).map .bl) h):=by
 have hT:PE X (.Name T p2) (tC (.ty (tyN t))):=zr8 hgT hmT hbT rfl hn hd
 refine(zjh (zpv (tyN t)) hg hm PyProof.Rows.boot_isinstance (zec ha (zec hT zje) (zah hs)) (by decide) (by decide) (zah hs) rfl).imp λσ H Q q=>?_
 refine zq9 (g:=λx h=>.of ((tyIs t h x).map .bl) h) (G:=λv H1 Q=>rIsi X.K (tyN t) [v,.ty (tyN t)] H1 Q) (λm h H v x w h' Q r q e k=>?_) q
 obtain⟨e,rfl⟩:=of_ok e
 cases z:tyIs t h' x with
 |none=>rw[z]at e;cases e
 |some b=>
  rw[z]at e;cases e
  exact⟨v,b,rfl,zwy t r q z,Wants.here k r (.bl b)⟩
noncomputable def zio:Expr->Bool
 |.Name .. |.Subscript ..=>true
 |_=>false
theorem ztf{o:Expr}{m:Str}{env:Env}(h:zio o=true):attributeBase o m env (eval o env)=eval o env:=by
 cases o<;>first|rfl|cases h
noncomputable abbrev gMt(m:Mt)(fo fa:FE):FE:=λρ h=>(fo ρ h).bind λx h=>if zg9 m h x then(fa ρ h).bind λy h=>match y with|.tup ys=>mtW m x ys h|_=>.no else .no
theorem zmr{apos:Pos}(ho:SE X o fo)(he:SE X e fa)(hb:zio o=true)(hs:zaw e=true)(hl:(apos.endLine==pos.line)=true) :
 SE X (.Call (.Attribute o "append" apos) [e] [] pos) (gMt .append fo (aCons fa aNil)):=by
 refine(pe_bm (X:=X) PySem.F.plainAttrs_list PySem.F.slot_list_append PySem.F.type_list_append zg5 ho (zec he zje (zah hs)) (ztf hb) ?_ hl (zah hs) rfl).imp λσ H Q z9=>z9.el λρ h m w h' f r e k=>?_
 .rw[zah hs];rfl
 .refine zac e λx h1 e1 e2=>?_
  split at e2
  .rename_i hk
   refine zac e2 λy h2 e3 e4=>?_
   refine zac e3 λz h3 e5 e6=>?_
   cases e6
   refine(.mk f r e1 λv H1 m1 s1 r1 q1=>?_)
   cases x<;>try cases hk
   rename_i i
   simp only[zg9]at hk
   cases g:h1.get i with
   |none=>rw[g]at hk;cases hk
   |some ob=>
    rw[g]at hk
    cases ob with
    |dk _=>cases hk
    |dt _ _=>cases hk
    |lst ws0=>
     cases q1
     obtain⟨vs0,p1,_⟩:=r1.lst g
     refine⟨.inl ⟨rfl,vs0,SqL.of p1⟩,ρ,h1,m1,z,h2,f.stp s1,r1,e5,λv2 H2 m2 s2 r2 q2=>?_⟩
     simp only[mtW]at e4
     cases g2:h2.get i with
     |none=>rw[g2]at e4;cases e4
     |some ob=>
      rw[g2]at e4
      cases ob with
      |dk _=>cases e4
      |dt _ _=>cases e4
      |lst ws=>
       simp only at e4
       split at e4
       .rename_i hz
        cases e4
        obtain⟨vs,p2,p3⟩:=r2.lst g2
        have hmi:m1 i=m2 i:=(s2.same i (zam g)).symm
        refine⟨m1 i,vs,v2,rfl,rfl,by rw[hmi];exact p2,by rw[p3.length];exact zar.mp hz,?_⟩
        obtain⟨st,r'⟩:=r2.write (i:=i) (o:=.lst (ws++[z])) (u:=.lst (vs++[v2])) (zam g2) p2 (λ_ z=>nomatch z) (λ_ _ z=>nomatch z) λst=>⟨vs++[v2],zan,(p3.stp st).append (.cons (q2.stp st) .nil)⟩
        rw[hmi]
        exact k .non _ m2 ((s1.trans s2).trans st) r' .non
       .cases e4
  .cases e2
end
section
variable{K:PySem.W.Frag}{m m' m1:Nat->Addr}{n n' n1:Nat}{h h':VH}{H H' H1:Hp}
mutual
theorem VRep.mono(hn:n<=n')(hm:∀i,i<n->m' i=m i)(kt:∀b vs,H b=some (.tup vs)->H' b=some (.tup vs))(kf:∀b o u,H b=some (.frz o u)->H' b=some (.frz o u)):∀{v:V} {w:W},VRep K m n H v w->VRep K m' n' H' v w
 |_,_,.non=>.non
 |_,_,.bl b=>.bl b
 |_,_,.int b=>.int b
 |_,_,.str b=>.str b
 |_,_,.tup q r=>.tup (by
  rcases q with(q|⟨o,q⟩)|q
  .exact .inl (.inl (kt _ _ q))
  .exact .inl (.inr ⟨o,kf _ _ _ q⟩)
  .exact .inr q) (VReps.mono hn hm kt kf r)
 |_,_,.fz q r=>.fz (by
  rcases q with⟨o,q⟩|q
  .exact .inl ⟨o,kf _ _ _ q⟩
  .exact .inr q) (VReps.mono hn hm kt kf r)
 |_,_,.ref (i:=i) q=>by rw[<-hm i q];exact .ref (vak q hn)
theorem VReps.mono(hn:n<=n')(hm:∀i,i<n->m' i=m i)(kt:∀b vs,H b=some (.tup vs)->H' b=some (.tup vs))(kf:∀b o u,H b=some (.frz o u)->H' b=some (.frz o u)):∀{vs:List V} {ws:List W},VReps K m n H vs ws->VReps K m' n' H' vs ws
 |_,_,.nil=>.nil
 |_,_,.cons q r=>.cons (VRep.mono hn hm kt kf q) (VReps.mono hn hm kt kf r)
end
theorem Rel.side(r:Rel K m h H){D:Addr}{u u0:HO}(hu:H D=some u0)(ht:∀t,u0≠.tup t)(hf:∀o t,u0≠.frz o t)(ho:∀i,i<h.n->m i≠D)(s:Stp m1 n1 H1 m h.n H)(h0:H1 D=none) :
 Stp m1 n1 H1 m h.n (upd H D u)/\Rel K m h (upd H D u)/\∀{v:V}{w:W},VRep K m h.n H v w->VRep K m h.n (upd H D u) v w:=by
 have kt:∀b vs,H b=some (.tup vs)->upd H D u b=some (.tup vs):=λb vs q=>by rw[zag (ne_of q hu λz=>ht vs z.symm)];exact q
 have kf:∀b o t,H b=some (.frz o t)->upd H D u b=some (.frz o t):=λb o t q=>by rw[zag (ne_of q hu λz=>hf o t z.symm)];exact q
 have mv:∀{v:V}{w:W},VRep K m h.n H v w->VRep K m h.n (upd H D u) v w:=λq=>q.mono (vae _) (λ_ _=>rfl) kt kf
 refine⟨⟨s.le,s.same,s.new,s.apart,λb vs q=>kt b vs (s.tup b vs q),λb o t q=>kf b o t (s.frz b o t q),λb o nb q=>by rw[zag (zaf q h0)];exact s.keep b o nb q⟩,⟨λi hi=>?_,r.inj,r.len⟩,mv⟩
 obtain⟨o,h1,h2⟩:=r.obj i hi
 have eq:upd H D u (m i)=H (m i):=zag (ho i hi)
 refine⟨o,h1,?_⟩
 cases o with
 |lst ws=>obtain⟨vs,q1,q2⟩:=h2;exact⟨vs,eq.trans q1,q2.map mv⟩
 |dk ws=>obtain⟨vs,q1,q2⟩:=h2;exact⟨vs,q1.imp (λz=>eq.trans z) λ⟨o,z⟩=>⟨o,eq.trans z⟩,q2.map mv⟩
 |dt ks ws=>obtain⟨xs,q1,q0,q2,q3⟩:=h2;exact⟨xs,q1.imp (λz=>eq.trans z) λ⟨o,z⟩=>⟨o,eq.trans z⟩,q0,q2.map mv,q3.map mv⟩
theorem Rel.out(r:Rel K m h H){p:Addr}(hp:H p=none):∀i,i<h.n->m i≠p:=λi hi z=>by
 obtain⟨o',_,h2⟩:=r.obj i hi
 obtain⟨u',h3⟩:=h2.some
 rw[z,hp]at h3;cases h3
theorem Stp.out(s:Stp m n H m' n' H'){p:Addr}{u:HO}(hp:∀i,i<n->m i≠p)(hu:H p=some u):∀i,i<n'->m' i≠p:=λi hi z=>by
 by_cases hl:i<n
 .exact hp i hl ((s.same i hl).symm.trans z)
 .have:=s.new i (vco.mp hl) hi
  rw[z,hu]at this;cases this
end
inductive PReps(K:PySem.W.Frag)(m:Nat->Addr)(n:Nat)(H:Hp):List (V×V)->List W->Prop
 |nil:PReps K m n H [] []
 |cons {k v:V} {a b:W} {ps:List (V×V)} {ws:List W}:VRep K m n H k a->VRep K m n H v b->PReps K m n H ps ws->PReps K m n H ((k,v)::ps) (a::b::ws)
noncomputable def lftP(K:PySem.W.Frag)(f:FE)(σ:L2.St)(H:Hp)(Q:List (V×V)->Hp->Prop):Prop:=∃ρ h m ws h',Fr K m h.n H σ ρ/\Rel K m h H/\f ρ h=.ok (.tup ws) h'/\
 ∀ps H' m',Stp m h.n H m' h'.n H'->Rel K m' h' H'->PReps K m' h'.n H' ps ws->Q ps H'
theorem lftP.el{K:PySem.W.Frag}{σ:L2.St}{H:Hp}{P:Prop}{fa:FE}{Q:List (V×V)->Hp->Prop}(q:lftP K fa σ H Q)(k:∀ρ h m ws h',Fr K m h.n H σ ρ->Rel K m h H->fa ρ h=.ok (.tup ws) h'->(∀ps H' m',Stp m h.n H m' h'.n H'->Rel K m' h' H'->PReps K m' h'.n H' ps ws->Q ps H')->P):P:=by
 obtain⟨ρ,h,m,w,h',f,r,e,k'⟩:=q
 exact k ρ h m w h' f r e k'
theorem lftP.mk{K:PySem.W.Frag}{σ:L2.St}{H:Hp}{m:Nat->Addr}{ρ:En}{h h':VH}{ws:List W}{fa:FE}{Q:List (V×V)->Hp->Prop}(f:Fr K m h.n H σ ρ)(r:Rel K m h H)(e:fa ρ h=.ok (.tup ws) h')(k:∀ps H' m',Stp m h.n H m' h'.n H'->Rel K m' h' H'->PReps K m' h'.n H' ps ws->Q ps H'):lftP K fa σ H Q:=⟨ρ,h,m,ws,h',f,r,e,k⟩
noncomputable def SPs(X:Cx)(pos:Pos)(keys:List (Option Expr))(values:List Expr)(f:FE):Prop:=∃trs,PPs X pos keys values trs/\∀σ H Q,lftP X.K f σ H Q->zjk trs σ H Q
section
variable{X:Cx}{a b c e o:Expr}{es:List Expr}{fa fb fc fo fr:FE}{pos p:Pos}{x:Str}
theorem ztg:SPs X pos [] [] aNil:=⟨[],zsx,λσ H Q z9=>z9.el λρ h m ws h' f r e k=>by cases e;exact k [] H m .refl r .nil⟩
theorem zpw{ks:List (Option Expr)}{vs:List Expr}(ha:SE X a fa)(hb:SE X b fb)(hr:SPs X pos ks vs fr):SPs X pos (some a::ks) (b::vs) (aCons fa (aCons fb fr)):=by
 obtain⟨trs,h1,h2⟩:=hr
 refine⟨_,zpf ha hb h1,λσ H Q z9=>z9.el λρ h m ws h' f r e k=>?_⟩
 refine zac e λx h3 e1 e2=>?_
 refine zac e2 λy h4 e3 e4=>?_
 refine zac e3 λx2 h5 e5 e6=>?_
 refine zac e6 λy2 h6 e7 e8=>?_
 cases y2<;>try cases e8
 cases e4
 rename_i ys
 exact(.mk f r e1 λv H1 m1 s1 r1 q1=>(.mk (f.stp s1) r1 e5 λv2 H2 m2 s2 r2 q2=>h2 σ H2 _ (.mk ((f.stp s1).stp s2) r2 e7 λps H3 m3 s3 r3 q3=>
  k _ H3 m3 ((s1.trans s2).trans s3) r3 (.cons ((q1.stp s2).stp s3) (q2.stp s3) q3))))
theorem zjq{K:PySem.W.Frag}{m:Nat->Addr}{n:Nat}{H:Hp}:∀{ps:List (V×V)} {ws:List W} {kws:List (Key×W)},PReps K m n H ps ws->zcp ws=some kws->∃kvs:List (Key×V),ps=kvs.map (λkv=>(kV kv.1,kv.2))/\KReps K m n H kvs kws
 |_,_,_,.nil,e=>by cases e;exact⟨[],rfl,.nil⟩
 |_,_,_,.cons (a:=a) (v:=v) q1 q2 r,e=>by
  simp only[zcp]at e
  split at e
  .rename_i k hk
   split at e
   .rename_i kvs hp
    cases e
    obtain⟨kv,rfl,r'⟩:=zjq r hp
    refine⟨(k,v)::kv,?_,.cons q2 r'⟩
    rw[vam,zs9 q1 hk]
   .cases e
  .cases e
noncomputable abbrev gDsp(f:FE):FE:=λρ h=>(f ρ h).bind λy h=>match y with
 |.tup ys=>(match zcp ys with
  |some kvs=>if Nat.ble kvs.length 15 then .ok (.ref h.n) (h.new (dkO kvs))else .no
  |none=>dspD ys h)
 |_=>.no
theorem zw0{K:PySem.W.Frag}{m:Nat->Addr}{n:Nat}{H:Hp}{ps:List (V×V)}{a b:W}(q:PReps K m n H ps [a,b]):∃k v,ps=[(k,v)]/\VRep K m n H k a/\VRep K m n H v b:=by
 cases q with|cons q1 q2 r=>cases r;exact⟨_,_,rfl,q1,q2⟩
theorem zw1(hu:X.A.units+2<cLine){keys:List (Option Expr)}{values:List Expr}(hp:SPs X pos keys values fa)(hall:keys.all (·.isSome)=true)(hl:keys.length=values.length)(h0:keys≠[])(h15:keys.length<=15):SE X (.Dict keys values pos) (gDsp fa):=by
 obtain⟨trs,h1,h2⟩:=hp
 refine(zps hu h1 hall hl h0 h15).imp λσ H Q z9 p hp=>z9.el λρ h m w h' f r e k=>?_
 refine zac e λy h3 e1 e2=>?_
 cases y<;>try cases e2
 rename_i ys
 obtain⟨st0,r0⟩:=r.more (u:=.dK []) hp
 refine h2 σ _ _ (.mk (f.stp st0) r0 e1 λps H2 m2 s2 r2 q2=>?_)
 have hout:=s2.out (r.out hp) zan
 have hD:H2 p=some (.dK []):=s2.keep p _ (r.out hp) zan
 refine⟨hD,?_⟩
 have e2:(match zcp ys with
  |some kvs=>if Nat.ble kvs.length 15 then Res.ok (W.ref h3.n) (h3.new (dkO kvs))else .no
  |none=>dspD ys h3)=.ok w h':=e2
 cases hk:zcp ys with
 |none=>
  rw[hk]at e2
  have e5:dspD ys h3=.ok w h':=e2
  clear e2
  try(rename_i e00;clear e00)
  unfold dspD at e5
  split at e5
  .rename_i kw vw
   split at e5
   .rename_i dk hd
    cases e5
    obtain⟨kv,vv,rfl,q3,q4⟩:=zw0 q2
    obtain⟨b,rfl,kk⟩:=zel q3 hd
    refine .inr ⟨b,dk,vv,rfl,kk,?_⟩
    obtain⟨st,r'⟩:=r2.adopt (o:=.dt [kw] [vw]) (u:=dtH [(dk,b,vv)] p) hout hD (λ_ z=>nomatch z) (λ_ _ z=>nomatch z) (st0.trans s2) hp λ_ mv=>⟨[(dk,b,vv)],.inl zan,by simp[mapO,hd],.cons (mv q3) .nil,.cons (mv q4) .nil⟩
    refine k _ _ _ st r' ?_
    have:VRep X.K (λi=>if i=h3.n then p else m2 i) (h3.n+1) (upd H2 p (dtH [(dk,b,vv)] p)) (.ref ((λi=>if i=h3.n then p else m2 i) h3.n)) (.ref h3.n):=.ref (vbq _)
    simp only[vbe]at this
    exact this
   .cases e5
  .cases e5
 |some kws=>
  rw[hk]at e2
  have e2:(if Nat.ble kws.length 15 then Res.ok (W.ref h3.n) (h3.new (dkO kws))else .no)=.ok w h':=e2
  by_cases hz:Nat.ble kws.length 15=true
  .rw[if_pos hz]at e2
   cases e2
   obtain⟨kvs,e3,q3⟩:=zjq q2 hk
   refine .inl ⟨kvs,e3,by rw[q3.length];exact va3 hz,?_⟩
   obtain⟨st,r'⟩:=r2.adopt (o:=dkO kws) (u:=.dK (zdl [] kvs)) hout hD (λ_ z=>nomatch z) (λ_ _ z=>nomatch z) (st0.trans s2) hp λ_ mv=>by
    cases kws with
    |nil=>cases q3;exact⟨[],.inr ⟨rfl,zan⟩,rfl,.nil,.nil⟩
    |cons k1 kws=>exact⟨_,.inl zan,(q3.merge .nil).map mv⟩
   refine k _ _ _ st r' ?_
   have:VRep X.K (λi=>if i=h3.n then p else m2 i) (h3.n+1) (upd H2 p (.dK (zdl [] kvs))) (.ref ((λi=>if i=h3.n then p else m2 i) h3.n)) (.ref h3.n):=.ref (vbq _)
   simp only[vbe]at this
   exact this
  .rw[if_neg hz]at e2;cases e2
theorem zth:SE X (.Dict [] [] pos) (gDsp aNil):=zpe.imp λσ H Q z9 p hp=>z9.el λρ h m w h' f r e k=>by
 cases e
 exact Wants.dictD (ks:=[]) (ws:=[]) (xs:=[]) k r hp (.inr ⟨rfl,rfl⟩) rfl .nil .nil
noncomputable def spV(K:PySem.W.Frag)(np:Nat)(g:List W->VH->Res W):Sp:=λvs H Q _=>vs.length=np/\∃h m ws w h',Rel K m h H/\VReps K m h.n H vs ws/\g ws h=.ok w h'/\Wants K m h.n H w h' Q
theorem zti{k:Nat}{f:Addr}{fd:FuncData}{ps:List Str}{g:List W->VH->Res W}(F:FnOk X.prog X.w X.K X.mg X.base CX0 k f fd ps (spV X.K ps.length g))(hr:Room k X.A)(hg:Gl X x)(hm:X.mg x=some (.ref f))(hk:PySem.W.keepIn X.K (.ref f)=true)
 (hb:Binds X.K fd ps []) (ha:SA X (e::es) fa) (hs:(e::es).all zaw=true) (hdb:(x==("__debug__" : Str))=false) (hn:∀ws h w h',g ws h=.ok w h'->ws.length=ps.length):SE X (.Call (.Name x p) (e::es) [] pos) (gArg fa g):=by
 rw[vdc,vab]at hs
 refine(zlz F hr hg hm hk hb .nil pass0 ha hdb (zah hs.1) (zcq hs.2)).imp λσ H Q q=>zc9 (G:=λvs H1 Q=>spV X.K ps.length g (vs++[]) H1 Q E0) (λm h H vs xs w h' Q r q e k=>?_) q
 rw[vcd]
 exact⟨by rw[q.length];exact hn _ _ _ _ e,h,m,xs,w,h',r,q,e,k⟩
theorem zpx{k:Nat}{f:Addr}{fd:FuncData}{ps:List Str}{g:List W->VH->Res W}(F:FnOk X.prog X.w X.K X.mg X.base CX0 k f fd ps (spV X.K ps.length g))(hr:Room k X.A)(hg:Gl X x)(hm:X.mg x=some (.ref f))(hk:PySem.W.keepIn X.K (.ref f)=true)
 (hb:Binds X.K fd ps []) (hdb:(x==("__debug__" : Str))=false) (hn:∀ws h w h',g ws h=.ok w h'->ws.length=ps.length):SE X (.Call (.Name x p) [] [] pos) (gArg aNil g):=by
 refine(zo7 F hr hg hm hk hb .nil pass0 hdb).imp λσ H Q z9=>z9.el λρ h m w h' f r e k=>?_
 exact⟨hn _ _ _ _ e,h,m,[],w,h',r,.nil,e,k⟩
theorem zpy{k:Nat}{f:Addr}{fd:FuncData}{ps:List Str}{g:List W->VH->Res W}(F:FnOk X.prog X.w X.K X.mg X.base CX0 k f fd ps (spV X.K ps.length g))(hr:Room k X.A)(hg:Gl X x)(hm:X.mg x=some (.ref f))(hk:PySem.W.keepIn X.K (.ref f)=true)
 (hb:Binds X.K fd ps [.none]) (ha:SA X (e::es) fa) (hs:(e::es).all zaw=true) (hdb:(x==("__debug__" : Str))=false) (hn:∀ws h w h',g ws h=.ok w h'->ws.length=ps.length):SE X (.Call (.Name x p) (e::es) [] pos) (gArg fa λws h=>g (ws++[.non]) h):=by
 rw[vdc,vab]at hs
 refine(zlz F hr hg hm hk hb (dvs:=[V.non]) (.cons rfl .nil) pass0 ha hdb (zah hs.1) (zcq hs.2)).imp λσ H Q q=>zc9 (G:=λvs H1 Q=>spV X.K ps.length g (vs++[V.non]) H1 Q E0) (λm h H vs xs w h' Q r q e k=>?_) q
 have q':VReps X.K m h.n H (vs++[V.non]) (xs++[W.non]):=q.append (.cons .non .nil)
 exact⟨by rw[q'.length];exact hn _ _ _ _ e,h,m,xs++[W.non],w,h',r,q',e,k⟩
noncomputable def ItOk(K:PySem.W.Frag)(nx:Nat->VH->Option (Option W))(J:It)(P:(Nat->Addr)->Nat->Hp->Prop):Prop:=
 (∀m n H m' n' H',n<=n'->(∀i,i<n->m' i=m i)->(∀b vs,H b=some (.tup vs)->H' b=some (.tup vs))->(∀b o u,H b=some (.frz o u)->H' b=some (.frz o u))->P m n H->P m' n' H')/\
 ∀m h H,Rel K m h H->P m h.n H->∀i,(∀w,nx i h=some (some w)->J.go i H/\∀y H3,J.yld i H y H3->Stp m h.n H m h.n H3/\Rel K m h H3/\VRep K m h.n H3 y w)/\(nx i h=some none->J.stop i H)
noncomputable def lftI(K:PySem.W.Frag)(kd:Kd)(f:FE):TI:=λσ H R=>∃ρ h m x h',Fr K m h.n H σ ρ/\Rel K m h H/\f ρ h=.ok x h'/\(∃o,nxt kd x 0 h'=some o)/\
 ∀J P H' m',Stp m h.n H m' h'.n H'->Rel K m' h' H'->ItOk K (nxt kd x) J P->P m' h'.n H'->R J H'
theorem lftI.el{K:PySem.W.Frag}{σ:L2.St}{H:Hp}{P:Prop}{kd:Kd}{fa:FE}{R}(q:lftI K kd fa σ H R)(k:∀ρ h m x h',Fr K m h.n H σ ρ->Rel K m h H->fa ρ h=.ok x h'->∀o,nxt kd x 0 h'=some o->(∀J P H' m',Stp m h.n H m' h'.n H'->Rel K m' h' H'->ItOk K (nxt kd x) J P->P m' h'.n H'->R J H')->P):P:=by
 obtain⟨ρ,h,m,w,h',f,r,e,⟨o,eo⟩,k'⟩:=q
 exact k ρ h m w h' f r e o eo k'
theorem lftI.mk{K:PySem.W.Frag}{σ:L2.St}{H:Hp}{m:Nat->Addr}{ρ:En}{h h':VH}{x:W}{kd:Kd}{fa:FE}{R}(f:Fr K m h.n H σ ρ)(r:Rel K m h H)(e:fa ρ h=.ok x h')(eo:∃o,nxt kd x 0 h'=some o)(k:∀J P H' m',Stp m h.n H m' h'.n H'->Rel K m' h' H'->ItOk K (nxt kd x) J P->P m' h'.n H'->R J H'):lftI K kd fa σ H R:=⟨ρ,h,m,x,h',f,r,e,eo,k⟩
theorem zd2{K:PySem.W.Frag}{H H':Hp}{a:Addr}{vs:List V}(kt:∀b vs,H b=some (.tup vs)->H' b=some (.tup vs))(kf:∀b o u,H b=some (.frz o u)->H' b=some (.frz o u))(q:SqT K H a vs):SqT K H' a vs:=by
 rcases q with(q|⟨o,q⟩)|q
 .exact .inl (.inl (kt _ _ q))
 .exact .inl (.inr ⟨o,kf _ _ _ q⟩)
 .exact .inr q
theorem zms{K:PySem.W.Frag}{H H':Hp}{a:Addr}{vs:List V}(kf:∀b o u,H b=some (.frz o u)->H' b=some (.frz o u))(q:Fz K H a vs):Fz K H' a vs:=by
 rcases q with⟨o,q⟩|q
 .exact .inl ⟨o,kf _ _ _ q⟩
 .exact .inr q
theorem zfd{ws:List W}{h:VH}{x:W}{i:Nat}{o:Option W}(e:seqW h x=some ws)(q:nxt .seq x i h=some o):ws[i]?=o:=by
 simp only[nxt,e]at q
 cases q;rfl
theorem zw2{K:PySem.W.Frag}{a:Addr}{vs:List V}{ws:List W}:ItOk K (nxt .seq (.tup ws)) (Itt K a) (λm n H=>SqT K H a vs/\VReps K m n H vs ws):=by
 refine⟨λm n H m' n' H' hn hm kt kf ⟨q1,q2⟩=>⟨zd2 kt kf q1,q2.mono hn hm kt kf⟩,λm h H r ⟨q1,q2⟩ i=>⟨λw e=>?_,λe=>?_⟩⟩
 .have e:=zfd (ws:=ws) rfl e
  obtain⟨v,h1,h2⟩:=q2.get e
  refine⟨⟨vs,v,q1,h1⟩,λy H3 ⟨e3,y3⟩=>?_⟩
  subst e3
  have:=y3 vs q1
  rw[h1]at this;cases this
  exact⟨.refl,r,h2⟩
 .have e:=zfd (ws:=ws) rfl e
  exact⟨vs,q1,by rw[q2.length];exact va7.mp e⟩
theorem it_fz{K:PySem.W.Frag}{a:Addr}{vs:List V}{ws:List W}:ItOk K (nxt .seq (.fz ws)) (Itl K a) (λm n H=>Fz K H a vs/\VReps K m n H vs ws):=by
 refine⟨λm n H m' n' H' hn hm kt kf ⟨q1,q2⟩=>⟨zms kf q1,q2.mono hn hm kt kf⟩,λm h H r ⟨q1,q2⟩ i=>⟨λw e=>?_,λe=>?_⟩⟩
 .have e:=zfd (ws:=ws) rfl e
  obtain⟨v,h1,h2⟩:=q2.get e
  refine⟨⟨vs,v,q1.sq,h1⟩,λy H3 ⟨e3,y3⟩=>?_⟩
  subst e3
  have:=y3 vs q1.sq
  rw[h1]at this;cases this
  exact⟨.refl,r,h2⟩
 .have e:=zfd (ws:=ws) rfl e
  exact⟨vs,q1.sq,by rw[q2.length];exact va7.mp e⟩
theorem zw3{K:PySem.W.Frag}{a:Addr}{l:Nat}:ItOk K (nxt .seq (.ref l)) (Itl K a) (λm n H=>l<n/\a=m l):=by
 refine⟨λm n H m' n' H' hn hm kt kf ⟨q1,q2⟩=>⟨vak q1 hn,by rw[hm l q1];exact q2⟩,λm h H r ⟨q1,q2⟩ i=>?_⟩
 subst q2
 cases g:h.get l with
 |none=>exact⟨λw e=>by simp[nxt,seqW,g]at e,λe=>by simp[nxt,seqW,g]at e⟩
 |some o=>
  cases o with
  |dk _=>exact⟨λw e=>by simp[nxt,seqW,g]at e,λe=>by simp[nxt,seqW,g]at e⟩
  |dt _ _=>exact⟨λw e=>by simp[nxt,seqW,g]at e,λe=>by simp[nxt,seqW,g]at e⟩
  |lst ws=>
   have hs:seqW h (.ref l)=some ws:=by simp[seqW,g]
   obtain⟨vs,p1,p2⟩:=r.lst g
   refine⟨λw e=>?_,λe=>?_⟩
   .have e:=zfd hs e
    obtain⟨v,h1,h2⟩:=p2.get e
    refine⟨⟨vs,v,SqL.of p1,h1⟩,λy H3 ⟨e3,y3⟩=>?_⟩
    subst e3
    have:=y3 vs (SqL.of p1)
    rw[h1]at this;cases this
    exact⟨.refl,r,h2⟩
   .have e:=zfd hs e
    exact⟨vs,SqL.of p1,by rw[p2.length];exact va7.mp e⟩
theorem zrg{K:PySem.W.Frag}{kd:Kd}{x:W}{lo:Int}{k:Nat}(hx:∀i h,nxt kd x i h=some (if i<k then some (.int (lo+i))else none)):ItOk K (nxt kd x) (Itr lo k) (λ_ _ _=>True):=by
 refine⟨λ_ _ _ _ _ _ _ _ _ _ _=>trivial,λm h H r _ i=>⟨λw e=>?_,λe=>?_⟩⟩
 .rw[hx]at e
  split at e
  .rename_i hi
   cases e
   refine⟨hi,λy H3 ⟨e3,y3⟩=>?_⟩
   subst e3 y3
   exact⟨.refl,r,.int _⟩
  .cases e
 .rw[hx]at e
  split at e
  .cases e
  .rename_i hi
   exact vco.mp hi
theorem zrh{tg:Expr}(ha:SE X e fa):PI X tg e (lftI X.K .seq fa):=λpins s σ H R I z9=>z9.el λρ h m x h' f r ee o en k=>by
 have hs:∃ws,seqW h' x=some ws:=by
  cases z:seqW h' x with
  |none=>simp[nxt,z]at en
  |some ws=>exact⟨ws,rfl⟩
 obtain⟨ws,hs⟩:=hs
 cases x<;>try cases hs
 .exact zu7 ha pins s σ H R I (.mk f r ee λv H' m' s' r' q=>by
   cases q with
   |tup sq rs=>exact⟨_,rfl,⟨_,sq⟩,k _ _ H' m' s' r' zw2 ⟨sq,rs⟩⟩)
 .exact zlp ha pins s σ H R I (.mk f r ee λv H' m' s' r' q=>by
   cases q with
   |fz sq rs=>exact⟨_,rfl,⟨_,sq.sq⟩,k _ _ H' m' s' r' it_fz ⟨sq,rs⟩⟩)
 .rename_i l
  exact zlp ha pins s σ H R I (.mk f r ee λv H' m' s' r' q=>by
   obtain⟨p,vs,e1,e2,e3⟩:=zdc r' q hs
   cases q with
   |ref hi=>
    cases g:h'.get l with
    |none=>simp[seqW,g]at hs
    |some ob=>
     cases ob with
     |dk _=>simp[seqW,g]at hs
     |dt _ _=>simp[seqW,g]at hs
     |lst ws'=>
      obtain⟨vs',p1,_⟩:=r'.lst g
      exact⟨_,rfl,⟨_,SqL.of p1⟩,k _ _ H' m' s' r' zw3 ⟨hi,rfl⟩⟩)
theorem ztj{tg:Expr}(ha:SA X [e] fa)(hs:zaw e=true)(hg:Gl X "range")(hm:X.mg "range" = none):PI X tg (.Call (.Name "range" p) [e] [] pos) (lftI X.K .rng1 fa):=λpins s σ H R I z9=>z9.el λρ h m x h' f r ee o en k=>by
 simp only[nxt]at en
 split at en
 .rename_i j
  split at en
  .rename_i hf
   refine zlq hg hm ha (zah hs) pins s σ H R I (.mk f r ee λvs H' m' s' r' q=>?_)
   obtain⟨v,rfl,q1⟩:=reps1 q
   cases q1
   refine⟨_,rfl,(zcf hf).1,(zcf hf).2,k _ _ H' m' s' r' (zrg λi h=>?_) trivial⟩
   simp only[nxt,hf,vbe]
   split<;>split<;>first|rfl|(exfalso;simp at *;omega)
  .cases en
 .cases en
theorem ztk{tg:Expr}(ha:SA X [a,b] fa)(hs:zaw a=true)(hs2:zaw b=true)(hg:Gl X "range")(hm:X.mg "range" = none):PI X tg (.Call (.Name "range" p) [a,b] [] pos) (lftI X.K .rng2 fa):=λpins s σ H R I z9=>z9.el λρ h m x h' f r ee o en k=>by
 simp only[nxt]at en
 split at en
 .rename_i i j
  split at en
  .rename_i hf
   refine zlr hg hm ha (by rw[zah hs,zah hs2];rfl) (zah hs2) pins s σ H R I (.mk f r ee λvs H' m' s' r' q=>?_)
   obtain⟨v,u,rfl,q1,q2⟩:=reps2 q
   cases q1;cases q2
   have hf2:=hf
   rw[vab]at hf2
   refine⟨_,_,rfl,⟨(zcf hf2.1).1,(zcf hf2.1).2,(zcf hf2.2).1,(zcf hf2.2).2⟩,k _ _ H' m' s' r' (zrg λi h=>?_) trivial⟩
   simp only[nxt,hf,vbe]
   split<;>split<;>first|rfl|(exfalso;simp at *;omega)
  .cases en
 .cases en
theorem zpz{elts:List Expr}{kx:Nat}{tp:Pos}{l:Expr}{ta:TA}(hg:Gl X "enumerate")(hm:X.mg "enumerate" = none)(hv:bootBuiltins "enumerate" = some (.type "enumerate"))(ha:PA X [l] ta)(hs:starEach [l] X.env=[(false,eval l X.env)]) :
 PI X (.Tuple elts kx tp) (.Call (.Name "enumerate" p) [l] [] pos) (λσ H R=>ta σ H λvs H1=>∃a,vs=[.ref a]/\(∃xs,SqT X.K H1 a xs)/\R (IteT X.K a) H1):=by
 intro pins s σ H R I h
 refine Call_ (zdk I hg hm hv (vb6 (thn (ha pos pins s σ H _ I h) λus s1 ⟨vs,H1,I1,r1,q1⟩=>?_) hs rfl))
 obtain⟨a,e,⟨xs,hq⟩,q⟩:=q1
 subst e
 obtain⟨u,rfl,ru⟩:=vals1 r1
 cases ru
 obtain⟨its,rv,pl,hz⟩:=I1.tuple hq
 have pl:s1.heap.IsTuple a its.toArray:=pl
 have hlt:a<s1.heap.objs.size:=by obtain⟨o,q,_⟩:=pl;exact vav q
 refine zk2 pl λh' he hit hsz kk=>wpAny_pyIter_enum he ?_
 have hf:∀b,s1.heap.objs.size<=b->FpOk X pins H1 b:=λb hb=>I1.fpOk hb (I1.hok.fresh hb)
 refine⟨s1.heap.objs.size+1,[s1.heap.objs.size+1,s1.heap.objs.size],_,_,H1,rfl,I1.kept (t':=s1.toks) kk,zk3 a _ _ (vdy (vbq _)) (va5 (vet hlt)) (va5 hlt),⟨⟨_,he⟩,hit⟩,λb hb=>hf b ?_,q⟩
 rcases vaz.mp hb with rfl|hb
 .exact vfq _
 .have e':b=s1.heap.objs.size:=by simpa using hb
  rw[e'];exact vae _
theorem zri{ws:List W}{h:VH}{i:Nat}{o:Option W}(q:nxt .enm (.tup ws) i h=some o):o=(ws[i]?).map λw=>.tup [.int i,w]:=by
 cases q;rfl
theorem ztl{K:PySem.W.Frag}{a:Addr}{vs:List V}{ws:List W}:ItOk K (nxt .enm (.tup ws)) (IteT K a) (λm n H=>SqT K H a vs/\VReps K m n H vs ws):=by
 refine⟨λm n H m' n' H' hn hm kt kf ⟨q1,q2⟩=>⟨zd2 kt kf q1,q2.mono hn hm kt kf⟩,λm h H r ⟨q1,q2⟩ i=>⟨λw e=>?_,λe=>?_⟩⟩
 .have e:=zri (ws:=ws) e
  cases z:ws[i]? with
  |none=>rw[z]at e;cases e
  |some w0=>
   rw[z]at e;cases e
   obtain⟨v,h1,h2⟩:=q2.get z
   refine⟨⟨vs,v,q1,h1⟩,λy H3 ⟨T,v3,e1,e2,e3,y3⟩=>?_⟩
   subst e1 e3
   have:=y3 vs q1
   rw[h1]at this;cases this
   obtain⟨st,r'⟩:=r.more (u:=.tup [.int i,v]) e2
   exact⟨st,r',.tup (SqT.of zan) (.cons (.int _) (.cons (h2.stp st) .nil))⟩
 .have e:=zri (ws:=ws) e
  cases z:ws[i]? with
  |some w0=>rw[z]at e;cases e
  |none=>exact⟨vs,q1,by rw[q2.length];exact va7.mp z⟩
theorem zmt:bootBuiltins "enumerate" = some (.type "enumerate"):=by decide +kernel
theorem zrj(ha:SE X e fa)(hs:zaw e=true):PA X [e] (λσ H Q=>lft X.K fa σ H λv H1=>Q [v] H1):=λp pins s σ H Q I q=>by
 refine zec ha zje (zah hs) p pins s σ H Q I ?_
 refine q.el λρ h m w h' f r ee k=>?_
 exact(.mk f r ee λv H' m' s' r' q'=>k v H' m' s' r' q')
theorem zw4{elts:List Expr}{kx:Nat}{tp:Pos}(ha:SE X e fa)(hs0:zaw e=true)(hg:Gl X "enumerate")(hm:X.mg "enumerate" = none):PI X (.Tuple elts kx tp) (.Call (.Name "enumerate" p) [e] [] pos) (lftI X.K .enm fa):=λpins s σ H R I z9=>z9.el λρ h m x h' f r ee o en k=>by
 cases x with
 |tup ws=>exact zpz hg hm zmt (zrj ha hs0) (zah hs0) pins s σ H R I ⟨ρ,h,m,_,h',f,r,ee,λv H' m' s' r' q=>by
  cases q with
  |tup sq rs=>exact⟨_,rfl,⟨_,sq⟩,k _ _ H' m' s' r' ztl ⟨sq,rs⟩⟩⟩
 |_=>cases en
theorem zw5{elts:List Expr}{kx:Nat}{tp:Pos}{l l2:Expr}{ta:TA}(hg:Gl X "zip")(hm:X.mg "zip" = none)(ha:PA X [l,l2] ta)(hs:starEach [l,l2] X.env=[(false,eval l X.env),(false,eval l2 X.env)])(hs2:starEach [l2] X.env=[(false,eval l2 X.env)]) :
 PI X (.Tuple elts kx tp) (.Call (.Name "zip" p) [l,l2] [] pos) (λσ H R=>ta σ H λvs H1=>∃b c a1 a2,vs=[.ref a1,.ref a2]/\(∃xs,SqB b X.K H1 a1 xs)/\(∃ys,SqB c X.K H1 a2 ys)/\R (IteZ X.K b c a1 a2) H1):=by
 intro pins s σ H R I h
 refine Call_ (zdk I hg hm PyProof.Rows.boot_zip (vb6 (thn (ha pos pins s σ H _ I h) λus s1 ⟨vs,H1,I1,r1,q1⟩=>?_) (by rw[hs,hs2]) (by rw[hs2];rfl)))
 obtain⟨b,c,a1,a2,e,⟨xs,hq⟩,⟨ys,hr⟩,q⟩:=q1
 subst e
 cases r1 with
 |cons r rr=>
  cases rr with
  |cons r' rr=>
   cases rr
   cases r
   cases r'
   obtain⟨its,_,pl,_⟩:=zfb I1 hq
   obtain⟨jts,_,pl2,_⟩:=zfb I1 hr
   refine zs2 pl pl2 λh' e1 e2 e3 e4 e5 hsz kk=>wpAny_pyIter_zip e1 ?_
   have hf:∀b,s1.heap.objs.size<=b->FpOk X pins H1 b:=λb hb=>I1.fpOk hb (I1.hok.fresh hb)
   refine⟨s1.heap.objs.size+4,_,_,_,H1,rfl,I1.kept (t':=s1.toks) kk,zpm a1 a2 _ _ _ _ _ (zvx pl.lt pl2.lt),⟨e1,e2,⟨_,_,e3⟩,e4,e5⟩,λb hb=>hf b ?_,q⟩
   simp only[vaz,vcg,ve7]at hb
   rcases hb with rfl|rfl|rfl|rfl|rfl
   .exact ve5 _ _
   .exact ve5 _ _
   .exact ve5 _ _
   .exact vae _
   .exact ve5 _ _
noncomputable def Src(K:PySem.W.Frag)(b:Bool)(a:Addr)(u:W)(P:(Nat->Addr)->Nat->Hp->Prop):Prop:=
 (∀m n H m' n' H',n<=n'->(∀i,i<n->m' i=m i)->(∀b vs,H b=some (.tup vs)->H' b=some (.tup vs))->(∀b o u,H b=some (.frz o u)->H' b=some (.frz o u))->P m n H->P m' n' H')/\
 ∀m h H ws,Rel K m h H->P m h.n H->seqW h u=some ws->∃vs,SqB b K H a vs/\VReps K m h.n H vs ws
theorem zrk{K:PySem.W.Frag}{m:Nat->Addr}{h:VH}{H:Hp}{v:V}{u:W}{ws:List W}(r:Rel K m h H)(q:VRep K m h.n H v u)(e:seqW h u=some ws):∃b a P,v=.ref a/\Src K b a u P/\P m h.n H/\∃xs,SqB b K H a xs:=by
 cases q with
 |non=>cases e
 |bl b=>cases e
 |int b=>cases e
 |str b=>cases e
 |tup sq rs=>exact⟨true,_,λm n H=>SqT K H _ _/\VReps K m n H _ _,rfl,⟨λm n H m' n' H' hn hm kt kf ⟨q1,q2⟩=>⟨zd2 kt kf q1,q2.mono hn hm kt kf⟩,λm h H ws _ ⟨q1,q2⟩ z=>by cases z;exact⟨_,q1,q2⟩⟩,⟨sq,rs⟩,_,sq⟩
 |fz sq rs=>exact⟨false,_,λm n H=>Fz K H _ _/\VReps K m n H _ _,rfl,⟨λm n H m' n' H' hn hm kt kf ⟨q1,q2⟩=>⟨zms kf q1,q2.mono hn hm kt kf⟩,λm h H ws _ ⟨q1,q2⟩ z=>by cases z;exact⟨_,q1.sq,q2⟩⟩,⟨sq,rs⟩,_,sq.sq⟩
 |ref hi=>
  rename_i l
  have key:∀m (h:VH) H ws,Rel K m h H->seqW h (.ref l)=some ws->∃vs,H (m l)=some (.lst vs)/\VReps K m h.n H vs ws:=λm h H ws r z=>by
   cases g:h.get l with
   |none=>simp[seqW,g]at z
   |some o=>
    cases o with
    |dk _=>simp[seqW,g]at z
    |dt _ _=>simp[seqW,g]at z
    |lst ws'=>
     have:ws'=ws:=by simpa[seqW,g]using z
     subst this
     exact r.lst g
  obtain⟨vs,p1,_⟩:=key m h H ws r e
  refine⟨false,_,λm' n _=>l<n/\m l=m' l,rfl,⟨λm1 n H m' n' H' hn hm kt kf ⟨q1,q2⟩=>⟨vak q1 hn,by rw[hm l q1];exact q2⟩,λm1 h H ws r' ⟨q1,q2⟩ z=>?_⟩,⟨hi,rfl⟩,vs,SqL.of p1⟩
  obtain⟨vs,g1,g2⟩:=key m1 h H ws r' z
  rw[q2]
  exact⟨vs,SqL.of g1,g2⟩
theorem zmu{u v:W}{h:VH}{i:Nat}{o:Option W}(q:nxt .zip (.tup [u,v]) i h=some o):∃ws zs,seqW h u=some ws/\seqW h v=some zs/\o=(match ws[i]?,zs[i]? with|some a,some b=>some (.tup [a,b])|_,_=>none):=by
 simp only[nxt]at q
 split at q
 .rename_i ws zs h1 h2
  cases q
  exact⟨ws,zs,h1,h2,rfl⟩
 .cases q
theorem zw6{K:PySem.W.Frag}{b c:Bool}{a1 a2:Addr}{u v:W}{P1 P2:(Nat->Addr)->Nat->Hp->Prop}(s1:Src K b a1 u P1)(s2:Src K c a2 v P2):ItOk K (nxt .zip (.tup [u,v])) (IteZ K b c a1 a2) (λm n H=>P1 m n H/\P2 m n H):=by
 refine⟨λm n H m' n' H' hn hm kt kf ⟨q1,q2⟩=>⟨s1.1 m n H m' n' H' hn hm kt kf q1,s2.1 m n H m' n' H' hn hm kt kf q2⟩,λm h H r ⟨q1,q2⟩ i=>⟨λw e=>?_,λe=>?_⟩⟩
 .obtain⟨ws,zs,e1,e2,e3⟩:=zmu e
  obtain⟨xs,g1,g2⟩:=s1.2 m h H ws r q1 e1
  obtain⟨ys,g3,g4⟩:=s2.2 m h H zs r q2 e2
  cases z1:ws[i]? with
  |none=>rw[z1]at e3;cases e3
  |some w1=>
   cases z2:zs[i]? with
   |none=>rw[z1,z2]at e3;cases e3
   |some w2=>
    rw[z1,z2]at e3;cases e3
    obtain⟨v1,k1,k2⟩:=g2.get z1
    obtain⟨v2,k3,k4⟩:=g4.get z2
    refine⟨⟨xs,ys,v1,v2,g1,g3,k1,k3⟩,λy H3 ⟨T,x3,y3,f1,f2,f3,f4,f5⟩=>?_⟩
    subst f1 f3
    have t1:=f4 xs g1
    have t2:=f5 ys g3
    rw[k1]at t1;cases t1
    rw[k3]at t2;cases t2
    obtain⟨st,r'⟩:=r.more (u:=.tup [v1,v2]) f2
    exact⟨st,r',.tup (SqT.of zan) (.cons (k2.stp st) (.cons (k4.stp st) .nil))⟩
 .obtain⟨ws,zs,e1,e2,e3⟩:=zmu e
  obtain⟨xs,g1,g2⟩:=s1.2 m h H ws r q1 e1
  obtain⟨ys,g3,g4⟩:=s2.2 m h H zs r q2 e2
  refine⟨xs,ys,g1,g3,?_⟩
  cases z1:ws[i]? with
  |none=>exact .inl (by rw[g2.length];exact va7.mp z1)
  |some w1=>
   cases z2:zs[i]? with
   |none=>exact .inr (by rw[g4.length];exact va7.mp z2)
   |some w2=>rw[z1,z2]at e3;cases e3
theorem zw7{elts:List Expr}{kx:Nat}{tp:Pos}(ha:SA X [a,b] fa)(hs:zaw a=true)(hs2:zaw b=true)(hg:Gl X "zip")(hm:X.mg "zip" = none):PI X (.Tuple elts kx tp) (.Call (.Name "zip" p) [a,b] [] pos) (lftI X.K .zip fa):=λpins s σ H R I z9=>z9.el λρ h m x h' f r ee o en k=>by
 have hx:∃u v,x=.tup [u,v]:=by
  simp only[nxt]at en
  split at en
  .exact⟨_,_,rfl⟩
  .cases en
 obtain⟨u,v,rfl⟩:=hx
 obtain⟨ws,zs,e1,e2,_⟩:=zmu en
 refine zw5 hg hm ha (by rw[zah hs,zah hs2];rfl) (zah hs2) pins s σ H R I (.mk f r ee λvs H' m' s' r' q=>?_)
 obtain⟨v1,v2,rfl,q1,q2⟩:=reps2 q
 obtain⟨b1,a1,P1,rfl,o1,p1,x1⟩:=zrk r' q1 e1
 obtain⟨b2,a2,P2,rfl,o2,p2,x2⟩:=zrk r' q2 e2
 exact⟨b1,b2,a1,a2,rfl,x1,x2,k _ _ H' m' s' r' (zw6 o1 o2) ⟨p1,p2⟩⟩
end
section
variable{X:Cx}{a b c e o:Expr}{es:List Expr}{fa fb fc fo fr:FE}{pos p:Pos}{x:Str}
noncomputable def lftG(K:PySem.W.Frag)(t:Tg):TG:=λv σ H Q=>∃ρ h m w ρ',Fr K m h.n H σ ρ/\Rel K m h H/\VRep K m h.n H v w/\tgW t w h ρ=some ρ'/\∀σ',Fr K m h.n H σ' ρ'->Q σ' H
theorem lftG.el{K:PySem.W.Frag}{v:V}{σ:L2.St}{H:Hp}{P:Prop}{tg:Tg}{Q}(q:lftG K tg v σ H Q)(k:∀ρ h m w ρ',Fr K m h.n H σ ρ->Rel K m h H->VRep K m h.n H v w->tgW tg w h ρ=some ρ'->(∀σ',Fr K m h.n H σ' ρ'->Q σ' H)->P):P:=by
 obtain⟨ρ,h,m,w,h',f,r,e,eo,k'⟩:=q
 exact k ρ h m w h' f r e eo k'
theorem lftG.mk{K:PySem.W.Frag}{v:V}{σ:L2.St}{H:Hp}{m:Nat->Addr}{ρ ρ':En}{h:VH}{w:W}{tg:Tg}{Q}(f:Fr K m h.n H σ ρ)(r:Rel K m h H)(e:VRep K m h.n H v w)(eo:tgW tg w h ρ=some ρ')(k:∀σ',Fr K m h.n H σ' ρ'->Q σ' H):lftG K tg v σ H Q:=⟨ρ,h,m,w,ρ',f,r,e,eo,k⟩
theorem zw8{i:Nat}(hN:X.N.Nodup)(hi:X.N[i]?=some x)(hx:Loc X.env.scope x)(hf:X.fn x=true\/X.env.scope.names.lookup x=some .local):PG X (.Name x pos) (lftG X.K (.one i)):=λpins s σ H v u Q I ru z9=>z9.el λρ h m w ρ' f r q e k=>by
 cases e
 exact zln hN hi hx hf pins s σ H v u Q I ru (k _ (f.set q i))
noncomputable def NmOk(X:Cx)(e:Expr)(i:Nat):Prop:=∃x p,e=.Name x p/\X.N[i]?=some x/\Loc X.env.scope x/\(X.fn x=true\/X.env.scope.names.lookup x=some .local)
noncomputable def lftGs(K:PySem.W.Frag)(is:List Nat):TGs:=λvs σ H Q=>∃ρ m n ws ρ',Fr K m n H σ ρ/\VReps K m n H vs ws/\zaz is ws ρ=some ρ'/\∀σ',Fr K m n H σ' ρ'->Q σ' H
theorem zrl(hN:X.N.Nodup):∀{es:List Expr} {is:List Nat},Paired (NmOk X) es is->PGs X es (lftGs X.K is)/\(assignEach es X.env).length=es.length/\(assignEach es X.env).findIdx? (·.1)=none
 |_,_,.nil=>by
  refine⟨λpins s σ H vs us Q I ru ⟨ρ,m,n,ws,ρ',f,q,e,k⟩=>?_,rfl,rfl⟩
  cases ws with
  |nil=>cases e;cases q;exact zse pins s σ H [] us Q I ru ⟨rfl,k _ f⟩
  |cons _ _=>cases e
 |e::es,i::is,.cons ⟨x,p,he,hi,hx,hf⟩ t=>by
  subst he
  obtain⟨h1,h2,h3⟩:=zrl hN t
  refine⟨λpins s σ H vs us Q I ru ⟨ρ,m,n,ws,ρ',f,q,e,k⟩=>?_,?_,?_⟩
  .cases q with
   |nil=>cases e
   |cons q qs=>
    exact zo0 (zln hN hi hx hf) h1 rfl pins s σ H _ us Q I ru ⟨_,_,rfl,ρ.set i (some _),m,n,_,ρ',f.set q i,qs,e,k⟩
  .show(assignEach es X.env).length+1=es.length+1
   rw[h2]
  .show List.findIdx? _ ((false,_)::assignEach es X.env)=none
   rw[List.findIdx?_cons,h3];rfl
theorem zfe:∀{is:List Nat} {ws:List W} {ρ ρ':En},zaz is ws ρ=some ρ'->ws.length=is.length
 |[],[],_,_,_=>rfl
 |[],_::_,_,_,e=>by cases e
 |_::_,[],_,_,e=>by cases e
 |_::_,_::_,_,_,e=>by
  rw[vai,vai,zfe (by simpa only[zaz]using e)]
theorem zw9{t:TGs}{n k:Nat}(hc:X.calm=true)(h:PGs X es t)(hn:(assignEach es X.env).length=n)(hst:(assignEach es X.env).findIdx? (·.1)=none) :
 PG X (.Tuple es k pos) (λv σ H Q=>∃a xs,v=.ref a/\SqL X.K H a xs/\xs.length=n/\t xs σ H Q):=by
 intro pins s σ H v u Q I r hw
 obtain⟨a,xs,rfl,hq,hl,hw⟩:=hw
 cases r
 obtain⟨its,rv,ht,hz⟩:=I.list hq
 rw[assign_Tuple]
 refine vaa (vfn ?_)
 unfold unpack
 have hsz:(assignEach es X.env).length=its.toArray.size:=by rw[hn,<-hl,rv.length,vah]
 rw[hst,hsz]
 refine vaa (vc3 (PySem.W.kun_itemsOf (I.ok.hd hc) ht.isList λh' hx=>?_))
 have I1:Inv X pins σ H {s with heap:=h'}:=I.kept (t':=s.toks) λb o e=>hx b o (va5 (vav e)) e
 exact h pins _ σ H xs _ Q I1 (by simpa using rv) hw
theorem zmv{is:List Nat}{k:Nat}(hc:X.calm=true)(hN:X.N.Nodup)(hs:Paired (NmOk X) es is):PG X (.Tuple es k pos) (lftG X.K (.many is)):=λpins s σ H v u Q I ru z9=>z9.el λρ h m w ρ' f r q e k=>by
 obtain⟨h1,h2,h3⟩:=zrl hN hs
 simp only[tgW]at e
 cases z:seqW h w with
 |none=>rw[z]at e;cases e
 |some ws=>
  rw[z]at e
  have e:zaz is ws ρ=some ρ':=e
  obtain⟨p,vs,rfl,hq,qs⟩:=zdc r q z
  have hl:vs.length=es.length:=by rw[qs.length,zfe e,hs.length]
  rcases hq with hq|hq
  .exact zw9 hc h1 h2 h3 pins s σ H _ u Q I ru ⟨p,vs,rfl,hq,hl,ρ,m,h.n,ws,ρ',f,qs,e,k⟩
  .exact zu0 hc h1 h2 h3 pins s σ H _ u Q I ru ⟨p,vs,rfl,hq,hl,ρ,m,h.n,ws,ρ',f,qs,e,k⟩
theorem zp0{K:PySem.W.Frag}{m:Nat->Addr}{n:Nat}{H:Hp}{σ:L2.St}{ρ:En}{ow fr:List Str}{ix:List Nat}(f:Fr K m n H σ ρ):Fr K m n H (cσ ow fr ix σ) (inner ow.length ix ρ):=by
 unfold cσ inner
 refine⟨by simp,λi w e=>?_⟩
 by_cases hi:i<ow.length
 .rw[vce (by simpa using hi)]at e
  rw[List.getElem?_replicate]at e
  split at e<;>cases e
 .rw[va1 (by simpa using vco.mp hi)]at e
  rw[va1 (by simpa using vco.mp hi)]
  simp only[vb7,vad]at e ⊢
  rw[vat]at e ⊢
  cases z:ix[i-ow.length]? with
  |none=>rw[z]at e;cases e
  |some j=>
   rw[z]at e
   simp only[vaj,vd9]at e ⊢
   have e3:ρ[j]?=some (some w):=by
    cases q:ρ[j]? with
    |none=>rw[q]at e;cases e
    |some o=>rw[q]at e;rw[<-e];rfl
   obtain⟨v,h1,h2⟩:=f.val j w e3
   exact⟨v,by rw[h1];rfl,h2⟩
theorem ziq{nx:Nat->VH->Option (Option W)}{tg:W->VH->En->Option En}{c e:FE}:∀{f i:Nat} {ρ:En} {h:VH} {acc ys:List W} {h':VH},lcG nx tg c e f i ρ h acc=.ok ys h'->acc.length<=ys.length
 |0,_,_,_,_,_,_,q=>by cases q
 |f+1,i,ρ,h,acc,ys,h',q=>by
  simp only[lcG]at q
  split at q
  .cases q
  .cases q;simp
  .split at q
   .cases q
   .refine zac q λb h1 e1 e2=>?_
    split at e2
    .refine zac e2 λy h2 e3 e4=>?_
     have:=ziq e4
     rw[vai]at this
     omega
    .exact ziq e2
    .cases e2
theorem zxa{nx:Nat->VH->Option (Option W)}{tg:W->VH->En->Option En}{c e:FE}{f i:Nat}{ρ:En}{h:VH}{acc ys:List W}{h':VH}(q:lcG nx tg c e (f+1) i ρ h acc=.ok ys h'):∃o,nx i h=some o:=by
 simp only[lcG]at q
 split at q
 .cases q
 .exact⟨_,by assumption⟩
 .exact⟨_,by assumption⟩
theorem zp1{H:Hp}{a:Addr}{o:HO}(h:H a=some o):upd H a o=H:=by
 funext b
 unfold upd
 split
 .rename_i e;rw[e,h]
 .rfl
noncomputable abbrev gLc(kd:Kd)(fa:FE)(t:Tg)(ow:Nat)(ix:List Nat)(fc fe:FE):FE:=λρ h=>(fa ρ h).bind λx h=>(lcG (nxt kd x) (tgW t) fc fe fuel 0 (inner ow ix ρ) h []).bind λys h=>if Nat.ble ys.length big then .ok (.ref h.n) (h.new (.lst ys))else .no
theorem lc_ok{K:PySem.W.Frag}{kd:Kd}{t:Tg}{ow fr:List Str}{ix:List Nat}{fe:FE}{σ:L2.St}{H:Hp}{Q:VK}(q:lft K (gLc kd fa t ow.length ix fc fe) σ H Q):tLC K (cσ ow fr ix) (lftI K kd fa) (lftG K t) (lftT K fc) (lft K fe) σ H Q:=by
 refine q.el λρ h m w h' f r e k=>?_
 refine zac e λx h1 e1 e2=>?_
 refine zac e2 λys h2 e3 e4=>?_
 split at e4
 case isFalse=>cases e4
 rename_i hz
 cases e4
 have hz:=va3 hz
 refine(.mk f r e1 ?_ λJ P H1 m1 s1 r1 J1 p1 D hD hK=>?_)
 .exact zxa (f:=999999) e3
 obtain⟨st0,r0⟩:=r1.more (u:=.lst []) hD
 have p0:=J1.1 m1 h1.n H1 m1 h1.n (upd H1 D (.lst [])) (vae _) (λ_ _=>rfl) (λb vs q=>st0.tup b vs q) (λb o u q=>st0.frz b o u q) p1
 refine⟨λi fl σ' H' vs=>∃ρ' h3 m3 acc,lcG (nxt kd x) (tgW t) fc fe fl i ρ' h3 acc=.ok ys h2/\Fr K m3 h3.n H' σ' ρ'/\Rel K m3 h3 H'/\H' D=some (.lst vs)/\VReps K m3 h3.n H' vs acc.reverse/\(∀i,i<h3.n->m3 i≠D)/\Stp m1 h1.n H1 m3 h3.n H'/\P m3 h3.n H',
  ⟨fuel,inner ow.length ix ρ,h1,m1,[],e3,zp0 ((f.stp s1).stp st0),r0,zan,.nil,r1.out hD,st0,p0⟩,?_⟩
 rintro i fl σ' H' vs ⟨ρ',h3,m3,acc,e5,f3,r3,d3,q3,o3,s3,p3⟩
 refine⟨d3,?_⟩
 cases fl with
 |zero=>cases e5
 |succ fl=>
  simp only[lcG]at e5
  obtain⟨j1,j2⟩:=J1.2 m3 h3 H' r3 p3 i
  split at e5
  .cases e5
  .rename_i hn
   cases e5
   refine .inl ⟨j2 hn,?_⟩
   obtain⟨st,r'⟩:=r3.adopt (o:=.lst acc.reverse) (u:=.lst vs) o3 d3 (λ_ z=>nomatch z) (λ_ _ z=>nomatch z) (s1.trans s3) (by
    cases z:H D with
    |none=>rfl
    |some o=>
     have:=s1.keep D o (λi hi z2=>(r1.out hD) i (vak hi s1.le) ((s1.same i hi).trans z2)) z
     rw[hD]at this;cases this) λ_ mv=>⟨_,zan,q3.map mv⟩
   rw[zp1 d3]at st r'
   refine k _ _ _ st r' ?_
   have:VRep K (λi=>if i=h2.n then D else m3 i) (h2.n+1) H' (.ref ((λi=>if i=h2.n then D else m3 i) h2.n)) (.ref h2.n):=.ref (vbq _)
   simp only[vbe]at this
   exact this
  .rename_i w hn
   obtain⟨j3,j4⟩:=j1 w hn
   refine .inr ⟨j3,λy H4 hy=>?_⟩
   obtain⟨s4,r4,q4⟩:=j4 y H4 hy
   split at e5
   .cases e5
   .rename_i ρ5 ht
    refine⟨ρ',h3,m3,w,ρ5,f3.stp s4,r4,q4,ht,λσ5 f5=>?_⟩
    refine zac e5 λbv h6 e6 e7=>?_
    have d4:H4 D=some (.lst vs):=s4.keep D _ o3 d3
    have s14:=s3.trans s4
    have p4:=J1.1 m3 h3.n H' m3 h3.n H4 (vae _) (λ_ _=>rfl) (λb vs q=>s4.tup b vs q) (λb o u q=>s4.frz b o u q) p3
    cases bv<;>try cases e7
    rename_i bb
    refine⟨ρ5,h3,m3,bb,h6,f5,r4,e6,λH6 m6 s6 r6=>?_⟩
    have o6:=s6.out o3 d4
    have d6:H6 D=some (.lst vs):=s6.keep D _ o3 d4
    have p6:=J1.1 m3 h3.n H4 m6 h6.n H6 s6.le s6.same (λb vs q=>s6.tup b vs q) (λb o u q=>s6.frz b o u q) p4
    cases bb with
    |false=>
     simp only[vap,vbk]
     exact⟨fl,vbq _,ρ5,h6,m6,acc,e7,f5.stp s6,r6,d6,(q3.stp s4).stp s6,o6,s14.trans s6,p6⟩
    |true=>
     simp only[vbe]
     refine zac e7 λy7 h7 e8 e9=>?_
     refine⟨ρ5,h6,m6,y7,h7,f5.stp s6,r6,e8,λv7 H7 m7 s7 r7 q7=>?_⟩
     have o7:=s7.out o6 d6
     have d7:H7 D=some (.lst vs):=s7.keep D _ o6 d6
     have p7:=J1.1 m6 h6.n H6 m7 h7.n H7 s7.le s7.same (λb vs q=>s7.tup b vs q) (λb o u q=>s7.frz b o u q) p6
     have q37:=((q3.stp s4).stp s6).stp s7
     have hlen:=ziq e9
     rw[vai]at hlen
     refine⟨d7,?_,fl,vbq _,ρ5,h7,m7,y7::acc,e9,?_⟩
     .rw[q37.length,vdp]
      have:big=sizeLine:=rfl
      omega
     .obtain⟨st8,r8,mv⟩:=r7.side (u:=.lst (vs++[v7])) d7 (λ_ z=>nomatch z) (λ_ _ z=>nomatch z) o7 ((s14.trans s6).trans s7) hD
      have kt:∀b us,H7 b=some (.tup us)->upd H7 D (.lst (vs++[v7])) b=some (.tup us):=λb us q=>by rw[zag (ne_of q d7 λz=>nomatch z)];exact q
      have kf:∀b o u,H7 b=some (.frz o u)->upd H7 D (.lst (vs++[v7])) b=some (.frz o u):=λb o u q=>by rw[zag (ne_of q d7 λz=>nomatch z)];exact q
      refine⟨⟨(f5.stp s6).len,λi w e=>let⟨v,h1,h2⟩:=((f5.stp s6).stp s7).val i w e;⟨v,h1,mv h2⟩⟩,r8,zan,?_,o7,st8,J1.1 m7 h7.n H7 m7 h7.n _ (vae _) (λ_ _=>rfl) kt kf p7⟩
      rw[List.reverse_cons]
      exact(q37.map mv).append (.cons (mv q7) .nil)
end
noncomputable def Grow(h h':VH):Prop:=h.n<=h'.n/\h'.lo<=h.lo/\∀i,i<h.n->i<h'.lo->h'.get i=h.get i
theorem Grow.refl{h:VH}:Grow h h:=⟨vae _,vae _,λ_ _ _=>rfl⟩
theorem Grow.trans{h h1 h2:VH}(a:Grow h h1)(b:Grow h1 h2):Grow h h2:=⟨vbs a.1 b.1,vbs b.2.1 a.2.1,λi hi hl=>(b.2.2 i (vak hi a.1) hl).trans (a.2.2 i hi (vak hl b.2.1))⟩
theorem Grow.new{h:VH}{o:VO}:Grow h (h.new o):=⟨vfq _,vae _,λi hi _=>zab hi⟩
theorem Grow.set{h:VH}{i:Nat}{o:VO}(hi:i<h.n):Grow h (h.set i o):=by
 refine⟨vae _,?_,λj hj hl=>zc8 hi ?_⟩
 .show(if Nat.blt i h.lo then i else h.lo)<=h.lo
  split
  .rename_i q;exact ve0 (zar.mp q)
  .exact vae _
 .have hl:j< (if Nat.blt i h.lo then i else h.lo):=hl
  split at hl
  .omega
  .rename_i q
   intro z
   rw[z]at hl
   exact q (zar.mpr hl)
noncomputable def Gr{α:Type}(r:Res α)(h:VH):Prop:=∀a h',r=.ok a h'->Grow h h'
section
variable{α β:Type}{h:VH}
theorem Gr.ok{a:α}:Gr (Res.ok a h) h:=λ_ _ e=>by cases e;exact .refl
theorem Gr.no:Gr (Res.no:Res α) h:=λ_ _ e=>by cases e
theorem Gr.of{o:Option α}:Gr (Res.of o h) h:=λ_ _ e=>by cases o with|none=>cases e|some a=>cases e;exact .refl
theorem Gr.new{a:α}{o:VO}:Gr (Res.ok a (h.new o)) h:=λ_ _ e=>by cases e;exact .new
theorem Gr.set{a:α}{o o':VO}{i:Nat}(g:h.get i=some o'):Gr (Res.ok a (h.set i o)) h:=λ_ _ e=>by cases e;exact .set (zam g)
theorem Gr.bind{r:Res α}{f:α->VH->Res β}(a:Gr r h)(b:∀x h1,Gr (f x h1) h1):Gr (r.bind f) h:=λy h' e=>by
 cases r with
 |ok x h1=>exact(a x h1 rfl).trans (b x h1 y h' e)
 |ex _ _=>cases e
 |no=>cases e
end
theorem gr_op{o:Op}{x y:W}{h:VH}:Gr (opW o x y h) h:=by
 unfold opW
 split
 .exact .of
 .exact .of
 .exact .of
 .split
  .split
   .exact .new
   .exact .no
  .exact .no
 .split
  .split
   .exact .new
   .exact .no
  .exact .no
 .exact .no
theorem gr_ip{o:Op}{x y:W}{h:VH}:Gr (ipW o x y h) h:=by
 unfold ipW
 split
 .split
  .exact .ok
  .exact .ok
  .exact .of
  .exact .of
  .exact .no
 .split
  .split
   .rename_i g _ _;exact .set g
   .exact .no
  .exact .no
 .exact .no
theorem zxb{x:W}{l u:Option Int}{h:VH}:Gr (slcW x l u h) h:=by
 unfold slcW
 split
 .exact .ok
 .split
  .exact .new
  .exact .no
 .exact .no
theorem gr_bi{b:Bi}{xs:List W}{h:VH}:Gr (biW b xs h) h:=by
 cases b<;>simp only[biW]
 .unfold lenW;split<;>first|exact .of|exact .no
 .unfold listW
  split
  .split
   .exact .new
   .exact .no
  .exact .no
 .unfold zdm;split<;>first|exact .of|exact .no
 .unfold intW;split<;>first|exact .ok|exact .no
 .unfold absW;split<;>first|exact .ok|exact .no
 .unfold maxW;split<;>first|exact .ok|exact .no
 .unfold minW;split<;>first|exact .ok|exact .no
 .unfold allW
  split
  .split
   .exact .of
   .exact .no
  .exact .no
 .unfold lrngW
  split
  .split
   .exact .new
   .exact .no
  .exact .no
theorem gr_mt{m:Mt}{o:W}{xs:List W}{h:VH}:Gr (mtW m o xs h) h:=by
 unfold mtW
 split
 .split
  .split
   .rename_i g _;exact .set g
   .exact .no
  .exact .no
 .exact .no
theorem gr_lc{nx:Nat->VH->Option (Option W)}{tg:W->VH->En->Option En}{c e:En->VH->Res W}(hc:∀ρ h,Gr (c ρ h) h)(he:∀ρ h,Gr (e ρ h) h):∀(f i:Nat) (ρ:En) (h:VH) (acc:List W),Gr (lcG nx tg c e f i ρ h acc) h
 |0,_,_,_,_=>.no
 |f+1,i,ρ,h,acc=>by
  simp only[lcG]
  split
  .exact .no
  .exact .ok
  .split
   .exact .no
   .refine .bind (hc _ _) λb h1=>?_
    split
    .exact .bind (he _ _) λy h2=>gr_lc hc he f _ _ _ _
    .exact gr_lc hc he f _ _ _ _
    .exact .no
theorem zmw{nx:Nat->VH->Option (Option W)}{tg:W->VH->En->Option En}{b:En->VH->Res Fl}(hb:∀ρ h,Gr (b ρ h) h):∀(f i:Nat) (ρ:En) (h:VH),Gr (forG nx tg b f i ρ h) h
 |0,_,_,_=>.no
 |f+1,i,ρ,h=>by
  simp only[forG]
  split
  .exact .no
  .exact .ok
  .split
   .exact .no
   .refine .bind (hb _ _) λfl h1=>?_
    split
    .exact zmw hb f _ _ _
    .exact zmw hb f _ _ _
    .exact .ok
    .exact .ok
theorem zmx{c:En->VH->Res W}{b:En->VH->Res Fl}(hc:∀ρ h,Gr (c ρ h) h)(hb:∀ρ h,Gr (b ρ h) h):∀(f:Nat) (ρ:En) (h:VH),Gr (whlG c b f ρ h) h
 |0,_,_=>.no
 |f+1,ρ,h=>by
  simp only[whlG]
  refine .bind (hc _ _) λt h1=>?_
  split
  .exact .ok
  .refine .bind (hb _ _) λfl h2=>?_
   split
   .exact zmx hc hb f _ _
   .exact zmx hc hb f _ _
   .exact .ok
   .exact .ok
  .exact .no
section
variable{cl:Call}
theorem gr_ev(hcl:∀f ws h,Gr (cl f ws h) h):∀(e:E) (ρ:En) (h:VH),Gr (ev cl e ρ h) h:=by
 intro e
 induction e with
 |var i=>intro ρ h;exact .of
 |cst w=>intro ρ h;exact .ok
 |nil=>intro ρ h;exact .ok
 |cons a r i1 i2=>intro ρ h;simp only[ev];refine .bind (i1 _ _) λx h1=>.bind (i2 _ _) λy h2=>?_;split<;>first|exact .ok|exact .no
 |tup a i1=>intro ρ h;simp only[ev];refine .bind (i1 _ _) λx h1=>?_;split<;>first|(split<;>first|exact .ok|exact .no)|exact .no
 |lst a i1=>intro ρ h;simp only[ev];refine .bind (i1 _ _) λx h1=>?_;split<;>first|(split<;>first|exact .new|exact .no)|exact .no
 |dsp a i1=>
  intro ρ h;simp only[ev];refine .bind (i1 _ _) λx h1=>?_
  split
  .split
   .split
    .exact .new
    .exact .no
   .unfold dspD
    split
    .split
     .exact .new
     .exact .no
    .exact .no
  .exact .no
 |op o a b i1 i2=>intro ρ h;simp only[ev];exact .bind (i1 _ _) λx h1=>.bind (i2 _ _) λy h2=>gr_op
 |neg a i1=>intro ρ h;simp only[ev];refine .bind (i1 _ _) λx h1=>?_;split<;>first|exact .ok|exact .no
 |cmp c a b i1 i2=>intro ρ h;simp only[ev];exact .bind (i1 _ _) λx h1=>.bind (i2 _ _) λy h2=>.of
 |chn c d a b e i1 i2 i3=>
  intro ρ h;simp only[ev];refine .bind (i1 _ _) λx h1=>.bind (i2 _ _) λy h2=>?_
  split
  .exact .bind (i3 _ _) λz h3=>.of
  .exact .ok
  .exact .no
 |not a i1=>intro ρ h;simp only[ev];refine .bind (i1 _ _) λx h1=>?_;split<;>first|exact .ok|exact .no
 |and a b i1 i2=>intro ρ h;simp only[ev];refine .bind (i1 _ _) λx h1=>?_;split<;>first|exact i2 _ _|exact .ok|exact .no
 |or a b i1 i2=>intro ρ h;simp only[ev];refine .bind (i1 _ _) λx h1=>?_;split<;>first|exact i2 _ _|exact .ok|exact .no
 |tru a i1=>intro ρ h;simp only[ev];exact .bind (i1 _ _) λx h1=>.of
 |ite c a b i1 i2 i3=>
  intro ρ h;simp only[ev];refine .bind (i1 _ _) λx h1=>?_
  split
  .exact i2 _ _
  .exact i3 _ _
  .exact .no
 |idx a b i1 i2=>intro ρ h;simp only[ev];exact .bind (i1 _ _) λx h1=>.bind (i2 _ _) λy h2=>.of
 |slc a bl lo bh hi i1 i2 i3=>
  intro ρ h;simp only[ev];refine .bind (i1 _ _) λx h1=>.bind (i2 _ _) λy h2=>.bind (i3 _ _) λz h3=>?_
  split
  .exact zxb
  .exact .no
 |call f a i1=>intro ρ h;simp only[ev];refine .bind (i1 _ _) λx h1=>?_;split<;>first|exact hcl _ _ _|exact .no
 |bi b a i1=>intro ρ h;simp only[ev];refine .bind (i1 _ _) λx h1=>?_;split<;>first|exact gr_bi|exact .no
 |isi t a i1=>intro ρ h;simp only[ev];exact .bind (i1 _ _) λx h1=>.of
 |mt m o a i1 i2=>
  intro ρ h;simp only[ev];refine .bind (i1 _ _) λx h1=>?_
  split
  .refine .bind (i2 _ _) λy h2=>?_
   split<;>first|exact gr_mt|exact .no
  .exact .no
 |lc k a t ow ix c e i1 i2 i3=>
  intro ρ h;simp only[ev]
  refine .bind (i1 _ _) λx h1=>.bind (gr_lc i2 i3 _ _ _ _ _) λys h2=>?_
  split
  .exact .new
  .exact .no
theorem zjr(hcl:∀f ws h,Gr (cl f ws h) h):∀(s:S) (ρ:En) (h:VH),Gr (exs cl s ρ h) h:=by
 have ge:=gr_ev hcl
 intro s
 induction s with
 |skip=>intro ρ h;exact .ok
 |seq a b i1 i2=>intro ρ h;simp only[exs];refine .bind (i1 _ _) λfl h1=>?_;split<;>first|exact i2 _ _|exact .ok
 |set i e=>intro ρ h;simp only[exs];exact .bind (ge _ _ _) λw h1=>.ok
 |unp is e=>intro ρ h;simp only[exs];exact .bind (ge _ _ _) λw h1=>.of
 |aug i o e=>
  intro ρ h;simp only[exs]
  split
  .exact .bind (ge _ _ _) λy h1=>.bind gr_ip λz h2=>.ok
  .exact .no
 |put o i v=>
  intro ρ h;simp only[exs]
  refine .bind (ge _ _ _) λw h1=>.bind (ge _ _ _) λx h2=>.bind (ge _ _ _) λy h3=>?_
  split
  .split
   .split
    .rename_i g _ _ _;exact .set g
    .exact .no
   .exact .no
  .unfold putD
   split
   .split
    .rename_i g _ _;exact .set g
    .exact .no
   .exact .no
  .exact .no
 |ite c a b i1 i2=>
  intro ρ h;simp only[exs];refine .bind (ge _ _ _) λx h1=>?_
  split
  .exact i1 _ _
  .exact i2 _ _
  .exact .no
 |ret e=>intro ρ h;simp only[exs];exact .bind (ge _ _ _) λw h1=>.ok
 |expr e=>intro ρ h;simp only[exs];exact .bind (ge _ _ _) λw h1=>.ok
 |brk=>intro ρ h;exact .ok
 |cnt=>intro ρ h;exact .ok
 | «for» k a t b i1=>intro ρ h;simp only[exs];exact .bind (ge _ _ _) λx h1=>zmw i1 _ _ _ _
 |whl c b i1=>intro ρ h;simp only[exs];exact zmx (ge c) i1 _ _ _
 |no=>intro ρ h;exact .no
end
theorem zjs(F:Nat->Option Fn):∀(k f:Nat) (ws:List W) (h:VH),Gr (run F k f ws h) h
 |0,_,_,_=>.no
 |k+1,f,ws,h=>by
  intro a h' e
  simp only[run]at e
  split at e
  .rename_i fn hf
   split at e
   .rename_i hl
    generalize hr:exs (run F k) fn.body (ws.map some++List.replicate (fn.n-fn.ps) none) ⟨h.n,h.n,h.os⟩=r at e
    have g:=zjr (zjs F k) fn.body (ws.map some++List.replicate (fn.n-fn.ps) none) ⟨h.n,h.n,h.os⟩
    rw[hr]at g
    have lv:∀w h1,Grow ⟨h.n,h.n,h.os⟩ h1->leave h w h1=.ok a h'->Grow h h':=by
     intro w h1 g1 e1
     unfold leave at e1
     split at e1
     .cases e1;exact .refl
     .cases e1
      refine⟨g1.1,?_,λi hi hlo=>?_⟩
      .show(if Nat.ble h.lo h1.lo then h.lo else h1.lo)<=h.lo
       split
       .exact vae _
       .rename_i q
        exact Nat.le_of_not_le λz=>q (ve8.mpr z)
      .have hlo:i< (if Nat.ble h.lo h1.lo then h.lo else h1.lo):=hlo
       have hh:i<h1.lo:=by
        split at hlo
        .rename_i q;exact vak hlo (va3 q)
        .exact hlo
       exact g1.2.2 i hi hh
    cases r with
    |no=>cases e
    |ex _ _=>cases e
    |ok fl h1=>
     have g1:=g fl h1 rfl
     simp only[Res.bind]at e
     split at e
     .exact lv _ _ g1 e
     .exact lv _ _ g1 e
     .cases e
   .cases e
  .cases e
noncomputable def FlOk(K:PySem.W.Frag)(m:Nat->Addr)(n:Nat)(H:Hp)(D:Ends):Fl->Prop
 |.nx ρ=>∀σ,Fr K m n H σ ρ->D.nx σ H
 |.bk ρ=>∀σ,Fr K m n H σ ρ->D.bk σ H
 |.ct ρ=>∀σ,Fr K m n H σ ρ->D.ct σ H
 |.rt w=>∀v,VRep K m n H v w->D.rt v H
noncomputable def lftS(K:PySem.W.Frag)(f:FS):TS:=λD σ H=>∃ρ h m fl h',Fr K m h.n H σ ρ/\Rel K m h H/\f ρ h=.ok fl h'/\∀H' m',Stp m h.n H m' h'.n H'->Rel K m' h' H'->FlOk K m' h'.n H' D fl
theorem lftS.el{K:PySem.W.Frag}{D:Ends}{σ:L2.St}{H:Hp}{P:Prop}{fa:FS}(q:lftS K fa D σ H)(k:∀ρ h m fl h',Fr K m h.n H σ ρ->Rel K m h H->fa ρ h=.ok fl h'->(∀H' m',Stp m h.n H m' h'.n H'->Rel K m' h' H'->FlOk K m' h'.n H' D fl)->P):P:=by
 obtain⟨ρ,h,m,w,h',f,r,e,k'⟩:=q
 exact k ρ h m w h' f r e k'
theorem lftS.mk{K:PySem.W.Frag}{D:Ends}{σ:L2.St}{H:Hp}{m:Nat->Addr}{ρ:En}{h h':VH}{fl:Fl}{fa:FS}(f:Fr K m h.n H σ ρ)(r:Rel K m h H)(e:fa ρ h=.ok fl h')(k:∀H' m',Stp m h.n H m' h'.n H'->Rel K m' h' H'->FlOk K m' h'.n H' D fl):lftS K fa D σ H:=⟨ρ,h,m,fl,h',f,r,e,k⟩
noncomputable abbrev SS(X:Cx)(st:Stmt)(f:FS):Prop:=PS X st (lftS X.K f)
noncomputable abbrev SSs(X:Cx)(st:List Stmt)(f:FS):Prop:=PSs X st (lftS X.K f)
section
variable{X:Cx}{a b c e o:Expr}{es:List Expr}{fa fb fc fo fr:FE}{pos p:Pos}{x:Str}{st:Stmt}{sts:List Stmt}{ga gb:FS}
noncomputable abbrev gSkip:FS:=λρ h=>.ok (.nx ρ) h
noncomputable abbrev gSeq(ga gb:FS):FS:=λρ h=>(ga ρ h).bind λfl h=>match fl with|.nx ρ=>gb ρ h|fl=>.ok fl h
theorem ztm:SSs X [] gSkip:=zsa.imp λD σ H z9=>z9.el λρ h m fl h' f r e k=>by cases e;exact k H m .refl r σ f
theorem ztn:SS X (.Pass pos) gSkip:=zsb.imp λD σ H z9=>z9.el λρ h m fl h' f r e k=>by cases e;exact k H m .refl r σ f
theorem zxc:SS X (.Break pos) (λρ h=>.ok (.bk ρ) h):=zoy.imp λD σ H z9=>z9.el λρ h m fl h' f r e k=>by cases e;exact k H m .refl r σ f
theorem zxd:SS X (.Continue pos) (λρ h=>.ok (.ct ρ) h):=zid.imp λD σ H z9=>z9.el λρ h m fl h' f r e k=>by cases e;exact k H m .refl r σ f
theorem zp2(h1:SS X st ga)(h2:SSs X sts gb):SSs X (st::sts) (gSeq ga gb):=(zox h1 h2).imp λD σ H z9=>z9.el λρ h m fl h' f r e k=>by
 refine zac e λfl1 h1 e1 e2=>?_
 refine(.mk f r e1 λH1 m1 s1 r1=>?_)
 cases fl1 with
 |nx ρ1=>exact λσ1 f1=>⟨ρ1,h1,m1,fl,h',f1,r1,e2,λH' m' s' r'=>k H' m' (s1.trans s') r'⟩
 |bk ρ1=>cases e2;exact k H1 m1 s1 r1
 |ct ρ1=>cases e2;exact k H1 m1 s1 r1
 |rt w=>cases e2;exact k H1 m1 s1 r1
theorem ss_no:SS X st (λ_ _=>.no):=zoz.imp λD σ H z9=>z9.el λρ h m fl h' f r e k=>by cases e
noncomputable def zjt:Expr->Bool
 |.ListComp .. |.SetComp .. |.DictComp ..=>false
 |_=>true
theorem zju{e:Expr}{t:Option Expr}{l:Nat}{env:Env}(h:zjt e=true):swapsWith e t l env=pure false:=by
 cases e<;>first|rfl|cases h
theorem zto(he:SE X e fa)(hs:zjt e=true):SS X (.Expr e pos) (λρ h=>(fa ρ h).bind λ_ h=>.ok (.nx ρ) h):=(zsc he (zju hs)).imp λD σ H z9=>z9.el λρ h m fl h' f r e k=>by
 refine zac e λw h1 e1 e2=>?_
 cases e2
 exact(.mk f r e1 λv H1 m1 s1 r1 q1=>k H1 m1 s1 r1 σ (f.stp s1))
theorem zxe(he:SE X e fa):SS X (.Return (some e) pos) (λρ h=>(fa ρ h).bind λw h=>.ok (.rt w) h):=(zuy he).imp λD σ H z9=>z9.el λρ h m fl h' f r e k=>by
 refine zac e λw h1 e1 e2=>?_
 cases e2
 exact(.mk f r e1 λv H1 m1 s1 r1 q1=>k H1 m1 s1 r1 v q1)
theorem ztp:SS X (.Return none pos) (λρ h=>(Res.ok W.non h).bind λw h=>.ok (.rt w) h):=zsd.imp λD σ H z9=>z9.el λρ h m fl h' f r e k=>by
 cases e
 exact k H m .refl r .non .non
noncomputable abbrev gSet(i:Nat)(fa:FE):FS:=λρ h=>(fa ρ h).bind λw h=>.ok (.nx (ρ.set i (some w))) h
theorem zrm{K:PySem.W.Frag}{i:Nat}{D:Ends}{σ:L2.St}{H:Hp}(q:lftS K (gSet i fa) D σ H):lft K fa σ H λv H1=>gName i v σ H1 D.nx:=by
 refine q.el λρ h m fl h' f r e k=>?_
 refine zac e λw h1 e1 e2=>?_
 cases e2
 exact(.mk f r e1 λv H1 m1 s1 r1 q1=>k H1 m1 s1 r1 _ ((f.stp s1).set q1 i))
theorem zrn{i:Nat}{pos':Pos}(hN:X.N.Nodup)(hi:X.N[i]?=some x)(hx:Loc X.env.scope x)(hf:X.fn x=true\/X.env.scope.names.lookup x=some .local)(he:SE X e fa)
 (hs:swapsWith e (some (.Name x pos')) pos.line X.env=pure false):SS X (.Assign [.Name x pos'] e pos) (gSet i fa):=(zu2 hN hi hx he hs hf).imp λD σ H q=>zrm q
theorem zp3{i:Nat}{pos' lp:Pos}{ow fr:List Str}{ix:List Nat}{scope:Scope}{tg iter elt:Expr}{ifs:List Expr}{kd:Kd}{t:Tg}{fe:FE}(hN:X.N.Nodup)(hi:X.N[i]?=some x)(hx:Loc X.env.scope x)(hf:X.fn x=true\/X.env.scope.names.lookup x=some .local)
 (S:CompScope X ow fr ix scope) (hc:X.calm=true) (hI:PI X tg iter (lftI X.K kd fa)) (hg:∀C s₀ H₀ ex,PG (X.comp (ow++fr) scope C s₀ H₀ ex) tg (lftG X.K t)) (ht:∀C s₀ H₀ ex,PTs (X.comp (ow++fr) scope C s₀ H₀ ex) ifs (lftT X.K fc))
 (he:∀C s₀ H₀ ex,PE (X.comp (ow++fr) scope C s₀ H₀ ex) elt (lft X.K fe)) (hsw:swapsWith (.ListComp elt [⟨tg,iter,ifs,0⟩] scope lp) (some (.Name x pos')) pos.line X.env=pure true) (hs:∀x,foldedSetIterable iter X.env x=pure x) :
 SS X (.Assign [.Name x pos'] (.ListComp elt [⟨tg,iter,ifs,0⟩] scope lp) pos) (gSet i (gLc kd fa t ow.length ix fc fe)):=
 (zpd hN hi hx S hc hI hg ht he hsw hf hs).imp λD σ H q=>lc_ok (zrm q)
theorem se_lc{lp:Pos}{ow fr:List Str}{ix:List Nat}{scope:Scope}{tg iter elt:Expr}{ifs:List Expr}{kd:Kd}{t:Tg}{fe:FE}
 (S:CompScope X ow fr ix scope) (hc:X.calm=true) (hI:PI X tg iter (lftI X.K kd fa)) (hg:∀C s₀ H₀ ex,PG (X.comp (ow++fr) scope C s₀ H₀ ex) tg (lftG X.K t)) (ht:∀C s₀ H₀ ex,PTs (X.comp (ow++fr) scope C s₀ H₀ ex) ifs (lftT X.K fc))
 (he:∀C s₀ H₀ ex,PE (X.comp (ow++fr) scope C s₀ H₀ ex) elt (lft X.K fe)) (hs:∀x,foldedSetIterable iter X.env x=pure x) :
 SE X (.ListComp elt [⟨tg,iter,ifs,0⟩] scope lp) (gLc kd fa t ow.length ix fc fe):=(pe_lc S hc hI hg ht he hs).imp λσ H Q q=>lc_ok q
noncomputable def noTup:Expr->Bool
 |.Tuple ..=>false
 |_=>true
theorem zmy{es:List Expr}{k:Nat}{e:Expr}{l:Nat}{p:Pos}{env:Env}:swapsWithSole [.Tuple es k p] e l env=pure false:=by
 cases e<;>rfl
theorem zk6{es:List Expr}{k:Nat}{p:Pos}{e:Expr}{env:Env}(h:noTup e=true):swappedStores [.Tuple es k p] e env=pure none:=by
 cases e<;>first|rfl|cases h
theorem zxf{is:List Nat}{k:Nat}(hc:X.calm=true)(hN:X.N.Nodup)(hs:Paired (NmOk X) es is)(he:SE X e fa)(ht:noTup e=true) :
 SS X (.Assign [.Tuple es k p] e pos) (λρ h=>(fa ρ h).bind λw h=>.of ((tgW (.many is) w h ρ).map .nx) h):=(zq2 he (zmv hc hN hs) zmy (zk6 ht) rfl).imp λD σ H z9=>z9.el λρ h m fl h' f r e k=>by
 refine zac e λw h1 e1 e2=>?_
 obtain⟨e2,e3⟩:=of_ok e2
 subst e3
 cases z:tgW (.many is) w h' ρ with
 |none=>rw[z]at e2;cases e2
 |some ρ'=>
  rw[z]at e2;cases e2
  exact(.mk f r e1 λv H1 m1 s1 r1 q1=>(.mk (f.stp s1) r1 q1 z λσ' f'=>k H1 m1 s1 r1 σ' f'))
noncomputable def zen:Expr->Bool
 |.Slice ..=>false
 |_=>true
theorem zk7{o i:Expr}{p:Pos}{env:Env}(h:zen i=true)(v:Value):assign (.Subscript o i p) env v=(do
 let ov <-holding [v] (eval o env)
 let iv <-holding [v,ov] (eval i env)
 standAt p
 holding [v,ov,iv] (setItem ov iv v)
 release [v,ov,iv] []):=by
 cases i<;>first|rfl|cases h
noncomputable abbrev gPut(fo fi fv:FE):FS:=λρ h=>(fv ρ h).bind λw h=>(fo ρ h).bind λx h=>(fi ρ h).bind λy h=>match x,y with
 |.ref a,.int j=>(match h.get a with
  |some (.lst ws)=>(match L2.ixN ws.length j with
   |some k=>.ok (.nx ρ) (h.set a (.lst (ws.set k w)))
   |none=>.no)
  |_=>.no)
 |.ref a,y=>putD ρ a y w h
 |_,_=>.no
theorem zmz{o i e:Expr}{l:Nat}{p:Pos}{env:Env}:swapsWithSole [.Subscript o i p] e l env=pure false:=by
 cases e<;>rfl
theorem zir{o i e:Expr}{p:Pos}{env:Env}:swappedStores [.Subscript o i p] e env=pure none:=by
 cases e<;>rfl
theorem zhe{α β:Type}{f:α->Option β}:∀{as:List α} {bs:List β} {a:α} {b:β},mapO f as=some bs->f a=some b->mapO f (as++[a])=some (bs++[b])
 |[],_,_,_,e,h=>by cases e;simp[mapO,h]
 |x::as,bs,a,b,e,h=>by
  simp only[mapO]at e
  cases z:f x with
  |none=>rw[z]at e;cases e
  |some y=>
   rw[z]at e
   simp only at e
   cases z2:mapO f as with
   |none=>rw[z2]at e;cases e
   |some ys=>
    rw[z2]at e;cases e
    rw[vc0]
    simp only[mapO,z,zhe z2 h,vc0]
theorem zxg(hu:X.A.units+2<cLine)(ho:SE X o fo)(hi:SE X a fa)(hv:SE X e fb)(hs:zen a=true):SS X (.Assign [.Subscript o a p] e pos) (gPut fo fa fb):=
 (zq2 hv (zu1 ho hi (zpa.or (zv7 hu)) (zk7 hs)) zmz zir rfl).imp λD σ H z9=>z9.el λρ h m fl h' f r e k=>by
   refine zac e λw h1 e1 e2=>?_
   refine zac e2 λx h2 e3 e4=>?_
   refine zac e4 λy h3 e5 e6=>?_
   refine(.mk f r e1 λv H1 m1 s1 r1 q1=>(.mk (f.stp s1) r1 e3 λvo H2 m2 s2 r2 q2=>(.mk ((f.stp s1).stp s2) r2 e5 λvi H3 m3 s3 r3 q3=>?_)))
   split at e6
   .rename_i l j
    split at e6
    .rename_i ws g
     split at e6
     .rename_i kk hk
      cases e6
      cases q3
      have q2':=q2.stp s3
      cases q2'
      obtain⟨vs,p1,p2⟩:=r3.lst g
      refine .inl ⟨m3 l,vs,j,kk,rfl,rfl,p1,by rw[p2.length];exact hk,?_⟩
      have qv:=((q1.stp s2).stp s3)
      obtain⟨st,r'⟩:=r3.write (i:=l) (o:=.lst (ws.set kk w)) (u:=.lst (vs.set kk v)) (zam g) p1 (λ_ z=>nomatch z) (λ_ _ z=>nomatch z) λst=>⟨_,zan,VReps.set (qv.stp st) kk (p2.stp st)⟩
      exact k _ m3 (((s1.trans s2).trans s3).trans st) r' σ ((((f.stp s1).stp s2).stp s3).stp st)
     .cases e6
    .cases e6
   .rename_i l _
    unfold putD at e6
    split at e6
    .rename_i ks ws dk g hd
     split at e6
     .rename_i hc
      cases e6
      rw[vab]at hc
      have q2':=q2.stp s3
      cases q2'
      obtain⟨xs,p1,p2,p3,p4⟩:=r3.dt g
      obtain⟨b,rfl,kk⟩:=zel q3 hd
      have hl:=p3.length
      rw[vad]at hl
      have hlt:xs.length<sizeLine:=by rw[hl,ves];exact zar.mp hc.2
      have qv:=((q1.stp s2).stp s3)
      have hf:findX xs dk=none:=by
       rcases zf6 dk p2 p4 with⟨z,_⟩|⟨p,w',z,z2,_⟩
       .exact z
       .rw[z2]at hc;exact absurd hc.1 (by simp)
      have hp:putX xs dk b v=xs++[(dk,b,v)]:=by unfold putX;rw[hf];rfl
      obtain⟨u0,hu0,hn,hff,hmu⟩:∃u0:HO,H3 (m3 l)=some u0/\(∀t,u0≠HO.tup t)/\(∀o t,u0≠HO.frz o t)/\Mut (some u0):=by
       rcases p1 with p1|⟨_,p1⟩
       .exact⟨_,p1,(λ_ z=>nomatch z),(λ_ _ z=>nomatch z),True.intro⟩
       .exact⟨_,p1,(λ_ z=>nomatch z),(λ_ _ z=>nomatch z),True.intro⟩
      refine .inr ⟨m3 l,b,xs,dk,rfl,rfl,dt_DT p1 p2 p3,by rw[hu0];exact hmu,kk,hlt,?_⟩
      obtain⟨st,r'⟩:=r3.write (i:=l) (o:=.dt (ks++[y]) (ws++[w])) (u:=dtH (putX xs dk b v) (m3 l)) (zam g) hu0 hn hff λst=>by
       rw[hp]at st ⊢
       refine⟨xs++[(dk,b,v)],.inl zan,?_,?_,?_⟩
       .rw[vbm,zhe p2 hd];rfl
       .rw[vbm];exact(p3.stp st).append (.cons (q3.stp st) .nil)
       .rw[vbm];exact(p4.stp st).append (.cons (qv.stp st) .nil)
      exact k _ m3 (((s1.trans s2).trans s3).trans st) r' σ ((((f.stp s1).stp s2).stp s3).stp st)
     .cases e6
    .cases e6
   .cases e6
theorem zis{M:Model}{A:Around}{E:Value->Shared->Prop}{s:Shared}{a b:Value}{T id:String}{Q:Value->Shared->Prop}(ha:s.TypeIs a T)(hb:s.TypeIs b T)
 (hI:typeLookup (.type T) (dunderI "add")=pure (some (.builtin id))) (hq:isSeqSlot (some (.builtin id))=true) (hfill:fillsNumberSlot (.type T) "add" = pure false) (hc:wpAny M A (call (.builtin id) [a,b]) Q E s):wpAny M A (inplaceOp .Add a b) Q E s:=by
 unfold inplaceOp
 refine vc3 ?_
 have h1:fillsInplaceSlot (.type T) "add" (Operator.Add == .Add)=pure false:=by
  unfold fillsInplaceSlot
  show(typeLookup (.type T) (dunderI "add") >>= λfi=>pure (fi.isSome && !isSeqSlot fi))=_
  rw[hI,vff,hq];rfl
 have h2:seqSlot? (.type T) (dunderI "add")=pure (some (.builtin id)):=by
  unfold seqSlot?
  rw[hI,vff,hq];rfl
 refine vaa (vfj ha (vaa (vde h1 ?_)))
 show wpAny M A (if false=true then _ else _) Q E s
 rw[if_neg vbb]
 refine vaa (binaryOp1_none (nm:="add") ha hb hfill ?_)
 refine vaa (vde h2 ?_)
 exact vaa (veu hc)
noncomputable def rIcat:R2:=λx y H Q=>∃l b xs zs,x=.ref l/\y=.ref b/\H l=some (.lst xs)/\H b=some (.lst zs)/\xs.length+zs.length<=sizeLine/\Q (.ref l) (upd H l (.lst (xs++zs)))
theorem zxh:PIp X .Add rIcat:=by
 intro pins s σ H x y v u Q I rx ry h
 obtain⟨l,b,xs,zs,rfl,rfl,hH,hB,hz,q⟩:=h
 cases rx
 cases ry
 obtain⟨z,its,n,r,hl,e⟩:=I.lstM hH
 obtain⟨z2,its2,n2,r2,hl2,e2⟩:=I.lstM hB
 have hsz:its.toArray.size+its2.toArray.size<=sizeLine:=by rw[vah,vah];omega
 have hlong:¬(!its.toArray.isEmpty&&Builtin.List.listTooLong (its.toArray.size+its2.toArray.size))=true:=by
  rw[zf1 hsz,Bool.and_false]
  exact vbb
 refine zis (T:="list") (id:="list.__iadd__") ⟨_,e,rfl⟩ ⟨_,e2,rfl⟩ PySem.F.slot_list_iadd.lookup (by decide +kernel) noFill_list_add ?_
 refine veh PySem.F.slot_list_iadd ⟨_,e,rfl⟩ PySem.F.entry_list_iadd (PySem.F.args_list_iadd_2 _ _)
  (AutoSeq1.list___iadd___list_list_0 l its.toArray n b its2.toArray n2 hlong (by rw[vah];omega) (by omega)) ⟨e,e2,?_⟩
 refine⟨.ref l,_,I.lset (its':=its++its2) hH e (by simp) (r.append r2) ?_,rfl,q⟩
 rw[vao]
 omega
noncomputable def ipOf:Operator->Option Op
 |.Add=>some .add|.Sub=>some .sub|.Mult=>some .mul|.FloorDiv=>some .fdiv
 |_=>none
noncomputable def rIp:Op->R2
 |.mul=>rI CMul λi j=>.int (i*j)
 |.fdiv=>rI CDiv λi j=>.int (i/j)
 |.add=>λx y H Q=>ipI (λi j=>i+j) x y H Q\/rIcat x y H Q
 |.sub=>ipI λi j=>i-j
 |_=>λ_ _ _ _=>False
theorem ip_ok{O:Operator}{o:Op}(e:ipOf O=some o):PIp X O (rIp o):=by
 cases O<;>cases e
 .intro pins s σ H x y v u Q I rx ry q
  rcases q with q|q
  .exact zu4 pins s σ H x y v u Q I rx ry q
  .exact zxh pins s σ H x y v u Q I rx ry q
 .exact zu5
 .exact zsg
 .exact zo2
theorem zxi{K:PySem.W.Frag}{O:Operator}{o:Op}(e:ipOf O=some o):OpV K (rIp o) (ipW o):=by
 intro m h H v u x y w h' Q r qv qu e2 k
 unfold ipW at e2
 split at e2
 .rename_i i j
  cases qv;cases qu
  split at e2
  .cases e2;exact .inl ⟨i,j,rfl,rfl,Wants.here k r (.int _)⟩
  .cases e2;exact⟨i,j,rfl,rfl,Wants.here k r (.int _)⟩
  .obtain⟨e2,rfl⟩:=of_ok e2
   cases z:opI .mul i j with
   |none=>rw[z]at e2;cases e2
   |some t=>
    rw[z]at e2;cases e2
    obtain⟨c1,rfl⟩:=zmn z
    exact⟨i,j,rfl,rfl,c1,Wants.here k r (.int _)⟩
  .obtain⟨e2,rfl⟩:=of_ok e2
   cases z:opI .fdiv i j with
   |none=>rw[z]at e2;cases e2
   |some t=>
    rw[z]at e2;cases e2
    obtain⟨c1,rfl⟩:=zmn z
    exact⟨i,j,rfl,rfl,c1,Wants.here k r (.int _)⟩
  .cases e2
 .rename_i i j
  split at e2
  .rename_i xs ys g1 g2
   split at e2
   .rename_i hz
    cases e2
    cases qv;cases qu
    obtain⟨vs,p1,p2⟩:=r.lst g1
    obtain⟨us,p3,p4⟩:=r.lst g2
    refine .inr ⟨m i,m j,vs,us,rfl,rfl,p1,p3,by rw[p2.length,p4.length];exact va3 hz,?_⟩
    obtain⟨st,r'⟩:=r.write (i:=i) (o:=.lst (xs++ys)) (u:=.lst (vs++us)) (zam g1) p1 (λ_ z=>nomatch z) (λ_ _ z=>nomatch z) λst=>⟨_,zan,(p2.stp st).append (p4.stp st)⟩
    exact k _ _ m st r' (.ref (show i<h.n from zam g1))
   .cases e2
  .cases e2
 .cases e2
noncomputable abbrev gAug(i:Nat)(o:Op)(fa:FE):FS:=λρ h=>match(ρ[i]?).join with
 |some x=>(fa ρ h).bind λy h=>(ipW o x y h).bind λz h=>.ok (.nx (ρ.set i (some z))) h
 |none=>.no
theorem zxj{i:Nat}{pos':Pos}{O:Operator}{o:Op}(eo:ipOf O=some o)(hN:X.N.Nodup)(hi:X.N[i]?=some x)(hx:Loc X.env.scope x)(hf:X.fn x=true\/X.env.scope.names.lookup x=some .local)(he:SE X e fa) :
 SS X (.AugAssign (.Name x pos') O e pos) (gAug i o fa):=(zu3 hN hi hx he (ip_ok eo) hf).imp λD σ H z9=>z9.el λρ h m fl h' f r e k=>by
 have e:gAug i o fa ρ h=.ok fl h':=e
 simp only[gAug]at e
 cases z:(ρ[i]?).join with
 |none=>rw[z]at e;cases e
 |some x=>
  rw[z]at e
  simp only at e
  refine zac e λy h1 e1 e2=>?_
  refine zac e2 λw h2 e3 e4=>?_
  cases e4
  have e5:ρ[i]?=some (some x):=by
   cases q:ρ[i]? with
   |none=>rw[q]at z;cases z
   |some o=>rw[q]at z;rw[<-z];rfl
  obtain⟨v,p1,p2⟩:=f.val i x e5
  refine⟨v,p1,ρ,h,m,y,h1,f,r,e1,λu H1 m1 s1 r1 q1=>zxi eo m1 h1 H1 v u x y w h' _ r1 (p2.stp s1) q1 e3 λv' H' m' s' r' q'=>?_⟩
  exact k H' m' (s1.trans s') r' _ (((f.stp s1).stp s').set q' i)
noncomputable abbrev gIf(fc:FE)(ga gb:FS):FS:=λρ h=>(fc ρ h).bind λx h=>match x with|.bl true=>ga ρ h|.bl false=>gb ρ h|_=>.no
variable{sa sb:List Stmt}
theorem zxk(hc:ST X c fc)(ha:SSs X sa ga)(hb:SSs X sb gb):SS X (.If c sa sb pos) (gIf fc ga gb):=(ps_if hc ha hb).imp λD σ H z9=>z9.el λρ h m fl h' f r e k=>by
 refine zac e λx h1 e1 e2=>?_
 cases x<;>try cases e2
 rename_i c
 refine(.mk f r e1 λH1 m1 s1 r1=>?_)
 cases c with
 |true=>rw[if_pos rfl];exact(.mk (f.stp s1) r1 e2 λH' m' s' r'=>k H' m' (s1.trans s') r')
 |false=>simp only[vap,vbk];exact(.mk (f.stp s1) r1 e2 λH' m' s' r'=>k H' m' (s1.trans s') r')
theorem ztq{nx:Nat->VH->Option (Option W)}{tg:W->VH->En->Option En}{g:FS}{f i:Nat}{ρ:En}{h:VH}{fl:Fl}{h':VH}(q:forG nx tg g (f+1) i ρ h=.ok fl h'):∃o,nx i h=some o:=by
 simp only[forG]at q
 split at q
 .cases q
 .exact⟨_,by assumption⟩
 .exact⟨_,by assumption⟩
noncomputable abbrev gFor(kd:Kd)(fa:FE)(t:Tg)(g:FS):FS:=λρ h=>(fa ρ h).bind λx h=>forG (nxt kd x) (tgW t) g fuel 0 ρ h
theorem zxl{K:PySem.W.Frag}{kd:Kd}{t:Tg}{D:Ends}{σ:L2.St}{H:Hp}(q:lftS K (gFor kd fa t ga) D σ H):tFor (lftI K kd fa) (lftG K t) (lftS K ga) D σ H:=by
 refine q.el λρ h m fl h' f r e k=>?_
 refine zac e λx h1 e1 e2=>?_
 refine(.mk f r e1 (ztq (f:=999999) e2) λJ P H1 m1 s1 r1 J1 p1=>?_)
 refine⟨λi fu σ' H'=>∃ρ' h3 m3,forG (nxt kd x) (tgW t) ga fu i ρ' h3=.ok fl h'/\Fr K m3 h3.n H' σ' ρ'/\Rel K m3 h3 H'/\Stp m1 h1.n H1 m3 h3.n H'/\P m3 h3.n H',⟨fuel,ρ,h1,m1,e2,f.stp s1,r1,.refl,p1⟩,?_⟩
 rintro i fu σ' H' ⟨ρ',h3,m3,e3,f3,r3,s3,p3⟩
 cases fu with
 |zero=>cases e3
 |succ fu=>
  simp only[forG]at e3
  obtain⟨j1,j2⟩:=J1.2 m3 h3 H' r3 p3 i
  split at e3
  .cases e3
  .rename_i hn
   cases e3
   exact .inl ⟨j2 hn,k H' m3 (s1.trans s3) r3 σ' f3⟩
  .rename_i w hn
   obtain⟨j3,j4⟩:=j1 w hn
   split at e3
   .cases e3
   .rename_i ρ4 ht
    refine zac e3 λfl5 h5 e5 e6=>?_
    refine .inr ⟨j3,λσ6 H6=>∃ρ6 m6,forG (nxt kd x) (tgW t) ga fu (i+1) ρ6 h5=.ok fl h'/\Fr K m6 h5.n H6 σ6 ρ6/\Rel K m6 h5 H6/\Stp m1 h1.n H1 m6 h5.n H6/\P m6 h5.n H6,λσ6 H6 ⟨ρ6,m6,a1,a2,a3,a4,a5⟩=>⟨fu,vbq _,ρ6,h5,m6,a1,a2,a3,a4,a5⟩,λy H4 hy=>?_⟩
    obtain⟨s4,r4,q4⟩:=j4 y H4 hy
    refine⟨ρ',h3,m3,w,ρ4,f3.stp s4,r4,q4,ht,λσ5 f5=>⟨ρ4,h3,m3,fl5,h5,f5,r4,e5,λH6 m6 s6 r6=>?_⟩⟩
    have p4:=J1.1 m3 h3.n H' m3 h3.n H4 (vae _) (λ_ _=>rfl) (λb vs q=>s4.tup b vs q) (λb o u q=>s4.frz b o u q) p3
    have p6:=J1.1 m3 h3.n H4 m6 h5.n H6 s6.le s6.same (λb vs q=>s6.tup b vs q) (λb o u q=>s6.frz b o u q) p4
    have s16:=(s3.trans s4).trans s6
    cases fl5 with
    |nx ρ6=>exact λσ6 f6=>⟨ρ6,m6,e6,f6,r6,s16,p6⟩
    |ct ρ6=>exact λσ6 f6=>⟨ρ6,m6,e6,f6,r6,s16,p6⟩
    |bk ρ6=>cases e6;exact λσ6 f6=>k H6 m6 (s1.trans s16) r6 σ6 f6
    |rt w6=>cases e6;exact λv6 q6=>k H6 m6 (s1.trans s16) r6 v6 q6
theorem zxm{kd:Kd}{t:Tg}{tg iter:Expr}(hp:PassesOwn (model X.prog X.w) X.A X.env X.xe)(hc:X.calm=true)(hI:PI X tg iter (lftI X.K kd fa))(hg:PG X tg (lftG X.K t))(hb:SSs X sa ga)(hs:∀x,foldedSetIterable iter X.env x=pure x) :
 SS X (.For tg iter sa [] pos) (gFor kd fa t ga):=(zu8 hp hc hI hg hb hs).imp λD σ H q=>zxl q
theorem zxn(hp:PassesOwn (model X.prog X.w) X.A X.env X.xe)(hc:ST X c fc)(hb:SSs X sa ga):SS X (.While c sa [] pos) (λρ h=>whlG fc ga fuel ρ h):=(zo1 hp hc hb).imp λD σ H z9=>z9.el λρ h m fl h' f r e k=>by
 refine⟨λfu σ' H'=>∃ρ' h3 m3,whlG fc ga fu ρ' h3=.ok fl h'/\Fr X.K m3 h3.n H' σ' ρ'/\Rel X.K m3 h3 H'/\Stp m h.n H m3 h3.n H',⟨fuel,ρ,h,m,e,f,r,.refl⟩,?_⟩
 rintro fu σ' H' ⟨ρ',h3,m3,e3,f3,r3,s3⟩
 cases fu with
 |zero=>cases e3
 |succ fu=>
  simp only[whlG]at e3
  refine zac e3 λx h4 e4 e5=>?_
  cases x<;>try cases e5
  rename_i b
  refine⟨ρ',h3,m3,b,h4,f3,r3,e4,λH4 m4 s4 r4=>?_⟩
  cases b with
  |false=>cases e5;simp only[vap,vbk];exact k H4 m4 (s3.trans s4) r4 σ' (f3.stp s4)
  |true=>
   simp only[vbe]
   refine zac e5 λfl5 h5 e6 e7=>?_
   refine⟨λσ6 H6=>∃ρ6 m6,whlG fc ga fu ρ6 h5=.ok fl h'/\Fr X.K m6 h5.n H6 σ6 ρ6/\Rel X.K m6 h5 H6/\Stp m h.n H m6 h5.n H6,λσ6 H6 ⟨ρ6,m6,a1,a2,a3,a4⟩=>⟨fu,vbq _,ρ6,h5,m6,a1,a2,a3,a4⟩,?_⟩
   refine⟨ρ',h4,m4,fl5,h5,f3.stp s4,r4,e6,λH6 m6 s6 r6=>?_⟩
   have s16:=(s3.trans s4).trans s6
   cases fl5 with
   |nx ρ6=>exact λσ6 f6=>⟨ρ6,m6,e7,f6,r6,s16⟩
   |ct ρ6=>exact λσ6 f6=>⟨ρ6,m6,e7,f6,r6,s16⟩
   |bk ρ6=>cases e7;exact λσ6 f6=>k H6 m6 s16 r6 σ6 f6
   |rt w6=>cases e7;exact λv6 q6=>k H6 m6 s16 r6 v6 q6
end
theorem zcr{n:Str}:∀{ps:List Str} {us:List Value},us.length=ps.length->n∈ps->((ps.zip us).lookup n).isSome=true
 |[],_,_,h=>by cases h
 |p::ps,[],hl,_=>by cases hl
 |p::ps,u::us,hl,h=>by
  rw[vcc,va4]
  by_cases e:(n==p)=true
  .rw[e];rfl
  .have e':(n==p)=false:=by simpa using e
   rw[e']
   refine zcr (by simpa using hl) ?_
   rcases vaz.mp h with z|z
   .rw[z]at e';simp at e'
   .exact z
theorem zp4{n:Str}{u:Value}{p:Str}{ps:List Str}{us:List Value}(h:n≠p):((p,u)::ps.zip us).lookup n=(ps.zip us).lookup n:=by
 rw[va4]
 have e':(n==p)=false:=by simpa using h
 rw[e']
theorem zjv{α β:Type}{f g:α->Option β}:∀{l:List α},(∀a∈l,f a=g a)->l.filterMap f=l.filterMap g
 |[],_=>rfl
 |a::r,h=>by
  rw[vc6,vc6,h a van,zjv λb hb=>h b (vag _ hb)]
theorem zf9:∀{ps:List Str} {us:List Value},us.length=ps.length->ps.Nodup->ps.filterMap (λn=>((ps.zip us).lookup n).map (n,·))=ps.zip us
 |[],_,_,_=>rfl
 |p::ps,[],hl,_=>by cases hl
 |p::ps,u::us,hl,hn=>by
  obtain⟨h1,h2⟩:=vdz.mp hn
  rw[vcc,vc6]
  have e:((p,u)::ps.zip us).lookup p=some u:=by rw[va4];simp
  rw[e]
  simp only[vaj]
  congr 1
  have ih:=zf9 (ps:=ps) (us:=us) (by simpa using hl) h2
  refine Eq.trans ?_ ih
  exact zjv λn hn'=>by
   have hne:n≠p:=λz=>h1 (by rw[<-z];exact hn')
   rw[zp4 hne]
theorem zff{x qual:Str}{args:List Arg}{body:List Stmt}{sc:Scope}{kV doc pm:Value}{an:Option Addr}{cdv ct:Value}{us:List Value}{df:List Expr}(hl:us.length=(args.map (·.arg)).length)(hn:(args.map (·.arg)).Nodup) :
 bindArgs (PySem.W.fnOf x qual ⟨[],args,none,[],[],none,df⟩ body sc .none kV doc pm an cdv ct) ⟨us,[]⟩=pure ((args.map (·.arg)).zip us):=by
 have hs:seqItems? Value.none=pure none:=rfl
 have hm:((args.map (·.arg)).filter λn=>(((args.map (·.arg)).zip us).lookup n).isNone)=[]:=by
  rw[vdw]
  intro n hn'
  have:=zcr hl hn'
  cases q:((args.map (·.arg)).zip us).lookup n with
  |none=>rw[q]at this;cases this
  |some v=>simp
 unfold bindArgs
 simp only[PySem.W.fnOf,vda,vb8,vcd,hs,vff]
 have hg:¬(us.length> (args.map (·.arg)).length):=by omega
 have h0:(#[]:Array Value).toList=[]:=rfl
 simp only[Option.getD_none,h0,vdu,vff,List.drop_nil,vd2,Nat.sub_zero,List.take_length,hm,List.isEmpty_nil,vcu,List.drop_length,List.zip_nil_right,List.zip_nil_left,vax hg,vec,vap,vbk,zf9 hl hn]
theorem zhf{z:Str}:∀{qs:List Str} {us:List Value},us.length=qs.length->(qs++[z]).zip us=qs.zip us
 |[],[],_=>rfl
 |[],_::_,h=>by cases h
 |_::_,[],h=>by cases h
 |q::qs,u::us,h=>by
  rw[vc0,vcc,vcc,zhf (by simpa using h)]
theorem zga{z:Str}{v:Value}:∀{qs:List Str} {us:List Value},us.length=qs.length->(qs++[z]).zip (us++[v])=qs.zip us++[(z,v)]
 |[],[],_=>rfl
 |[],_::_,h=>by cases h
 |_::_,[],h=>by cases h
 |q::qs,u::us,h=>by
  rw[vc0,vc0,vcc,vcc,zga (by simpa using h),vc0]
theorem zm0{z:Str}:∀{qs:List Str} {us:List Value},z∉qs->(qs.zip us).lookup z=none
 |[],_,_=>rfl
 |_::_,[],_=>rfl
 |q::qs,u::us,h=>by
  rw[vcc,va4]
  have e':(z==q)=false:=by simpa using(λe=>h (by rw[e];exact van))
  rw[e']
  exact zm0 λe=>h (vag _ e)
section
variable{x qual:Str}{args:List Arg}{df:List Expr}{body:List Stmt}{sc:Scope}{kV doc pm:Value}{an:Option Addr}{cdv ct:Value}{t:Addr}{o:Obj}{n:Nat}{s:Shared}{us:List Value}{qs:List Str}{z:Str}
theorem zro(qs:List Str)(z:Str):List.drop ([Value.none].length- (qs++[z]).length) [Value.none]=[Value.none]:=by
 rw[vao,va9,va9,show 1- (qs.length+1)=0 by omega];rfl
theorem len_d(qs:List Str)(z:Str):(qs++[z]).length - [Value.none].length=qs.length:=by simp
theorem zk8(ha:args.map (·.arg)=qs++[z])(hn:(qs++[z]).Nodup)(ho:s.heap.get? t=some o)(hd:o.data=.seq #[.none] n)(hl:us.length=(qs++[z]).length) :
 BindsTo s (PySem.W.fnOf x qual ⟨[],args,none,[],[],none,df⟩ body sc (.ref t) kV doc pm an cdv ct) ⟨us,[]⟩ ((qs++[z]).zip us):=by
 apply BindsTo.of_defaults (items:=#[.none]) (n:=n) rfl ho hd
 .unfold bindArgs
  simp only[PySem.W.fnOf,vda,vb8,vcd,vdu,vff,ha]
  rfl
 .have hm:(qs.filter λn=>(((qs++[z]).zip us).lookup n).isNone)=[]:=by
   rw[vdw]
   intro n hn'
   have:=zcr (n:=n) hl (vdh _ hn')
   cases q:((qs++[z]).zip us).lookup n with
   |none=>rw[q]at this;cases this
   |some v=>simp
  have hz:(((qs++[z]).zip us).lookup z).isNone=false:=by
   have:=zcr (n:=z) hl (va8 _ (vbu.mpr rfl))
   cases q:((qs++[z]).zip us).lookup z with
   |none=>rw[q]at this;cases this
   |some v=>rfl
  have hg:¬(us.length> (qs++[z]).length):=by omega
  simp only[ve3,zro,len_d,ven,List.take_left,List.drop_left,vfg,hm,vax hg,vec,vap,vbk,List.isEmpty_nil,vcu,vcc,List.zip_nil_right,vd0,vdu,hz,vff,zf9 hl hn]
theorem zk9(ha:args.map (·.arg)=qs++[z])(hn:(qs++[z]).Nodup)(ho:s.heap.get? t=some o)(hd:o.data=.seq #[.none] n)(hl:us.length=qs.length) :
 BindsTo s (PySem.W.fnOf x qual ⟨[],args,none,[],[],none,df⟩ body sc (.ref t) kV doc pm an cdv ct) ⟨us,[]⟩ ((qs++[z]).zip (us++[.none])):=by
 apply BindsTo.of_defaults (items:=#[.none]) (n:=n) rfl ho hd
 .unfold bindArgs
  simp only[PySem.W.fnOf,vda,vb8,vcd,vdu,vff,ha]
  rfl
 .have hm:(qs.filter λn=>((qs.zip us).lookup n).isNone)=[]:=by
   rw[vdw]
   intro n hn'
   have:=zcr (n:=n) hl hn'
   cases q:(qs.zip us).lookup n with
   |none=>rw[q]at this;cases this
   |some v=>simp
  have hzq:z∉qs:=λh=>(vew.mp hn).2.2 z h z (vbu.mpr rfl) rfl
  have hz:((qs.zip us).lookup z).isNone=true:=by rw[zm0 hzq];rfl
  have hg:¬(us.length> (qs++[z]).length):=by rw[vao];omega
  have hl2:(us++[Value.none]).length=(qs++[z]).length:=by rw[vao,vao,hl];rfl
  have ha2:=zf9 hl2 hn
  rw[zga hl]at ha2
  simp only[ve3,zro,len_d,zhf hl,zga hl,ven,List.take_left,List.drop_left,vfg,hm,vax hg,vec,vap,vbk,List.isEmpty_nil,vcu,vcc,List.zip_nil_right,vd0,vdu,hz,vbe,vff,ha2]
end
structure FunD(K:PySem.W.Frag)(x qual:Str)(st:Stmt)(f:Addr)(fd:FuncData):Prop where
 ex:∃(oc:Value) (od:Option Addr) (dV kV doc pm:Value) (an:Option Addr) (cdv ct:Value) (osl:Array (Option Value)),fd=PySem.W.fnOf x qual (zsu st) (zeg st) (zao st) dV kV doc pm an cdv ct/\K.lookup f=some ⟨oc,od,.func fd,osl⟩/\PySem.W.codeIn K cdv qual=true
 kp:PySem.W.keepIn K (.ref f)=true
theorem FunD.ok{P:Program}{w:World}{K:PySem.W.Frag}{mg:Str->Option Value}{base:Heap}{x qual:Str}{st:Stmt}{f:Addr}{fd:FuncData}{N ps:List Str}{k:Nat}{sp:Sp}(F:FunD K x qual st f fd)(S:FnScope N ps (zao st))(len:∀vs H Q E,sp vs H Q E->vs.length=ps.length)
 (hbody:∀(cdv:Value)(A:Around)(outer:List Env)(s:Shared)(H:Hp)(vs:List V)(Q:VK)(E:XK),Room k (A.deeper (envOfC qual (zao st) s.heap.objs.size f cdv))->sp vs H Q E->∃t,PSs (cxOf CX0 P w K mg base N qual (zao st) f cdv A outer s H E).nox (zeg st) t/\t {nx:=λ_ H'=>Q .non H',rt:=Q} (start N vs) H):FnOk P w K mg base CX0 (k+1) f fd ps sp:=
 let⟨_,_,_,_,_,_,_,cdv,_,_,e,lk,hcd⟩:=F.ex
 by subst e;exact fn_of lk hcd S len λA outer s H vs Q E hr hsp=>let⟨t,h,q⟩:=hbody cdv A outer s H vs Q E hr hsp;⟨t,h.nox,q⟩
section
variable{K:PySem.W.Frag}{m m':Nat->Addr}{n n':Nat}{h h':VH}{H H':Hp}
mutual
theorem VRep.refsLt:∀{v:V} {w:W},VRep K m n H v w->W.lt n w=true
 |_,_,.non=>rfl
 |_,_,.bl _=>rfl
 |_,_,.int _=>rfl
 |_,_,.str _=>rfl
 |_,_,.tup _ r=>VReps.refsLt r
 |_,_,.fz _ r=>VReps.refsLt r
 |_,_,.ref q=>zar.mpr q
theorem VReps.refsLt:∀{vs:List V} {ws:List W},VReps K m n H vs ws->W.lts n ws=true
 |_,_,.nil=>rfl
 |_,_,.cons q r=>by
  show(W.lt n _&&W.lts n _)=true
  rw[VRep.refsLt q,VReps.refsLt r];rfl
end
mutual
theorem VRep.cut:∀{v:V} {w:W},VRep K m n' H v w->W.lt n w=true->VRep K m n H v w
 |_,_,.non,_=>.non
 |_,_,.bl b,_=>.bl b
 |_,_,.int b,_=>.int b
 |_,_,.str b,_=>.str b
 |_,_,.tup q r,e=>.tup q (VReps.cut r e)
 |_,_,.fz q r,e=>.fz q (VReps.cut r e)
 |_,_,.ref q,e=>.ref (zar.mp e)
theorem VReps.cut:∀{vs:List V} {ws:List W},VReps K m n' H vs ws->W.lts n ws=true->VReps K m n H vs ws
 |_,_,.nil,_=>.nil
 |_,_,.cons q r,e=>by
  have e:(W.lt n _&&W.lts n _)=true:=e
  rw[vab]at e
  exact .cons (VRep.cut q e.1) (VReps.cut r e.2)
end
theorem KReps.cut{m':Nat->Addr}{n1:Nat}{H':Hp}:∀{vs us:List (Key×V)} {ws:List (Key×W)},KReps K m n' H vs ws->KReps K m' n H' us ws->KReps K m n H vs ws
 |_,_,_,.nil,_=>.nil
 |_,_,_,.cons q r,.cons q2 r2=>.cons (q.cut q2.refsLt) (KReps.cut (n1:=n1) r r2)
theorem zrp{lo:Nat}(r:Rel K m h H):Rel K m ⟨h.n,lo,h.os⟩ H:=⟨r.obj,r.inj,r.len⟩
theorem zjw{w w2:W}{h1 h2:VH}{v:V}{Q:VK}(r:Rel K m h H)(s:Stp m h.n H m' h1.n H')(r1:Rel K m' h1 H')(q:VRep K m' h1.n H' v w)(g:Grow ⟨h.n,h.n,h.os⟩ h1)(e:leave h w h1=.ok w2 h2)(k:Wants K m h.n H w2 h2 Q):Q v H':=by
 unfold leave at e
 split at e
 .rename_i hc
  cases e
  rw[vab]at hc
  have hlo:=va3 hc.1
  refine k v H' m' ⟨vae _,s.same,λi a b=>absurd b (vco.mpr a),λi j a b=>absurd b (vco.mpr a),s.tup,s.frz,s.keep⟩ ⟨λi hi=>?_,λi j hi hj=>r1.inj i j (vak hi s.le) (vak hj s.le),r.len⟩ (q.cut hc.2)
  have hg:h1.get i=h.get i:=g.2.2 i hi (vak hi hlo)
  obtain⟨o,p1,p2⟩:=r1.obj i (vak hi s.le)
  rw[hg]at p1
  refine⟨o,p1,?_⟩
  have p3:=r.at_ p1
  cases o with
  |lst ws=>
   obtain⟨vs,a1,a2⟩:=p2
   obtain⟨us,b1,b2⟩:=p3
   exact⟨vs,a1,a2.cut b2.refsLt⟩
  |dk ws=>
   obtain⟨vs,a1,a2⟩:=p2
   obtain⟨us,b1,b2⟩:=p3
   exact⟨vs,a1,KReps.cut (n1:=0) a2 b2⟩
  |dt ks ws=>
   obtain⟨xs,a1,a0,a2,a3⟩:=p2
   obtain⟨us,b1,b0,b2,b3⟩:=p3
   exact⟨xs,a1,a0,a2.cut b2.refsLt,a3.cut b3.refsLt⟩
 .cases e
  exact k v H' m' s (zrp r1) q
theorem zp5{N:List Str}{vs:List V}{ws:List W}(q:VReps K m n H vs ws):Fr K m n H (L2.start N vs) (ws.map some++List.replicate (N.length-ws.length) none):=by
 unfold L2.start
 refine⟨by simp[q.length],λi w e=>?_⟩
 by_cases hi:i<ws.length
 .rw[vce (by simpa using hi)]at e
  rw[vce (by simpa[q.length]using hi)]
  rw[vat]at e ⊢
  cases z:ws[i]? with
  |none=>rw[z]at e;cases e
  |some w'=>
   rw[z]at e
   cases e
   obtain⟨v,h1,h2⟩:=q.get z
   exact⟨v,by rw[h1];rfl,h2⟩
 .rw[va1 (by simpa using vco.mp hi)]at e
  rw[List.getElem?_replicate]at e
  split at e<;>cases e
end
theorem zit{F:Nat->Option Fn}{k idx:Nat}{ws:List W}{h h':VH}{w:W}{fn:Fn}(hF:F idx=some fn)(e:run F k idx ws h=.ok w h'):ws.length=fn.ps:=by
 cases k with
 |zero=>cases e
 |succ k=>
  simp only[run,hF]at e
  split at e
  .rename_i hl;exact vd3 hl
  .cases e
theorem zrq{P:Program}{w:World}{K:PySem.W.Frag}{mg:Str->Option Value}{base:Heap}{F:Nat->Option Fn}{k idx:Nat}{fn:Fn}{x qual:Str}{st:Stmt}{f:Addr}{fd:FuncData}{N ps:List Str}(hF:F idx=some fn)(Fu:FunD K x qual st f fd)(S:FnScope N ps (zao st))
 (hn:fn.n=N.length) (hp:fn.ps=ps.length)
 (hbody:∀(cdv:Value)(A:Around)(outer:List Env)(s:Shared)(H:Hp)(E:XK),Room k (A.deeper (envOfC qual (zao st) s.heap.objs.size f cdv))->SSs (cxOf CX0 P w K mg base N qual (zao st) f cdv A outer s H E).nox (zeg st) (exs (run F k) fn.body)) :
 FnOk P w K mg base CX0 (k+1) f fd ps (spV K ps.length (run F (k+1) idx)):=by
 refine Fu.ok S (λvs H Q E h=>h.1) λcdv A outer s H vs Q E hr hsp=>?_
 refine⟨_,hbody cdv A outer s H E hr,?_⟩
 obtain⟨hl,h,m,ws,w2,h2,r,q,e,k2⟩:=hsp
 have hws:=zit hF e
 simp only[run,hF]at e
 split at e
 .refine zac e λfl h1 e1 e2=>?_
  have g:=zjr (zjs F k) _ _ _ _ _ e1
  have hN:fn.n-fn.ps=N.length-ws.length:=by rw[hn,hws]
  rw[hN]at e1
  refine⟨_,⟨h.n,h.n,h.os⟩,m,fl,h1,zp5 q,zrp r,e1,λH' m' s' r'=>?_⟩
  cases fl with
  |nx ρ=>exact λσ' f'=>zjw r s' r' .non g e2 k2
  |rt w3=>exact λv q3=>zjw r s' r' q3 g e2 k2
  |bk _=>cases e2
  |ct _=>cases e2
 .cases e
theorem zm1{P:Program}{w:World}{K:PySem.W.Frag}{mg:Str->Option Value}{base:Heap}{F:Nat->Option Fn}{idx:Nat}{f:Addr}{fd:FuncData}{ps:List Str}:FnOk P w K mg base CX0 0 f fd ps (spV K ps.length (run F 0 idx)):=
 ⟨λvs H Q E h=>h.1,λA outer s H args us vs Q E hr he hb hv hs=>by obtain⟨_,h,m,ws,w2,h2,r,q,e,k2⟩:=hs;cases e⟩
noncomputable def refAt(K:PySem.W.Frag)(x:Str):Option Addr:=(match PySem.W.nsIn K mainGlobals x with
 |some (some (.ref f))=>some f
 |_=>none)
theorem zjx{K:PySem.W.Frag}{x:Str}{f:Addr}(h:refAt K x=some f):PySem.W.nsIn K mainGlobals x=some (some (.ref f)):=by
 unfold refAt at h
 split at h
 .rename_i g e;cases h;exact e
 .cases h
set_option genInjectivity false in
structure CC where
 N:List Str
 names:List (Str×NameKind)
 fnAll:Bool
noncomputable def zdo:List Str->Str->Nat->Option Nat
 |[],_,_=>none
 |y::r,x,i=>if y==x then some i else zdo r x (i+1)
theorem zhg:∀{N:List Str} {x:Str} {k i:Nat},zdo N x k=some i->∃j,i=k+j/\N[j]?=some x
 |[],_,_,_,e=>by cases e
 |y::r,x,k,i,e=>by
  unfold zdo at e
  split at e
  .rename_i h
   cases e
   exact⟨0,rfl,by simpa using h⟩
  .obtain⟨j,h1,h2⟩:=zhg e
   exact⟨j+1,by omega,by simpa using h2⟩
theorem zm2{N:List Str}{x:Str}{i:Nat}(e:zdo N x 0=some i):N[i]?=some x:=by
 obtain⟨j,h1,h2⟩:=zhg e
 rw[show i=j by omega];exact h2
noncomputable def visK:Option NameKind->Bool
 |some .local|some .cell|some .free=>true
 |_=>false
noncomputable def locK(all:Bool):Option NameKind->Bool
 |some .local=>true
 |some .cell=>all
 |_=>false
noncomputable def okN(x:Str):Bool:=!(x==("__debug__" : Str)) && !(x==("__classdict__" : Str)) && !(x==("__name__" : Str)) && !(x==("" : Str))
theorem zxo{x:Str}(h:okN x=true):x≠"":=by
 unfold okN at h
 simp only[vab,Bool.not_eq_true']at h
 exact λz=>by rw[z]at h;simp at h
theorem zfg{x:Str}(h:okN x=true):(x==("__debug__" : Str))=false/\(x==("__classdict__" : Str))=false/\x≠"__name__":=by
 unfold okN at h
 simp only[vab,Bool.not_eq_true']at h
 exact⟨h.1.1.1,h.1.1.2,λz=>by rw[z]at h;simp at h⟩
noncomputable def cstW(K:PySem.W.Frag):Nat->Value->Option W
 |0,_=>none
 |n+1,v=>match v with
  |.none=>some .non
  |.bool b=>some (.bl b)
  |.int i _=>some (.int i)
  |.str x _=>some (.str x)
  |.ref a=>(match K.lookup a with
   |some o=>(match o.cls,o.dict,o.data with
    |.type t,none,.seq its _=>if t == "tuple" && Nat.ble its.size 1000 then(mapO (cstW K n) its.toList).map .tup else none
    |_,_,_=>none)
   |none=>none)
  |_=>none
theorem zm3{K:PySem.W.Frag}{f:Value->Option W}(ih:∀v w,f v=some w->∃x,RelV x v/\∀m n H,VRep K m n H x w):∀{us:List Value} {ws:List W},mapO f us=some ws->∃xs,Vals xs us/\∀m n H,VReps K m n H xs ws
 |[],_,e=>by cases e;exact⟨[],.nil,λ_ _ _=>.nil⟩
 |u::us,ws,e=>by
  unfold mapO at e
  split at e
  .rename_i b hb
   split at e
   .rename_i bs hbs
    cases e
    obtain⟨x,h1,h2⟩:=ih u b hb
    obtain⟨xs,h3,h4⟩:=zm3 ih hbs
    exact⟨x::xs,.cons h1 h3,λm n H=>.cons (h2 m n H) (h4 m n H)⟩
   .cases e
  .cases e
theorem zrr{K:PySem.W.Frag}:∀(n:Nat) (v:Value) (w:W),cstW K n v=some w->∃x,RelV x v/\∀m n H,VRep K m n H x w
 |0,_,_,e=>by cases e
 |n+1,v,w,e=>by
  unfold cstW at e
  split at e
  .cases e;exact⟨.non,rfl,λ_ _ _=>.non⟩
  .cases e;exact⟨.bl _,rfl,λ_ _ _=>.bl _⟩
  .cases e;exact⟨.int _,⟨_,rfl⟩,λ_ _ _=>.int _⟩
  .cases e;exact⟨.str _,⟨_,rfl⟩,λ_ _ _=>.str _⟩
  .rename_i a
   split at e
   .rename_i o ho
    split at e
    .rename_i t its nn hc hdd hd
     split at e
     .rename_i hz
      rw[vab]at hz
      have ht:t = "tuple":=by simpa using hz.1
      subst ht
      cases z:mapO (cstW K n) its.toList with
      |none=>rw[z]at e;cases e
      |some ws=>
       rw[z]at e
       cases e
       obtain⟨xs,h3,h4⟩:=zm3 (zrr n) z
       exact⟨.ref a,rfl,λm n H=>.tup (.inr ⟨o,its,nn,ho,hc,hdd,hd,ve0 (zg7 (va3 hz.2)),h3⟩) (h4 m n H)⟩
     .cases e
    .cases e
   .cases e
  .cases e
noncomputable def cL(f:Expr->Option E):List Expr->Option E
 |[]=>some .nil
 |e::es=>match f e,cL f es with
  |some a,some r=>some (.cons a r)
  |_,_=>none
noncomputable def fnAt(K:PySem.W.Frag)(x:Str):Option (Addr×Obj×FuncData):=match refAt K x with
 |some f=>(match K.lookup f with
  |some o=>(match o.data with
   |.func fd=>some (f,o,fd)
   |_=>none)
  |none=>none)
 |none=>none
noncomputable def zba:Arguments->Option (List Arg)
 |⟨[],args,none,[],[],none,_⟩=>some args
 |_=>none
noncomputable def isNone:Value->Bool
 |.none=>true
 |_=>false
noncomputable def zgb:Data->Bool
 |.seq xs _=>(match xs.toList with
  |[v]=>isNone v
  |_=>false)
 |_=>false
noncomputable def noneD(K:PySem.W.Frag):Value->Bool
 |.ref t=>(match K.lookup t with
  |some o=>zgb o.data
  |none=>false)
 |_=>false
noncomputable def zeo(K:PySem.W.Frag)(x:Str)(n:Nat):Bool:=match fnAt K x with
 |some (_,_,fd)=>noneD K fd.defaults&&Nat.beq (n+1) fd.params.args.length
 |none=>false
noncomputable def hasD(K:PySem.W.Frag)(x:Str):Bool:=match fnAt K x with
 |some (_,_,fd)=>noneD K fd.defaults
 |none=>false
theorem zla{K:PySem.W.Frag}{x:Str}{n:Nat}(h:zeo K x n=true):hasD K x=true:=by
 unfold zeo at h
 unfold hasD
 split at h
 .rw[vab]at h;exact h.1
 .cases h
noncomputable def padE:E->E
 |.nil=>.cons (.cst .non) .nil
 |.cons a r=>.cons a (padE r)
 |e=>e
noncomputable def argsE:E->Bool
 |.nil=>true
 |.cons _ r=>argsE r
 |_=>false
theorem zxp{cl:Call}:∀{a:E},argsE a=true->∀(ρ:En) (h:VH),ev cl (padE a) ρ h=(ev cl a ρ h).bind λy h=>match y with|.tup ys=>.ok (.tup (ys++[.non])) h|_=>.no:=by
 intro a
 induction a with
 |nil=>intro _ ρ h;rfl
 |cons x r _ ih=>
  intro ha ρ h
  have ih:=ih ha
  simp only[padE,ev]
  cases ev cl x ρ h with
  |no=>rfl
  |ex _ _=>rfl
  |ok w h1=>
   show Res.bind (ev cl (padE r) ρ h1) _=Res.bind (Res.bind (ev cl r ρ h1) _) _
   rw[ih]
   cases ev cl r ρ h1 with
   |no=>rfl
   |ex _ _=>rfl
   |ok y h2=>cases y<;>rfl
 |_=>intro ha;cases ha
theorem zm4{f:Expr->Option E}:∀{es:List Expr} {a:E},cL f es=some a->argsE a=true
 |[],_,h=>by cases h;rfl
 |e::es,a,h=>by
  unfold cL at h
  split at h
  .rename_i x r h1 h2
   cases h
   show argsE r=true
   exact zm4 h2
  .cases h
noncomputable def cPs(f:Expr->Option E):List (Option Expr)->List Expr->Option E
 |[],[]=>some .nil
 |some k::ks,v::vs=>match f k,f v,cPs f ks vs with
  |some a,some b,some r=>some (.cons a (.cons b r))
  |_,_,_=>none
 |_,_=>none
noncomputable def cB(and:Bool)(f:Expr->Option E):List Expr->Option E
 |[]=>none
 |[a]=>f a
 |a::b::r=>match f a,cB and f (b::r)with
  |some x,some y=>some (if and then .and x y else .or x y)
  |_,_=>none
noncomputable def cO(f:Expr->Option E):Option Expr->Option (Bool×E)
 |none=>some (false,.cst .non)
 |some e=>(f e).map λc=>(true,c)
noncomputable def zep(K:PySem.W.Frag)(C:CC)(x:Str):Bool:=C.names.lookup x==some .globalImplicit&& (match PySem.W.nsIn K mainGlobals x with|some none=>true|_=>false)
noncomputable def tyOf(x:Str):Option Ty:=
 if x==("int" : Str)then some .int else if x==("bool" : Str)then some .bool else if x==("tuple" : Str)then some .tuple else if x==("list" : Str)then some .list else if x==("str" : Str)then some .str else if x==("dict" : Str)then some .dict else none
noncomputable def lrOf(f:Str)(args:List Expr):Option Expr:=if f==("list" : Str)then(match args with
 |[.Call (.Name g _) [a] [] _]=>if g==("range" : Str)then some a else none
 |_=>none)else none
noncomputable def biOf(x:Str):Option Bi:=
 if x==("len" : Str)then some .len else if x==("list" : Str)then some .list else if x==("tuple" : Str)then some .tuple else if x==("int" : Str)then some .int else if x==("abs" : Str)then some .abs else if x==("min" : Str)then some .min else if x==("all" : Str)then some .all else none
noncomputable def zrs:Expr->Bool
 |.Tuple ..=>true
 |_=>false
noncomputable def okW:Kd->Expr->Bool
 |.enm,t=>zrs t
 |.zip,t=>zrs t
 |_,_=>true
noncomputable def nmIx(C:CC):Expr->Option Nat
 |.Name x _=>if okN x&&locK C.fnAll (C.names.lookup x)then zdo C.N x 0 else none
 |_=>none
noncomputable def cTg(C:CC):Expr->Option Tg
 |.Name x p=>(nmIx C (.Name x p)).map .one
 |.Tuple es _ _=>(mapO (nmIx C) es).map .many
 |_=>none
noncomputable def ownOf(sc:Scope):List Str:=(sc.names.filter λy=>y.2 == .local && !(y.1==(".0" : Str))).map (·.1)
noncomputable def za5(sc:Scope):List Str:=(sc.names.filter λy=>y.2 == .free).map (·.1)
noncomputable def zeq(C:CC)(sc:Scope)(ix:List Nat):Bool:=
 decide (sc.kind=.function)&&sc.names.all (λy=>decide (y.2≠.cell))&&sc.names.all (λy=>decide (y.2=.local->sc.names.lookup y.1=some .local)) &&
 (ownOf sc).all (λx=>decide (sc.names.lookup x=some .local))&&sc.names.all (λy=>decide (y.2=.free->C.names.lookup y.1=some .cell\/C.names.lookup y.1=some .free))&&decide (ix.length=(za5 sc).length) &&
 ((List.range (za5 sc).length).all λk=>match(za5 sc)[k]?,ix[k]? with
   |some x,some j=>decide (C.N[j]?=some x)&&decide (sc.names.lookup x=some .free)
   |_,_=>false)&&decide (ownOf sc++za5 sc).Nodup
noncomputable def inC(sc:Scope):CC:=⟨ownOf sc++za5 sc,sc.names,false⟩
mutual
noncomputable def cE(K:PySem.W.Frag)(T:List Str):Nat->CC->Expr->Option E
 |0,_,_=>none
 |n+1,C,e=>match e with
  |.Name x _=>if okN x then(if visK (C.names.lookup x)then(zdo C.N x 0).map .var
   else if C.names.lookup x==some .globalImplicit then(match PySem.W.nsIn K mainGlobals x with
    |some (some v)=>(cstW K 8 v).map .cst
    |_=>none)else none)else none
  |.Constant c _ _=>(match c with
   |.int i=>some (.cst (.int i))
   |.bool b=>some (.cst (.bl b))
   |.none=>some (.cst .non)
   |.str x=>some (.cst (.str x))
   |_=>none)
  |.Tuple es _ _=>(cL (cE K T n C) es).map .tup
  |.List es _=>(cL (cE K T n C) es).map .lst
  |.Dict ks vs _=>if Nat.ble ks.length 15&&Nat.beq ks.length vs.length&&ks.all (·.isSome)then(cPs (cE K T n C) ks vs).map .dsp else none
  |.BinOp a O b _=>(match opOf O,cE K T n C a,cE K T n C b with
   |some o,some x,some y=>some (.op o x y)
   |_,_,_=>none)
  |.UnaryOp o a _=>(match o with
   |.Not=>(cE K T n C a).map .not
   |.USub=>(cE K T n C a).map .neg
   |_=>none)
  |.BoolOp o es _=>(match o with
   |.And=>cB true (cE K T n C) es
   |.Or=>cB false (cE K T n C) es)
  |.Compare a Os bs _=>(match Os,bs with
   |[O],[b]=>if zcc b then(match cpOf O,cE K T n C a,cE K T n C b with
   |some c,some x,some y=>some (.cmp c x y)
   |_,_,_=>none)else none
   |[O,O'],[b,c]=>if zcc c then(match cpOf O,cpOf O',cE K T n C a,cE K T n C b,cE K T n C c with
   |some o,some o',some x,some y,some z=>some (.chn o o' x y z)
   |_,_,_,_,_=>none)else none
   |_,_=>none)
  |.IfExp c a b _=>(match cT K T n C c,cE K T n C a,cE K T n C b with
   |some z,some x,some y=>some (.ite z x y)
   |_,_,_=>none)
  |.Subscript a b _=>(match b with
   |.Slice lo hi st _=>(match st with
    |none=>(match cE K T n C a,cO (cE K T n C) lo,cO (cE K T n C) hi with
   |some x,some (bl,l),some (bh,u)=>some (.slc x bl l bh u)
   |_,_,_=>none)
    |some _=>none)
   |b=>if zen b then(match cE K T n C a,cE K T n C b with
   |some x,some y=>some (.idx x y)
   |_,_=>none)else none)
  |.Call fn args kw pos=>(match kw with
   |[]=>(match fn with
    |.Name f _=>if okN f&&C.names.lookup f==some .globalImplicit then(match PySem.W.nsIn K mainGlobals f with
     |some none=>if f==("isinstance" : Str)then(match args with
      |[a,.Name t _]=>(match tyOf t,cE K T n C a with
       |some ty,some x=>if okN t&&zep K C t then some (.isi ty x)else none
       |_,_=>none)
      |_=>none)
      else(match biOf f,args with
       |some b,_::_=>(cL (cE K T n C) args).map (.bi b)
       |_,_=>none)
     |some (some _)=>(match zdo T f 0 with
      |some i=>if zeo K f args.length && !args.isEmpty then(cL (cE K T n C) args).map (λa=>.call i (padE a))else(cL (cE K T n C) args).map (.call i)
      |none=>none)
     |none=>none)else none
    |.Attribute o mth ap=>if zio o&& (ap.endLine==pos.line)then(match cE K T n C o,args with
     |some x,[a]=>if mth==("append" : Str)then(cE K T n C a).map λy=>.mt .append x (.cons y .nil)else none
     |_,_=>none)else none
    |_=>none)
   |_=>none)
  |.ListComp elt gs sc _=>(match gs with
   |[⟨tg,iter,ifs,0⟩]=>(match mapO (λx=>zdo C.N x 0) (za5 sc)with
    |some ix=>if zeq C sc ix then(match cW K T n C iter,cTg (inC sc) tg,(match ifs with|[]=>some (.cst (.bl true))|[c]=>cT K T n (inC sc) c|_=>none),cE K T n (inC sc) elt with
     |some (kd,a),some t,some c,some e=>if okW kd tg then some (.lc kd a t (ownOf sc).length ix c e)else none
     |_,_,_,_=>none)else none
    |none=>none)
   |_=>none)
  |_=>none
noncomputable def cT(K:PySem.W.Frag)(T:List Str):Nat->CC->Expr->Option E
 |0,_,_=>none
 |n+1,C,e=>match e with
  |.Compare a Os bs _=>(match Os,bs with
   |[O],[b]=>if zcc b then(match cpOf O,cE K T n C a,cE K T n C b with
   |some c,some x,some y=>some (.cmp c x y)
   |_,_,_=>none)else none
   |[O,O'],[b,c]=>if zcc c then(match cpOf O,cpOf O',cE K T n C a,cE K T n C b,cE K T n C c with
   |some o,some o',some x,some y,some z=>some (.chn o o' x y z)
   |_,_,_,_,_=>none)else none
   |_,_=>none)
  |.UnaryOp o a _=>(match o with
   |.Not=>(cT K T n C a).map .not
   |_=>none)
  |.BoolOp o es _=>(match o with
   |.And=>cB true (cT K T n C) es
   |.Or=>cB false (cT K T n C) es)
  |.Name x p=>(cE K T n C (.Name x p)).map .tru
  |.Call f as ks p=>(cE K T n C (.Call f as ks p)).map .tru
  |.Subscript a b p=>(cE K T n C (.Subscript a b p)).map .tru
  |_=>none
noncomputable def cW(K:PySem.W.Frag)(T:List Str):Nat->CC->Expr->Option (Kd×E)
 |0,_,_=>none
 |n+1,C,e=>match e with
  |.Call (.Name f p) args [] pos=>if f==("range" : Str)then(if zep K C f then(match args with
   |[a]=>(cE K T n C a).map λx=>(.rng1,.cons x .nil)
   |[a,b]=>(match cE K T n C a,cE K T n C b with
    |some x,some y=>some (.rng2,.cons x (.cons y .nil))
    |_,_=>none)
   |_=>none)else none)
   else if f==("enumerate" : Str)then(if zep K C f then(match args with
    |[a]=>(cE K T n C a).map λx=>(.enm,x)
    |_=>none)else none)
   else if f==("reversed" : Str)then(if zep K C f then(match args with
    |[a]=>(cE K T n C a).map λx=>(.rev,x)
    |_=>none)else none)
   else if f==("zip" : Str)then(if zep K C f then(match args with
    |[a,b]=>(match cE K T n C a,cE K T n C b with
     |some x,some y=>some (.zip,.cons x (.cons y .nil))
     |_,_=>none)
    |_=>none)else none)
   else(cE K T n C (.Call (.Name f p) args [] pos)).map λx=>(.seq,x)
  |.Set ..=>none
  |e=>(cE K T n C e).map λx=>(.seq,x)
end
noncomputable def cSs(f:Stmt->Option S):List Stmt->Option S
 |[]=>some .skip
 |s::r=>match f s,cSs f r with
  |some a,some b=>some (.seq a b)
  |_,_=>none
noncomputable def cS(K:PySem.W.Frag)(T:List Str)(d:Nat):Nat->CC->Stmt->Option S
 |0,_,_=>none
 |n+1,C,s=>match s with
  |.Pass _=>some .skip
  |.Break _=>some .brk
  |.Continue _=>some .cnt
  |.Raise ..=>some .no
  |.Return r _=>(match r with
   |none=>some (.ret (.cst .non))
   |some e=>(cE K T d C e).map .ret)
  |.Expr e _=>if zjt e then(cE K T d C e).map .expr else none
  |.Assign l e _=>(match l with
   |[t]=>(match t with
    |.Name x p=>(match nmIx C (.Name x p),cE K T d C e with
    |some i,some c=>some (.set i c)
    |_,_=>none)
    |.Tuple ts _ _=>if noTup e then(match mapO (nmIx C) ts,cE K T d C e with
    |some is,some c=>some (.unp is c)
    |_,_=>none)else none
    |.Subscript o i _=>if zen i then(match cE K T d C o,cE K T d C i,cE K T d C e with
    |some x,some y,some z=>some (.put x y z)
    |_,_,_=>none)else none
    |_=>none)
   |_=>none)
  |.AugAssign t O e _=>(match t with
   |.Name x p=>(match nmIx C (.Name x p),ipOf O,cE K T d C e with
    |some i,some o,some c=>some (.aug i o c)
    |_,_,_=>none)
   |_=>none)
  |.If c a b _=>(match cT K T d C c,cSs (cS K T d n C) a,cSs (cS K T d n C) b with
   |some z,some x,some y=>some (.ite z x y)
   |_,_,_=>none)
  |.For tg it b el _=>(match el with
   |[]=>(match cW K T d C it,cTg C tg,cSs (cS K T d n C) b with
    |some (kd,a),some t,some x=>if okW kd tg then some (.for kd a t x)else none
    |_,_,_=>none)
   |_=>none)
  |.While c b el _=>(match el with
   |[]=>(match cT K T d C c,cSs (cS K T d n C) b with
    |some z,some x=>some (.whl z x)
    |_,_=>none)
   |_=>none)
  |_=>none
structure XOk(X:Cx)(C:CC)(T:List Str)(F:Nat->Option Fn)(k:Nat):Prop where
 hN:X.N=C.N
 nd:C.N.Nodup
 vis:∀x,visK (C.names.lookup x)=true->Vis X.env.scope x
 loc:∀x,locK C.fnAll (C.names.lookup x)=true->Loc X.env.scope x/\(X.fn x=true\/X.env.scope.names.lookup x=some .local)
 gl:∀x,C.names.lookup x=some .globalImplicit->Gl X x
 cf:∀x,(C.names.lookup x=some .cell\/C.names.lookup x=some .free)->X.env.kindOf x=some .cell\/X.env.kindOf x=some .free
 calm:X.calm=true
 room:Room k X.A
 xe:X.xe=λ_ _=>False
 kfn:X.env.scope.kind=.function
 mgs:∀x v,PySem.W.nsIn X.K mainGlobals x=some (some v)->X.mg x=some v
 mgn:∀x,PySem.W.nsIn X.K mainGlobals x=some none->X.mg x=none
 fns:∀(i:Nat)(x:Str),T[i]?=some x->x≠""->∃f fd ps fn,refAt X.K x=some f/\FnOk X.prog X.w X.K X.mg X.base CX0 k f fd ps (spV X.K ps.length (run F k i))/\PySem.W.keepIn X.K (.ref f)=true/\Binds X.K fd ps []/\F i=some fn/\fn.ps=ps.length/\(hasD X.K x=true->Binds X.K fd ps [.none])
section
variable{X:Cx}{C:CC}{T:List Str}{F:Nat->Option Fn}{k:Nat}
theorem XOk.u65(O:XOk X C T F k):X.A.units+65<cLine:=by have:=O.room.un;omega
theorem XOk.u2(O:XOk X C T F k):X.A.units+2<cLine:=Nat.lt_of_le_of_lt (Nat.add_le_add_left (by decide:2<=64) _) O.room.units
theorem zb0(O:XOk X C T F k){x:Str}(h:zep X.K C x=true):Gl X x/\X.mg x=none:=by
 unfold zep at h
 rw[vab]at h
 refine⟨O.gl x (by simpa using h.1),O.mgn x ?_⟩
 have h2:=h.2
 split at h2
 .assumption
 .cases h2
theorem nm_ok(O:XOk X C T F k){e:Expr}{i:Nat}(h:nmIx C e=some i):NmOk X e i:=by
 unfold nmIx at h
 split at h
 .split at h
  .rename_i hc
   rw[vab]at hc
   obtain⟨h1,h2⟩:=O.loc _ hc.2
   exact⟨_,_,rfl,by rw[O.hN];exact zm2 h,h1,h2⟩
  .cases h
 .cases h
theorem zm5(O:XOk X C T F k):∀{es:List Expr} {is:List Nat},mapO (nmIx C) es=some is->Paired (NmOk X) es is
 |[],_,h=>by cases h;exact .nil
 |e::es,is,h=>by
  unfold mapO at h
  split at h
  .rename_i b hb
   split at h
   .rename_i bs hbs
    cases h
    exact .cons (nm_ok O hb) (zm5 O hbs)
   .cases h
  .cases h
theorem tg_ok(O:XOk X C T F k){e:Expr}{t:Tg}(h:cTg C e=some t):PG X e (lftG X.K t):=by
 unfold cTg at h
 split at h
 .rename_i x p
  cases z:nmIx C (.Name x p)with
  |none=>rw[z]at h;cases h
  |some i=>
   rw[z]at h;cases h
   obtain⟨x',p',e,h1,h2,h3⟩:=nm_ok O z
   cases e
   exact zw8 (O.hN▸O.nd) h1 h2 h3
 .rename_i es kx p
  cases z:mapO (nmIx C) es with
  |none=>rw[z]at h;cases h
  |some is=>rw[z]at h;cases h;exact zmv O.calm (O.hN▸O.nd) (zm5 O z)
 .cases h
theorem cL_ok{f:Expr->Option E}{cl:Call}(ih:∀e c,f e=some c->SE X e (ev cl c)/\zaw e=true):∀{es:List Expr} {c:E},cL f es=some c->SA X es (ev cl c)/\es.all zaw=true
 |[],_,h=>by cases h;exact⟨zjn,rfl⟩
 |e::es,c,h=>by
  unfold cL at h
  split at h
  .rename_i a r ha hr
   cases h
   obtain⟨h1,h2⟩:=ih e a ha
   obtain⟨h3,h4⟩:=cL_ok ih hr
   exact⟨zda h1 h3 (zah h2),by rw[vdc,h2,h4];rfl⟩
  .cases h
theorem zrt{f:Expr->Option E}{cl:Call}{pos:Pos}(ih:∀e c,f e=some c->SE X e (ev cl c)/\zaw e=true):∀{ks:List (Option Expr)} {vs:List Expr} {c:E},cPs f ks vs=some c->SPs X pos ks vs (ev cl c)
 |[],[],_,h=>by cases h;exact ztg
 |[],_::_,_,h=>by cases h
 |none::_,_,_,h=>by cases h
 |some _::_,[],_,h=>by cases h
 |some a::ks,v::vs,c,h=>by
  unfold cPs at h
  split at h
  .rename_i x y r hx hy hr
   cases h
   exact zpw (ih _ _ hx).1 (ih _ _ hy).1 (zrt ih hr)
  .cases h
theorem cB_ok{f:Expr->Option E}{cl:Call}{pos:Pos}(ih:∀e c,f e=some c->SE X e (ev cl c)/\zaw e=true):∀{es:List Expr} {c:E},(cB true f es=some c->SE X (.BoolOp .And es pos) (ev cl c))/\(cB false f es=some c->SE X (.BoolOp .Or es pos) (ev cl c))
 |[],_=>⟨(λh=>nomatch h),(λh=>nomatch h)⟩
 |[a],c=>⟨λh=>zrf (ih a c h).1,λh=>zrf (ih a c h).1⟩
 |a::b::r,c=>by
  refine⟨λh=>?_,λh=>?_⟩
  .unfold cB at h
   split at h
   .rename_i x y hx hy
    cases h
    exact zwo (ih a x hx).1 ((cB_ok ih).1 hy)
   .cases h
  .unfold cB at h
   split at h
   .rename_i x y hx hy
    cases h
    exact se_or (ih a x hx).1 ((cB_ok ih).2 hy)
   .cases h
theorem zjy{f:Expr->Option E}{cl:Call}{pos:Pos}(ih:∀e c,f e=some c->ST X e (ev cl c)):∀{es:List Expr} {c:E},(cB true f es=some c->SW X (.BoolOp .And es pos) (ev cl c))/\(cB false f es=some c->SW X (.BoolOp .Or es pos) (ev cl c))
 |[],_=>⟨(λh=>nomatch h),(λh=>nomatch h)⟩
 |[a],c=>⟨λh=>zre (ih a c h),λh=>zre (ih a c h)⟩
 |a::b::r,c=>by
  refine⟨λh=>?_,λh=>?_⟩
  .unfold cB at h
   split at h
   .rename_i x y hx hy
    cases h
    exact zwn (ih a x hx) ((zjy ih).1 hy)
   .cases h
  .unfold cB at h
   split at h
   .rename_i x y hx hy
    cases h
    exact sw_or (ih a x hx) ((zjy ih).2 hy)
   .cases h
theorem cO_ok{f:Expr->Option E}{cl:Call}(ih:∀e c,f e=some c->SE X e (ev cl c)/\zaw e=true){o:Option Expr}{b:Bool}{c:E}(h:cO f o=some (b,c)):PO X o (lftO X.K b (ev cl c)):=by
 unfold cO at h
 split at h
 .cases h;exact ztc
 .rename_i e
  cases z:f e with
  |none=>rw[z]at h;cases h
  |some c'=>rw[z]at h;cases h;exact ztd (ih _ _ z).1
theorem ztr{x:Str}{t:Ty}(h:tyOf x=some t):bootBuiltins x=some (.type (tyN t)):=by
 unfold tyOf at h
 split at h
 .rename_i e;cases h;rw[show x = "int" by simpa using e];exact PyProof.Rows.boot_int
 split at h
 .rename_i e;cases h;rw[show x = "bool" by simpa using e];decide +kernel
 split at h
 .rename_i e;cases h;rw[show x = "tuple" by simpa using e];exact PyProof.Rows.boot_tuple
 split at h
 .rename_i e;cases h;rw[show x = "list" by simpa using e];exact PyProof.Rows.boot_list
 split at h
 .rename_i e;cases h;rw[show x = "str" by simpa using e];decide +kernel
 split at h
 .rename_i e;cases h;rw[show x = "dict" by simpa using e];decide +kernel
 .cases h
theorem bi_ok{x:Str}{b:Bi}{e:Expr}{es:List Expr}{fa:FE}{p pos:Pos}(h:biOf x=some b)(hg:Gl X x)(hm:X.mg x=none)(hn:okN x=true)(hc:X.calm=true)(ha:SA X (e::es) fa)(hs:(e::es).all zaw=true):SE X (.Call (.Name x p) (e::es) [] pos) (gArg fa (biW b)):=by
 obtain⟨n1,_,n2⟩:=zfg hn
 unfold biOf at h
 split at h
 .rename_i z
  cases h
  have z:x = "len":=by simpa using z
  subst z
  exact zd1 (zg3.or zml) zwt hg hm PySem.boot_len ha hs n2 n1
 split at h
 .rename_i z
  cases h
  have z:x = "list":=by simpa using z
  subst z
  exact zem zg4 zte hg hm PyProof.Rows.boot_list ha hs n2 n1
 split at h
 .rename_i z
  cases h
  have z:x = "tuple":=by simpa using z
  subst z
  exact zem (zf0.or (zmm hc)) zpu hg hm PyProof.Rows.boot_tuple ha hs n2 n1
 split at h
 .rename_i z
  cases h
  have z:x = "int":=by simpa using z
  subst z
  exact zem zlw zwu hg hm PyProof.Rows.boot_int ha hs n2 n1
 split at h
 .rename_i z
  cases h
  have z:x = "abs":=by simpa using z
  subst z
  exact zd1 zo6 zwv hg hm (by decide +kernel) ha hs n2 n1
 split at h
 .rename_i z
  cases h
  have z:x = "min":=by simpa using z
  subst z
  exact zd1 (zlv hc) zww hg hm (by decide +kernel) ha hs n2 n1
 split at h
 .rename_i z
  cases h
  have z:x = "all":=by simpa using z
  subst z
  exact zd1 (zpo hc) zwx hg hm (by decide +kernel) ha hs n2 n1
 .cases h
theorem zlb{b:Expr}(h:zen b=true):zie b:=λo i=>by cases b<;>first|rfl|cases h
end
section
variable{X:Cx}{C:CC}{T:List Str}{F:Nat->Option Fn}{k:Nat}
theorem za1{env:Env}{kd:NameKind}(hk:kd≠.free):∀{l:List (Str×NameKind)} {x:Str},l.lookup x=some kd->
 (l.map λ(n,k)=>if(k==NameKind.free&&env.scope.kind == .function&&env.kindOf n==some .cell)then(n,NameKind.cell)else(n,k)).lookup x=some kd
 |[],_,h=>by cases h
 |(n,j)::r,x,h=>by
  rw[vam]
  simp only[va4]at h
  by_cases hx:(x==n)=true
  .simp only[hx]at h
   cases h
   have:(kd==NameKind.free)=false:=by simpa using hk
   simp only[this,vec,vap,vbk,va4,hx]
  .have hx':(x==n)=false:=by simpa using hx
   simp only[hx']at h
   have ih:=za1 (env:=env) hk (l:=r) (x:=x) h
   by_cases hc':(j==NameKind.free&&env.scope.kind == .function&&env.kindOf n==some .cell)=true
   .simp only[hc',vbe,va4,hx'];exact ih
   .have hcf:(j==NameKind.free&&env.scope.kind == .function&&env.kindOf n==some .cell)=false:=by simpa using hc'
    simp only[hcf,vap,vbk,va4,hx'];exact ih
theorem zfh(O:XOk X C T F k){sc:Scope}{ix:List Nat}(h:zeq C sc ix=true):CompScope X (ownOf sc) (za5 sc) ix sc/\(ownOf sc++za5 sc).Nodup:=by
 unfold zeq at h
 simp only[vab,vaw,vbp]at h
 obtain⟨⟨⟨⟨⟨⟨⟨h1,h2⟩,h3⟩,h4⟩,h5⟩,h6⟩,h7⟩,h8⟩:=h
 refine⟨⟨h1,h2,h3,h4,λy hy e=>O.cf _ (h5 y hy e),λq x e=>?_,h6⟩,h8⟩
 have hk:q< (za5 sc).length:=(vau.mp e).1
 have:=h7 q (vca.mpr hk)
 rw[e]at this
 cases z:ix[q]? with
 |none=>rw[z]at this;cases this
 |some j=>
  rw[z]at this
  simp only[vab,vaw]at this
  exact⟨j,rfl,by rw[O.hN];exact this.1,this.2⟩
theorem ziu(O:XOk X C T F k){sc:Scope}{ix:List Nat}(h:zeq C sc ix=true)(D:Addr)(s₀:Shared)(H₀:Hp)(ex:List Addr):XOk (X.comp (ownOf sc++za5 sc) sc D s₀ H₀ ex) (inC sc) T F k:=by
 obtain⟨S,nd⟩:=zfh O h
 refine⟨rfl,nd,λx hx=>?_,λx hx=>?_,λx hx=>?_,λx hx=>?_,O.calm,O.room,rfl,S.kind,O.mgs,O.mgn,O.fns⟩
 .have hx:visK (sc.names.lookup x)=true:=hx
  cases z:sc.names.lookup x with
  |none=>rw[z]at hx;cases hx
  |some kd=>
   cases kd with
   | «local»=>exact .inl (za1 (by decide) z)
   |cell=>exact .inr (.inl (za1 (by decide) z))
   |free=>
    have:=zbd (env:=X.env) O.kfn z
    by_cases hc:X.env.kindOf x=some .cell
    .rw[if_pos hc]at this;exact .inr (.inl this)
    .rw[if_neg hc]at this;exact .inr (.inr this)
   |globalExplicit=>rw[z]at hx;cases hx
   |globalImplicit=>rw[z]at hx;cases hx
 .have hx:locK false (sc.names.lookup x)=true:=hx
  cases z:sc.names.lookup x with
  |none=>rw[z]at hx;cases hx
  |some kd=>
   cases kd with
   | «local»=>exact⟨.inl (za1 (by decide) z),.inr (za1 (by decide) z)⟩
   |cell=>rw[z]at hx;cases hx
   |free=>rw[z]at hx;cases hx
   |globalExplicit=>rw[z]at hx;cases hx
   |globalImplicit=>rw[z]at hx;cases hx
 .exact za1 (by decide) hx
 .have hx:sc.names.lookup x=some .cell\/sc.names.lookup x=some .free:=hx
  rcases hx with z|z
  .exact .inl (za1 (by decide) z)
  .have:=zbd (env:=X.env) O.kfn z
   by_cases hc:X.env.kindOf x=some .cell
   .rw[if_pos hc]at this;exact .inl this
   .rw[if_neg hc]at this;exact .inr this
end
end RF
namespace L2
open PySem PySem.Spec PyProof.Rows
theorem za6:Slot "reversed" "__next__" "reversed.__next__":=
 .of (owner:="reversed") (n:="__next__") (by rw[vfh,vd4];kernel_rfl) (by decide +kernel) (by decide +kernel) (by decide +kernel)
  (by first|exact .inl (by decide +kernel)|exact .inr (by decide +kernel)) (by rw[vfm];kernel_rfl)
theorem zdp:Slot "reversed" "__iter__" "reversed.__iter__":=
 .of (owner:="reversed") (n:="__iter__") (by rw[vfh,vd4];kernel_rfl) (by decide +kernel) (by decide +kernel) (by decide +kernel)
  (by first|exact .inl (by decide +kernel)|exact .inr (by decide +kernel)) (by rw[vfm];kernel_rfl)
theorem zhh:Slot "reversed" "__init__" "object.__init__":=
 .of (owner:="object") (n:="__init__") (by rw[vfh,vd4];kernel_rfl) (by decide +kernel) (by decide +kernel) (by decide +kernel)
  (by first|exact .inl (by decide +kernel)|exact .inr (by decide +kernel)) (by rw[vfm];kernel_rfl)
theorem zjz:Manifest.owners.lookup (String.ofList ['d','e','s','r','e','v','e','r'].reverse)=some Manifest.sig_reversed:=by kernel_rfl
theorem zdq(a:Value):argsOk "reversed.__next__" ⟨[a],[]⟩:=by
 unfold argsOk;rw[signature?_of (id:="reversed.__next__") (n:=['_','_','t','x','e','n','_','_']) (o:=['d','e','s','r','e','v','e','r']) (by kernel_rfl) zjz];kernel_rfl
theorem zhi(a:Value):argsOk "reversed.__iter__" ⟨[a],[]⟩:=by
 unfold argsOk;rw[signature?_of (id:="reversed.__iter__") (n:=['_','_','r','e','t','i','_','_']) (o:=['d','e','s','r','e','v','e','r']) (by kernel_rfl) zjz];kernel_rfl
theorem zcs:entryFor table "reversed.__next__" = some Builtin.«reversed.__next__»:=entryFor_of_tree (by kernel_rfl)
theorem zgc:entryFor table "reversed.__iter__" = some Builtin.«dict_keyiterator.__iter__»:=
 entryFor_alias (id':="dict_keyiterator.__iter__") (by kernel_rfl) (by first|rfl|decide +kernel|(unfold String.splitOn;simp +decide [String.splitOnAux])) (by decide +kernel) (by kernel_rfl)
theorem zm6:TypeCalled "reversed" "reversed.__new__" "object.__init__":=
 ⟨by decide +kernel,by decide +kernel,⟨_,_,F.mro_reversed⟩,F.made_reversed,by decide +kernel,by rw[vfm];kernel_rfl,zhh⟩
theorem zlc:typeLookup (.type "tuple") "__reversed__" = pure none:=by rw[vfh,vd4];kernel_rfl
noncomputable def IsRv(h:Heap)(I t:Addr)(i:Int):Prop:=∃o,h.get? I=some o/\o.cls=.type "reversed"/\o.data=.fields #[.ref t,rawInt i]
noncomputable def rvObj(t:Addr)(i:Int):Obj:={cls:=.type "reversed",data:=.fields #[.ref t,rawInt i]}
section
variable{prog:Program}{w:World}{A:Around}{E:Value->Shared->Prop}{s:Shared}
theorem IsRv.typeIs{I t:Addr}{i:Int}(x:IsRv s.heap I t i):s.TypeIs (.ref I) "reversed":=let⟨o,ho,hc,_⟩:=x;⟨o,ho,hc⟩
theorem IsRv.mv{h h':Heap}{I t:Addr}{i:Int}(x:IsRv h I t i)(e:∀o,h.get? I=some o->h'.get? I=some o):IsRv h' I t i:=let⟨o,ho,r⟩:=x;⟨o,e _ ho,r⟩
theorem zm7{I t:Addr}{i:Int}{Q:Value->Shared->Prop}(hi:IsRv s.heap I t i)(h:Q (.ref I) s):wpAny (model prog w) A (pyIter (.ref I)) Q E s:=by
 refine wpAny_pyIter_slot hi.typeIs zdp (vbo zdp hi.typeIs zgc ?_ (zhi _))
 show wpAny _ _ (ret (.ref I)) _ _ s
 exact vaf ⟨_,rfl,"reversed",_,hi.typeIs,za6.lookup,h⟩
theorem zts{I t:Addr}{i:Nat}{its:Array Value}{x:Value}{Q:Option Value->Shared->Prop}(hi:IsRv s.heap I t (i:Int))(ht:IsTup s.heap t its)(hx:its[i]?=some x)(hf:(its.size:Int)<2 ^ 63)
 (hQ:∀h' tk,IsRv h' I t ((i:Int)-1)->Heap.SameBut I s.heap h'->Q (some x) {s with heap:=h',toks:=tk}):wpAny (model prog w) A (pyNext (.ref I)) Q E s:=by
 obtain⟨o,ho,hc,hd⟩:=id hi
 have hlt:i<its.size:=by
  rcases vcp i its.size with h|h
  .exact h
  .rw[Array.getElem?_eq_none h]at hx;cases hx
 unfold pyNext
 refine vaa (vem (vbg (name:=Str.ofString "__next__") hi.typeIs za6
  (vbo za6 hi.typeIs zcs ?_ (zdq _))))
 unfold Builtin.«reversed.__next__»
 refine vaa (vde (a:=(Value.ref I,[])) rfl ?_)
 try dsimp only
 refine vaa (vb1 ho hd (x:=.ref t) rfl ?_)
 refine vaa (vb1 ho hd (x:=rawInt (i:Int)) rfl ?_)
 show wpAny _ _ (if(i:Int)<0 then _ else _) _ _ s
 rw[if_neg (by omega)]
 refine vaa (vcx ht.typeIs slot_tuple_getitem.lookup ?_)
 rw[if_neg (by exact vbb)]
 refine vaa (wpAny_mkInt ?_)
 refine vaa (vem (getItem_tuple (s:={s with toks:=s.toks+1}) ht (by omega) (by omega) (seqIndex_of (by omega) (by omega)) (by simpa using hx) ?_))
 try dsimp only
 refine vaa (vb1 ho hd (x:=rawInt (i:Int)) rfl ?_)
 refine vaa (vdt ho hd (by simp) ?_)
 first
 |refine vaf ⟨x,rfl,vaf (hQ _ _ ?_ (vch ..))⟩
 |refine vaa (vaf (vaf ⟨x,rfl,vaf (hQ _ _ ?_ (vch ..))⟩))
 exact⟨_,vc9 _ ho (vd1 (vcl hd _)),(Obj.cls_mapFields ..).trans hc,by
  rw[vcl hd];simp⟩
theorem zxq{I t:Addr}{i:Int}{Q:Option Value->Shared->Prop}(hA:A.handled=none)(hi:IsRv s.heap I t i)(hn:i<0)
 (hQ:∀h',Heap.ExtBut I s.heap h'->Q none {s with heap:=h'}):wpAny (model prog w) A (pyNext (.ref I)) Q E s:=by
 obtain⟨o,ho,hc,hd⟩:=id hi
 unfold pyNext
 refine vaa (vem (vbg (name:=Str.ofString "__next__") hi.typeIs za6
  (vbo za6 hi.typeIs zcs ?_ (zdq _))))
 unfold Builtin.«reversed.__next__»
 refine vaa (vde (a:=(Value.ref I,[])) rfl ?_)
 try dsimp only
 refine vaa (vb1 ho hd (x:=.ref t) rfl ?_)
 refine vaa (vb1 ho hd (x:=rawInt i) rfl ?_)
 show wpAny _ _ (if i<0 then _ else _) _ _ s
 rw[if_pos hn]
 refine vaa (veu ?_)
 refine vaa ?_
 show wpAny _ _ (setField (.ref I) 1 (rawInt (-1)) >>= _) _ _ _
 have o1:=vc9 (h:=s.heap) (Obj.mapFields (·.setIfInBounds 1 (rawInt (-1)))) ho (vd1 (vcl hd _))
 refine vaa (vdt ho hd (by simp) ?_)
 refine vdt o1 (vcl hd _) (by simp) ?_
 first
 |show wpAny _ _ (newExc (.type "StopIteration") [] >>= _) _ _ _
 |(refine vaa ?_;show wpAny _ _ (newExc (.type "StopIteration") [] >>= _) _ _ _)
 refine vaa ?_
 simp only[newExc,newTuple]
 refine vaa (vbj ?_ (by size_fits))
 refine vaa (m:=firstArgMember _ _) (vde (a:=Value.none) (by first|rfl|(simp only[firstArgMember];rfl)) ?_)
 refine vbj ?_ (by size_fits)
 simp only[raiseNew]
 refine vaa (wpAny_handled ?_)
 first|rw[show A.in1.handled=none from hA]|rw[hA]
 refine vaa (vaf (wpAny_throw ?_))
 refine vaa (vc8 (T:="StopIteration") (b:=true) ⟨_,vas _ rfl,rfl⟩ isSubtype_stop ?_)
 refine vaf (hQ _ ?_)
 refine Heap.ExtBut.push (Heap.ExtBut.push ?_ _) _
 intro b ob hb e
 exact(vch ..).extBut b ob hb ((vch ..).extBut b ob hb e)
theorem zm8(l:Addr)(its:Array Value)(n:Nat)(dc:Option Addr)(sl:Array (Option Value))(hf:(its.size:Int)<2 ^ 63) :
 Meets (Builtin.«reversed.__new__» ⟨[.type "reversed",.ref l],[]⟩) (λ_ R s=>s.heap.get? l=some {cls:=.type "tuple",dict:=dc,data:=.seq its n,slots:=sl}/\
  ∀tk,R (.ok (.ret (.ref s.heap.objs.size))) {s with heap:=s.heap.push (rvObj l ((its.size:Int)-1)),toks:=tk}):=
 .of_wp λprog w A R s h=>by
  obtain⟨e,h⟩:=h
  have hl:IsTup s.heap l its:=⟨_,e,rfl,n,rfl⟩
  unfold Builtin.«reversed.__new__»
  refine vaa (vde (newClass_reversed _) ?_)
  try dsimp only
  refine vaa (vde (a:=()) (by first|rfl|kernel_rfl) ?_)
  refine vaa (vde (a:=()) (by first|rfl|kernel_rfl) ?_)
  try dsimp only
  refine vaa (vcx hl.typeIs zlc ?_)
  try dsimp only
  refine vaa ?_
  show wpAny _ _ (isInstance (.ref l) (.type "dict") >>= _) _ _ _
  refine vaa (vc8 hl.typeIs F.sub_tuple_dict ?_)
  try dsimp only
  refine vaa (vcx hl.typeIs slot_tuple_getitem.lookup ?_)
  try dsimp only
  rw[if_pos (by decide)]
  refine vaf ?_
  rw[if_neg (show ¬((!true)=true)from vbb)]
  refine vaa (len_tuple hl hf ?_)
  refine vaa (vde (a:=some (its.size:Int)) rfl ?_)
  try dsimp only
  refine vaa ?_
  show wpAny _ _ (newObj (.type "reversed") (.fields #[.ref l,rawInt ((its.size:Int)-1)])) _ _ _
  exact vbj (vaf ⟨_,rfl,h _⟩)
theorem zp6{l:Addr}{its:Array Value}{Q:Value->Shared->Prop}(hL:s.heap.IsTuple l its)(hf:(its.size:Int)<2 ^ 63)
 (h:∀tk,Q (.ref s.heap.objs.size) {s with heap:=s.heap.push (rvObj l ((its.size:Int)-1)),toks:=tk}) :
 wpAny (model prog w) A (call (.type "reversed") [.ref l]) Q E s:=by
 obtain⟨⟨c,dc,dt,sl⟩,e1,e2,n,e3⟩:=hL
 replace e2:c=.type "tuple":=e2
 replace e3:dt=.seq its n:=e3
 subst e2 e3
 refine callType_new zm6 (by decide) (F.typeCall_reversed_1 _) (F.newCall_reversed_1 _) (λobj=>F.args_object_init_2 obj _) F.entry_reversed_new (zm8 l its n dc sl hf) ⟨e1,λtk=>?_⟩
 exact⟨⟨_,vas _ rfl,rfl⟩,h tk⟩
end
noncomputable def Itv(K:PySem.W.Frag)(a:Addr)(n:Nat):It:=
 ⟨λi H=>∃xs x,SqT K H a xs/\xs.length=n/\xs.reverse[i]?=some x,λi H x H'=>H'=H/\∀xs,SqT K H a xs->xs.reverse[i]?=some x,λi _=>n<=i⟩
theorem zp7{P:Program}{w:World}{K:PySem.W.Frag}{tg:Expr}(a it:Addr)(n:Nat)(hn:(n:Int)<2 ^ 63):Turn P w K tg (Itv K a n) [it] it (λi h=>IsRv h it a ((n:Int)-1- (i:Nat)))where
 mem:=by simp
 obj:=λi h st b hb=>by
  have e:b=it:=by simpa using hb
  subst e
  obtain⟨o,e,c,d⟩:=st
  exact⟨o,e,λv z=>by rw[d]at z;cases z⟩
 keep:=λi h h' st k=>st.mv λo e=>k it (by simp) o e
 item:=by
  intro X hP hw hK hc i pins s σ H E I hf st hg
  subst hP hw hK
  obtain⟨xs,x,hq,hl,hx⟩:=hg
  obtain⟨its,rv,p,hz⟩:=I.tuple hq
  have hlt:i<xs.length:=by
   have:=vau.mp hx
   obtain⟨h1,_⟩:=this
   rwa [vdp]at h1
  rw[vd5 hlt]at hx
  obtain⟨u,hu,ru⟩:=rv.get hx
  obtain⟨f0,f1,f2,f3,f4,f5⟩:=hf it (by simp)
  have ei:(n:Int)-1- (i:Int)=((xs.length-1-i:Nat):Int):=by omega
  rw[ei]at st
  have hsz:its.toArray.size=xs.length:=by rw[vah];exact rv.length.symm
  refine zts st (show IsTup s.heap a its.toArray from p) (x:=u) (by simpa using hu) (by rw[hsz,hl];exact hn) λh' tk st' sb=>?_
  have I1:Inv X pins σ H {s with heap:=h',toks:=tk}:=I.turned (t':=tk) (λb o hb e=>(sb.2 b hb).trans e) f0 f1 f3 f4 f5
  obtain⟨o,e,c,d⟩:=id st'
  have ej:((xs.length-1-i:Nat):Int)-1=(n:Int)-1- ((i+1:Nat):Int):=by omega
  rw[ej]at st'
  exact⟨u,rfl,go_of (s:={s with heap:=h',toks:=tk}) e c d (by decide) ⟨x,H,I1,ru,⟨rfl,λys hy=>by rw[I.tuple_inj hy hq,vd5 hlt];exact hx⟩,st',λb hb=>(hf b hb).1⟩⟩
 done:=by
  intro X hP hw hK hc i pins s σ H E I hf st hg
  subst hP hw hK
  have hg:n<=i:=hg
  obtain⟨f0,f1,f2,f3,f4,f5⟩:=hf it (by simp)
  exact zxq (I.ok.hd hc) st (by omega) λh' eb=>⟨rfl,I.turned (t':=s.toks) (λb o hb e=>eb b o hb e) f0 f1 f3 f4 f5⟩
 self:=λ_ _ _ _ _ st h=>zm7 st h
end L2
namespace RF
open PySem PySem.Spec PyProof.Rows L2
section
variable{X:Cx}{e:Expr}{fa:FE}{p pos:Pos}
theorem zxr{tg l:Expr}{ta:TA}(hg:Gl X "reversed")(hm:X.mg "reversed" = none)(ha:PA X [l] ta)(hs:starEach [l] X.env=[(false,eval l X.env)]) :
 PI X tg (.Call (.Name "reversed" p) [l] [] pos) (λσ H R=>ta σ H λvs H1=>∃a xs,vs=[.ref a]/\SqT X.K H1 a xs/\R (Itv X.K a xs.length) H1):=by
 intro pins s σ H R I h
 refine Call_ (zdk I hg hm PyProof.Rows.boot_reversed (vb6 (thn (ha pos pins s σ H _ I h) λus s1 ⟨vs,H1,I1,r1,q1⟩=>?_) hs rfl))
 obtain⟨a,xs,e,hq,q⟩:=q1
 subst e
 obtain⟨u,rfl,ru⟩:=vals1 r1
 cases ru
 obtain⟨its,rv,pl,hz⟩:=I1.tuple hq
 have pl:s1.heap.IsTuple a its.toArray:=pl
 have hlen:its.toArray.size=xs.length:=by rw[vah];exact rv.length.symm
 have hfit:(xs.length:Int)<2 ^ 63:=by
  have:sizeLine<2 ^ 63:=by decide
  omega
 refine zp6 pl (by rw[hlen];exact hfit) λtk=>zm7 (i:=(xs.length:Int)-1) ⟨_,vas _ rfl,rfl,by rw[<-hlen];rfl⟩ ?_
 have hf:∀b,s1.heap.objs.size<=b->FpOk X pins H1 b:=λb hb=>I1.fpOk hb (I1.hok.fresh hb)
 refine⟨s1.heap.objs.size,_,_,_,H1,rfl,I1.kept (t':=tk) λb o e=>vac _ e,zp7 a _ xs.length hfit,⟨_,vas _ rfl,rfl,by rw[<-hlen];show _=Data.fields #[.ref a,rawInt (_-1- ((0:Nat):Int))];rw[show(its.toArray.size:Int)-1- ((0:Nat):Int)=(its.toArray.size:Int)-1 from by omega];rfl⟩,λb hb=>hf b ?_,q⟩
 have e':b=s1.heap.objs.size:=by simpa using hb
 rw[e'];exact vae _
theorem zru{ws:List W}{h:VH}{i:Nat}{o:Option W}(q:nxt .rev (.tup ws) i h=some o):o=ws.reverse[i]?:=by
 simp only[nxt]at q
 cases q;rfl
theorem VReps.rev{K:PySem.W.Frag}{m:Nat->Addr}{n:Nat}{H:Hp}:∀{vs:List V} {ws:List W} {i:Nat} {w:W},VReps K m n H vs ws->ws.reverse[i]?=some w->∃v,vs.reverse[i]?=some v/\VRep K m n H v w:=by
 intro vs ws i w q e
 have hlt:i<ws.length:=by
  obtain⟨h1,_⟩:=vau.mp e
  rwa [vdp]at h1
 rw[vd5 hlt]at e
 obtain⟨v,h1,h2⟩:=q.get e
 exact⟨v,by rw[vd5 (by rw[q.length];exact hlt),q.length];exact h1,h2⟩
theorem zxs{K:PySem.W.Frag}{a:Addr}{vs:List V}{ws:List W}:ItOk K (nxt .rev (.tup ws)) (Itv K a vs.length) (λm n H=>SqT K H a vs/\VReps K m n H vs ws):=by
 refine⟨λm n H m' n' H' hn hm kt kf ⟨q1,q2⟩=>⟨zd2 kt kf q1,q2.mono hn hm kt kf⟩,λm h H r ⟨q1,q2⟩ i=>⟨λw e=>?_,λe=>?_⟩⟩
 .have e:=(zru e).symm
  obtain⟨v,h1,h2⟩:=q2.rev e
  refine⟨⟨vs,v,q1,rfl,h1⟩,λy H3 ⟨e3,y3⟩=>?_⟩
  subst e3
  have:=y3 vs q1
  rw[h1]at this;cases this
  exact⟨.refl,r,h2⟩
 .have e:=(zru e).symm
  have:=va7.mp e
  rw[vdp]at this
  show vs.length<=i
  rw[q2.length];exact this
theorem zxt{tg:Expr}(ha:SE X e fa)(hs0:zaw e=true)(hg:Gl X "reversed")(hm:X.mg "reversed" = none):PI X tg (.Call (.Name "reversed" p) [e] [] pos) (lftI X.K .rev fa):=λpins s σ H R I z9=>z9.el λρ h m x h' f r ee o en k=>by
 have hx:∃ws,x=.tup ws:=by
  simp only[nxt]at en
  split at en
  .exact⟨_,rfl⟩
  .cases en
 obtain⟨ws,rfl⟩:=hx
 exact zxr hg hm (zrj ha hs0) (zah hs0) pins s σ H R I (.mk f r ee λv H' m' s' r' q=>by
  cases q with
  |tup sq rs=>exact⟨_,_,rfl,sq,k _ _ H' m' s' r' zxs ⟨sq,rs⟩⟩)
end
theorem map_some{α β:Type}{o:Option α}{f:α->β}{b:β}(h:o.map f=some b):∃a,o=some a/\b=f a:=by
 cases o with
 |none=>cases h
 |some a=>cases h;exact⟨a,rfl,rfl⟩
structure Snd(X:Cx)(C:CC)(T:List Str)(F:Nat->Option Fn)(k n:Nat):Prop where
 e:∀e c,cE X.K T n C e=some c->SE X e (ev (run F k) c)/\zaw e=true
 t:∀e c,cT X.K T n C e=some c->ST X e (ev (run F k) c)
 w:∀e kd c tg,cW X.K T n C e=some (kd,c)->okW kd tg=true->PI X tg e (lftI X.K kd (ev (run F k) c))/\∀x,foldedSetIterable e X.env x=pure x
section
variable{X:Cx}{C:CC}{T:List Str}{F:Nat->Option Fn}{k n:Nat}
theorem snd_t(O:XOk X C T F k)(ih:Snd X C T F k n)(e:Expr)(c:E)(h:cT X.K T (n+1) C e=some c):ST X e (ev (run F k) c):=by
 unfold cT at h
 split at h
 .split at h
  .split at h
   .rename_i hs
    split at h
    .rename_i h1 h2 h3
     cases h
     exact zwi O.u65 h1 hs (ih.e _ _ h2).1 (ih.e _ _ h3).1
    .cases h
   .cases h
  .split at h
   .rename_i hs
    split at h
    .rename_i h1 h2 h3 h4 h5
     cases h
     exact zwk O.u65 h1 h2 hs (ih.e _ _ h3).1 (ih.e _ _ h4).1 (ih.e _ _ h5).1
    .cases h
   .cases h
  .cases h
 .split at h
  .obtain⟨a,h1,rfl⟩:=map_some h
   exact zwl (ih.t _ _ h1)
  .cases h
 .split at h
  .exact((zjy ih.t).1 h).pt
  .exact((zjy ih.t).2 h).pt
 .obtain⟨a,h1,rfl⟩:=map_some h
  exact zmq (ih.e _ _ h1).1 λ_=>rfl
 .obtain⟨a,h1,rfl⟩:=map_some h
  exact zmq (ih.e _ _ h1).1 λ_=>rfl
 .obtain⟨a,h1,rfl⟩:=map_some h
  exact zmq (ih.e _ _ h1).1 λ_=>rfl
 .cases h
theorem noSet{e:Expr}(h:∀a b c,e≠.Set a b c){env:Env}:∀x,foldedSetIterable e env x=pure x:=by
 intro x
 cases e<;>first|rfl|exact absurd rfl (h _ _ _)
theorem snd_w(O:XOk X C T F k)(ih:Snd X C T F k n)(e:Expr)(kd:Kd)(c:E)(tg:Expr)(h:cW X.K T (n+1) C e=some (kd,c))(hw:okW kd tg=true):PI X tg e (lftI X.K kd (ev (run F k) c))/\∀x,foldedSetIterable e X.env x=pure x:=by
 unfold cW at h
 split at h
 .rename_i f p args pos
  refine⟨?_,λx=>rfl⟩
  split at h
  .rename_i hf
   have hf:f = "range":=by simpa using hf
   subst hf
   split at h
   .rename_i ha
    obtain⟨g1,g2⟩:=zb0 O ha
    split at h
    .rename_i a
     obtain⟨x,h1,h2⟩:=map_some h
     cases h2
     obtain⟨h3,h4⟩:=ih.e _ _ h1
     exact ztj (zda h3 zjn (zah h4)) h4 g1 g2
    .rename_i a b
     split at h
     .rename_i x y h1 h2
      cases h
      obtain⟨h3,h4⟩:=ih.e _ _ h1
      obtain⟨h5,h6⟩:=ih.e _ _ h2
      exact ztk (zda h3 (zda h5 zjn (zah h6)) (zah h4)) h4 h6 g1 g2
     .cases h
    .cases h
   .cases h
  .split at h
   .rename_i hf
    have hf:f = "enumerate":=by simpa using hf
    subst hf
    split at h
    .rename_i ha
     obtain⟨g1,g2⟩:=zb0 O ha
     split at h
     .rename_i a
      obtain⟨x,h1,h2⟩:=map_some h
      cases h2
      obtain⟨h3,h4⟩:=ih.e _ _ h1
      cases tg<;>first|exact zw4 h3 h4 g1 g2|cases hw
     .cases h
    .cases h
   .split at h
    .rename_i hf
     have hf:f = "reversed":=by simpa using hf
     subst hf
     split at h
     .rename_i ha
      obtain⟨g1,g2⟩:=zb0 O ha
      split at h
      .rename_i a
       obtain⟨x,h1,h2⟩:=map_some h
       cases h2
       obtain⟨h3,h4⟩:=ih.e _ _ h1
       exact zxt h3 h4 g1 g2
      .cases h
     .cases h
    .split at h
     .rename_i hf
      have hf:f = "zip":=by simpa using hf
      subst hf
      split at h
      .rename_i ha
       obtain⟨g1,g2⟩:=zb0 O ha
       split at h
       .rename_i a b
        split at h
        .rename_i x y h1 h2
         cases h
         obtain⟨h3,h4⟩:=ih.e _ _ h1
         obtain⟨h5,h6⟩:=ih.e _ _ h2
         cases tg<;>first|exact zw7 (zda h3 (zda h5 zjn (zah h6)) (zah h4)) h4 h6 g1 g2|cases hw
        .cases h
       .cases h
      .cases h
     .obtain⟨x,h1,h2⟩:=map_some h
      cases h2
      exact zrh (ih.e _ _ h1).1
 .cases h
 .rename_i hns
  obtain⟨x,h1,h2⟩:=map_some h
  cases h2
  exact⟨zrh (ih.e _ _ h1).1,noSet (by first|exact hns|(intro a b c z;exact hns a b c z))⟩
end
section
variable{X:Cx}{C:CC}{T:List Str}{F:Nat->Option Fn}{k n:Nat}
theorem zp8(O:XOk X C T F k){x:Str}{p:Pos}{c:E}(h:cE X.K T (n+1) C (.Name x p)=some c):SE X (.Name x p) (ev (run F k) c):=by
 simp only[cE]at h
 split at h
 .rename_i hn
  obtain⟨n1,n2,n3⟩:=zfg hn
  split at h
  .rename_i hv
   obtain⟨i,h1,rfl⟩:=map_some h
   exact zv9 (by rw[O.hN];exact zm2 h1) (O.vis x hv) n1 n2
  .split at h
   .rename_i hg
    split at h
    .rename_i v hv
     obtain⟨w,h1,rfl⟩:=map_some h
     obtain⟨y,h2,h3⟩:=zrr 8 v w h1
     exact zhb (zr7 (O.gl x (by simpa using hg)) (O.mgs x v hv) h2 n1) h3
    .cases h
   .cases h
 .cases h
theorem zp9(O:XOk X C T F k)(ih:Snd X C T F k n){f:Str}{p pos:Pos}{args:List Expr}{c:E}(h:cE X.K T (n+1) C (.Call (.Name f p) args [] pos)=some c):SE X (.Call (.Name f p) args [] pos) (ev (run F k) c):=by
 simp only[cE]at h
 split at h
 .rename_i hn
  rw[vab]at hn
  have hg:=O.gl f (by simpa using hn.2)
  split at h
  .rename_i hm
   have hm:=O.mgn f hm
   split at h
   .rename_i hf
    have hf:f = "isinstance":=by simpa using hf
    subst hf
    split at h
    .rename_i a t pt
     split at h
     .rename_i ty x h1 h2
      split at h
      .rename_i hc
       cases h
       rw[vab]at hc
       obtain⟨g1,g2⟩:=zb0 O hc.2
       obtain⟨h3,h4⟩:=ih.e _ _ h2
       obtain⟨n1,n2,n3⟩:=zfg hc.1
       exact zwz ty h3 h4 hg hm g1 g2 (ztr h1) n3 n1
      .cases h
     .cases h
    .cases h
   .split at h
    .rename_i b e es hb
     obtain⟨a,h1,rfl⟩:=map_some h
     obtain⟨h2,h3⟩:=cL_ok ih.e h1
     exact bi_ok hb hg hm hn.1 O.calm h2 h3
    .cases h
  .rename_i v hv
   split at h
   .rename_i i hi
    obtain⟨fa,fd,ps,fn,q1,q2,q3,q4,q5,q6,q7⟩:=O.fns i f (zm2 hi) (zxo hn.1)
    have q1:=zjx q1
    split at h
    .rename_i hlv
     rw[vab]at hlv
     obtain⟨a,h1,rfl⟩:=map_some h
     obtain⟨h2,h3⟩:=cL_ok ih.e h1
     have hl:∀ws h w h',run F k i ws h=.ok w h'->ws.length=ps.length:=λws h w h' e=>by rw[zit q5 e,q6]
     have hev:ev (run F k) (.call i (padE a))=gArg (ev (run F k) a) (λws h=>run F k i (ws++[.non]) h):=by
      funext ρ h
      simp only[ev,zxp (zm4 h1)]
      show Res.bind (Res.bind (ev (run F k) a ρ h) _) _=Res.bind (ev (run F k) a ρ h) _
      cases ev (run F k) a ρ h with
      |no=>rfl
      |ex _ _=>rfl
      |ok y h2=>cases y<;>rfl
     rw[hev]
     cases args with
     |nil=>cases hlv.2
     |cons e es=>exact zpy q2 O.room hg (O.mgs f _ q1) q3 (q7 (zla hlv.1)) h2 h3 (zfg hn.1).1 hl
    obtain⟨a,h1,rfl⟩:=map_some h
    obtain⟨h2,h3⟩:=cL_ok ih.e h1
    have hl:∀ws h w h',run F k i ws h=.ok w h'->ws.length=ps.length:=λws h w h' e=>by rw[zit q5 e,q6]
    cases args with
    |nil=>
     simp only[cL]at h1
     cases h1
     exact zpx q2 O.room hg (O.mgs f _ q1) q3 q4 (zfg hn.1).1 hl
    |cons e es=>exact zti q2 O.room hg (O.mgs f _ q1) q3 q4 h2 h3 (zfg hn.1).1 hl
   .cases h
  .cases h
 .cases h
theorem zqa(O:XOk X C T F k)(ih:Snd X C T F k n){o:Expr}{m:Str}{ap pos:Pos}{args:List Expr}{c:E}(h:cE X.K T (n+1) C (.Call (.Attribute o m ap) args [] pos)=some c):SE X (.Call (.Attribute o m ap) args [] pos) (ev (run F k) c):=by
 simp only[cE]at h
 split at h
 .rename_i hn
  rw[vab]at hn
  split at h
  .rename_i x a hx
   split at h
   .rename_i hm
    have hm:m = "append":=by simpa using hm
    subst hm
    obtain⟨y,h1,rfl⟩:=map_some h
    obtain⟨h2,h3⟩:=ih.e _ _ h1
    exact zmr (ih.e _ _ hx).1 h2 hn.1 h3 hn.2
   .cases h
  .cases h
 .cases h
theorem zxu{ow fr:List Str}{sc:Scope}{ifs:List Expr}{c:E}(O:∀D s₀ H₀ ex,Snd (X.comp (ow++fr) sc D s₀ H₀ ex) (inC sc) T F k n)
 (h:(match ifs with|[]=>some (E.cst (.bl true))|[c]=>cT X.K T n (inC sc) c|_=>none)=some c) (D:Addr) (s₀:Shared) (H₀:Hp) (ex:List Addr):PTs (X.comp (ow++fr) sc D s₀ H₀ ex) ifs (lftT X.K (ev (run F k) c)):=by
 split at h
 .cases h
  exact λpins s σ H Q I z9=>z9.el λρ h m b h' f r e q=>by
   cases e
   exact zsv pins s σ H Q I (q H m .refl r)
 .exact zsw ((O D s₀ H₀ ex).t _ _ h)
 .cases h
theorem zrv(O:XOk X C T F k)(ih:Snd X C T F k n)(ihc:∀{sc:Scope} {ix:List Nat},zeq C sc ix=true->∀D s₀ H₀ ex,Snd (X.comp (ownOf sc++za5 sc) sc D s₀ H₀ ex) (inC sc) T F k n)
 {elt tg iter:Expr} {ifs:List Expr} {sc:Scope} {pos:Pos} {c:E} (h:cE X.K T (n+1) C (.ListComp elt [⟨tg,iter,ifs,0⟩] sc pos)=some c) :
 ∃kd a t ix cc ce,c=.lc kd a t (ownOf sc).length ix cc ce/\CompScope X (ownOf sc) (za5 sc) ix sc/\PI X tg iter (lftI X.K kd (ev (run F k) a))/\(∀D s₀ H₀ ex,PG (X.comp (ownOf sc++za5 sc) sc D s₀ H₀ ex) tg (lftG X.K t))/\
  (∀D s₀ H₀ ex,PTs (X.comp (ownOf sc++za5 sc) sc D s₀ H₀ ex) ifs (lftT X.K (ev (run F k) cc)))/\(∀D s₀ H₀ ex,PE (X.comp (ownOf sc++za5 sc) sc D s₀ H₀ ex) elt (lft X.K (ev (run F k) ce)))/\∀x,foldedSetIterable iter X.env x=pure x:=by
 simp only[cE]at h
 split at h
 .rename_i ix hix
  split at h
  .rename_i hc
   split at h
   .rename_i kd a t cc ce h1 h2 h3 h4
    split at h
    case isFalse=>cases h
    rename_i hw
    cases h
    obtain⟨w1,w2⟩:=ih.w _ _ _ tg h1 hw
    exact⟨kd,a,t,ix,cc,ce,rfl,(zfh O hc).1,w1,λD s₀ H₀ ex=>tg_ok (ziu O hc D s₀ H₀ ex) h2,zxu (ihc hc) h3,λD s₀ H₀ ex=>((ihc hc D s₀ H₀ ex).e _ _ h4).1,w2⟩
   .cases h
  .cases h
 .cases h
theorem snd_e(O:XOk X C T F k)(ih:Snd X C T F k n)(ihc:∀{sc:Scope} {ix:List Nat},zeq C sc ix=true->∀D s₀ H₀ ex,Snd (X.comp (ownOf sc++za5 sc) sc D s₀ H₀ ex) (inC sc) T F k n)
 (e:Expr) (c:E) (h:cE X.K T (n+1) C e=some c):SE X e (ev (run F k) c)/\zaw e=true:=by
 have h0:=h
 unfold cE at h
 split at h
 .exact⟨zp8 O h0,rfl⟩
 .refine⟨?_,rfl⟩
  split at h
  .cases h;exact zwa
  .cases h;exact se_bl
  .cases h;exact zwb
  .cases h;exact zwc
  .cases h
 .obtain⟨a,h1,rfl⟩:=map_some h
  exact⟨zwd (cL_ok ih.e h1).1,rfl⟩
 .obtain⟨a,h1,rfl⟩:=map_some h
  exact⟨zwe (cL_ok ih.e h1).1,rfl⟩
 .refine⟨?_,rfl⟩
  rename_i ks vs pos
  split at h
  .rename_i hc
   simp only[vab]at hc
   obtain⟨a,h1,rfl⟩:=map_some h
   cases ks with
   |nil=>
    cases vs with
    |nil=>simp only[cPs]at h1;cases h1;exact zth
    |cons _ _=>cases h1
   |cons q ks=>exact zw1 O.u2 (zrt ih.e h1) hc.2 (vd3 hc.1.2) (by simp) (va3 hc.1.1)
  .cases h
 .refine⟨?_,rfl⟩
  split at h
  .rename_i h1 h2 h3
   cases h
   exact se_op (op_ok h1) (zwf _) (ih.e _ _ h2).1 (ih.e _ _ h3).1
  .cases h
 .split at h
  .obtain⟨a,h1,rfl⟩:=map_some h
   exact⟨zwm (ih.e _ _ h1).1,rfl⟩
  .obtain⟨a,h1,rfl⟩:=map_some h
   exact⟨zwq (ih.e _ _ h1).1,rfl⟩
  .cases h
 .split at h
  .exact⟨(cB_ok ih.e).1 h,rfl⟩
  .exact⟨(cB_ok ih.e).2 h,rfl⟩
 .split at h
  .refine⟨?_,rfl⟩
   split at h
   .rename_i hs
    split at h
    .rename_i h1 h2 h3
     cases h
     exact zwh O.u65 h1 hs (ih.e _ _ h2).1 (ih.e _ _ h3).1
    .cases h
   .cases h
  .refine⟨?_,rfl⟩
   split at h
   .rename_i hs
    split at h
    .rename_i h1 h2 h3 h4 h5
     cases h
     exact zwj O.u65 h1 h2 hs (ih.e _ _ h3).1 (ih.e _ _ h4).1 (ih.e _ _ h5).1
    .cases h
   .cases h
  .cases h
 .refine⟨?_,rfl⟩
  split at h
  .rename_i h1 h2 h3
   cases h
   exact zwp (ih.t _ _ h1) (ih.e _ _ h2).1 (ih.e _ _ h3).1
  .cases h
 .split at h
  .split at h
   .refine⟨?_,rfl⟩
    split at h
    .rename_i h1 h2 h3
     cases h
     exact zws (ih.e _ _ h1).1 (cO_ok ih.e h2) (cO_ok ih.e h3)
    .cases h
   .cases h
  .refine⟨?_,rfl⟩
   split at h
   .rename_i hs
    split at h
    .rename_i h1 h2
     cases h
     exact zwr O.u2 (ih.e _ _ h1).1 (ih.e _ _ h2).1 (zlb hs)
    .cases h
   .cases h
 .split at h
  .split at h
   .exact⟨zp9 O ih h0,rfl⟩
   .exact⟨zqa O ih h0,rfl⟩
   .cases h
  .cases h
 .split at h
  .refine⟨?_,rfl⟩
   obtain⟨kd,a,t,ix,cc,ce,rfl,S,w1,w2,w3,w4,w5⟩:=zrv O ih ihc h0
   exact se_lc S O.calm w1 w2 w3 w4 w5
  .cases h
 .cases h
end
theorem zfi{T:List Str}{F:Nat->Option Fn}{k:Nat}:∀(n:Nat) {X:Cx} {C:CC},XOk X C T F k->Snd X C T F k n
 |0,_,_,_=>⟨(λe c h=>nomatch h),(λe c h=>nomatch h),(λe kd c tg h _=>nomatch h)⟩
 |n+1,X,C,O=>by
  have ih:=zfi n O
  have ihc:∀{sc:Scope}{ix:List Nat},zeq C sc ix=true->∀D s₀ H₀ ex,Snd (X.comp (ownOf sc++za5 sc) sc D s₀ H₀ ex) (inC sc) T F k n:=λhc D s₀ H₀ ex=>zfi n (ziu O hc D s₀ H₀ ex)
  exact⟨snd_e O ih ihc,snd_t O ih,snd_w O ih⟩
section
variable{X:Cx}{C:CC}{T:List Str}{F:Nat->Option Fn}{k d:Nat}
theorem zcg{f:Stmt->Option S}{cl:Call}(ih:∀st c,f st=some c->SS X st (exs cl c)):∀{sts:List Stmt} {c:S},cSs f sts=some c->SSs X sts (exs cl c)
 |[],_,h=>by cases h;exact ztm
 |s::r,c,h=>by
  unfold cSs at h
  split at h
  .rename_i a b ha hb
   cases h
   exact zp2 (ih s a ha) (zcg ih hb)
  .cases h
theorem zxv{K:PySem.W.Frag}{T:List Str}{n:Nat}{C:CC}{elt:Expr}{gs:List Comprehension}{sc:Scope}{lp:Pos}{c:E}(h:cE K T (n+1) C (.ListComp elt gs sc lp)=some c):∃tg iter ifs,gs=[⟨tg,iter,ifs,0⟩]:=by
 match gs,h with
 |[],h=>cases(show(none:Option E)=some c from h)
 |[⟨tg,iter,ifs,0⟩],_=>exact⟨tg,iter,ifs,rfl⟩
 |[⟨_,_,_,.ofNat (k+1)⟩],h=>cases(show(none:Option E)=some c from h)
 |[⟨_,_,_,.negSucc k⟩],h=>cases(show(none:Option E)=some c from h)
 |⟨_,_,_,0⟩::_::_,h=>cases(show(none:Option E)=some c from h)
 |⟨_,_,_,.ofNat (k+1)⟩::_::_,h=>cases(show(none:Option E)=some c from h)
 |⟨_,_,_,.negSucc k⟩::_::_,h=>cases(show(none:Option E)=some c from h)
theorem ztt(O:XOk X C T F k){x:Str}{p pos:Pos}{e:Expr}{i:Nat}{c:E}(hi:nmIx C (.Name x p)=some i)(h:cE X.K T d C e=some c):SS X (.Assign [.Name x p] e pos) (exs (run F k) (.set i c)):=by
 obtain⟨x',p',ex,h1,h2,h3⟩:=nm_ok O hi
 cases ex
 have nd:X.N.Nodup:=O.hN▸O.nd
 have Sd:=zfi (T:=T) (F:=F) (k:=k) d O
 by_cases hc:zjt e=true
 .exact zrn nd h1 h2 h3 (Sd.e _ _ h).1 (zju hc)
 .cases d with
  |zero=>cases h
  |succ n=>
   cases e with
   |ListComp elt gs sc lp=>
    have sw:∃b:Bool,swapsWith (.ListComp elt gs sc lp) (some (.Name x p)) pos.line X.env=pure b:=⟨_,rfl⟩
    obtain⟨b,hb⟩:=sw
    cases b with
    |false=>exact zrn nd h1 h2 h3 (Sd.e _ _ h).1 hb
    |true=>
     obtain⟨tg,iter,ifs,rfl⟩:=zxv h
     obtain⟨kd,a,t,ix,cc,ce,rfl,S,w1,w2,w3,w4,w5⟩:=zrv O (zfi n O) (λhc D s₀ H₀ ex=>zfi n (ziu O hc D s₀ H₀ ex)) h
     exact zp3 nd h1 h2 h3 S O.calm w1 w2 w3 w4 hb w5
   |SetComp _ _ _ _=>unfold cE at h;cases h
   |DictComp _ _ _ _ _=>unfold cE at h;cases h
   |_=>exact absurd rfl hc
theorem snd_s(O:XOk X C T F k):∀(n:Nat) (st:Stmt) (c:S),cS X.K T d n C st=some c->SS X st (exs (run F k) c)
 |0,_,_,h=>by cases h
 |n+1,st,c,h=>by
  have nd:X.N.Nodup:=O.hN▸O.nd
  have Sd:=zfi (T:=T) (F:=F) (k:=k) d O
  have ih:=snd_s O n
  have hp:PassesOwn (model X.prog X.w) X.A X.env X.xe:=by rw[O.xe];exact PassesOwn.never
  unfold cS at h
  split at h
  .cases h;exact ztn
  .cases h;exact zxc
  .cases h;exact zxd
  .cases h;exact ss_no
  .split at h
   .cases h;exact ztp
   .obtain⟨a,h1,rfl⟩:=map_some h
    exact zxe (Sd.e _ _ h1).1
  .split at h
   .rename_i hc
    obtain⟨a,h1,rfl⟩:=map_some h
    exact zto (Sd.e _ _ h1).1 hc
   .cases h
  .split at h
   .split at h
    .split at h
     .rename_i i a h1 h2
      cases h
      exact ztt O h1 h2
     .cases h
    .split at h
     .rename_i ht
      split at h
      .rename_i h1 h2
       cases h
       exact zxf O.calm nd (zm5 O h1) (Sd.e _ _ h2).1 ht
      .cases h
     .cases h
    .split at h
     .rename_i hs
      split at h
      .rename_i h1 h2 h3
       cases h
       exact zxg O.u2 (Sd.e _ _ h1).1 (Sd.e _ _ h2).1 (Sd.e _ _ h3).1 hs
      .cases h
     .cases h
    .cases h
   .cases h
  .split at h
   .split at h
    .rename_i h1 h2 h3
     cases h
     obtain⟨x',p',ex,a1,a2,a3⟩:=nm_ok O h1
     cases ex
     exact zxj h2 nd a1 a2 a3 (Sd.e _ _ h3).1
    .cases h
   .cases h
  .split at h
   .rename_i h1 h2 h3
    cases h
    exact zxk (Sd.t _ _ h1) (zcg ih h2) (zcg ih h3)
   .cases h
  .rename_i tg it b el pos
   split at h
   .split at h
    .rename_i h1 h2 h3
     split at h
     case isFalse=>cases h
     rename_i hw
     cases h
     obtain⟨w1,w2⟩:=Sd.w _ _ _ tg h1 hw
     exact zxm hp O.calm w1 (tg_ok O h2) (zcg ih h3) w2
    .cases h
   .cases h
  .split at h
   .split at h
    .rename_i h1 h2
     cases h
     exact zxn hp (Sd.t _ _ h1) (zcg ih h2)
    .cases h
   .cases h
  .cases h
end
noncomputable def ziv:FuncBody->Option (List Stmt)
 |.stmts b=>some b
 |_=>none
theorem zld{d:Data}(h:zgb d=true):∃n,d=.seq #[.none] n:=by
 cases d with
 |seq xs n=>
  obtain⟨l⟩:=xs
  unfold zgb at h
  simp only[]at h
  split at h
  .rename_i v
   cases v<;>first|exact⟨n,rfl⟩|cases h
  .cases h
 |_=>cases h
theorem zqb{K:PySem.W.Frag}{v:Value}(h:noneD K v=true):∃t o n,v=.ref t/\K.lookup t=some o/\o.data=.seq #[.none] n:=by
 cases v with
 |ref t=>
  have h:(match K.lookup t with|some o=>zgb o.data|none=>false)=true:=h
  cases e:K.lookup t with
  |none=>rw[e]at h;cases h
  |some o=>
   rw[e]at h
   obtain⟨n,q⟩:=zld h
   exact⟨t,o,n,rfl,e,q⟩
 |_=>cases h
noncomputable def zch(ps:List Str)(sc:Scope):List Str:=ps++(sc.names.filter λy=>(y.2 == .local||y.2 == .cell) && !(ps.contains y.1)).map (·.1)
noncomputable def zgd(N ps:List Str)(sc:Scope):Bool:=
 decide (sc.kind=.function) && !sc.isCoroutine && !sc.isGenerator&&decide N.Nodup&&decide (N.take ps.length=ps)&&ps.all (λx=>decide (sc.names.lookup x=some .local\/sc.names.lookup x=some .cell))&&sc.names.all (λy=>decide (y.2≠.free))&&decide ps.Nodup
theorem zle{N ps:List Str}{sc:Scope}(h:zgd N ps sc=true):FnScope N ps sc/\ps.Nodup:=by
 unfold zgd at h
 simp only[vab,vaw,vbp,Bool.not_eq_true']at h
 obtain⟨⟨⟨⟨⟨⟨⟨h1,h2⟩,h3⟩,h4⟩,h5⟩,h6⟩,h7⟩,h8⟩:=h
 exact⟨⟨h1,h2,h3,h4,h5,h6,h7⟩,h8⟩
noncomputable def nmOf(x:Str):Str:=x
noncomputable def cF(K:PySem.W.Frag)(T:List Str)(d n:Nat)(x:Str):Option Fn:=match fnAt K x with
 |some (f,o,fd)=>(match zba fd.params,ziv fd.body with
  |some args,some body=>if fd.name==nmOf x&&fd.qualname==x&&Nat.beq fd.globals mainGlobals&&fd.closure.isEmpty&& (isNone fd.defaults||noneD K fd.defaults && !args.isEmpty)&&Nat.beq fd.builtins builtinsNs&&PySem.W.codeIn K fd.code x&&PySem.W.keepIn K (.ref f) &&
   zgd (zch (args.map (·.arg)) fd.scope) (args.map (·.arg)) fd.scope then
   (cSs (cS K T d n ⟨zch (args.map (·.arg)) fd.scope,fd.scope.names,true⟩) body).map λb=>⟨(args.map (·.arg)).length,(zch (args.map (·.arg)) fd.scope).length,b⟩
   else none
  |_,_=>none)
 |none=>none
theorem ztu{fd:FuncData}{x:Str}{args:List Arg}{body:List Stmt}(c1:(fd.name==nmOf x)=true)(c2:(fd.qualname==x)=true)(c3:Nat.beq fd.globals mainGlobals=true)(c4:fd.closure.isEmpty=true)(c6:Nat.beq fd.builtins builtinsNs=true)(ha:zba fd.params=some args)(hb:ziv fd.body=some body) :
 ∃dx,fd=PySem.W.fnOf (nmOf x) x ⟨[],args,none,[],[],none,dx⟩ body fd.scope fd.defaults fd.kwdefaults fd.doc fd.pyModule fd.annotations fd.code fd.closureTuple:=by
 obtain⟨nm,qn,pr,bd,sc,gl,cl,df,kd,dc,pm,an,cdv,ct,bu⟩:=fd
 have e1:nm=nmOf x:=by simpa using c1
 have e2:qn=x:=by simpa using c2
 have e3:gl=mainGlobals:=vd3 c3
 have e4:cl=[]:=by simpa using c4
 have e6:bu=builtinsNs:=vd3 c6
 have e7:bd=.stmts body:=by
  cases bd with
  |stmts b'=>cases hb;rfl
  |expr _=>cases hb
 obtain⟨dx,e8⟩:∃dx,pr=⟨[],args,none,[],[],none,dx⟩:=by
  unfold zba at ha
  split at ha
  .cases ha;rename_i z;exact⟨_,z⟩
  .cases ha
 exact⟨dx,by rw[e1,e2,e3,e4,e6,e7,e8]⟩
theorem zqc{K:PySem.W.Frag}{x:Str}{fd:FuncData}{args:List Arg}{body:List Stmt}{dx:List Expr}{sc:Scope}{df kd dc pm:Value}{an:Option Addr}{cdv ct:Value}{b:Bool}(e:fd=PySem.W.fnOf (nmOf x) x ⟨[],args,none,[],[],none,dx⟩ body sc df kd dc pm an cdv ct)(nd:(args.map (·.arg)).Nodup)
 (hb:b=noneD K df) (c5:(isNone df||noneD K df && !args.isEmpty)=true):Binds K fd (args.map (·.arg)) []/\(b=true->Binds K fd (args.map (·.arg)) [.none])/\(b=false->∀us:List Value,us.length=(args.map (·.arg)).length->bindArgs fd ⟨us,[]⟩=pure ((args.map (·.arg)).zip us)):=by
 subst e hb
 rw[vcw,vab]at c5
 rcases c5 with c5|⟨c5,c0⟩
 .have e5:df=.none:=by cases df<;>first|rfl|cases c5
  subst e5
  exact⟨.all λus hl=>zff hl nd,(λz=>nomatch z),λ_ us hl=>zff hl nd⟩
 .obtain⟨t,o,n,rfl,hk,hd⟩:=zqb c5
  rw[c5]
  obtain⟨qs,z,hqz⟩:∃qs z,args.map (·.arg)=qs++[z]:=by
   rcases List.eq_nil_or_concat (args.map (·.arg))with q|⟨l,b,q⟩
   .rw[List.map_eq_nil_iff.mp q]at c0;cases c0
   .exact⟨l,b,by rw[q,List.concat_eq_append]⟩
  have nd':=nd
  rw[hqz]at nd'
  refine⟨λs us hK hl=>?_,λ_ s us hK hl=>?_,λz=>nomatch z⟩
  .rw[vcd]at hl ⊢
   rw[hqz]at hl ⊢
   exact zk8 hqz nd' (hK _ _ hk) hd hl
  .rw[hqz]at hl ⊢
   exact zk9 hqz nd' (hK _ _ hk) hd (by rw[vao,vao]at hl;simpa using hl)
theorem zm9{K:PySem.W.Frag}{x:Str}{f:Addr}{o:Obj}{fd:FuncData}(h:fnAt K x=some (f,o,fd)):refAt K x=some f/\∃oc od sl,K.lookup f=some ⟨oc,od,.func fd,sl⟩:=by
 unfold fnAt at h
 split at h
 .rename_i f' hn
  split at h
  .rename_i o' ho
   split at h
   .rename_i fd' hd
    cases h
    refine⟨hn,o.cls,o.dict,o.slots,?_⟩
    rw[<-hd];exact ho
   .cases h
  .cases h
 .cases h
theorem zxw{K:PySem.W.Frag}{T:List Str}{d n:Nat}{x:Str}{fn:Fn}:∀(f:Addr) (o:Obj) (fd:FuncData) (args:List Arg) (body:List Stmt) (b:S),fnAt K x=some (f,o,fd)->zba fd.params=some args->ziv fd.body=some body->(fd.name==nmOf x&&fd.qualname==x&&Nat.beq fd.globals mainGlobals&&fd.closure.isEmpty&& (isNone fd.defaults||noneD K fd.defaults && !args.isEmpty)&&Nat.beq fd.builtins builtinsNs&&PySem.W.codeIn K fd.code x&&PySem.W.keepIn K (.ref f) &&
 zgd (zch (args.map (·.arg)) fd.scope) (args.map (·.arg)) fd.scope)=true->cSs (cS K T d n ⟨zch (args.map (·.arg)) fd.scope,fd.scope.names,true⟩) body=some b->fn=⟨(args.map (·.arg)).length,(zch (args.map (·.arg)) fd.scope).length,b⟩->∃f fd st ps N,refAt K x=some f/\FunD K (nmOf x) x st f fd/\FnScope N ps (zao st)/\fn.n=N.length/\fn.ps=ps.length/\(Binds K fd ps []/\(hasD K x=true->Binds K fd ps [.none])/\(hasD K x=false->∀us:List Value,us.length=ps.length->bindArgs fd ⟨us,[]⟩=pure (ps.zip us)))/\
 cSs (cS K T d n ⟨N,(zao st).names,true⟩) (zeg st)=some fn.body/\∃o' fd' args,fnAt K x=some (f,o',fd')/\zba fd'.params=some args/\ps=args.map (·.arg):=by
 intro f o fd args body b hf ha hb hc h1 e
 rw[vab,vab,vab,vab,vab,vab,vab,vab]at hc
 obtain⟨⟨⟨⟨⟨⟨⟨⟨c1,c2⟩,c3⟩,c4⟩,c5⟩,c6⟩,c7⟩,c8⟩,c9⟩:=hc
 obtain⟨S,nd⟩:=zle c9
 obtain⟨hn,oc,od,sl,lk⟩:=zm9 hf
 obtain⟨dx,ef⟩:=ztu c1 c2 c3 c4 c6 ha hb
 have hh:hasD K x=noneD K fd.defaults:=by unfold hasD;rw[hf]
 exact⟨f,fd,.FunctionDef (nmOf x) ⟨[],args,none,[],[],none,dx⟩ body [] none [] fd.scope none (nmOf x) ⟨0,0,0,0⟩,args.map (·.arg),zch (args.map (·.arg)) fd.scope,hn,⟨⟨oc,od,_,_,_,_,_,fd.code,_,sl,ef,lk,c7⟩,c8⟩,S,by rw[e],by rw[e],zqc ef nd hh c5,by rw[e];exact h1,o,fd,args,hf,ha,rfl⟩
theorem cF_ok{K:PySem.W.Frag}{T:List Str}{d n:Nat}{x:Str}{fn:Fn}(h:cF K T d n x=some fn):∃f fd st ps N,refAt K x=some f/\FunD K (nmOf x) x st f fd/\FnScope N ps (zao st)/\fn.n=N.length/\fn.ps=ps.length/\(Binds K fd ps []/\(hasD K x=true->Binds K fd ps [.none])/\(hasD K x=false->∀us:List Value,us.length=ps.length->bindArgs fd ⟨us,[]⟩=pure (ps.zip us)))/\
 cSs (cS K T d n ⟨N,(zao st).names,true⟩) (zeg st)=some fn.body/\∃o' fd' args,fnAt K x=some (f,o',fd')/\zba fd'.params=some args/\ps=args.map (·.arg):=by
 unfold cF at h
 split at h
 .rename_i f o fd hf
  split at h
  .rename_i args body ha hb
   split at h
   .rename_i hc
    obtain⟨b,h1,e⟩:=map_some h
    exact zxw f o fd args body b hf ha hb hc h1 e
   .cases h
  .cases h
 .cases h
theorem zd3{α β:Type}{f:α->Option β}:∀{l:List α} {r:List β},mapO f l=some r->∀(i:Nat) (a:α),l[i]?=some a->∃b,r[i]?=some b/\f a=some b
 |[],_,_,i,a,e=>by simp at e
 |x::l,r,h,i,a,e=>by
  unfold mapO at h
  split at h
  .rename_i b hb
   split at h
   .rename_i bs hbs
    cases h
    cases i with
    |zero=>simp at e;subst e;exact⟨b,rfl,hb⟩
    |succ i=>
     obtain⟨c,h1,h2⟩:=zd3 hbs i a (by simpa using e)
     exact⟨c,by simpa using h1,h2⟩
   .cases h
  .cases h
noncomputable def cF0(K:PySem.W.Frag)(T:List Str)(d n:Nat)(x:Str):Option Fn:=if x==("" : Str)then some ⟨0,0,.no⟩else cF K T d n x
theorem zna{K:PySem.W.Frag}{T:List Str}{d n:Nat}{x:Str}{fn:Fn}(h:cF0 K T d n x=some fn)(hx:x≠""):cF K T d n x=some fn:=by
 unfold cF0 at h
 rw[if_neg (by simpa using hx)]at h
 exact h
noncomputable def cProg(K:PySem.W.Frag)(T:List Str)(d n:Nat):Option (List Fn):=mapO (cF0 K T d n) T
theorem znb{P:Program}{w:World}{K:PySem.W.Frag}{mg:Str->Option Value}{base:Heap}{T:List Str}{Fs:List Fn}{k:Nat}(KX:K.In base)(G:base.Ns mainGlobals mg){x:Str}{st:Stmt}{f:Addr}{N ps:List Str}(S:FnScope N ps (zao st))
 (H0:∀(i:Nat)(x:Str),T[i]?=some x->x≠""->∃f fd ps fn,refAt K x=some f/\FnOk P w K mg base CX0 k f fd ps (spV K ps.length (run (λi=>Fs[i]?) k i))/\PySem.W.keepIn K (.ref f)=true/\Binds K fd ps []/\Fs[i]?=some fn/\fn.ps=ps.length/\(hasD K x=true->Binds K fd ps [.none]))
 (cdv:Value) (A:Around) (outer:List Env) (s:Shared) (H:Hp) (E:XK) (hr:Room k (A.deeper (envOfC x (zao st) s.heap.objs.size f cdv))):XOk (cxOf CX0 P w K mg base N x (zao st) f cdv A outer s H E).nox ⟨N,(zao st).names,true⟩ T (λi=>Fs[i]?) k:=by
 refine⟨rfl,S.nd,λy hy=>?_,λy hy=>?_,λy hy=>hy,λy hy=>hy,rfl,hr,rfl,S.kind,λy v hv=>PySem.W.mg_of KX G hv,λy hv=>PySem.W.mg_none_of KX G hv,H0⟩
 .have hy:visK ((zao st).names.lookup y)=true:=hy
  cases z:(zao st).names.lookup y with
  |none=>rw[z]at hy;cases hy
  |some kd=>cases kd<;>first|exact .inl z|exact .inr (.inl z)|exact .inr (.inr z)|(rw[z]at hy;cases hy)
 .have hy:locK true ((zao st).names.lookup y)=true:=hy
  cases z:(zao st).names.lookup y with
  |none=>rw[z]at hy;cases hy
  |some kd=>cases kd<;>first|exact⟨.inl z,.inl rfl⟩|exact⟨.inr z,.inl rfl⟩|(rw[z]at hy;cases hy)
theorem ztv{P:Program}{w:World}{K:PySem.W.Frag}{mg:Str->Option Value}{base:Heap}{T:List Str}{d n:Nat}{Fs:List Fn}(hP:cProg K T d n=some Fs)(KX:K.In base)(G:base.Ns mainGlobals mg)(k:Nat):∀(j:Nat),j<=k->∀(i:Nat) (x:Str),T[i]?=some x->x≠""->
 ∃f fd ps fn,refAt K x=some f/\FnOk P w K mg base CX0 j f fd ps (spV K ps.length (run (λi=>Fs[i]?) j i))/\PySem.W.keepIn K (.ref f)=true/\Binds K fd ps []/\Fs[i]?=some fn/\fn.ps=ps.length/\(hasD K x=true->Binds K fd ps [.none]):=by
 induction k with
 |zero=>
  intro j hj i x e hx
  have:j=0:=Nat.le_zero.mp hj
  subst this
  obtain⟨fn,h1,h2⟩:=zd3 hP i x e
  obtain⟨f,fd,st,ps,N,a1,a2,a3,a4,a5,a6,a7,_⟩:=cF_ok (zna h2 hx)
  exact⟨f,fd,ps,fn,a1,zm1,a2.kp,a6.1,h1,a5,a6.2.1⟩
 |succ k ih=>
  intro j hj i x e hx
  by_cases hjk:j<=k
  .exact ih j hjk i x e hx
  .have:j=k+1:=by omega
   subst this
   obtain⟨fn,h1,h2⟩:=zd3 hP i x e
   obtain⟨f,fd,st,ps,N,a1,a2,a3,a4,a5,a6,a7,_⟩:=cF_ok (zna h2 hx)
   exact⟨f,fd,ps,fn,a1,zrq (F:=λi=>Fs[i]?) h1 a2 a3 a4 a5 λcdv A outer s H E hr=>zcg (snd_s (znb KX G a3 (λj y hj hy=>ih k (vae _) j y hj hy) cdv A outer s H E hr) n) a7,a2.kp,a6.1,h1,a5,a6.2.1⟩
noncomputable def zb6:Res W->Bool
 |.ok (.bl true) _=>true
 |_=>false
noncomputable def says(K:PySem.W.Frag)(T:List Str)(d n k i:Nat)(ns:List Int):Bool:=match cProg K T d n with
 |some Fs=>zb6 (run (λi=>Fs[i]?) k i [.fz (ns.map .int)] ⟨0,0,[]⟩)
 |none=>false
theorem ziw{r:Res W}(h:zb6 r=true):∃h',r=.ok (.bl true) h':=by
 cases r with
 |no=>cases h
 |ex _ _=>cases h
 |ok w h'=>cases w<;>first|(rename_i b;cases b<;>first|exact⟨h',rfl⟩|cases h)|cases h
theorem zfj{K:PySem.W.Frag}{m:Nat->Addr}{n:Nat}{H:Hp}:∀(ns:List Int),VReps K m n H (ns.map V.int) (ns.map W.int)
 |[]=>.nil
 |i::r=>.cons (.int i) (zfj r)
theorem znc{K:PySem.W.Frag}{T:List Str}{d n k i:Nat}{ns:List Int}(h:says K T d n k i ns=true):∃Fs h',cProg K T d n=some Fs/\run (λi=>Fs[i]?) k i [.fz (ns.map .int)] ⟨0,0,[]⟩=.ok (.bl true) h':=by
 unfold says at h
 split at h
 .rename_i Fs hF
  obtain⟨h',e⟩:=ziw h
  exact⟨Fs,h',hF,e⟩
 .cases h
theorem ztw{K:PySem.W.Frag}{T:List Str}{d n k i:Nat}{ns:List Int}{Fs:List Fn}(hP:cProg K T d n=some Fs)(h:zb6 (run (λi=>Fs[i]?) k i [.fz (ns.map .int)] ⟨0,0,[]⟩)=true):says K T d n k i ns=true:=by
 unfold says
 rw[hP]
 exact h
noncomputable def lawOk(K:PySem.W.Frag)(x:Str):Bool:=match fnAt K x with
 |some (_,_,fd)=>(match zba fd.params with
  |some [a]=>a.arg==("_law_script" : Str) && !(noneD K fd.defaults)
  |_=>false)
 |none=>false
theorem zqd{l:PySem.W.OpenLaw}{q:Program}{loose:List Str}{XP:(Str->Option Value)->Heap->Prop}{YP:World->Heap->Prop}{dr:DefRec}{K:Params->PySem.W.Frag}(T:List Str)(d n k i:Nat)(hn:l.most=some 63)(hdf:dr.params.defaults=[])(hr:Room k callerA)
 (hY:∀(w:World)(h:Heap),YP w h->(K w.params).In h) (hT:T[i]?=some dr.name) (hne:dr.name≠"") (hS:∀(w:World)(ns:List Int),ns.length<=63->says (K w.params) T d n k i ns=true) (hL:∀w:World,lawOk (K w.params) dr.name=true) :
 PySem.W.WalkO q loose XP YP l.row.toRowW dr [] (λf vs=>PySem.call f vs):=by
 have any:∀w:World,∃Fs,cProg (K w.params) T d n=some Fs:=λw=>let⟨Fs,_,h,_⟩:=znc (hS w [] (vbw _));⟨Fs,h⟩
 refine L2.zst (n:=63) (k:=k) (x:="_law_script") (CX:=λ_=>CX0) (sp:=λw=>spV (K w.params) 1 (run (λj=>(Classical.choose (any w))[j]?) k i)) hn (by decide) hdf hr hY ?_ ?_ λ_ _ _ _ _ z=>z
 .intro w mg fa h KX G hmg
  have hP:=Classical.choose_spec (any w)
  obtain⟨fn',h1,h2⟩:=zd3 hP i _ hT
  obtain⟨f',fd',st,ps',N,a1,a2,a3,a4,a5,a6,a7,o',fd'',args,a8,a9,a10⟩:=cF_ok (zna h2 hne)
  have hps:ps'=[("_law_script" : Str)]:=by
   have hl:=hL w
   unfold lawOk at hl
   rw[a8]at hl
   simp only[a9]at hl
   cases args with
   |nil=>cases hl
   |cons z zs=>
    cases zs with
    |nil=>
     rw[vab]at hl
     have hl:z.arg = "_law_script":=by simpa using hl.1
     rw[a10,vam,hl];rfl
    |cons _ _=>cases hl
  have hnd:hasD (K w.params) dr.name=false:=by
   have hl:=hL w
   unfold lawOk at hl
   rw[a8]at hl
   unfold hasD
   rw[a8]
   simp only[a9]at hl
   split at hl
   .rw[vab]at hl
    simpa using hl.2
   .cases hl
  have e:=PySem.W.mg_of KX G (zjx a1)
  rw[hmg]at e
  cases e
  subst hps
  refine⟨fd',λs u=>.of_eq (a6.2.2 hnd [u] rfl),λbase KB GB=>?_⟩
  cases k with
  |zero=>exact zm1
  |succ k=>exact zrq (F:=λj=>(Classical.choose (any w))[j]?) h1 a2 a3 a4 a5 λcdv A outer s H E hr=>zcg (snd_s (znb KB GB a3 (λj y hj hy=>ztv hP KB GB k k (vae _) j y hj hy) cdv A outer s H E hr) n) a7
 .intro w H a ns hl hO hQ
  obtain⟨Fs,h',e1,e2⟩:=znc (hS w ns hl)
  have hP:=Classical.choose_spec (any w)
  rw[hP]at e1
  cases e1
  refine⟨rfl,⟨0,0,[]⟩,λ_=>0,_,_,h',⟨λi hi=>absurd hi (vfa _),λi j hi=>absurd hi (vfa _),rfl⟩,.cons (.fz ?_ (zfj ns)) .nil,e2,λv H' m' _ _ q=>by cases q;rfl⟩
  rcases hQ with(q|⟨o,q⟩)|q
  .rcases hO a with z|⟨o,xs,z⟩
   .rw[z]at q;cases q
   .rw[z]at q;cases q
  .exact .inl ⟨o,q⟩
  .exact .inr q
noncomputable def fn0:Fn:=⟨1,1,(.seq (.ret (.and (.isi .int (.var 0)) (.not (.isi .bool (.var 0))))) .skip)⟩
noncomputable def fn1:Fn:=⟨3,3,(.seq (.ret (.and (.call 0 (.cons (.var 0) .nil)) (.chn .le .le (.var 1) (.var 0) (.var 2)))) .skip)⟩
noncomputable def fn2:Fn:=⟨2,2,(.seq (.ite (.cmp .eq (.bi .len (.cons (.var 0) .nil)) (.cst (.int (0)))) (.seq (.ret (.op .add (.op .mul (.cst (.int (7))) (.var 1)) (.cst (.int (3))))) .skip) .skip) (.seq (.ret (.bi .abs (.cons (.idx (.var 0) (.op .mod (.var 1) (.bi .len (.cons (.var 0) .nil)))) .nil))) .skip))⟩
noncomputable def zdr:E:=(.cmp .ge (.bi .abs (.cons (.var 0) .nil)) (.op .pow (.cst (.int (10))) (.cst (.int (18)))))
noncomputable def zds:E:=(.bi .abs (.cons (.var 0) .nil))
noncomputable def fn3:Fn:=⟨1,1,(.seq (.ret (.lst (.cons (.var 0) (.cons (.lc .seq (.var 0) (.one 0) 1 [] zdr zds) (.cons (.cst (.int (0))) (.cons (.cst (.int (0))) .nil)))))) .skip)⟩
noncomputable def fn4:Fn:=⟨3,4,(.seq (.set 3 (.op .mod (.op .pow (.op .add (.op .mul (.op .add (.op .mod (.call 2 (.cons (.var 0) (.cons (.var 1) .nil))) (.cst (.int (1000003)))) (.cst (.int (5)))) (.op .add (.var 1) (.cst (.int (2))))) (.op .mul (.cst (.int (7919))) (.var 1))) (.cst (.int (5)))) (.cst (.int (2147483647))))) (.seq (.ret (.op .mod (.op .fdiv (.var 3) (.cst (.int (13)))) (.var 2))) .skip))⟩
noncomputable def zhj:E:=(.cmp .lt (.idx (.var 0) (.cst (.int (2)))) (.bi .len (.cons (.idx (.var 0) (.cst (.int (1)))) .nil)))
noncomputable def zer:S:=(.seq (.set 2 (.idx (.idx (.var 0) (.cst (.int (1)))) (.idx (.var 0) (.cst (.int (2)))))) (.seq (.ite (.cmp .gt (.var 2) (.cst (.int (0)))) (.seq (.put (.idx (.var 0) (.cst (.int (1)))) (.idx (.var 0) (.cst (.int (2)))) (.op .fdiv (.var 2) (.var 1))) (.seq (.ret (.op .mod (.var 2) (.var 1))) .skip)) .skip) (.seq (.put (.var 0) (.cst (.int (2))) (.op .add (.idx (.var 0) (.cst (.int (2)))) (.cst (.int (1))))) .skip)))
noncomputable def fn5:Fn:=⟨2,3,(.seq (.whl zhj zer) (.seq (.put (.var 0) (.cst (.int (3))) (.op .add (.idx (.var 0) (.cst (.int (3)))) (.cst (.int (1))))) (.seq (.ret (.call 4 (.cons (.idx (.var 0) (.cst (.int (0)))) (.cons (.idx (.var 0) (.cst (.int (3)))) (.cons (.var 1) .nil))))) .skip)))⟩
noncomputable def fn6:Fn:=⟨3,3,(.seq (.ret (.and (.isi .tuple (.var 0)) (.chn .le .le (.var 1) (.bi .len (.cons (.var 0) .nil)) (.var 2)))) .skip)⟩
noncomputable def zj0:S:=(.seq (.ite (.not (.tru (.call 1 (.cons (.var 5) (.cons (.var 3) (.cons (.var 4) .nil)))))) (.seq (.ret (.cst (.bl false))) .skip) .skip) .skip)
noncomputable def fn7:Fn:=⟨5,6,(.seq (.ite (.not (.tru (.call 6 (.cons (.var 0) (.cons (.var 1) (.cons (.var 2) .nil)))))) (.seq (.ret (.cst (.bl false))) .skip) .skip) (.seq (.«for» .seq (.var 0) (.one 5) zj0) (.seq (.ret (.cst (.bl true))) .skip)))⟩
noncomputable def zj1:S:=(.seq (.ite (.not (.tru (.call 11 (.cons (.var 3) (.cons (.var 2) .nil))))) (.seq (.ret (.cst (.bl false))) .skip) .skip) .skip)
noncomputable def fn8:Fn:=⟨3,4,(.seq (.ite (.not (.tru (.call 6 (.cons (.var 0) (.cons (.var 1) (.cons (.var 1) .nil)))))) (.seq (.ret (.cst (.bl false))) .skip) .skip) (.seq (.«for» .seq (.var 0) (.one 3) zj1) (.seq (.ret (.cst (.bl true))) .skip)))⟩
noncomputable def zj2:S:=(.seq (.ite (.not (.tru (.call 6 (.cons (.var 2) (.cons (.var 1) (.cons (.var 1) .nil)))))) (.seq (.ret (.cst (.bl false))) .skip) .skip) .skip)
noncomputable def fn9:Fn:=⟨2,3,(.seq (.ite (.not (.tru (.call 6 (.cons (.var 0) (.cons (.cst (.int (0))) (.cons (.cst (.int (60))) .nil)))))) (.seq (.ret (.cst (.bl false))) .skip) .skip) (.seq (.«for» .seq (.var 0) (.one 2) zj2) (.seq (.ret (.cst (.bl true))) .skip)))⟩
noncomputable def fn10:Fn:=⟨1,6,(.seq (.ite (.not (.tru (.call 6 (.cons (.var 0) (.cons (.cst (.int (5))) (.cons (.cst (.int (5))) .nil)))))) (.seq (.ret (.cst (.bl false))) .skip) .skip) (.seq (.unp [1,2,3,4,5] (.var 0)) (.seq (.ite (.or (.not (.tru (.call 1 (.cons (.var 1) (.cons (.cst (.int (1))) (.cons (.cst (.int (40))) .nil)))))) (.not (.tru (.call 1 (.cons (.var 2) (.cons (.cst (.int (0))) (.cons (.cst (.int (8))) .nil))))))) (.seq (.ret (.cst (.bl false))) .skip) .skip) (.seq (.ite (.not (.tru (.call 7 (.cons (.var 4) (.cons (.cst (.int (1))) (.cons (.cst (.int (4))) (.cons (.cst (.int (0))) (.cons (.op .sub (.var 1) (.cst (.int (1)))) .nil)))))))) (.seq (.ret (.cst (.bl false))) .skip) .skip) (.seq (.ret (.and (.call 9 (.cons (.var 3) (.cons (.var 1) .nil))) (.call 8 (.cons (.var 5) (.cons (.var 1) (.cons (.bi .len (.cons (.var 4) .nil)) .nil)))))) .skip)))))⟩
noncomputable def fn11:Fn:=⟨2,4,(.seq (.ite (.not (.tru (.call 6 (.cons (.var 0) (.cons (.cst (.int (2))) (.cons (.cst (.int (2))) .nil)))))) (.seq (.ret (.cst (.bl false))) .skip) .skip) (.seq (.unp [2,3] (.var 0)) (.seq (.ret (.and (.call 1 (.cons (.var 2) (.cons (.cst (.int (0))) (.cons (.cst (.int (99))) .nil)))) (.call 12 (.cons (.var 3) (.cons (.var 1) .nil))))) .skip)))⟩
noncomputable def fn12:Fn:=⟨2,2,(.seq (.ret (.or (.cmp .isn (.var 0) (.cst .non)) (.call 1 (.cons (.var 0) (.cons (.cst (.int (0))) (.cons (.op .sub (.var 1) (.cst (.int (1)))) .nil)))))) .skip)⟩
noncomputable def fn13:Fn:=⟨2,4,(.seq (.ite (.not (.tru (.call 6 (.cons (.var 0) (.cons (.cst (.int (2))) (.cons (.cst (.int (2))) .nil)))))) (.seq (.ret (.cst (.bl false))) .skip) .skip) (.seq (.unp [2,3] (.var 0)) (.seq (.ret (.and (.call 1 (.cons (.var 2) (.cons (.cst (.int (0))) (.cons (.op .sub (.var 1) (.cst (.int (1)))) .nil)))) (.call 1 (.cons (.var 3) (.cons (.cst (.int (0))) (.cons (.cst (.int (1))) .nil)))))) .skip)))⟩
noncomputable def zge:S:=(.seq (.ite (.not (.tru (.call 15 (.cons (.var 7) (.cons (.var 6) (.cons (.var 1) (.cons (.var 2) .nil))))))) (.seq .no .skip) .skip) .skip)
noncomputable def zgf:S:=(.seq (.«for» .enm (.var 5) (.many [6,7]) zge) .skip)
noncomputable def fn14:Fn:=⟨1,8,(.seq (.ite (.not (.tru (.call 10 (.cons (.var 0) .nil)))) (.seq .no .skip) .skip) (.seq (.unp [1,2,3] (.slc (.var 0) false (.cst .non) true (.cst (.int (3))))) (.seq (.«for» .enm (.var 3) (.many [4,5]) zgf) .skip)))⟩
noncomputable def fn15:Fn:=⟨4,4,(.seq (.ite (.or (.cmp .eq (.var 0) (.cst (.str (PySem.Str.ofString "x")))) (.tru (.call 13 (.cons (.var 0) (.cons (.var 3) .nil))))) (.seq (.ret (.chn .lt .lt (.cst (.int (0))) (.var 1) (.op .sub (.var 2) (.cst (.int (1)))))) .skip) .skip) (.seq (.ite (.cmp .eq (.var 0) (.cst (.str (PySem.Str.ofString "<")))) (.seq (.ret (.cmp .gt (.var 1) (.cst (.int (0))))) .skip) .skip) (.seq (.ite (.cmp .eq (.var 0) (.cst (.str (PySem.Str.ofString ">")))) (.seq (.ret (.cmp .lt (.var 1) (.op .sub (.var 2) (.cst (.int (1)))))) .skip) .skip) (.seq (.ret (.or (.cmp .eq (.var 0) (.cst (.str (PySem.Str.ofString ".")))) (.cmp .eq (.var 0) (.cst (.str (PySem.Str.ofString "s")))))) .skip))))⟩
noncomputable def fin(h:VH)(r:Res Fl):Res W:=r.bind λfl h'=>match fl with
 |.nx _=>leave h .non h'
 |.rt w=>leave h w h'
 |_=>.no
theorem zak{F:Nat->Option Fn}{k f:Nat}{fn:Fn}{ws:List W}{h:VH}(hF:F f=some fn)(hl:ws.length=fn.ps) :
 run F (k+1) f ws h=fin h (exs (run F k) fn.body (ws.map some++List.replicate (fn.n-fn.ps) none) ⟨h.n,h.n,h.os⟩):=by
 simp only[run,hF]
 rw[if_pos (by rw[hl];exact Nat.beq_refl _)]
 rfl
theorem zfk{h:VH}{w:W}{h':VH}(h1:h.n<=h'.lo)(h2:W.lt h.n w=true):leave h w h'=.ok w h:=by
 unfold leave
 rw[if_pos (by rw[vab];exact⟨ve8.mpr h1,h2⟩)]
theorem zai{h h':VH}{w:W}(h1:h.n<=h'.lo)(h2:W.lt h.n w=true):fin h (.ok (.rt w) h')=.ok w h:=zfk h1 h2
theorem zrw{h h':VH}{ρ:En}(h1:h.n<=h'.lo):fin h (.ok (.nx ρ) h')=.ok .non h:=zfk h1 (by simp only[W.lt])
@[simp] theorem bindok {α β:Type} {a:α} {h:VH} {f:α->VH->Res β}:(Res.ok a h).bind f=f a h:=rfl
@[simp] theorem bindno {α β:Type} {f:α->VH->Res β}:(Res.no:Res α).bind f=.no:=rfl
@[simp] theorem ofsome {α:Type} {a:α} {h:VH}:Res.of (some a) h=.ok a h:=rfl
@[simp] theorem ofnone {α:Type} {h:VH}:Res.of (none:Option α) h=.no:=rfl
@[simp] theorem lt_non {n:Nat}:W.lt n .non=true:=by simp only[W.lt]
@[simp] theorem lt_bl {n:Nat} {b:Bool}:W.lt n (.bl b)=true:=by simp only[W.lt]
@[simp] theorem lt_int {n:Nat} {b:Int}:W.lt n (.int b)=true:=by simp only[W.lt]
@[simp] theorem lt_str {n:Nat} {b:Str}:W.lt n (.str b)=true:=by simp only[W.lt]
@[simp] theorem lt_tup {n:Nat} {b:List W}:W.lt n (.tup b)=W.lts n b:=by simp only[W.lt]
@[simp] theorem lts_nil {n:Nat}:W.lts n []=true:=by simp only[W.lts]
@[simp] theorem lts_cons {n:Nat} {b:W} {r:List W}:W.lts n (b::r)=(W.lt n b&&W.lts n r):=by simp only[W.lts]
@[simp] theorem ty_int_int:((Ty.int==Ty.int):Bool)=true:=rfl
@[simp] theorem ty_int_bool:((Ty.int==Ty.bool):Bool)=false:=rfl
@[simp] theorem ty_int_tuple:((Ty.int==Ty.tuple):Bool)=false:=rfl
@[simp] theorem ty_int_list:((Ty.int==Ty.list):Bool)=false:=rfl
@[simp] theorem ty_int_str:((Ty.int==Ty.str):Bool)=false:=rfl
@[simp] theorem ty_int_dict:((Ty.int==Ty.dict):Bool)=false:=rfl
@[simp] theorem ty_bool_int:((Ty.bool==Ty.int):Bool)=false:=rfl
@[simp] theorem ty_bool_bool:((Ty.bool==Ty.bool):Bool)=true:=rfl
@[simp] theorem ty_bool_tuple:((Ty.bool==Ty.tuple):Bool)=false:=rfl
@[simp] theorem ty_bool_list:((Ty.bool==Ty.list):Bool)=false:=rfl
@[simp] theorem ty_bool_str:((Ty.bool==Ty.str):Bool)=false:=rfl
@[simp] theorem ty_bool_dict:((Ty.bool==Ty.dict):Bool)=false:=rfl
@[simp] theorem ty_tuple_int:((Ty.tuple==Ty.int):Bool)=false:=rfl
@[simp] theorem ty_tuple_bool:((Ty.tuple==Ty.bool):Bool)=false:=rfl
@[simp] theorem ty_tuple_tuple:((Ty.tuple==Ty.tuple):Bool)=true:=rfl
@[simp] theorem ty_tuple_list:((Ty.tuple==Ty.list):Bool)=false:=rfl
@[simp] theorem ty_tuple_str:((Ty.tuple==Ty.str):Bool)=false:=rfl
@[simp] theorem ty_tuple_dict:((Ty.tuple==Ty.dict):Bool)=false:=rfl
@[simp] theorem ty_list_int:((Ty.list==Ty.int):Bool)=false:=rfl
@[simp] theorem ty_list_bool:((Ty.list==Ty.bool):Bool)=false:=rfl
@[simp] theorem ty_list_tuple:((Ty.list==Ty.tuple):Bool)=false:=rfl
@[simp] theorem ty_list_list:((Ty.list==Ty.list):Bool)=true:=rfl
@[simp] theorem ty_list_str:((Ty.list==Ty.str):Bool)=false:=rfl
@[simp] theorem ty_list_dict:((Ty.list==Ty.dict):Bool)=false:=rfl
@[simp] theorem ty_str_int:((Ty.str==Ty.int):Bool)=false:=rfl
@[simp] theorem ty_str_bool:((Ty.str==Ty.bool):Bool)=false:=rfl
@[simp] theorem ty_str_tuple:((Ty.str==Ty.tuple):Bool)=false:=rfl
@[simp] theorem ty_str_list:((Ty.str==Ty.list):Bool)=false:=rfl
@[simp] theorem ty_str_str:((Ty.str==Ty.str):Bool)=true:=rfl
@[simp] theorem ty_str_dict:((Ty.str==Ty.dict):Bool)=false:=rfl
@[simp] theorem ty_dict_int:((Ty.dict==Ty.int):Bool)=false:=rfl
@[simp] theorem ty_dict_bool:((Ty.dict==Ty.bool):Bool)=false:=rfl
@[simp] theorem ty_dict_tuple:((Ty.dict==Ty.tuple):Bool)=false:=rfl
@[simp] theorem ty_dict_list:((Ty.dict==Ty.list):Bool)=false:=rfl
@[simp] theorem ty_dict_str:((Ty.dict==Ty.str):Bool)=false:=rfl
@[simp] theorem ty_dict_dict:((Ty.dict==Ty.dict):Bool)=true:=rfl
@[simp] theorem isi_non {t:Ty} {h:VH}:tyIs t h .non=some false:=rfl
@[simp] theorem isi_bl {t:Ty} {h:VH} {b:Bool}:tyIs t h (.bl b)=some (t == .int||t == .bool):=rfl
@[simp] theorem isi_int {t:Ty} {h:VH} {i:Int}:tyIs t h (.int i)=some (t == .int):=rfl
@[simp] theorem isi_str {t:Ty} {h:VH} {x:Str}:tyIs t h (.str x)=some (t == .str):=rfl
@[simp] theorem isi_tup {t:Ty} {h:VH} {x:List W}:tyIs t h (.tup x)=some (t == .tuple):=rfl
@[simp] theorem get_lo {h:VH} {l i:Nat}:VH.get ⟨h.n,l,h.os⟩ i=h.get i:=by unfold VH.get;rfl
@[simp] theorem tru_bl {h:VH} {b:Bool}:truW h (.bl b)=some b:=rfl
noncomputable def forL(tg:W->VH->En->Option En)(b:FS):List W->En->VH->Res Fl
 |[],ρ,h=>.ok (.nx ρ) h
 |w::r,ρ,h=>match tg w h ρ with
  |none=>.no
  |some ρ=>(b ρ h).bind λfl h=>match fl with
   |.nx ρ=>forL tg b r ρ h
   |.ct ρ=>forL tg b r ρ h
   |.bk ρ=>.ok (.nx ρ) h
   |.rt w=>.ok (.rt w) h
noncomputable def lcL(tg:W->VH->En->Option En)(c e:FE):List W->En->VH->Res (List W)
 |[],_,h=>.ok [] h
 |w::r,ρ,h=>match tg w h ρ with
  |none=>.no
  |some ρ=>(c ρ h).bind λb h=>match b with
   |.bl true=>(e ρ h).bind λy h=>(lcL tg c e r ρ h).bind λys h=>.ok (y::ys) h
   |.bl false=>lcL tg c e r ρ h
   |_=>.no
theorem zfl{α β γ:Type}{r:Res α}{f:α->VH->Res β}{g:β->VH->Res γ}:(r.bind f).bind g=r.bind λa h=>(f a h).bind g:=by cases r<;>rfl
theorem zbg{nx:Nat->VH->Option (Option W)}{tg:W->VH->En->Option En}{b:FS}{ws:List W}(hx:∀i h,nx i h=some ws[i]?):∀(fu i:Nat) (ρ:En) (h:VH),i<=ws.length->ws.length<fu+i->forG nx tg b fu i ρ h=forL tg b (ws.drop i) ρ h
 |0,i,ρ,h,hi,hl=>by omega
 |fu+1,i,ρ,h,hi,hl=>by
  simp only[forG,hx]
  cases q:ws[i]? with
  |none=>
   rw[vdx (va7.mp q)]
   rfl
  |some w=>
   obtain⟨hi,e⟩:=vau.mp q
   rw[vdf hi,e]
   simp only[forL]
   cases tg w h ρ with
   |none=>rfl
   |some ρ'=>
    simp only
    congr 1
    funext fl h1
    cases fl<;>simp only[zbg hx fu (i+1) _ _ hi (by omega)]
theorem zct{nx:Nat->VH->Option (Option W)}{tg:W->VH->En->Option En}{c e:FE}{ws:List W}(hx:∀i h,nx i h=some ws[i]?):∀(fu i:Nat) (ρ:En) (h:VH) (acc:List W),i<=ws.length->ws.length<fu+i->
 lcG nx tg c e fu i ρ h acc=(lcL tg c e (ws.drop i) ρ h).bind λys h=>.ok (acc.reverse++ys) h
 |0,i,ρ,h,acc,hi,hl=>by omega
 |fu+1,i,ρ,h,acc,hi,hl=>by
  simp only[lcG,hx]
  cases q:ws[i]? with
  |none=>
   rw[vdx (va7.mp q)]
   simp[lcL]
  |some w=>
   obtain⟨hi,ee⟩:=vau.mp q
   rw[vdf hi,ee]
   simp only[lcL]
   cases tg w h ρ with
   |none=>rfl
   |some ρ'=>
    simp only[zfl]
    congr 1
    funext bv h1
    cases bv<;>try rfl
    rename_i bb
    cases bb with
    |true=>
     simp only[zfl]
     congr 1
     funext y h2
     rw[zct hx fu (i+1) _ _ _ hi (by omega)]
     congr 1
     funext ys h3
     simp
    |false=>simp only[zct hx fu (i+1) _ _ _ hi (by omega)]
theorem zdd{ws:List W}{tg:W->VH->En->Option En}{b:FS}{ρ:En}{h:VH}(hl:ws.length<1000000):forG (nxt .seq (.tup ws)) tg b fuel 0 ρ h=forL tg b ws ρ h:=by
 have:=zbg (nx:=nxt .seq (.tup ws)) (tg:=tg) (b:=b) (ws:=ws) (λi h=>rfl) fuel 0 ρ h (vbw _) (by simpa[fuel]using hl)
 simpa using this
noncomputable def enumW:Nat->List W->List W
 |_,[]=>[]
 |i,w::r=>.tup [.int i,w]::enumW (i+1) r
theorem zhk:∀(ws:List W) (i j:Nat),(enumW j ws)[i]?=(ws[i]?).map λw=>.tup [.int ((j+i:Nat):Int),w]
 |[],i,j=>by simp[enumW]
 |w::r,0,j=>by simp[enumW]
 |w::r,i+1,j=>by
  simp only[enumW,va0]
  rw[zhk r i (j+1)]
  congr 1
  funext w
  rw[show j+1+i=j+ (i+1) by omega]
theorem zhl:∀(ws:List W) (j:Nat),(enumW j ws).length=ws.length
 |[],_=>rfl
 |_::r,j=>by simp[enumW,zhl r]
theorem zj3{ws:List W}{tg:W->VH->En->Option En}{b:FS}{ρ:En}{h:VH}(hl:ws.length<1000000):forG (nxt .enm (.tup ws)) tg b fuel 0 ρ h=forL tg b (enumW 0 ws) ρ h:=by
 have:=zbg (nx:=nxt .enm (.tup ws)) (tg:=tg) (b:=b) (ws:=enumW 0 ws) (λi h=>by rw[zhk];simp[nxt,seqW]) fuel 0 ρ h (vbw _) (by simpa[fuel,zhl]using hl)
 simpa using this
noncomputable def zaj(a:Int):Nat->List W
 |0=>[]
 |n+1=>.int a::zaj (a+1) n
theorem zbh:∀(n i:Nat) (a:Int),(zaj a n)[i]?=if i<n then some (.int (a+i))else none
 |0,i,a=>by simp[zaj]
 |n+1,0,a=>by simp[zaj]
 |n+1,i+1,a=>by
  simp only[zaj,va0]
  rw[zbh n i (a+1)]
  by_cases q:i<n
  .rw[if_pos q,if_pos (by omega)]
   congr 2
   push_cast
   omega
  .rw[if_neg q,if_neg (by omega)]
theorem zb7:∀(n:Nat) (a:Int),(zaj a n).length=n
 |0,_=>rfl
 |n+1,a=>by simp[zaj,zb7 n]
theorem ztx{n:Nat}{tg:W->VH->En->Option En}{b:FS}{ρ:En}{h:VH}(hl:n<1000000):forG (nxt .rng1 (.tup [.int n])) tg b fuel 0 ρ h=forL tg b (zaj 0 n) ρ h:=by
 have hf:fits (n:Int)=true:=by simp[fits];omega
 have:=zbg (nx:=nxt .rng1 (.tup [.int n])) (tg:=tg) (b:=b) (ws:=zaj 0 n) (λi h=>by rw[zbh];simp[nxt,hf]) fuel 0 ρ h (vbw _) (by simpa[fuel,zb7]using hl)
 simpa using this
theorem zxx{n:Nat}{tg:W->VH->En->Option En}{c e:FE}{ρ:En}{h:VH}(hl:n<1000000):lcG (nxt .rng1 (.tup [.int n])) tg c e fuel 0 ρ h []=lcL tg c e (zaj 0 n) ρ h:=by
 have hf:fits (n:Int)=true:=by simp[fits];omega
 have:=zct (nx:=nxt .rng1 (.tup [.int n])) (tg:=tg) (c:=c) (e:=e) (ws:=zaj 0 n) (λi h=>by rw[zbh];simp[nxt,hf]) fuel 0 ρ h [] (vbw _) (by simpa[fuel,zb7]using hl)
 rw[this]
 simp only[vcv,vee,vb8]
 cases lcL tg c e (zaj 0 n) ρ h<;>rfl
noncomputable def isInt:W->Bool
 |.int _=>true
 |_=>false
noncomputable def Kn(h:VH)(w:W):Prop:=tyIs .int h w≠none
theorem kn_lo{h:VH}{l:Nat}{w:W}:Kn ⟨h.n,l,h.os⟩ w↔Kn h w:=by
 unfold Kn
 cases w<;>simp[tyIs]
structure CoreA(F:Nat->Option Fn):Prop where
 f0:F 0=some fn0
 f1:F 1=some fn1
 f6:F 6=some fn6
 f7:F 7=some fn7
section
variable{F:Nat->Option Fn}(C:CoreA F)
include C
theorem zqe{k:Nat}{h:VH}{w:W}(hw:Kn h w):run F (k+1) 0 [w] h=.ok (.bl (isInt w)) h:=by
 rw[zak C.f0 rfl]
 cases w<;>try(simp[fn0,exs,ev,isInt,zai];done)
 .exact absurd rfl hw
 .rename_i i
  unfold Kn at hw
  simp only[tyIs]at hw
  cases g:h.get i with
  |none=>rw[g]at hw;exact absurd rfl hw
  |some o=>cases o<;>first|(simp[fn0,exs,ev,isInt,zai,tyIs,g];done)|(simp[g]at hw)
noncomputable def within(w:W)(lo hi:Int):Bool:=match w with
 |.int i=>decide (lo<=i)&&decide (i<=hi)
 |_=>false
theorem zap{k:Nat}{h:VH}{w:W}{lo hi:Int}(hw:Kn h w):run F (k+2) 1 [w,.int lo,.int hi] h=.ok (.bl (within w lo hi)) h:=by
 rw[zak C.f1 rfl]
 have e:=zqe C (k:=k) (h:=⟨h.n,h.n,h.os⟩) (w:=w) (kn_lo.mpr hw)
 cases w<;>simp[fn1,exs,ev,e,isInt,within,zai,cmpW,cmpI]
 rename_i i
 by_cases h1:lo<=i<;>simp[h1,zai]
noncomputable def zat(w:W)(lo hi:Int):Bool:=match w with
 |.tup ws=>decide (lo<=ws.length)&&decide ((ws.length:Int)<=hi)
 |_=>false
theorem zal{k:Nat}{h:VH}{w:W}{lo hi:Int}(hw:Kn h w):run F (k+1) 6 [w,.int lo,.int hi] h=.ok (.bl (zat w lo hi)) h:=by
 rw[zak C.f6 rfl]
 cases w<;>try(simp[fn6,exs,ev,zat,zai];done)
 .rename_i ws
  simp[fn6,exs,ev,zat,zai,cmpW,cmpI,biW,lenW,seqW]
  by_cases h1:lo<=ws.length<;>simp[h1,zai]
 .exact absurd rfl hw
 .rename_i i
  unfold Kn at hw
  simp only[tyIs]at hw
  cases g:h.get i with
  |none=>rw[g]at hw;exact absurd rfl hw
  |some o=>cases o<;>first|(simp[fn6,exs,ev,zat,zai,tyIs,g];done)|(simp[g]at hw)
theorem loop7{k:Nat}{h:VH}{t a b:W}{lo hi:Int}:∀(ws:List W) (x:Option W),(∀w∈ws,Kn h w)->∃y,forL (tgW (.one 5)) (exs (run F (k+2)) zj0) ws [some t,some a,some b,some (.int lo),some (.int hi),x] h =
 if ws.all (within · lo hi)then .ok (.nx [some t,some a,some b,some (.int lo),some (.int hi),y]) h else .ok (.rt (.bl false)) h
 |[],x,_=>⟨x,by simp[forL]⟩
 |w::r,x,hk=>by
  obtain⟨y,e⟩:=loop7 (t:=t) (a:=a) (b:=b) (k:=k) (lo:=lo) (hi:=hi) r (some w) λz hz=>hk z (vag _ hz)
  refine⟨y,?_⟩
  have e1:=zap C (k:=k) (lo:=lo) (hi:=hi) (hk w van)
  have eb:exs (run F (k+2)) zj0 [some t,some a,some b,some (.int lo),some (.int hi),some w] h=if within w lo hi then .ok (.nx [some t,some a,some b,some (.int lo),some (.int hi),some w]) h else .ok (.rt (.bl false)) h:=by
   cases q:within w lo hi<;>simp[zj0,exs,ev,e1,q]
  simp only[forL,tgW,List.set,eb]
  cases q:within w lo hi<;>simp[q,e]
noncomputable def zcu(w:W)(a b lo hi:Int):Bool:=match w with
 |.tup ws=>zat w a b&&ws.all (within · lo hi)
 |_=>false
theorem zbi{k:Nat}{h:VH}{w:W}{a b lo hi:Int}(hw:Kn h w)(hp:∀ws,w=.tup ws->ws.length<1000000/\∀x∈ws,Kn h x):run F (k+3) 7 [w,.int a,.int b,.int lo,.int hi] h=.ok (.bl (zcu w a b lo hi)) h:=by
 rw[zak C.f7 rfl]
 have e1:=zal C (k:=k+1) (h:=⟨h.n,h.n,h.os⟩) (w:=w) (lo:=a) (hi:=b) (kn_lo.mpr hw)
 cases q:zat w a b with
 |false=>
  have:zcu w a b lo hi=false:=by cases w<;>simp[zcu,q]
  simp[fn7,exs,ev,e1,q,this,zai]
 |true=>
  cases w<;>try(simp[zat]at q;done)
  rename_i ws
  obtain⟨hl,hk⟩:=hp ws rfl
  obtain⟨y,e2⟩:=loop7 C (k:=k) (h:=⟨h.n,h.n,h.os⟩) (t:=.tup ws) (a:=.int a) (b:=.int b) (lo:=lo) (hi:=hi) ws none λx hx=>kn_lo.mpr (hk x hx)
  have e3:zcu (.tup ws) a b lo hi=ws.all (within · lo hi):=by simp[zcu,q]
  rw[e3]
  cases q2:ws.all (within · lo hi)with
  |true=>simp[fn7,exs,ev,e1,q,zdd hl,e2,q2,zai]
  |false=>simp[fn7,exs,ev,e1,q,zdd hl,e2,q2,zai]
end
noncomputable def za2:Nat->W->Bool
 |0,_=>false
 |n+1,w=>match w with
  |.non=>true
  |.bl _=>true
  |.int _=>true
  |.str x=>PyData.strOk x
  |.tup ws=>ws.all (za2 n)
  |_=>false
theorem zj4{f:W->Option PyData}{p:W->Bool}{n:Nat}(h:∀w,p w=true->∃d,f w=some d/\d.canLay0=true/\d.depth<=n):∀ws:List W,ws.all p=true->∃ds,mapO f ws=some ds/\PyData.canLayAll0 ds=true/\PyData.depthAll ds<=n
 |[],_=>⟨[],rfl,rfl,vbw _⟩
 |w::r,e=>by
  rw[vdc,vab]at e
  obtain⟨d,h1,h2,h3⟩:=h w e.1
  obtain⟨ds,h4,h5,h6⟩:=zj4 h r e.2
  refine⟨d::ds,by simp[mapO,h1,h4],?_,?_⟩
  .show(d.canLay0&&PyData.canLayAll0 ds)=true
   rw[h2,h5];rfl
  .show max d.depth (PyData.depthAll ds)<=n
   omega
theorem zcv(h:VH):∀(n:Nat) (w:W),za2 n w=true->∃d,toD h n w=some d/\d.canLay0=true/\d.depth<=n
 |0,_,e=>by cases e
 |n+1,w,e=>by
  cases w<;>simp only[za2]at e<;>try(cases e;done)
  .exact⟨.none,rfl,rfl,vbw _⟩
  .exact⟨.bool _,rfl,rfl,vbw _⟩
  .exact⟨.int _,rfl,rfl,vbw _⟩
  .exact⟨.str _,rfl,e,vbw _⟩
  .obtain⟨ds,h1,h2,h3⟩:=zj4 (zcv h n) _ e
   exact⟨.tuple ds,by simp[toD,h1],h2,by show PyData.depthAll ds+1<=n+1;omega⟩
mutual
theorem zj5:∀d:PyData,d.canLay0=true->PyData.eqv d d=true
 |.none,_=>rfl
 |.bool b,_=>by simp[PyData.eqv]
 |.int i,_=>by simp[PyData.eqv]
 |.str x,_=>by simp[PyData.eqv]
 |.list xs,h=>by
  simp only[PyData.eqv]
  exact zci xs h
 |.tuple xs,h=>by
  simp only[PyData.eqv]
  exact zci xs h
 |.dict _,h=>by cases h
theorem zci:∀ds:List PyData,PyData.canLayAll0 ds=true->PyData.eqvAll ds ds=true
 |[],_=>rfl
 |d::ds,h=>by
  have h:(d.canLay0&&PyData.canLayAll0 ds)=true:=h
  rw[vab]at h
  simp only[PyData.eqvAll,zj5 d h.1,zci ds h.2,veo]
end
theorem zyk{h:VH}{w:W}(p:za2 24 w=true):eqW h w w=some true:=by
 obtain⟨d,h1,h2,h3⟩:=zcv h 24 w p
 have hs:SeqAt.shaped d=true:=by
  unfold SeqAt.shaped
  rw[h2,vfr,vaw];omega
 unfold eqW
 rw[h1]
 simp[hs,zj5 d h2]
noncomputable def isS(w:W)(x:Str):Bool:=match w with
 |.str y=>y==x
 |_=>false
theorem zde{h:VH}{w:W}{x:Str}(p:za2 24 w=true)(hx:PyData.strOk x=true):eqW h w (.str x)=some (isS w x):=by
 obtain⟨d,h1,h2,h3⟩:=zcv h 24 w p
 have hs:SeqAt.shaped d=true:=by
  unfold SeqAt.shaped
  rw[h2,vfr,vaw];omega
 have hs2:SeqAt.shaped (.str x)=true:=by
  unfold SeqAt.shaped
  show(PyData.strOk x&&_)=true
  rw[hx];rfl
 unfold eqW
 rw[h1]
 have h4:toD h 24 (.str x)=some (.str x):=rfl
 rw[h4]
 simp only[hs,hs2,veo,vbe]
 cases w<;>simp only[toD]at h1<;>try(cases h1;done)
 .cases h1;simp[isS,PyData.eqv]
 .cases h1;simp[isS,PyData.eqv]
 .cases h1;simp[isS,PyData.eqv]
 .cases h1;simp[isS,PyData.eqv]
 .obtain⟨ds,h5,h6⟩:=Option.map_eq_some_iff.mp h1
  subst h6
  simp[isS,PyData.eqv]
 .simp[za2]at p
 .simp[za2]at p
theorem zhm{n:Nat}{ws:List W}:za2 (n+1) (.tup ws)=ws.all (za2 n):=rfl
theorem zgg{h:VH}{n:Nat}{w:W}(p:za2 n w=true):Kn h w:=by
 unfold Kn
 cases n with
 |zero=>cases p
 |succ n=>cases w<;>simp[za2,tyIs]at p ⊢
structure CoreB(F:Nat->Option Fn):Prop extends CoreA F where
 f8:F 8=some fn8
 f9:F 9=some fn9
 f10:F 10=some fn10
 f11:F 11=some fn11
 f12:F 12=some fn12
 f13:F 13=some fn13
 f14:F 14=some fn14
 f15:F 15=some fn15
theorem zbj:isNon .non=true:=rfl
noncomputable def fon(w:W)(n:Int):Bool:=isNon w||within w 0 (n-1)
noncomputable def door(w:W)(n:Int):Bool:=match w with
 |.tup [a,b]=>within a 0 99&&fon b n
 |_=>false
noncomputable def zbk(w:W)(g:Int):Bool:=match w with
 |.tup [a,b]=>within a 0 (g-1)&&within b 0 1
 |_=>false
noncomputable def zax(w:W)(c wd g:Int):Bool:=
 if isS w "x" || zbk w g then decide (0<c)&&decide (c<wd-1)else if isS w "<"then decide (0<c)else if isS w ">"then decide (c<wd-1)else isS w "." || isS w "s"
section
variable{F:Nat->Option Fn}(C:CoreB F)
include C
theorem zbl{k:Nat}{h:VH}{w:W}{n:Int}(hw:Kn h w):run F (k+3) 12 [w,.int n] h=.ok (.bl (fon w n)) h:=by
 rw[zak C.f12 rfl]
 have e:=zap C.toCoreA (k:=k) (h:=⟨h.n,h.n,h.os⟩) (w:=w) (lo:=0) (hi:=n-1) (kn_lo.mpr hw)
 cases q:isNon w<;>simp[fn12,exs,ev,e,cmpW,zbj,q,fon,zai,opW,opI]
theorem zty{k:Nat}{h:VH}{w:W}{n:Int}(hw:Kn h w)(hp:∀a b,w=.tup [a,b]->Kn h a/\Kn h b):run F (k+4) 11 [w,.int n] h=.ok (.bl (door w n)) h:=by
 rw[zak C.f11 rfl]
 have e1:=zal C.toCoreA (k:=k+2) (h:=⟨h.n,h.n,h.os⟩) (w:=w) (lo:=2) (hi:=2) (kn_lo.mpr hw)
 cases q:zat w 2 2 with
 |false=>
  have:door w n=false:=by
   cases w<;>simp[door]
   rename_i ws
   rcases ws with _|⟨a,_|⟨b,_|_⟩⟩<;>simp[zat]at q ⊢
  simp[fn11,exs,ev,e1,q,this,zai]
 |true=>
  cases w<;>try(simp[zat]at q;done)
  rename_i ws
  have hl:ws.length=2:=by simp[zat]at q;omega
  rcases ws with _|⟨a,_|⟨b,_|_⟩⟩<;>simp at hl
  obtain⟨ka,kb⟩:=hp a b rfl
  have e2:=zap C.toCoreA (k:=k+1) (h:=⟨h.n,h.n,h.os⟩) (w:=a) (lo:=0) (hi:=99) (kn_lo.mpr ka)
  have e3:=zbl C (k:=k) (h:=⟨h.n,h.n,h.os⟩) (w:=b) (n:=n) (kn_lo.mpr kb)
  cases q2:within a 0 99<;>simp[fn11,exs,ev,e1,q,e2,e3,q2,door,zai,tgW,seqW,zaz]
theorem znd{k:Nat}{h:VH}{w:W}{n:Int}(hw:Kn h w)(hp:∀a b,w=.tup [a,b]->Kn h a/\Kn h b):run F (k+3) 13 [w,.int n] h=.ok (.bl (zbk w n)) h:=by
 rw[zak C.f13 rfl]
 have e1:=zal C.toCoreA (k:=k+1) (h:=⟨h.n,h.n,h.os⟩) (w:=w) (lo:=2) (hi:=2) (kn_lo.mpr hw)
 cases q:zat w 2 2 with
 |false=>
  have:zbk w n=false:=by
   cases w<;>simp[zbk]
   rename_i ws
   rcases ws with _|⟨a,_|⟨b,_|_⟩⟩<;>simp[zat]at q ⊢
  simp[fn13,exs,ev,e1,q,this,zai]
 |true=>
  cases w<;>try(simp[zat]at q;done)
  rename_i ws
  have hl:ws.length=2:=by simp[zat]at q;omega
  rcases ws with _|⟨a,_|⟨b,_|_⟩⟩<;>simp at hl
  obtain⟨ka,kb⟩:=hp a b rfl
  have e2:=zap C.toCoreA (k:=k) (h:=⟨h.n,h.n,h.os⟩) (w:=a) (lo:=0) (hi:=n-1) (kn_lo.mpr ka)
  have e3:=zap C.toCoreA (k:=k) (h:=⟨h.n,h.n,h.os⟩) (w:=b) (lo:=0) (hi:=1) (kn_lo.mpr kb)
  cases q2:within a 0 (n-1)<;>simp[fn13,exs,ev,e1,q,e2,e3,q2,zbk,zai,tgW,seqW,zaz,opW,opI]
theorem zne{k:Nat}{h:VH}{w:W}{c wd g:Int}(p:za2 24 w=true):run F (k+4) 15 [w,.int c,.int wd,.int g] h=.ok (.bl (zax w c wd g)) h:=by
 rw[zak C.f15 rfl]
 have hp:∀a b,w=.tup [a,b]->Kn ⟨h.n,h.n,h.os⟩ a/\Kn ⟨h.n,h.n,h.os⟩ b:=λa b e=>by
  subst e
  have p:za2 (23+1) (.tup [a,b])=true:=p
  rw[zhm,vdc,vdc,vab,vab]at p
  exact⟨zgg p.1,zgg p.2.1⟩
 have e1:=znd C (k:=k) (h:=⟨h.n,h.n,h.os⟩) (w:=w) (n:=g) (zgg p) hp
 have sx:=zde (h:=⟨h.n,h.n,h.os⟩) (x:=Str.ofString "x") p (by decide +kernel)
 have sl:=zde (h:=⟨h.n,h.n,h.os⟩) (x:=Str.ofString "<") p (by decide +kernel)
 have sg:=zde (h:=⟨h.n,h.n,h.os⟩) (x:=Str.ofString ">") p (by decide +kernel)
 have sd:=zde (h:=⟨h.n,h.n,h.os⟩) (x:=Str.ofString ".") p (by decide +kernel)
 have ss:=zde (h:=⟨h.n,h.n,h.os⟩) (x:=Str.ofString "s") p (by decide +kernel)
 unfold zax
 cases q1:isS w (Str.ofString "x")<;>cases q2:zbk w g<;>cases q3:isS w (Str.ofString "<")<;>cases q4:isS w (Str.ofString ">")<;>cases q5:isS w (Str.ofString ".")<;>by_cases h1:0<c<;>
  simp[fn15,exs,ev,cmpW,cmpI,sx,sl,sg,sd,ss,e1,opW,opI,q1,q2,q3,q4,q5,h1,zai]
theorem zcd{k:Nat}{h:VH}{t a:W}{n:Int}:∀(ws:List W) (x:Option W),(∀w∈ws,Kn h w/\∀a b,w=.tup [a,b]->Kn h a/\Kn h b)->∃y,forL (tgW (.one 3)) (exs (run F (k+4)) zj1) ws [some t,some a,some (.int n),x] h =
 if ws.all (door · n)then .ok (.nx [some t,some a,some (.int n),y]) h else .ok (.rt (.bl false)) h
 |[],x,_=>⟨x,by simp[forL]⟩
 |w::r,x,hk=>by
  obtain⟨y,e⟩:=zcd (t:=t) (a:=a) (k:=k) (n:=n) r (some w) λz hz=>hk z (vag _ hz)
  refine⟨y,?_⟩
  obtain⟨k1,k2⟩:=hk w van
  have e1:=zty C (k:=k) (n:=n) k1 k2
  have eb:exs (run F (k+4)) zj1 [some t,some a,some (.int n),some w] h=if door w n then .ok (.nx [some t,some a,some (.int n),some w]) h else .ok (.rt (.bl false)) h:=by
   cases q:door w n<;>simp[zj1,exs,ev,e1,q]
  simp only[forL,tgW,List.set,eb]
  cases q:door w n<;>simp[q,e]
theorem znf{k:Nat}{h:VH}{ws:List W}{wd n:Int}(hl:ws.length=wd)(hz:ws.length<1000000)(hd:∀w∈ws,door w n=true):run F (k+5) 8 [.tup ws,.int wd,.int n] h=.ok (.bl true) h:=by
 rw[zak C.f8 rfl]
 have e1:=zal C.toCoreA (k:=k+3) (h:=⟨h.n,h.n,h.os⟩) (w:=.tup ws) (lo:=wd) (hi:=wd) (by unfold Kn;simp)
 have q:zat (.tup ws) wd wd=true:=by simp[zat,hl]
 have kn:∀w∈ws,Kn ⟨h.n,h.n,h.os⟩ w/\∀a b,w=.tup [a,b]->Kn ⟨h.n,h.n,h.os⟩ a/\Kn ⟨h.n,h.n,h.os⟩ b:=λw hw=>by
  have:=hd w hw
  cases w<;>simp only[door]at this<;>try(cases this;done)
  rename_i us
  refine⟨by unfold Kn;simp,λa b e=>?_⟩
  cases e
  simp only[vab]at this
  obtain⟨h1,h2⟩:=this
  refine⟨?_,?_⟩
  .cases a<;>simp[within]at h1
   unfold Kn;simp
  .unfold fon at h2
   cases b<;>simp[within,isNon]at h2
   .unfold Kn;simp
   .unfold Kn;simp
 obtain⟨y,e2⟩:=zcd C (k:=k) (h:=⟨h.n,h.n,h.os⟩) (t:=.tup ws) (a:=.int wd) (n:=n) ws none kn
 have ha:ws.all (door · n)=true:=vbp.mpr hd
 simp[fn8,exs,ev,e1,q,zdd hz,e2,ha,zai]
theorem zcw{k:Nat}{h:VH}{t:W}{wd:Int}:∀(ws:List W) (x:Option W),(∀w∈ws,∃us,w=.tup us/\us.length=wd)->∃y,forL (tgW (.one 2)) (exs (run F (k+1)) zj2) ws [some t,some (.int wd),x] h=.ok (.nx [some t,some (.int wd),y]) h
 |[],x,_=>⟨x,by simp[forL]⟩
 |w::r,x,hk=>by
  obtain⟨y,e⟩:=zcw (h:=h) (t:=t) (k:=k) (wd:=wd) r (some w) λz hz=>hk z (vag _ hz)
  refine⟨y,?_⟩
  obtain⟨us,rfl,hl⟩:=hk w van
  have e1:=zal C.toCoreA (k:=k) (h:=h) (w:=.tup us) (lo:=wd) (hi:=wd) (by unfold Kn;simp)
  have q:zat (.tup us) wd wd=true:=by simp[zat,hl]
  have eb:exs (run F (k+1)) zj2 [some t,some (.int wd),some (.tup us)] h=.ok (.nx [some t,some (.int wd),some (.tup us)]) h:=by
   simp[zj2,exs,ev,e1,q]
  simp only[forL,tgW,List.set,eb,bindok,e]
theorem zqf{k:Nat}{h:VH}{ws:List W}{wd:Int}(hl:ws.length<=60)(hd:∀w∈ws,∃us,w=.tup us/\us.length=wd):run F (k+2) 9 [.tup ws,.int wd] h=.ok (.bl true) h:=by
 rw[zak C.f9 rfl]
 have e1:=zal C.toCoreA (k:=k) (h:=⟨h.n,h.n,h.os⟩) (w:=.tup ws) (lo:=0) (hi:=60) (by unfold Kn;simp)
 have q:zat (.tup ws) 0 60=true:=by simp[zat];omega
 obtain⟨y,e2⟩:=zcw C (k:=k) (h:=⟨h.n,h.n,h.os⟩) (t:=.tup ws) (wd:=wd) ws none hd
 simp[fn9,exs,ev,e1,q,zdd (show ws.length<1000000 by omega),e2,zai]
end
structure Bd where
 wd:Int
 gr:Int
 rows:List (List W)
 fd:List W
 dr:List W
noncomputable def Bd.w(B:Bd):W:=.tup [.int B.wd,.int B.gr,.tup (B.rows.map .tup),.tup B.fd,.tup B.dr]
noncomputable def rowOk(wd g:Int):Int->List W->Prop
 |_,[]=>True
 |c,w::r=>zax w c wd g=true/\rowOk wd g (c+1) r
structure Bd.Ok(B:Bd):Prop where
 w1:1<=B.wd
 w2:B.wd<=40
 g1:0<=B.gr
 g2:B.gr<=8
 r1:B.rows.length<=60
 r2:∀r∈B.rows,(r.length:Int)=B.wd/\rowOk B.wd B.gr 0 r
 f1:1<=B.fd.length
 f2:B.fd.length<=4
 f3:∀f∈B.fd,within f 0 (B.wd-1)=true
 d1:(B.dr.length:Int)=B.wd
 d2:∀d∈B.dr,door d B.fd.length=true
structure Bd.Ok0(B:Bd):Prop where
 w1:1<=B.wd
 w2:B.wd<=40
 g1:0<=B.gr
 g2:B.gr<=8
 r1:B.rows.length<=60
 r2:∀r∈B.rows,(r.length:Int)=B.wd
 f1:1<=B.fd.length
 f2:B.fd.length<=4
 f3:∀f∈B.fd,within f 0 (B.wd-1)=true
 d1:(B.dr.length:Int)=B.wd
 d2:∀d∈B.dr,door d B.fd.length=true
theorem Bd.Ok.ok0{B:Bd}(b:B.Ok):B.Ok0:=⟨b.w1,b.w2,b.g1,b.g2,b.r1,λr hr=>(b.r2 r hr).1,b.f1,b.f2,b.f3,b.d1,b.d2⟩
theorem zhn{w:W}{g:Int}(h:zbk w g=true)(n:Nat):za2 (n+2) w=true:=by
 cases w<;>simp only[zbk]at h<;>try(cases h;done)
 rename_i us
 rcases us with _|⟨a,_|⟨b,_|_⟩⟩<;>simp at h
 obtain⟨h1,h2⟩:=h
 cases a<;>simp[within]at h1
 cases b<;>simp[within]at h2
 rfl
theorem zfm{w:W}{x:Str}(h:isS w x=true):w=.str x:=by
 cases w<;>simp[isS]at h
 rw[h]
theorem ze3{w:W}{c wd g:Int}(h:zax w c wd g=true)(n:Nat):za2 (n+2) w=true:=by
 have st:∀x:Str,PyData.strOk x=true->isS w x=true->za2 (n+2) w=true:=λx hx e=>by rw[zfm e];exact hx
 unfold zax at h
 split at h
 .rename_i q
  rw[vcw]at q
  rcases q with q|q
  .exact st _ (by decide +kernel) q
  .exact zhn q n
 .split at h
  .rename_i q;exact st _ (by decide +kernel) q
  .split at h
   .rename_i q;exact st _ (by decide +kernel) q
   .rw[vcw]at h
    rcases h with q|q
    .exact st _ (by decide +kernel) q
    .exact st _ (by decide +kernel) q
section
variable{F:Nat->Option Fn}(C:CoreB F)
include C
theorem zng{k:Nat}{h:VH}{B:Bd}(b:B.Ok0):run F (k+6) 10 [B.w] h=.ok (.bl true) h:=by
 rw[zak C.f10 rfl]
 have e1:=zal C.toCoreA (k:=k+4) (h:=⟨h.n,h.n,h.os⟩) (w:=B.w) (lo:=5) (hi:=5) (by unfold Kn Bd.w;simp)
 have q1:zat B.w 5 5=true:=by simp[zat,Bd.w]
 have e2:=zap C.toCoreA (k:=k+3) (h:=⟨h.n,h.n,h.os⟩) (w:=.int B.wd) (lo:=1) (hi:=40) (by unfold Kn;simp)
 have q2:within (.int B.wd) 1 40=true:=by simp[within,b.w1,b.w2]
 have e3:=zap C.toCoreA (k:=k+3) (h:=⟨h.n,h.n,h.os⟩) (w:=.int B.gr) (lo:=0) (hi:=8) (by unfold Kn;simp)
 have q3:within (.int B.gr) 0 8=true:=by simp[within,b.g1,b.g2]
 have kf:∀x∈B.fd,Kn ⟨h.n,h.n,h.os⟩ x:=λx hx=>by
  have:=b.f3 x hx
  cases x<;>simp[within]at this
  unfold Kn;simp
 have hf:=b.f2
 have e4:=zbi C.toCoreA (k:=k+2) (h:=⟨h.n,h.n,h.os⟩) (w:=.tup B.fd) (a:=1) (b:=4) (lo:=0) (hi:=B.wd-1) (by unfold Kn;simp) (λws e=>by cases e;exact⟨by omega,kf⟩)
 have q4:zcu (.tup B.fd) 1 4 0 (B.wd-1)=true:=by
  have h1:=b.f1
  simp only[zcu,zat,vab,vaw]
  exact⟨⟨by omega,by omega⟩,vbp.mpr b.f3⟩
 have e5:=zqf C (k:=k+3) (h:=⟨h.n,h.n,h.os⟩) (ws:=B.rows.map .tup) (wd:=B.wd) (by rw[vad];exact b.r1) (λw hw=>by
  obtain⟨r,hr,e⟩:=va6.mp hw
  exact⟨r,e.symm,b.r2 r hr⟩)
 have hd:=b.d1
 have h40:=b.w2
 have e6:=znf C (k:=k) (h:=⟨h.n,h.n,h.os⟩) (ws:=B.dr) (wd:=B.wd) (n:=B.fd.length) hd (by omega) b.d2
 unfold Bd.w at e1 q1 ⊢
 simp[fn10,exs,ev,e1,q1,e2,q2,e3,q3,e4,q4,e5,e6,zai,tgW,seqW,zaz,opW,opI,biW,lenW]
theorem zqg{k:Nat}{h:VH}{B:Bd}(b:B.Ok):run F (k+6) 10 [B.w] h=.ok (.bl true) h:=zng C b.ok0
theorem znh{k:Nat}{h:VH}{t rs pl:W}{wd g r0:Int}:∀(ws:List W) (c:Int) (j:Nat) (x y:Option W),c=j->rowOk wd g c ws->∃x' y',forL (tgW (.many [6,7])) (exs (run F (k+4)) zge) (enumW j ws) [some t,some (.int wd),some (.int g),some rs,some (.int r0),some pl,x,y] h =
 .ok (.nx [some t,some (.int wd),some (.int g),some rs,some (.int r0),some pl,x',y']) h
 |[],c,j,x,y,_,_=>⟨x,y,by simp[forL,enumW]⟩
 |w::r,c,j,x,y,hc,ho=>by
  obtain⟨h1,h2⟩:=ho
  obtain⟨x',y',e⟩:=znh (h:=h) (t:=t) (rs:=rs) (pl:=pl) (k:=k) (wd:=wd) (g:=g) (r0:=r0) r (c+1) (j+1) (some (.int j)) (some w) (by rw[hc];push_cast;rfl) h2
  refine⟨x',y',?_⟩
  have e1:=zne C (k:=k) (h:=h) (c:=j) (wd:=wd) (g:=g) (ze3 h1 22)
  rw[<-hc,h1]at e1
  have eb:exs (run F (k+4)) zge [some t,some (.int wd),some (.int g),some rs,some (.int r0),some pl,some (.int j),some w] h=.ok (.nx [some t,some (.int wd),some (.int g),some rs,some (.int r0),some pl,some (.int j),some w]) h:=by
   rw[hc]at e1
   simp[zge,exs,ev,e1]
  simp only[forL,enumW,tgW,seqW,zaz,List.set,eb,bindok,e]
theorem zj6{k:Nat}{h:VH}{t rs:W}{wd g:Int}:∀(ws:List (List W)) (j:Nat) (x y z u:Option W),(∀r∈ws,(r.length:Int)<1000000/\rowOk wd g 0 r)->∃x' y' z' u',forL (tgW (.many [4,5])) (exs (run F (k+4)) zgf) (enumW j (ws.map .tup)) [some t,some (.int wd),some (.int g),some rs,x,y,z,u] h =
 .ok (.nx [some t,some (.int wd),some (.int g),some rs,x',y',z',u']) h
 |[],j,x,y,z,u,_=>⟨x,y,z,u,by simp[forL,enumW]⟩
 |w::r,j,x,y,z,u,ho=>by
  obtain⟨h1,h2⟩:=ho w van
  obtain⟨z1,u1,e1⟩:=znh C (k:=k) (h:=h) (t:=t) (rs:=rs) (pl:=.tup w) (wd:=wd) (g:=g) (r0:=j) w 0 0 z u rfl h2
  obtain⟨x',y',z',u',e⟩:=zj6 (h:=h) (t:=t) (rs:=rs) (k:=k) (wd:=wd) (g:=g) r (j+1) (some (.int j)) (some (.tup w)) z1 u1 λq hq=>ho q (vag _ hq)
  refine⟨x',y',z',u',?_⟩
  have eb:exs (run F (k+4)) zgf [some t,some (.int wd),some (.int g),some rs,some (.int j),some (.tup w),z,u] h=.ok (.nx [some t,some (.int wd),some (.int g),some rs,some (.int j),some (.tup w),z1,u1]) h:=by
   simp[zgf,exs,ev,zj3 (show w.length<1000000 by omega),e1]
  simp only[forL,vam,enumW,tgW,seqW,zaz,List.set,eb,bindok,e]
theorem zgh{k:Nat}{h:VH}{B:Bd}(b:B.Ok):run F (k+7) 14 [B.w] h=.ok .non h:=by
 rw[zak C.f14 rfl]
 have e1:=zqg C (k:=k) (h:=⟨h.n,h.n,h.os⟩) b
 have h40:=b.w2
 have h60:=b.r1
 obtain⟨x',y',z',u',e2⟩:=zj6 C (k:=k+2) (h:=⟨h.n,h.n,h.os⟩) (t:=B.w) (rs:=.tup (B.rows.map .tup)) (wd:=B.wd) (g:=B.gr) B.rows 0 none none none none λr hr=>⟨by have:=(b.r2 r hr).1;omega,(b.r2 r hr).2⟩
 unfold Bd.w at e1 e2 ⊢
 simp[fn14,exs,ev,e1,zrw,tgW,seqW,zaz,partW,cutW,HT.sIx,zj3 (show(B.rows.map W.tup).length<1000000 by rw[vad];omega),e2]
end
structure CoreD(F:Nat->Option Fn):Prop where
 f2:F 2=some fn2
 f3:F 3=some fn3
 f4:F 4=some fn4
 f5:F 5=some fn5
theorem za8{h:VH}{i j:Int}:eqW h (.int i) (.int j)=some (decide (i=j)):=by
 unfold eqW
 simp only[toD]
 show some (i==j)=_
 by_cases q:i=j<;>simp[q]
theorem zd4{i:Int}(h1:-(2 ^ 63)<=i)(h2:i<2 ^ 63):za7 i=true:=by
 unfold za7
 simp only[vab,vaw]
 omega
theorem zay{h:VH}{i:Nat}{o o0:VO}(g:h.get i=some o0):(h.set i o).get i=some o:=by
 have hi:=zam g
 unfold VH.get at g
 rw[if_pos (zar.mpr hi)]at g
 have hl:=(vau.mp g).1
 unfold VH.get VH.set
 simp only[if_pos (zar.mpr hi)]
 rw[vcr hl]
theorem zas{h:VH}{i j:Nat}{o o0:VO}(g:h.get i=some o0)(hj:j≠i):(h.set i o).get j=h.get j:=zc8 (zam g) hj
structure Dk(h:VH)(d c:Nat)(b:Nat):Prop where
 ne:d≠c
 st:∃(ns cells:List Int) (p q:Int),h.get d=some (.lst [.fz (ns.map .int),.ref c,.int p,.int q])/\h.get c=some (.lst (cells.map .int))/\(∀x∈cells,(0:Int)<=x)/\0<=p/\0<=q/\q<=b/\cells.length<=63
theorem Dk.mono{h:VH}{d c b b':Nat}(D:Dk h d c b)(hb:b<=b'):Dk h d c b':=by
 obtain⟨ne,ns,cells,p,q,a1,a2,a3,a4,a5,a6,a7⟩:=D
 exact⟨ne,ns,cells,p,q,a1,a2,a3,a4,a5,by omega,a7⟩
structure Keep(h h':VH)(d c:Nat):Prop where
 le:h.n<=h'.n
 get:∀i o,i≠d->i≠c->h.get i=some o->h'.get i=some o
theorem Keep.refl{h:VH}{d c:Nat}:Keep h h d c:=⟨vae _,λ_ _ _ _ e=>e⟩
theorem Keep.trans{h h1 h2:VH}{d c:Nat}(a:Keep h h1 d c)(b:Keep h1 h2 d c):Keep h h2 d c:=⟨vbs a.le b.le,λi o h1 h2 e=>b.get i o h1 h2 (a.get i o h1 h2 e)⟩
theorem zdf(i:Int):(if i<0 then -i else i)=(i.natAbs:Int):=by
 split<;>omega
section
variable{F:Nat->Option Fn}(C:CoreD F)
include C
theorem cell{k:Nat}{h:VH}{ns:List Int}{j:Int}(hj:0<=j):∃r,run F (k+1) 2 [.fz (ns.map .int),.int j] h=.ok (.int r) h/\0<=r:=by
 rw[zak C.f2 rfl]
 cases ns with
 |nil=>
  refine⟨7*j+3,?_,by omega⟩
  simp[fn2,exs,ev,biW,lenW,seqW,cmpW,za8,opW,opI,zd4,zai]
 |cons n0 ns0=>
  have hl:(0:Int)< ((n0::ns0).length:Int):=by simp only[vai];omega
  have hm1:=vfi j (show((n0::ns0).length:Int)≠0 by omega)
  have hm2:=vep j hl
  obtain⟨m,hm⟩:=vb2 hm1
  have hml:m< (n0::ns0).length:=by omega
  have ha:atI (List.map W.int (n0::ns0)) (j % ((n0::ns0).length:Int))=some (.int ((n0::ns0)[m])):=by
   rw[hm]
   exact zbv (by rw[vat,vaq hml];rfl)
  have hb:¬(((ns0.length:Int)+1)=0):=by omega
  have hp:(0:Int)< (ns0.length:Int)+1:=by omega
  refine⟨(((n0::ns0)[m]).natAbs:Int),?_,by omega⟩
  simp only[vai,Int.natCast_add,Int.cast_ofNat_Int,vam]at ha
  simp[fn2,exs,ev,biW,lenW,seqW,cmpW,za8,opW,opI,zai,idxW,absW,hb,hp,ha,zdf]
theorem mixed{k:Nat}{h:VH}{ns:List Int}{j m:Int}(hj:0<=j)(hj2:j<=1000000000)(hm:0<m):∃r,run F (k+2) 4 [.fz (ns.map .int),.int j,.int m] h=.ok (.int r) h/\0<=r/\r<m:=by
 rw[zak C.f4 rfl]
 obtain⟨c,e1,hc⟩:=cell C (k:=k) (h:=⟨h.n,h.n,h.os⟩) (ns:=ns) hj
 have h1:=vfi c (show(1000003:Int)≠0 by decide)
 have h2:=vep c (show(0:Int)<1000003 by decide)
 generalize hx:c % 1000003=x at h1 h2
 have s1:za7 (x+5)=true:=zd4 (by omega) (by omega)
 have s2:za7 7919=true:=zd4 (by decide) (by decide)
 have hb:(x+5)* (j+2)<=1000008*1000000002:=Int.mul_le_mul (by omega) (by omega) (by omega) (by omega)
 have hb0:0<=(x+5)* (j+2):=Int.mul_nonneg (by omega) (by omega)
 generalize hy:(x+5)* (j+2)=y at hb hb0
 have hn:(y+7919*j).natAbs<2 ^ 64:=by omega
 refine⟨(y+7919*j) ^ 5 % 2147483647/13 % m,?_,vfi _ (by omega),vep _ hm⟩
 have hn':(y+7919*j).natAbs<18446744073709551616:=by omega
 simp[fn4,exs,ev,e1,opW,opI,hx,s1,s2,hy,hn',hm,zai]
theorem zho{k:Nat}{d c:Nat}{m q:Int}{ns:List Int}(hdc:d≠c)(hm:0<m)(hm2:m<1073741824):∀(n f:Nat) (g:VH) (x:Option W) (cells:List Int) (p:Int),n<f->(cells.length:Int)-p<=n->0<=p->(∀y∈cells,(0:Int)<=y)->
 g.get d=some (.lst [.fz (ns.map .int),.ref c,.int p,.int q])->g.get c=some (.lst (cells.map .int))->
 ∃(g':VH) (cells':List Int) (p':Int),0<=p'/\(∀y∈cells',(0:Int)<=y)/\cells'.length=cells.length/\g'.get d=some (.lst [.fz (ns.map .int),.ref c,.int p',.int q])/\g'.get c=some (.lst (cells'.map .int))/\g'.n=g.n/\(∀i,i≠d->i≠c->g'.get i=g.get i)/\
  ((∃r,whlG (ev (run F (k+2)) zhj) (exs (run F (k+2)) zer) f [some (.ref d),some (.int m),x] g=.ok (.rt (.int r)) g'/\0<=r/\r<m)\/∃y,whlG (ev (run F (k+2)) zhj) (exs (run F (k+2)) zer) f [some (.ref d),some (.int m),x] g=.ok (.nx [some (.ref d),some (.int m),y]) g')
 |n,0,g,x,cells,p,hf,_,_,_,_,_=>by omega
 |n,f+1,g,x,cells,p,hf,hn,hp,hnn,gd,gc=>by
  have ec:ev (run F (k+2)) zhj [some (.ref d),some (.int m),x] g=.ok (.bl (decide (p<cells.length))) g:=by
   simp[zhj,ev,idxW,gd,atI,ixN,biW,lenW,seqW,gc,cmpW,cmpI]
  by_cases hlt:p<cells.length
  .obtain⟨pn,rfl⟩:=vb2 hp
   have hpl:pn<cells.length:=by omega
   have hat:atI (cells.map W.int) (pn:Int)=some (.int cells[pn]):=zbv (by rw[vat,vaq hpl];rfl)
   by_cases hpos:0<cells[pn]
   .refine⟨g.set c (.lst ((cells.set pn (cells[pn]/m)).map .int)),cells.set pn (cells[pn]/m),pn,hp,?_,by simp,?_,zay gc,rfl,λi _ hi=>zas gc hi,.inl ⟨cells[pn] % m,?_,vfi _ (by omega),vep _ hm⟩⟩
    .intro y hy
     rcases List.mem_or_eq_of_mem_set hy with hy|rfl
     .exact hnn y hy
     .exact Int.ediv_nonneg (by omega) (by omega)
    .rw[zas gc hdc];exact gd
    .have hix:ixN (cells.map W.int).length (pn:Int)=some pn:=by
      unfold ixN
      rw[if_pos (by omega),if_pos (by rw[vad];omega)];simp
     have eb:exs (run F (k+2)) zer [some (.ref d),some (.int m),x] g=.ok (.rt (.int (cells[pn] % m))) (g.set c (.lst ((cells.set pn (cells[pn]/m)).map .int))):=by
      have h2:atI [W.fz (ns.map .int),.ref c,.int pn,.int q] 2=some (.int pn):=rfl
      have h1:atI [W.fz (ns.map .int),.ref c,.int pn,.int q] 1=some (.ref c):=rfl
      simp[zer,exs,ev,idxW,gd,h1,h2,gc,hat,cmpW,cmpI,hpos,opW,opI,hm,hm2]at hix ⊢
      simp[hix,hm,List.map_set]
     simp[whlG,ec,hlt,eb]
   .have gs:(g.set d (.lst [.fz (ns.map .int),.ref c,.int ((pn:Int)+1),.int q])).get c=some (.lst (cells.map .int)):=by rw[zas gd (vck hdc)];exact gc
    cases n with
    |zero=>omega
    |succ n=>
     obtain⟨g',cells',p',a1,a2,a3,a4,a5,a6,a7,a8⟩:=zho (k:=k) hdc hm hm2 n f (g.set d (.lst [.fz (ns.map .int),.ref c,.int ((pn:Int)+1),.int q])) (some (.int cells[pn])) cells (pn+1) (by omega) (by omega) (by omega) hnn (zay gd) gs
     have eb:exs (run F (k+2)) zer [some (.ref d),some (.int m),x] g=.ok (.nx [some (.ref d),some (.int m),some (.int cells[pn])]) (g.set d (.lst [.fz (ns.map .int),.ref c,.int ((pn:Int)+1),.int q])):=by
      have h2:atI [W.fz (ns.map .int),.ref c,.int pn,.int q] 2=some (.int pn):=rfl
      have h1:atI [W.fz (ns.map .int),.ref c,.int pn,.int q] 1=some (.ref c):=rfl
      have h3:ixN 4 2=some 2:=rfl
      simp[zer,exs,ev,idxW,gd,h1,h2,h3,gc,hat,cmpW,cmpI,hpos,opW,opI]
     refine⟨g',cells',p',a1,a2,a3,a4,a5,a6,λi h1 h2=>by rw[a7 i h1 h2,zas gd h1],?_⟩
     rcases a8 with⟨r,e,h3⟩|⟨y,e⟩
     .exact .inl ⟨r,by simp[whlG,ec,hlt,eb,e],h3⟩
     .exact .inr ⟨y,by simp[whlG,ec,hlt,eb,e]⟩
  .exact⟨g,cells,p,hp,hnn,rfl,gd,gc,rfl,λ_ _ _=>rfl,.inr ⟨x,by simp[whlG,ec,hlt]⟩⟩
omit C in
theorem zhp{h h':VH}{w:W}(g:Grow ⟨h.n,h.n,h.os⟩ h'):∃h2,leave h w h'=.ok w h2/\h.n<=h2.n/\∀i,i<h.n->h2.get i=h'.get i:=by
 unfold leave
 split
 .rename_i q
  rw[vab]at q
  have hlo:=va3 q.1
  exact⟨h,rfl,vae _,λi hi=>by
   rw[g.2.2 i hi (vak hi hlo)]
   exact get_lo.symm⟩
 .exact⟨_,rfl,g.1,λi hi=>get_lo⟩
theorem take{k:Nat}{h:VH}{d c b:Nat}{m:Int}(D:Dk h d c b)(hb:b<1000000000)(hm:0<m)(hm2:m<1073741824):∃r h',run F (k+3) 5 [.ref d,.int m] h=.ok (.int r) h'/\0<=r/\r<m/\Dk h' d c (b+1)/\Keep h h' d c:=by
 rw[zak C.f5 rfl]
 obtain⟨hne,ns,cells,p,q,gd,gc,hnn,hp,hq,hqb,hl⟩:=D
 have gd0:VH.get ⟨h.n,h.n,h.os⟩ d=some (.lst [.fz (ns.map .int),.ref c,.int p,.int q]):=by rw[get_lo];exact gd
 have gc0:VH.get ⟨h.n,h.n,h.os⟩ c=some (.lst (cells.map .int)):=by rw[get_lo];exact gc
 obtain⟨g',cells',p',a1,a2,a3,a4,a5,a6,a7,a8⟩:=zho C (k:=k) hne hm hm2 63 fuel ⟨h.n,h.n,h.os⟩ none cells p (by decide) (by omega) hp hnn gd0 gc0
 have key:∀(g2:VH)(r:Int)(cells2:List Int)(p2 q2:Int),exs (run F (k+2)) fn5.body [some (.ref d),some (.int m),none] ⟨h.n,h.n,h.os⟩=.ok (.rt (.int r)) g2->0<=r->r<m->0<=p2->0<=q2->q2<=b+1->cells2.length<=63->(∀y∈cells2,(0:Int)<=y)->
  g2.get d=some (.lst [.fz (ns.map .int),.ref c,.int p2,.int q2])->g2.get c=some (.lst (cells2.map .int))->(∀i,i<h.n->i≠d->i≠c->g2.get i=h.get i)->
  ∃r h',fin h (exs (run F (k+2)) fn5.body ([W.ref d,W.int m].map some++List.replicate (fn5.n-fn5.ps) none) ⟨h.n,h.n,h.os⟩)=.ok (.int r) h'/\0<=r/\r<m/\Dk h' d c (b+1)/\Keep h h' d c:=by
  intro g2 r cells2 p2 q2 e r1 r2 b1 b2 b3 b4 b5 b6 b7 b8
  obtain⟨h2,e2,hn2,hg2⟩:=zhp (w:=.int r) (zjr (zjs F (k+2)) _ _ _ _ _ e)
  refine⟨r,h2,?_,r1,r2,⟨hne,ns,cells2,p2,q2,?_,?_,b5,b1,b2,by omega,b4⟩,⟨hn2,λi o h1 h3 e3=>?_⟩⟩
  .show fin h (exs (run F (k+2)) fn5.body [some (.ref d),some (.int m),none] ⟨h.n,h.n,h.os⟩)=_
   rw[e]
   exact e2
  .rw[hg2 d (zam gd)];exact b6
  .rw[hg2 c (zam gc)];exact b7
  .rw[hg2 i (zam e3),b8 i (zam e3) h1 h3];exact e3
 rcases a8 with⟨r,e,r1,r2⟩|⟨y,e⟩
 .refine key g' r cells' p' q ?_ r1 r2 a1 hq (by omega) (by omega) a2 a4 a5 λi hi h1 h2=>by rw[a7 i h1 h2,get_lo]
  simp[fn5,exs,e]
 .obtain⟨r,e2,r1,r2⟩:=mixed C (k:=k) (h:=g'.set d (.lst [.fz (ns.map .int),.ref c,.int p',.int (q+1)])) (ns:=ns) (j:=q+1) (m:=m) (by omega) (by omega) hm
  refine key (g'.set d (.lst [.fz (ns.map .int),.ref c,.int p',.int (q+1)])) r cells' p' (q+1) ?_ r1 r2 a1 (by omega) (by omega) (by omega) a2 (zay a4) (by rw[zas a4 (vck hne)];exact a5) λi hi h1 h2=>by rw[zas a4 h1,a7 i h1 h2,get_lo]
  have h3:atI [W.fz (ns.map .int),.ref c,.int p',.int q] 3=some (.int q):=rfl
  have h30:atI [W.fz (ns.map .int),.ref c,.int p',.int (q+1)] 3=some (.int (q+1)):=rfl
  have h00:atI [W.fz (ns.map .int),.ref c,.int p',.int (q+1)] 0=some (.fz (ns.map .int)):=rfl
  have h33:ixN 4 3=some 3:=rfl
  have hs:=zay (o:=.lst [.fz (ns.map .int),.ref c,.int p',.int (q+1)]) a4
  simp[fn5,exs,e,ev,idxW,a4,h3,opW,opI,h33,hs,h30,h00,e2]
end
theorem zaa{cl:Call}{a b:S}{ρ ρ':En}{h h':VH}(e:exs cl a ρ h=.ok (.nx ρ') h'):exs cl (.seq a b) ρ h=exs cl b ρ' h':=by
 simp only[exs,e,bindok]
theorem zae{cl:Call}{a b:S}{ρ:En}{w:W}{h h':VH}(e:exs cl a ρ h=.ok (.rt w) h'):exs cl (.seq a b) ρ h=.ok (.rt w) h':=by
 simp only[exs,e,bindok]
@[simp] theorem exs_skip {cl:Call} {ρ:En} {h:VH}:exs cl .skip ρ h=.ok (.nx ρ) h:=rfl
theorem Dk.new{h:VH}{d c b:Nat}{o:VO}(D:Dk h d c b):Dk (h.new o) d c b:=by
 obtain⟨ne,ns,cells,p,q,a1,a2,a3⟩:=D
 exact⟨ne,ns,cells,p,q,by rw[zab (zam a1)];exact a1,by rw[zab (zam a2)];exact a2,a3⟩
noncomputable abbrev sDot:Str:=Str.ofString "."
noncomputable abbrev sLt:Str:=Str.ofString "<"
noncomputable abbrev sGt:Str:=Str.ofString ">"
noncomputable abbrev sX:Str:=Str.ofString "x"
noncomputable abbrev sS:Str:=Str.ofString "s"
theorem ztz{c wd g:Int}:zax (.str sDot) c wd g=true:=rfl
noncomputable def allF(P:Int->W->Prop):Int->List W->Prop
 |_,[]=>True
 |a,w::r=>P a w/\allF P (a+1) r
theorem zj7{P:W->Prop}:∀{ws:List W} {a:Int},allF (λ_ w=>P w) a ws->∀w∈ws,P w
 |[],_,_,w,h=>by cases h
 |x::r,a,⟨h1,h2⟩,w,h=>by
  rcases vaz.mp h with rfl|h
  .exact h1
  .exact zj7 h2 w h
theorem zni{cl:Call}{P:Int->W->Prop}{e:E}{tl:En}{d c m lim:Nat}(hs:∀(i:Int) (h:VH) (b:Nat),0<=i->i<lim->Dk h d c b->b+m<1000000000->∃w h',ev cl e (some (.int i)::tl) h=.ok w h'/\P i w/\Dk h' d c (b+m)/\Keep h h' d c) :
 ∀(n:Nat)(a:Int)(x:Option W)(h:VH)(b:Nat),0<=a->a+n<=lim->Dk h d c b->b+m*n<1000000000->
  ∃ws h',lcL (tgW (.one 0)) (λ_ h=>.ok (.bl true) h) (ev cl e) (zaj a n) (x::tl) h=.ok ws h'/\allF P a ws/\ws.length=n/\Dk h' d c (b+m*n)/\Keep h h' d c
 |0,a,x,h,b,_,_,D,_=>⟨[],h,rfl,trivial,rfl,by simpa using D,.refl⟩
 |n+1,a,x,h,b,ha,hl,D,hb=>by
  have e1:m* (n+1)=m*n+m:=Nat.mul_succ m n
  obtain⟨w,h1,e2,p1,D1,K1⟩:=hs a h b ha (by omega) D (by omega)
  obtain⟨ws,h2,e3,p2,l2,D2,K2⟩:=zni hs n (a+1) (some (.int a)) h1 (b+m) (by omega) (by omega) D1 (by omega)
  refine⟨w::ws,h2,?_,⟨p1,p2⟩,by rw[vai,l2],D2.mono (by omega),K1.trans K2⟩
  simp only[zaj,lcL,tgW,List.set,ev,bindok,e2,e3]
theorem zb1{n:Nat}(h:n<=1000000):Nat.ble n big=true:=ve8.mpr (vbs h (by decide))
theorem zxy{cl:Call}{a:E}{ρ:En}{h h1 h2:VH}{n ow:Nat}{ix:List Nat}{e:E}{ys:List W}(ea:ev cl a ρ h=.ok (.tup [.int n]) h1)(hn:n<1000000)(el:lcL (tgW (.one 0)) (λ_ h=>.ok (.bl true) h) (ev cl e) (zaj 0 n) (inner ow ix ρ) h1=.ok ys h2)(hy:ys.length<=1000000) :
 ev cl (.lc .rng1 a (.one 0) ow ix (.cst (.bl true)) e) ρ h=.ok (.ref h2.n) (h2.new (.lst ys)):=by
 have l:=zxx (n:=n) (tg:=tgW (.one 0)) (c:=λ_ h=>.ok (.bl true) h) (e:=ev cl e) (ρ:=inner ow ix ρ) (h:=h1) hn
 rw[el]at l
 have q:ev cl (.lc .rng1 a (.one 0) ow ix (.cst (.bl true)) e) ρ h=(ev cl a ρ h).bind λx h=>(lcG (nxt .rng1 x) (tgW (.one 0)) (ev cl (.cst (.bl true))) (ev cl e) fuel 0 (inner ow ix ρ) h []).bind λys h=>if Nat.ble ys.length big then .ok (.ref h.n) (h.new (.lst ys))else .no:=by rw[ev]
 rw[q,ea,bindok]
 show(lcG (nxt .rng1 (.tup [.int n])) (tgW (.one 0)) (λ_ h=>.ok (.bl true) h) (ev cl e) fuel 0 (inner ow ix ρ) h1 []).bind _=_
 rw[l,bindok,if_pos (zb1 hy)]
theorem zj8{cl:Call}{x:E}{ρ:En}{h h1:VH}{i:Nat}{ys:List W}(e:ev cl x ρ h=.ok (.ref i) h1)(g:h1.get i=some (.lst ys)):ev cl (.bi .tuple (.cons x .nil)) ρ h=.ok (.tup ys) h1:=by
 simp only[ev,e,bindok,biW,zdm,seqW,g,vaj,ofsome]
theorem zrx{cl:Call}{a:E}{ρ:En}{h h1 h2:VH}{n ow:Nat}{ix:List Nat}{e:E}{ys:List W}(ea:ev cl a ρ h=.ok (.tup [.int n]) h1)(hn:n<1000000)(el:lcL (tgW (.one 0)) (λ_ h=>.ok (.bl true) h) (ev cl e) (zaj 0 n) (inner ow ix ρ) h1=.ok ys h2)(hy:ys.length<=1000000) :
 ev cl (.bi .tuple (.cons (.lc .rng1 a (.one 0) ow ix (.cst (.bl true)) e) .nil)) ρ h=.ok (.tup ys) (h2.new (.lst ys)):=zj8 (zxy ea hn el hy) zad
structure Gw(h h':VH):Prop where
 le:h.n<=h'.n
 lo:h'.lo=h.lo
 get:∀i o,h.get i=some o->h'.get i=some o
theorem Gw.refl{h:VH}:Gw h h:=⟨vae _,rfl,λ_ _ e=>e⟩
theorem Gw.trans{h h1 h2:VH}(a:Gw h h1)(b:Gw h1 h2):Gw h h2:=⟨vbs a.le b.le,b.lo.trans a.lo,λi o e=>b.get i o (a.get i o e)⟩
theorem znj{n:Nat}(h:n<=1000000):Nat.blt n big=true:=zar.mpr (Nat.lt_of_le_of_lt h (by decide))
theorem zxz{h:VH}{xs ys:List W}(hl:xs.length+ys.length<=1000000):opW .add (.tup xs) (.tup ys) h=.ok (.tup (xs++ys)) h:=by
 have:opT .add xs ys=some (xs++ys):=if_pos (zb1 hl)
 simp only[opW,this,vaj,ofsome]
theorem znk{cl:Call}{e:E}{tl:En}{f:W->W}:∀(ws:List W) (x:Option W) (h:VH),(∀w∈ws,∀h,∃h',ev cl e (some w::tl) h=.ok (f w) h'/\Gw h h')->∃h',lcL (tgW (.one 0)) (λ_ h=>.ok (.bl true) h) (ev cl e) ws (x::tl) h=.ok (ws.map f) h'/\Gw h h'
 |[],x,h,_=>⟨h,rfl,.refl⟩
 |w::r,x,h,hs=>by
  obtain⟨h1,e1,g1⟩:=hs w van h
  obtain⟨h2,e2,g2⟩:=znk r (some w) h1 λw hw=>hs w (vag _ hw)
  refine⟨h2,?_,g1.trans g2⟩
  simp only[lcL,tgW,List.set,bindok,e1,e2,vam]
theorem zcx{cl:Call}{i l:Nat}{x:E}{ρ:En}{h h1:VH}{w:W}{acc acc0:List W}(hρ:ρ[i]?=some (some (.ref l)))(g0:h.get l=some (.lst acc0))(e:ev cl x ρ h=.ok w h1)(g:h1.get l=some (.lst acc))(hl:acc.length<=1000000) :
 ev cl (.mt .append (.var i) (.cons x .nil)) ρ h=.ok .non (h1.set l (.lst (acc++[w]))):=by
 have hk:zg9 .append h (.ref l)=true:=by simp only[zg9,g0]
 have hm:mtW .append (.ref l) [w] h1=.ok .non (h1.set l (.lst (acc++[w]))):=by
  simp only[mtW,g]
  rw[if_pos (znj hl)]
 simp only[ev,hρ,vb4,ofsome,bindok,hk,vbe,e,hm]
theorem zix{w:W}{g:Int}(h:zbk w g=true):∃a b:Int,w=.tup [.int a,.int b]/\0<=a/\a<g/\0<=b/\b<2:=by
 cases w<;>simp only[zbk]at h<;>try(cases h;done)
 rename_i us
 rcases us with _|⟨a,_|⟨b,_|_⟩⟩<;>simp at h
 obtain⟨h1,h2⟩:=h
 cases a<;>simp[within]at h1
 cases b<;>simp[within]at h2
 exact⟨_,_,rfl,by omega,by omega,by omega,by omega⟩
theorem zhq{w:W}{n:Int}(h:door w n=true):∃(a:Int) (b:W),w=.tup [.int a,b]/\0<=a/\a<=99/\(b=.non\/∃i:Int,b=.int i/\0<=i/\i<n):=by
 cases w<;>simp only[door]at h<;>try(cases h;done)
 rename_i us
 rcases us with _|⟨a,_|⟨b,_|_⟩⟩<;>simp at h
 obtain⟨h1,h2⟩:=h
 cases a<;>simp[within]at h1
 unfold fon at h2
 cases b<;>simp[within,isNon]at h2
 .exact⟨_,_,rfl,h1.1,h1.2,.inl rfl⟩
 .exact⟨_,_,rfl,h1.1,h1.2,.inr ⟨_,rfl,by omega,by omega⟩⟩
noncomputable def stepP(w:W)(hd:Int)(ls:List Int):Option (Int×List Int×List Int):=match w with
 |.tup [.int g,.int s]=>some (if ls.getD g.toNat 0=s then -1 else 1,[g],ls.set g.toNat (1-ls.getD g.toNat 0))
 |.str x=>if x==sS then none else if x==sX then some (hd,[],ls)else if x==sDot then some (0,[],ls)else some (if x==sLt then -1 else 1,[],ls)
 |_=>none
noncomputable def colAt(r:List W)(c:Int):W:=(r[c.toNat]?).getD .non
structure Fa where
 cs:List Int
 ts:List Int
 ls:List Int
 st:Bool
noncomputable def fallP:List (List W)->Int->Int->List Int->Fa
 |[],_,_,ls=>⟨[],[],ls,false⟩
 |r::rs,c,hd,ls=>match stepP (colAt r c) hd ls with
  |none=>⟨[],[],ls,true⟩
  |some (d,t,l)=>⟨(c+d):: (fallP rs (c+d) d l).cs,t++(fallP rs (c+d) d l).ts,(fallP rs (c+d) d l).ls,(fallP rs (c+d) d l).st⟩
noncomputable def lastC:Int->List Int->Int
 |c,[]=>c
 |_,x::r=>lastC x r
noncomputable def Bits(ls:List Int):Prop:=∀x∈ls,x=0\/x=1
theorem zes{w:W}{c wd g:Int}(h:zax w c wd g=true):(w=.str sX/\0<c/\c<wd-1)\/(w=.str sLt/\0<c)\/(w=.str sGt/\c<wd-1)\/w=.str sDot\/w=.str sS\/∃a b:Nat,w=.tup [.int a,.int b]/\(a:Int)<g/\b<2/\0<c/\c<wd-1:=by
 unfold zax at h
 split at h
 .rename_i q
  rw[vab,vaw,vaw]at h
  rw[vcw]at q
  rcases q with q|q
  .exact .inl ⟨zfm q,h⟩
  .obtain⟨a,b,rfl,h1,h2,h3,h4⟩:=zix q
   obtain⟨a,rfl⟩:=vb2 h1
   obtain⟨b,rfl⟩:=vb2 h3
   exact .inr (.inr (.inr (.inr (.inr ⟨a,b,rfl,h2,by omega,h⟩))))
 .split at h
  .rename_i q;exact .inr (.inl ⟨zfm q,by simpa using h⟩)
  .split at h
   .rename_i q;exact .inr (.inr (.inl ⟨zfm q,by simpa using h⟩))
   .rw[vcw]at h
    rcases h with q|q
    .exact .inr (.inr (.inr (.inl (zfm q))))
    .exact .inr (.inr (.inr (.inr (.inl (zfm q)))))
theorem znl{hd:Int}{ls:List Int}:stepP (.str sX) hd ls=some (hd,[],ls):=rfl
theorem ziy{hd:Int}{ls:List Int}:stepP (.str sLt) hd ls=some (-1,[],ls):=rfl
theorem ziz{hd:Int}{ls:List Int}:stepP (.str sGt) hd ls=some (1,[],ls):=rfl
theorem zd5{hd:Int}{ls:List Int}:stepP (.str sDot) hd ls=some (0,[],ls):=rfl
theorem znm{hd:Int}{ls:List Int}:stepP (.str sS) hd ls=none:=rfl
theorem zgi{hd:Int}{ls:List Int}{a b:Nat}:stepP (.tup [.int a,.int b]) hd ls=some (if ls.getD a 0=b then -1 else 1,[(a:Int)],ls.set a (1-ls.getD a 0)):=rfl
theorem zqh{ls:List Int}(h:Bits ls)(a:Nat):ls.getD a 0=0\/ls.getD a 0=1:=by
 rw[vay]
 cases q:ls[a]? with
 |none=>exact .inl rfl
 |some x=>exact h x (vcn q)
theorem znn{w:W}{c wd g hd:Int}{ls:List Int}(h:zax w c wd g=true)(c0:0<=c)(c1:c<wd)(h1:-1<=hd)(h2:hd<=1)(b:Bits ls){d:Int}{t l:List Int}(e:stepP w hd ls=some (d,t,l)):-1<=d/\d<=1/\0<=c+d/\c+d<wd/\l.length=ls.length/\Bits l/\t.length<=1:=by
 rcases zes h with⟨rfl,h3,h4⟩|⟨rfl,h3⟩|⟨rfl,h3⟩|rfl|rfl|⟨p,q,rfl,h3,h4,h5,h6⟩
 .rw[znl]at e;cases e;exact⟨h1,h2,by omega,by omega,rfl,b,by simp⟩
 .rw[ziy]at e;cases e;exact⟨by omega,by omega,by omega,by omega,rfl,b,by simp⟩
 .rw[ziz]at e;cases e;exact⟨by omega,by omega,by omega,by omega,rfl,b,by simp⟩
 .rw[zd5]at e;cases e;exact⟨by omega,by omega,by omega,by omega,rfl,b,by simp⟩
 .rw[znm]at e;cases e
 .rw[zgi]at e;cases e
  refine⟨by split<;>omega,by split<;>omega,by split<;>omega,by split<;>omega,by simp,λx hx=>?_,by simp⟩
  rcases List.mem_or_eq_of_mem_set hx with hx|rfl
  .exact b x hx
  .rcases zqh b p with q|q<;>rw[q]<;>omega
noncomputable def zno(wd g:Int)(rs:List (List W)):Prop:=∀r∈rs,(r.length:Int)=wd/\rowOk wd g 0 r
theorem zj9{wd g:Int}:∀{ws:List W} {c:Int} (i:Nat) {w:W},rowOk wd g c ws->ws[i]?=some w->zax w (c+i) wd g=true
 |[],_,_,_,_,e=>by simp at e
 |x::r,c,0,w,⟨h1,h2⟩,e=>by
  simp at e;subst e;simpa using h1
 |x::r,c,i+1,w,⟨h1,h2⟩,e=>by
  have:=zj9 i h2 (by simpa using e)
  rw[show c+ ((i+1:Nat):Int)=c+1+i by push_cast;omega]
  exact this
theorem zka{wd g c:Int}{r:List W}(h:(r.length:Int)=wd/\rowOk wd g 0 r)(c0:0<=c)(c1:c<wd):r[c.toNat]?=some (colAt r c)/\zax (colAt r c) c wd g=true:=by
 obtain⟨n,rfl⟩:=vb2 c0
 have hn:n<r.length:=by omega
 have e:r[n]?=some r[n]:=vaq hn
 have e2:colAt r n=r[n]:=by
  unfold colAt
  rw[vbn,e];rfl
 rw[e2,vbn]
 refine⟨e,?_⟩
 have:=zj9 n h.2 e
 simpa using this
structure Fa.Ok(q:Fa)(wd:Int)(c:Int)(m n:Nat):Prop where
 l1:q.ls.length=n
 l2:Bits q.ls
 c1:∀x∈q.cs,0<=x/\x<wd
 c2:q.cs.length<=m
 c3:q.st=false->q.cs.length=m
 c5:q.st=true->q.cs.length<m
 c4:0<=lastC c q.cs/\lastC c q.cs<wd
 t1:q.ts.length<=m
theorem znp{wd g:Int}:∀(rs:List (List W)) (c hd:Int) (ls:List Int),zno wd g rs->0<=c->c<wd->-1<=hd->hd<=1->Bits ls->(fallP rs c hd ls).Ok wd c rs.length ls.length
 |[],c,hd,ls,_,c0,c1,_,_,b=>⟨rfl,b,by simp[fallP],by simp[fallP],by simp[fallP],by simp[fallP],⟨c0,c1⟩,by simp[fallP]⟩
 |r::rs,c,hd,ls,ok,c0,c1,h1,h2,b=>by
  obtain⟨_,hm⟩:=zka (ok r van) c0 c1
  unfold fallP
  cases e:stepP (colAt r c) hd ls with
  |none=>exact⟨rfl,b,by simp,by simp,by simp,by simp,⟨c0,c1⟩,by simp⟩
  |some q=>
   obtain⟨d,t,l⟩:=q
   obtain⟨a1,a2,a3,a4,a5,a6,a7⟩:=znn hm c0 c1 h1 h2 b e
   have ih:=znp rs (c+d) d l (λr hr=>ok r (vag _ hr)) a3 a4 a1 a2 a6
   refine⟨ih.l1.trans a5,ih.l2,λx hx=>?_,?_,λh=>?_,λh=>?_,ih.c4,?_⟩
   .rcases vaz.mp hx with rfl|hx
    .exact⟨a3,a4⟩
    .exact ih.c1 x hx
   .simp only[vai];have:=ih.c2;omega
   .simp only[vai];have:=ih.c3 h;omega
   .simp only[vai];have:=ih.c5 h;omega
   .simp only[vai,vao];have:=ih.t1;omega
theorem znq{r:List W}{rs:List (List W)}{c hd:Int}{ls:List Int}(e:stepP (colAt r c) hd ls=none):fallP (r::rs) c hd ls=⟨[],[],ls,true⟩:=by
 unfold fallP
 rw[e]
theorem znr{r:List W}{rs:List (List W)}{c hd d:Int}{ls t l:List Int}(e:stepP (colAt r c) hd ls=some (d,t,l)):fallP (r::rs) c hd ls=⟨(c+d):: (fallP rs (c+d) d l).cs,t++(fallP rs (c+d) d l).ts,(fallP rs (c+d) d l).ls,(fallP rs (c+d) d l).st⟩:=by
 rw[fallP,e]
noncomputable def st3(h:VH)(gs:List VO)(c t l:List W):VH:=⟨h.n+3+gs.length,h.n,gs++(.lst l :: .lst t :: .lst c::h.os)⟩
theorem st_c{h:VH}{gs:List VO}{c t l:List W}:(st3 h gs c t l).get h.n=some (.lst c):=by
 unfold st3 VH.get
 rw[if_pos (zar.mpr (by show h.n<h.n+3+gs.length;omega))]
 show(gs++(.lst l :: .lst t :: .lst c::h.os))[h.n+3+gs.length-1-h.n]?=_
 rw[va1 (by omega),show h.n+3+gs.length-1-h.n-gs.length=2 by omega]
 rfl
theorem st_t{h:VH}{gs:List VO}{c t l:List W}:(st3 h gs c t l).get (h.n+1)=some (.lst t):=by
 unfold st3 VH.get
 rw[if_pos (zar.mpr (by show h.n+1<h.n+3+gs.length;omega))]
 show(gs++(.lst l :: .lst t :: .lst c::h.os))[h.n+3+gs.length-1- (h.n+1)]?=_
 rw[va1 (by omega),show h.n+3+gs.length-1- (h.n+1)-gs.length=1 by omega]
 rfl
theorem st_l{h:VH}{gs:List VO}{c t l:List W}:(st3 h gs c t l).get (h.n+2)=some (.lst l):=by
 unfold st3 VH.get
 rw[if_pos (zar.mpr (by show h.n+2<h.n+3+gs.length;omega))]
 show(gs++(.lst l :: .lst t :: .lst c::h.os))[h.n+3+gs.length-1- (h.n+2)]?=_
 rw[va1 (by omega),show h.n+3+gs.length-1- (h.n+2)-gs.length=0 by omega]
 rfl
theorem zns{a b:Nat}(h:b<=a):Nat.blt a b=false:=by
 cases q:Nat.blt a b with
 |false=>rfl
 |true=>have:=zar.mp q;omega
theorem zt0{h:VH}{gs:List VO}{c t l c':List W}:(st3 h gs c t l).set h.n (.lst c')=st3 h gs c' t l:=by
 unfold st3 VH.set
 simp only[zns (vae h.n)]
 rw[vdd _ _ (by omega),show h.n+3+gs.length-1-h.n-gs.length=2 by omega]
 rfl
theorem zt1{h:VH}{gs:List VO}{c t l t':List W}:(st3 h gs c t l).set (h.n+1) (.lst t')=st3 h gs c t' l:=by
 unfold st3 VH.set
 simp only[zns (vfq h.n)]
 rw[vdd _ _ (by omega),show h.n+3+gs.length-1- (h.n+1)-gs.length=1 by omega]
 rfl
noncomputable def fn17:Fn:=⟨2,2,(.seq (.ret (.call 7 (.cons (.var 0) (.cons (.var 1) (.cons (.var 1) (.cons (.cst (.int (0))) (.cons (.cst (.int (1))) .nil))))))) .skip)⟩
noncomputable def fn27:Fn:=⟨2,4,(.seq (.expr (.call 14 (.cons (.var 0) .nil))) (.seq (.ite (.not (.tru (.call 6 (.cons (.var 1) (.cons (.cst (.int (2))) (.cons (.cst (.int (2))) .nil)))))) (.seq (.ret (.cst (.bl false))) .skip) .skip) (.seq (.unp [2,3] (.var 1)) (.seq (.ret (.and (.call 17 (.cons (.var 2) (.cons (.idx (.var 0) (.cst (.int (1)))) .nil))) (.call 12 (.cons (.var 3) (.cons (.bi .len (.cons (.idx (.var 0) (.cst (.int (3)))) .nil)) .nil))))) .skip))))⟩
noncomputable def fn29:Fn:=⟨2,2,(.seq (.ite (.not (.tru (.call 27 (.cons (.var 0) (.cons (.var 1) .nil))))) (.seq .no .skip) .skip) .skip)⟩
noncomputable def fn39:Fn:=⟨2,2,(.seq (.ret (.and (.isi .int (.var 0)) (.and (.not (.isi .bool (.var 0))) (.cmp .eq (.var 0) (.var 1))))) .skip)⟩
noncomputable def zi0:E:=(.call 59 (.cons (.var 0) (.cons (.var 1) .nil)))
noncomputable def fn59:Fn:=⟨2,2,(.seq (.ite (.tru (.isi .tuple (.var 1))) (.seq (.ite (.not (.tru (.call 6 (.cons (.var 0) (.cons (.bi .len (.cons (.var 1) .nil)) (.cons (.bi .len (.cons (.var 1) .nil)) .nil)))))) (.seq (.ret (.cst (.bl false))) .skip) .skip) (.seq (.ret (.bi .all (.cons (.lc .zip (.cons (.var 0) (.cons (.var 1) .nil)) (.many [0,1]) 2 [] (.cst (.bl true)) zi0) .nil))) .skip)) .skip) (.seq (.ret (.and (.not (.isi .bool (.var 0))) (.cmp .eq (.var 0) (.var 1)))) .skip))⟩
noncomputable def zi1:E:=(.call 92 (.cons (.var 0) (.cons (.var 1) .nil)))
noncomputable def fn92:Fn:=⟨2,2,(.seq (.ite (.tru (.isi .tuple (.var 1))) (.seq (.ite (.or (.not (.tru (.isi .tuple (.var 0)))) (.cmp .ne (.bi .len (.cons (.var 0) .nil)) (.bi .len (.cons (.var 1) .nil)))) (.seq (.ret (.cst (.bl false))) .skip) .skip) (.seq (.ret (.bi .all (.cons (.lc .zip (.cons (.var 0) (.cons (.var 1) .nil)) (.many [0,1]) 2 [] (.cst (.bl true)) zi1) .nil))) .skip)) .skip) (.seq (.ite (.cmp .isn (.var 1) (.cst .non)) (.seq (.ret (.cmp .isn (.var 0) (.cst .non))) .skip) .skip) (.seq (.ret (.call 39 (.cons (.var 0) (.cons (.var 1) .nil)))) .skip)))⟩
noncomputable def fn173:Fn:=⟨4,7,(.seq (.ite (.tru (.isi .tuple (.var 0))) (.seq (.unp [4,5] (.var 0)) (.seq (.set 6 (.idx (.var 2) (.var 4))) (.seq (.ite (.cmp .ne (.var 4) (.var 3)) (.seq (.put (.var 2) (.var 4) (.op .sub (.cst (.int (1))) (.var 6))) .skip) .skip) (.seq (.ret (.ite (.cmp .eq (.var 6) (.var 5)) (.cst (.int (-1))) (.cst (.int (1))))) .skip)))) .skip) (.seq (.ite (.cmp .eq (.var 0) (.cst (.str (PySem.Str.ofString "s")))) (.seq (.ret (.cst .non)) .skip) .skip) (.seq (.ite (.cmp .eq (.var 0) (.cst (.str (PySem.Str.ofString "x")))) (.seq (.ret (.var 1)) .skip) .skip) (.seq (.ite (.cmp .eq (.var 0) (.cst (.str (PySem.Str.ofString ".")))) (.seq (.ret (.cst (.int (0)))) .skip) .skip) (.seq (.ret (.ite (.cmp .eq (.var 0) (.cst (.str (PySem.Str.ofString "<")))) (.cst (.int (-1))) (.cst (.int (1))))) .skip)))))⟩
noncomputable def zcy:S:=(.seq (.set 10 (.idx (.var 9) (.var 4))) (.seq (.set 8 (.call 173 (.cons (.var 10) (.cons (.var 8) (.cons (.var 7) (.cons (.var 3) .nil)))))) (.seq (.ite (.cmp .isn (.var 8) (.cst .non)) (.seq .brk .skip) .skip) (.seq (.ite (.and (.tru (.isi .tuple (.var 10))) (.cmp .ne (.idx (.var 10) (.cst (.int (0)))) (.var 3))) (.seq (.expr (.mt .append (.var 6) (.cons (.idx (.var 10) (.cst (.int (0)))) .nil))) .skip) .skip) (.seq (.aug 4 .add (.var 8)) (.seq (.expr (.mt .append (.var 5) (.cons (.var 4) .nil))) .skip))))))
noncomputable def fn174:Fn:=⟨4,11,(.seq (.set 4 (.idx (.idx (.var 0) (.cst (.int (3)))) (.var 2))) (.seq (.set 5 (.lst (.cons (.var 4) .nil))) (.seq (.set 6 (.lst .nil)) (.seq (.set 7 (.bi .list (.cons (.var 1) .nil))) (.seq (.set 8 (.cst (.int (0)))) (.seq (.«for» .seq (.idx (.var 0) (.cst (.int (2)))) (.one 9) zcy) (.seq (.ret (.tup (.cons (.bi .tuple (.cons (.var 5) .nil)) (.cons (.bi .tuple (.cons (.var 6) .nil)) (.cons (.bi .tuple (.cons (.var 7) .nil)) .nil))))) .skip)))))))⟩
noncomputable def fn175:Fn:=⟨4,8,(.seq (.unp [4,5,6] (.call 174 (.cons (.var 0) (.cons (.var 1) (.cons (.var 2) (.cons (.var 3) .nil)))))) (.seq (.set 7 (.ite (.cmp .gt (.bi .len (.cons (.var 4) .nil)) (.bi .len (.cons (.idx (.var 0) (.cst (.int (2)))) .nil))) (.idx (.var 4) (.neg (.cst (.int (1))))) (.cst .non))) (.seq (.ret (.tup (.cons (.var 7) (.cons (.var 6) .nil)))) .skip)))⟩
noncomputable def fn176:Fn:=⟨4,7,(.seq (.unp [4,5] (.call 175 (.cons (.var 0) (.cons (.var 1) (.cons (.var 2) (.cons (.var 3) .nil)))))) (.seq (.set 6 (.ite (.cmp .isn (.var 4) (.cst .non)) (.cst (.tup [.non,.non])) (.idx (.idx (.var 0) (.cst (.int (4)))) (.var 4)))) (.seq (.ret (.tup (.cons (.var 6) (.cons (.var 5) .nil)))) .skip)))⟩
noncomputable def fn182:Fn:=⟨2,6,(.seq (.unp [2,3] (.var 1)) (.seq (.ite (.cmp .isn (.var 3) (.cst .non)) (.seq (.ret (.cst .non)) .skip) .skip) (.seq (.unp [4,5] (.call 176 (.cons (.var 0) (.cons (.var 2) (.cons (.var 3) (.cons (.cst .non) .nil)))))) (.seq (.ret (.tup (.cons (.var 5) (.cons (.idx (.var 4) (.cst (.int (1)))) .nil)))) .skip))))⟩
noncomputable def zbo:E:=(.and (.cmp .notn (.var 3) (.cst .non)) (.cmp .nin (.var 3) (.var 2)))
noncomputable def zb8:S:=(.seq (.put (.var 2) (.var 3) (.bi .len (.cons (.var 2) .nil))) (.seq (.set 3 (.call 182 (.cons (.var 0) (.cons (.var 3) .nil)))) .skip))
noncomputable def fn184:Fn:=⟨2,5,(.seq (.expr (.call 29 (.cons (.var 0) (.cons (.var 1) .nil)))) (.seq (.set 2 (.dsp .nil)) (.seq (.set 3 (.var 1)) (.seq (.whl zbo zb8) (.seq (.set 4 (.ite (.cmp .isn (.var 3) (.cst .non)) (.cst .non) (.idx (.var 2) (.var 3)))) (.seq (.ret (.tup (.cons (.bi .tuple (.cons (.var 2) .nil)) (.cons (.var 4) .nil)))) .skip))))))⟩
noncomputable def zbp:E:=(.and (.tru (.var 0)) (.cmp .eq (.idx (.var 0) (.neg (.cst (.int (1))))) (.idx (.var 1) (.neg (.cst (.int (1)))))))
noncomputable def zb9:S:=(.seq (.set 0 (.slc (.var 0) false (.cst .non) true (.neg (.cst (.int (1)))))) (.seq (.set 1 (.op .add (.slc (.var 1) true (.neg (.cst (.int (1)))) false (.cst .non)) (.slc (.var 1) false (.cst .non) true (.neg (.cst (.int (1))))))) .skip))
noncomputable def fn194:Fn:=⟨2,2,(.seq (.whl zbp zb9) (.seq (.ret (.tup (.cons (.var 0) (.cons (.var 1) .nil)))) .skip))⟩
noncomputable def zcz:E:=(.or (.cmp .ne (.op .mod (.bi .len (.cons (.var 0) .nil)) (.var 1)) (.cst (.int (0)))) (.cmp .ne (.op .mul (.slc (.var 0) false (.cst .non) true (.var 1)) (.op .fdiv (.bi .len (.cons (.var 0) .nil)) (.var 1))) (.var 0)))
noncomputable def zca:S:=(.seq (.aug 1 .add (.cst (.int (1)))) .skip)
noncomputable def fn197:Fn:=⟨1,2,(.seq (.set 1 (.cst (.int (1)))) (.seq (.whl zcz zca) (.seq (.ret (.slc (.var 0) false (.cst .non) true (.var 1))) .skip)))⟩
noncomputable def zc0:E:=(.cmp .notn (.var 1) (.cst .non))
noncomputable def zd6:E:=(.idx (.call 176 (.cons (.var 2) (.cons (.var 0) (.cons (.var 1) (.cons (.cst .non) .nil))))) (.cst (.int (0))))
noncomputable def zc1:E:=(.cmp .notn (.var 0) (.cst .non))
noncomputable def zd7:E:=(.var 0)
noncomputable def fn200:Fn:=⟨2,6,(.seq (.unp [2,3] (.var 1)) (.seq (.set 4 (.lc .seq (.var 2) (.many [0,1]) 2 [0] zc0 zd6)) (.seq (.set 5 (.bi .tuple (.cons (.lc .seq (.var 4) (.many [0,1]) 2 [] zc1 zd7) .nil))) (.seq (.ite (.cmp .isn (.var 3) (.cst .non)) (.seq (.ret (.tup (.cons (.var 5) (.cons (.tup .nil) .nil)))) .skip) .skip) (.seq (.ret (.call 194 (.cons (.slc (.var 5) false (.cst .non) true (.var 3)) (.cons (.call 197 (.cons (.slc (.var 5) true (.var 3) false (.cst .non)) .nil)) .nil)))) .skip)))))⟩
noncomputable def fn203:Fn:=⟨2,2,(.seq (.ret (.call 200 (.cons (.var 0) (.cons (.call 184 (.cons (.var 0) (.cons (.var 1) .nil))) .nil)))) .skip)⟩
noncomputable def zc2:S:=(.seq (.ite (.or (.cmp .isn (.var 6) (.cst .non)) (.or (.cmp .inn (.var 6) (.var 5)) (.not (.tru (.call 59 (.cons (.var 7) (.cons (.var 6) .nil))))))) (.seq (.ret (.cst (.bl false))) .skip) .skip) (.seq (.put (.var 5) (.var 6) (.bi .len (.cons (.var 5) .nil))) (.seq (.set 6 (.call 182 (.cons (.var 0) (.cons (.var 6) .nil)))) .skip)))
noncomputable def fn204:Fn:=⟨3,8,(.seq (.expr (.call 29 (.cons (.var 0) (.cons (.var 1) .nil)))) (.seq (.ite (.or (.not (.tru (.call 6 (.cons (.var 2) (.cons (.cst (.int (2))) (.cons (.cst (.int (2))) .nil)))))) (.not (.tru (.isi .tuple (.idx (.var 2) (.cst (.int (0)))))))) (.seq (.ret (.cst (.bl false))) .skip) .skip) (.seq (.unp [3,4] (.var 2)) (.seq (.set 5 (.dsp .nil)) (.seq (.set 6 (.var 1)) (.seq (.«for» .seq (.var 3) (.one 7) zc2) (.seq (.ite (.cmp .isn (.var 6) (.cst .non)) (.seq (.ret (.cmp .isn (.var 4) (.cst .non))) .skip) .skip) (.seq (.ret (.and (.cmp .inn (.var 6) (.var 5)) (.call 59 (.cons (.var 4) (.cons (.idx (.var 5) (.var 6)) .nil))))) .skip))))))))⟩
noncomputable def fn269:Fn:=⟨4,4,(.seq (.ret (.and (.call 204 (.cons (.var 0) (.cons (.var 1) (.cons (.var 2) .nil)))) (.call 59 (.cons (.var 3) (.cons (.call 200 (.cons (.var 0) (.cons (.var 2) .nil))) .nil))))) .skip)⟩
theorem eqS{h:VH}{x y:Str}(hx:PyData.strOk x=true)(hy:PyData.strOk y=true):eqW h (.str x) (.str y)=some (x==y):=by
 rw[zde (x:=y) (by exact hx) hy];rfl
@[simp] theorem eq_X_X {h:VH}:eqW h (.str sX) (.str (PySem.Str.ofString "x"))=some true:=(eqS (by decide +kernel) (by decide +kernel)).trans (by decide +kernel)
@[simp] theorem eq_X_Lt {h:VH}:eqW h (.str sX) (.str (PySem.Str.ofString "<"))=some false:=(eqS (by decide +kernel) (by decide +kernel)).trans (by decide +kernel)
@[simp] theorem eq_X_Gt {h:VH}:eqW h (.str sX) (.str (PySem.Str.ofString ">"))=some false:=(eqS (by decide +kernel) (by decide +kernel)).trans (by decide +kernel)
@[simp] theorem eq_X_Dot {h:VH}:eqW h (.str sX) (.str (PySem.Str.ofString "."))=some false:=(eqS (by decide +kernel) (by decide +kernel)).trans (by decide +kernel)
@[simp] theorem eq_X_S {h:VH}:eqW h (.str sX) (.str (PySem.Str.ofString "s"))=some false:=(eqS (by decide +kernel) (by decide +kernel)).trans (by decide +kernel)
@[simp] theorem eq_Lt_X {h:VH}:eqW h (.str sLt) (.str (PySem.Str.ofString "x"))=some false:=(eqS (by decide +kernel) (by decide +kernel)).trans (by decide +kernel)
@[simp] theorem eq_Lt_Lt {h:VH}:eqW h (.str sLt) (.str (PySem.Str.ofString "<"))=some true:=(eqS (by decide +kernel) (by decide +kernel)).trans (by decide +kernel)
@[simp] theorem eq_Lt_Gt {h:VH}:eqW h (.str sLt) (.str (PySem.Str.ofString ">"))=some false:=(eqS (by decide +kernel) (by decide +kernel)).trans (by decide +kernel)
@[simp] theorem eq_Lt_Dot {h:VH}:eqW h (.str sLt) (.str (PySem.Str.ofString "."))=some false:=(eqS (by decide +kernel) (by decide +kernel)).trans (by decide +kernel)
@[simp] theorem eq_Lt_S {h:VH}:eqW h (.str sLt) (.str (PySem.Str.ofString "s"))=some false:=(eqS (by decide +kernel) (by decide +kernel)).trans (by decide +kernel)
@[simp] theorem eq_Gt_X {h:VH}:eqW h (.str sGt) (.str (PySem.Str.ofString "x"))=some false:=(eqS (by decide +kernel) (by decide +kernel)).trans (by decide +kernel)
@[simp] theorem eq_Gt_Lt {h:VH}:eqW h (.str sGt) (.str (PySem.Str.ofString "<"))=some false:=(eqS (by decide +kernel) (by decide +kernel)).trans (by decide +kernel)
@[simp] theorem eq_Gt_Gt {h:VH}:eqW h (.str sGt) (.str (PySem.Str.ofString ">"))=some true:=(eqS (by decide +kernel) (by decide +kernel)).trans (by decide +kernel)
@[simp] theorem eq_Gt_Dot {h:VH}:eqW h (.str sGt) (.str (PySem.Str.ofString "."))=some false:=(eqS (by decide +kernel) (by decide +kernel)).trans (by decide +kernel)
@[simp] theorem eq_Gt_S {h:VH}:eqW h (.str sGt) (.str (PySem.Str.ofString "s"))=some false:=(eqS (by decide +kernel) (by decide +kernel)).trans (by decide +kernel)
@[simp] theorem eq_Dot_X {h:VH}:eqW h (.str sDot) (.str (PySem.Str.ofString "x"))=some false:=(eqS (by decide +kernel) (by decide +kernel)).trans (by decide +kernel)
@[simp] theorem eq_Dot_Lt {h:VH}:eqW h (.str sDot) (.str (PySem.Str.ofString "<"))=some false:=(eqS (by decide +kernel) (by decide +kernel)).trans (by decide +kernel)
@[simp] theorem eq_Dot_Gt {h:VH}:eqW h (.str sDot) (.str (PySem.Str.ofString ">"))=some false:=(eqS (by decide +kernel) (by decide +kernel)).trans (by decide +kernel)
@[simp] theorem eq_Dot_Dot {h:VH}:eqW h (.str sDot) (.str (PySem.Str.ofString "."))=some true:=(eqS (by decide +kernel) (by decide +kernel)).trans (by decide +kernel)
@[simp] theorem eq_Dot_S {h:VH}:eqW h (.str sDot) (.str (PySem.Str.ofString "s"))=some false:=(eqS (by decide +kernel) (by decide +kernel)).trans (by decide +kernel)
@[simp] theorem eq_S_X {h:VH}:eqW h (.str sS) (.str (PySem.Str.ofString "x"))=some false:=(eqS (by decide +kernel) (by decide +kernel)).trans (by decide +kernel)
@[simp] theorem eq_S_Lt {h:VH}:eqW h (.str sS) (.str (PySem.Str.ofString "<"))=some false:=(eqS (by decide +kernel) (by decide +kernel)).trans (by decide +kernel)
@[simp] theorem eq_S_Gt {h:VH}:eqW h (.str sS) (.str (PySem.Str.ofString ">"))=some false:=(eqS (by decide +kernel) (by decide +kernel)).trans (by decide +kernel)
@[simp] theorem eq_S_Dot {h:VH}:eqW h (.str sS) (.str (PySem.Str.ofString "."))=some false:=(eqS (by decide +kernel) (by decide +kernel)).trans (by decide +kernel)
@[simp] theorem eq_S_S {h:VH}:eqW h (.str sS) (.str (PySem.Str.ofString "s"))=some true:=(eqS (by decide +kernel) (by decide +kernel)).trans (by decide +kernel)
theorem zqi{h0:VH}{gs:List VO}{c t l l':List W}{w:W}:leave (st3 h0 gs c t l) w (VH.set ⟨(st3 h0 gs c t l).n,(st3 h0 gs c t l).n,(st3 h0 gs c t l).os⟩ (h0.n+2) (.lst l'))=.ok w (st3 h0 gs c t l'):=by
 have hb:Nat.blt (h0.n+2) (h0.n+3+gs.length)=true:=zar.mpr (by omega)
 have hn:Nat.ble (h0.n+3+gs.length) (h0.n+2)=false:=by
  cases q:Nat.ble (h0.n+3+gs.length) (h0.n+2)with
  |false=>rfl
  |true=>have:=va3 q;omega
 have hl:Nat.ble h0.n (h0.n+2)=true:=ve8.mpr (by omega)
 unfold leave VH.set st3
 simp only[hb,vbe,hn,vec,hl]
 rw[if_neg (by simp),vdd _ _ (by omega),show h0.n+3+gs.length-1- (h0.n+2)-gs.length=0 by omega]
 rfl
theorem zx0{ls:List Int}{a:Nat}(h:a<ls.length):atI (ls.map W.int) (a:Int)=some (.int (ls.getD a 0)):=
 zbv (by rw[vat,vaq h,vay,vaq h];rfl)
theorem znt{n a:Nat}(h:a<n):ixN n (a:Int)=some a:=by
 unfold ixN
 rw[if_pos (by omega),if_pos (by omega)];simp
theorem zlf{cl:Call}{a b:S}{ρ ρ':En}{h h':VH}(e:exs cl a ρ h=.ok (.bk ρ') h'):exs cl (.seq a b) ρ h=.ok (.bk ρ') h':=by
 simp only[exs,e,bindok]
theorem zx1{wd g c:Int}{r:List W}(ok:(r.length:Int)=wd/\rowOk wd g 0 r)(c0:0<=c)(c1:c<wd):atI r c=some (colAt r c):=by
 have:=(zka ok c0 c1).1
 obtain⟨n,rfl⟩:=vb2 c0
 rw[vbn]at this
 exact zbv this
noncomputable def iW(ls:List Int):W:=.tup (ls.map .int)
theorem iW_lt{n:Nat}{ls:List Int}:W.lt n (iW ls)=true:=by
 unfold iW
 rw[lt_tup]
 induction ls with
 |nil=>simp
 |cons x r ih=>rw[vam,lts_cons,ih,lt_int];rfl
theorem Bd.Ok.feeder{B:Bd}(b:B.Ok){f:Nat}(hf:f<B.fd.length):∃c:Int,B.fd[f]?=some (.int c)/\0<=c/\c<B.wd:=by
 have h:=b.f3 _ (vdr hf)
 have e:B.fd[f]?=some B.fd[f]:=vaq hf
 generalize B.fd[f]=w at h e
 cases w<;>simp only[within]at h<;>try(cases h;done)
 rename_i c
 rw[vab,vaw,vaw]at h
 exact⟨c,e,h.1,by omega⟩
noncomputable def Bd.col(B:Bd)(f:Nat):Int:=match B.fd[f]? with
 |some (.int c)=>c
 |_=>0
theorem Bd.Ok.col{B:Bd}(b:B.Ok){f:Nat}(hf:f<B.fd.length):B.fd[f]?=some (.int (B.col f))/\0<=B.col f/\B.col f<B.wd:=by
 obtain⟨c,e,h⟩:=b.feeder hf
 have:B.col f=c:=by unfold Bd.col;rw[e]
 rw[this];exact⟨e,h⟩
noncomputable def Bd.fall(B:Bd)(ls:List Int)(f:Nat):Fa:=fallP B.rows (B.col f) 0 ls
theorem Bd.Ok.rows{B:Bd}(b:B.Ok){ls:List Int}(hl:(ls.length:Int)=B.gr):zno B.wd (ls.length:Int) B.rows:=by
 rw[hl];exact b.r2
theorem Bd.Ok.fall{B:Bd}(b:B.Ok){ls:List Int}{f:Nat}(hf:f<B.fd.length)(hl:(ls.length:Int)=B.gr)(bi:Bits ls):(B.fall ls f).Ok B.wd (B.col f) B.rows.length ls.length:=
 znp _ _ _ _ (b.rows hl) (b.col hf).2.1 (b.col hf).2.2 (by decide) (by decide) bi
noncomputable def wayW(B:Bd)(ls:List Int)(f:Nat):W:=.tup [iW (B.col f:: (B.fall ls f).cs),iW (B.fall ls f).ts,iW (B.fall ls f).ls]
theorem zt2{B:Bd}{ls:List Int}{f n:Nat}:W.lt n (wayW B ls f)=true:=by
 unfold wayW
 simp[iW_lt]
theorem zdg{cl:Call}{i l:Nat}{ρ:En}{h:VH}{ws:List W}(hρ:ρ[i]?=some (some (.ref l)))(g:h.get l=some (.lst ws)):ev cl (.bi .tuple (.cons (.var i) .nil)) ρ h=.ok (.tup ws) h:=by
 simp only[ev,hρ,vb4,ofsome,bindok,biW,zdm,seqW,g,vaj]
theorem tup3{cl:Call}{a b c:E}{ρ:En}{h:VH}{x y z:W}(ea:ev cl a ρ h=.ok x h)(eb:ev cl b ρ h=.ok y h)(ec:ev cl c ρ h=.ok z h):ev cl (.tup (.cons a (.cons b (.cons c .nil)))) ρ h=.ok (.tup [x,y,z]) h:=by
 rw[ev,ev,ea,bindok,ev,eb,bindok,ev,ec,bindok,ev]
 rfl
theorem zkb:∀(cs:List Int) (c:Int),(c::cs)[cs.length]?=some (lastC c cs)
 |[],c=>rfl
 |x::r,c=>by
  rw[vai,va0]
  exact zkb r x
theorem zt3{cs:List Int}{c:Int}:atI ((c::cs).map W.int) (-1)=some (.int (lastC c cs)):=by
 have e:ixN ((c::cs).map W.int).length (-1)=some cs.length:=by
  unfold ixN
  rw[if_neg (by decide),vad,vai,if_pos (by omega)]
  congr 1
  omega
 unfold atI
 rw[e,Option.bind_some,vat,zkb]
 rfl
noncomputable def Bd.door(B:Bd)(c:Int):W:=(B.dr[c.toNat]?).getD .non
theorem Bd.Ok.door{B:Bd}(b:B.Ok){c:Int}(c0:0<=c)(c1:c<B.wd):atI B.dr c=some (B.door c)/\RF.door (B.door c) B.fd.length=true:=by
 obtain⟨n,rfl⟩:=vb2 c0
 have hd:=b.d1
 have hn:n<B.dr.length:=by omega
 have e:B.dr[n]?=some B.dr[n]:=vaq hn
 have e2:B.door n=B.dr[n]:=by
  unfold Bd.door
  rw[vbn,e];rfl
 rw[e2]
 exact⟨zbv e,b.d2 _ (vdr hn)⟩
noncomputable def outD(B:Bd)(ls:List Int)(f:Nat):W:=if(B.fall ls f).st then .tup [.non,.non]else B.door (lastC (B.col f) (B.fall ls f).cs)
theorem tup2{cl:Call}{a b:E}{ρ:En}{h:VH}{x y:W}(ea:ev cl a ρ h=.ok x h)(eb:ev cl b ρ h=.ok y h):ev cl (.tup (.cons a (.cons b .nil))) ρ h=.ok (.tup [x,y]) h:=by
 rw[ev,ev,ea,bindok,ev,eb,bindok,ev]
 rfl
theorem znu{ls:List Int}{g:Int}(hl:(ls.length:Int)=g)(b:Bits ls):zcu (iW ls) g g 0 1=true:=by
 unfold iW zcu zat
 simp only[vad,vab,vaw,vbp]
 refine⟨⟨by omega,by omega⟩,λw hw=>?_⟩
 obtain⟨x,hx,rfl⟩:=va6.mp hw
 rcases b x hx with rfl|rfl<;>rfl
noncomputable def zx2(w:W):W:=match w with
 |.tup [n,_]=>n
 |_=>.non
noncomputable def nameP(B:Bd)(ls:List Int)(f:Nat):W:=zx2 (outD B ls f)
theorem znv{B:Bd}{ls:List Int}{f:Nat}(b:B.Ok)(hf:f<B.fd.length)(hl:(ls.length:Int)=B.gr)(bi:Bits ls):∃y,outD B ls f=.tup [nameP B ls f,y]/\(nameP B ls f=.non\/∃i:Int,nameP B ls f=.int i):=by
 unfold nameP outD
 cases z:(B.fall ls f).st with
 |true=>exact⟨.non,rfl,.inl rfl⟩
 |false=>
  have q:=b.fall hf hl bi
  obtain⟨a1,a2⟩:=b.door q.c4.1 q.c4.2
  obtain⟨a,y,e,_,_,_⟩:=zhq a2
  refine⟨y,?_,.inr ⟨a,?_⟩⟩
  .rw[if_neg (by simp),e];rfl
  .rw[if_neg (by simp),e];rfl
theorem zt4{B:Bd}{ls:List Int}{f:Nat}(b:B.Ok)(hf:f<B.fd.length)(hl:(ls.length:Int)=B.gr)(bi:Bits ls)(n:Nat):W.lt n (nameP B ls f)=true:=by
 obtain⟨_,_,e|⟨i,e⟩⟩:=znv b hf hl bi<;>rw[e]<;>simp
theorem zry{n:Nat}:∀{ws:List W},(∀w∈ws,W.lt n w=true)->W.lts n ws=true
 |[],_=>by simp
 |w::r,h=>by rw[lts_cons,h w van,zry λw hw=>h w (vag _ hw)];rfl
section
variable{F:Nat->Option Fn}(C:CoreD F)
include C
theorem zfn{k:Nat}:∀(ns:List Int) (x:Option W) (h:VH),∃cells:List Int,lcL (tgW (.one 0)) (ev (run F k) zdr) (ev (run F k) zds) (ns.map .int) [x] h=.ok (cells.map .int) h/\(∀y∈cells,(0:Int)<=y)/\cells.length<=ns.length
 |[],x,h=>⟨[],rfl,(λy hy=>by cases hy),vae _⟩
 |n::ns,x,h=>by
  obtain⟨cells,e,h1,h2⟩:=zfn (k:=k) ns (some (.int n)) h
  have s10:((10:Int).natAbs<2 ^ 64):=by decide
  have ec:ev (run F k) zdr [some (.int n)] h=.ok (.bl (decide (1000000000000000000<=(n.natAbs:Int)))) h:=by
   simp[zdr,ev,biW,absW,opW,opI,cmpW,cmpI,zdf]
  have ee:ev (run F k) zds [some (.int n)] h=.ok (.int (n.natAbs:Int)) h:=by
   simp[zds,ev,biW,absW,zdf]
  by_cases q:1000000000000000000<=(n.natAbs:Int)
  .refine⟨(n.natAbs:Int)::cells,?_,λy hy=>?_,by rw[vai,vai];omega⟩
   .simp only[lcL,vam,tgW,List.set,ec,bindok,q,decide_true,ee,e]
   .rcases vaz.mp hy with rfl|hy
    .omega
    .exact h1 y hy
  .refine⟨cells,?_,h1,by rw[vai];omega⟩
   simp only[lcL,vam,tgW,List.set,ec,bindok,q,decide_false,e]
theorem deck{k:Nat}{h:VH}{ns:List Int}(hl:ns.length<=63):∃h',run F (k+1) 3 [.fz (ns.map .int)] h=.ok (.ref (h.n+1)) h'/\Dk h' (h.n+1) h.n 0:=by
 rw[zak C.f3 rfl]
 obtain⟨cells,e,h1,h2⟩:=zfn C (k:=k) ns none ⟨h.n,h.n,h.os⟩
 have l:=zct (nx:=nxt .seq (.fz (ns.map .int))) (tg:=tgW (.one 0)) (c:=ev (run F k) zdr) (e:=ev (run F k) zds) (ws:=ns.map .int) (λi h=>rfl) fuel 0 [none] ⟨h.n,h.n,h.os⟩ [] (vbw _) (by rw[vad];unfold fuel;omega)
 rw[vcv,e]at l
 have l:lcG (nxt .seq (.fz (ns.map .int))) (tgW (.one 0)) (ev (run F k) zdr) (ev (run F k) zds) fuel 0 [none] ⟨h.n,h.n,h.os⟩ []=.ok (cells.map .int) ⟨h.n,h.n,h.os⟩:=l
 have q:ev (run F k) (.lc .seq (.var 0) (.one 0) 1 [] zdr zds) [some (.fz (ns.map .int))] ⟨h.n,h.n,h.os⟩=.ok (.ref h.n) (VH.new ⟨h.n,h.n,h.os⟩ (.lst (cells.map .int))):=by
  rw[ev]
  have:ev (run F k) (.var 0) [some (.fz (ns.map .int))] ⟨h.n,h.n,h.os⟩=.ok (.fz (ns.map .int)) ⟨h.n,h.n,h.os⟩:=rfl
  rw[this,bindok]
  show(lcG (nxt .seq (.fz (ns.map .int))) (tgW (.one 0)) (ev (run F k) zdr) (ev (run F k) zds) fuel 0 [none] ⟨h.n,h.n,h.os⟩ []).bind _=_
  rw[l,bindok,if_pos (zb1 (by rw[vad];omega))]
 let h1':VH:=VH.new ⟨h.n,h.n,h.os⟩ (.lst (cells.map .int))
 let o:VO:=.lst [.fz (ns.map .int),.ref h.n,.int 0,.int 0]
 have eb:exs (run F k) fn3.body [some (.fz (ns.map .int))] ⟨h.n,h.n,h.os⟩=.ok (.rt (.ref (h.n+1))) (h1'.new o):=by
  simp only[fn3,exs,ev,bindok,ofsome,vbh,vb4]at q ⊢
  rw[q]
  rfl
 refine⟨⟨h.n+2,if Nat.ble h.lo h.n then h.lo else h.n,(h1'.new o).os⟩,?_,?_⟩
 .show fin h (exs (run F k) fn3.body [some (.fz (ns.map .int))] ⟨h.n,h.n,h.os⟩)=_
  rw[eb]
  show leave h (.ref (h.n+1)) (h1'.new o)=_
  unfold leave
  rw[if_neg (by
   rw[vab]
   intro z
   have:=z.2
   simp only[W.lt]at this
   have:=zar.mp this
   omega)]
  rfl
 .refine⟨by omega,ns,cells,0,0,?_,?_,h1,by omega,by omega,by omega,by omega⟩
  .show VH.get ⟨(h1'.new o).n,_,(h1'.new o).os⟩ (h.n+1)=_
   rw[get_lo]
   exact zad (h:=h1')
  .show VH.get ⟨(h1'.new o).n,_,(h1'.new o).os⟩ h.n=_
   rw[get_lo,zab (h:=h1') (by show h.n<h.n+1;omega)]
   exact zad (h:=⟨h.n,h.n,h.os⟩)
end
noncomputable def zipW(ws zs:List W):List W:=List.zipWith (λa b=>W.tup [a,b]) ws zs
theorem zqj{ws zs:List W}(i:Nat)(h:VH):nxt .zip (.tup [.tup ws,.tup zs]) i h=some (zipW ws zs)[i]?:=by
 simp only[nxt,seqW,zipW,List.getElem?_zipWith]
 cases ws[i]?<;>cases zs[i]?<;>rfl
theorem znw{cl:Call}{a:E}{ρ:En}{h h1 h2:VH}{ow:Nat}{ix:List Nat}{e:E}{t:Tg}{ws zs ys:List W}(ea:ev cl a ρ h=.ok (.tup [.tup ws,.tup zs]) h1)(hn:(zipW ws zs).length<1000000)(el:lcL (tgW t) (λ_ h=>.ok (.bl true) h) (ev cl e) (zipW ws zs) (inner ow ix ρ) h1=.ok ys h2)(hy:ys.length<=1000000) :
 ev cl (.lc .zip a t ow ix (.cst (.bl true)) e) ρ h=.ok (.ref h2.n) (h2.new (.lst ys)):=by
 have l:=zct (nx:=nxt .zip (.tup [.tup ws,.tup zs])) (tg:=tgW t) (c:=λ_ h=>.ok (.bl true) h) (e:=ev cl e) (ws:=zipW ws zs) (λi h=>zqj i h) fuel 0 (inner ow ix ρ) h1 [] (vbw _) (by simpa[fuel]using hn)
 rw[vcv,el]at l
 have q:ev cl (.lc .zip a t ow ix (.cst (.bl true)) e) ρ h=(ev cl a ρ h).bind λx h=>(lcG (nxt .zip x) (tgW t) (ev cl (.cst (.bl true))) (ev cl e) fuel 0 (inner ow ix ρ) h []).bind λys h=>if Nat.ble ys.length big then .ok (.ref h.n) (h.new (.lst ys))else .no:=by rw[ev]
 rw[q,ea,bindok]
 show(lcG (nxt .zip (.tup [.tup ws,.tup zs])) (tgW t) (λ_ h=>.ok (.bl true) h) (ev cl e) fuel 0 (inner ow ix ρ) h1 []).bind _=_
 rw[l]
 show(if Nat.ble ([].reverse++ys).length big then _ else _)=_
 rw[vee,vb8,if_pos (zb1 hy)]
theorem opE{cl:Call}{o:Op}{a b:E}{ρ:En}{h h1 h2:VH}{x y:W}{r:Res W}(ea:ev cl a ρ h=.ok x h1)(eb:ev cl b ρ h1=.ok y h2)(e:opW o x y h2=r):ev cl (.op o a b) ρ h=r:=by
 rw[ev,ea,bindok,eb,bindok,e]
theorem retE{cl:Call}{a:E}{ρ:En}{h h1:VH}{x:W}(ea:ev cl a ρ h=.ok x h1):exs cl (.ret a) ρ h=.ok (.rt x) h1:=by
 rw[exs,ea,bindok]
theorem setE{cl:Call}{i:Nat}{a:E}{ρ:En}{h h1:VH}{x:W}(ea:ev cl a ρ h=.ok x h1):exs cl (.set i a) ρ h=.ok (.nx (ρ.set i (some x))) h1:=by
 rw[exs,ea,bindok]
theorem varE{cl:Call}{i:Nat}{ρ:En}{h:VH}{x:W}(e:ρ[i]?=some (some x)):ev cl (.var i) ρ h=.ok x h:=by
 rw[ev,e];rfl
theorem idxE{cl:Call}{a b:E}{ρ:En}{h h1 h2:VH}{x y z:W}(ea:ev cl a ρ h=.ok x h1)(eb:ev cl b ρ h1=.ok y h2)(e:idxW h2 x y=some z):ev cl (.idx a b) ρ h=.ok z h2:=by
 rw[ev,ea,bindok,eb,bindok,e];rfl
theorem lenE{cl:Call}{a:E}{ρ:En}{h h1:VH}{x:W}{ws:List W}(ea:ev cl a ρ h=.ok x h1)(e:seqW h1 x=some ws):ev cl (.bi .len (.cons a .nil)) ρ h=.ok (.int ws.length) h1:=by
 rw[ev,ev,ea,bindok,ev,bindok]
 show lenW [x] h1=_
 simp only[lenW,e,ofsome]
theorem zrz{cl:Call}{ρ:En}{h h1 h':VH}{n:Nat}{a:E}{x w:W}(ea:ev cl a ρ h=.ok x h1)(e:cl n [x] h1=.ok w h'):ev cl (.call n (.cons a .nil)) ρ h=.ok w h':=by
 rw[ev,ev,ea,bindok,ev]
 exact e
theorem za3{cl:Call}{ρ:En}{h h1 h2 h':VH}{n:Nat}{a b:E}{x y w:W}(ea:ev cl a ρ h=.ok x h1)(eb:ev cl b ρ h1=.ok y h2)(e:cl n [x,y] h2=.ok w h'):ev cl (.call n (.cons a (.cons b .nil))) ρ h=.ok w h':=by
 rw[ev,ev,ea,bindok,ev,eb,bindok,ev]
 exact e
theorem znx{cl:Call}{ρ:En}{h h1 h2 h3 h':VH}{n:Nat}{a b c:E}{x y z w:W}(ea:ev cl a ρ h=.ok x h1)(eb:ev cl b ρ h1=.ok y h2)(ec:ev cl c ρ h2=.ok z h3)(e:cl n [x,y,z] h3=.ok w h'):ev cl (.call n (.cons a (.cons b (.cons c .nil)))) ρ h=.ok w h':=by
 rw[ev,ev,ea,bindok,ev,eb,bindok,ev,ec,bindok,ev]
 exact e
theorem zny{cl:Call}{ρ:En}{h h1 h2 h3 h4 h':VH}{n:Nat}{a b c d:E}{x y z u w:W}(ea:ev cl a ρ h=.ok x h1)(eb:ev cl b ρ h1=.ok y h2)(ec:ev cl c ρ h2=.ok z h3)(ed:ev cl d ρ h3=.ok u h4)(e:cl n [x,y,z,u] h4=.ok w h'):ev cl (.call n (.cons a (.cons b (.cons c (.cons d .nil))))) ρ h=.ok w h':=by
 rw[ev,ev,ea,bindok,ev,eb,bindok,ev,ec,bindok,ev,ed,bindok,ev]
 exact e
theorem tup2E{cl:Call}{a b:E}{ρ:En}{h h1 h2:VH}{x y:W}(ea:ev cl a ρ h=.ok x h1)(eb:ev cl b ρ h1=.ok y h2):ev cl (.tup (.cons a (.cons b .nil))) ρ h=.ok (.tup [x,y]) h2:=by
 rw[ev,ev,ea,bindok,ev,eb,bindok,ev];rfl
theorem tup5E{cl:Call}{a b c d e:E}{ρ:En}{h h1 h2 h3 h4 h5:VH}{x y z u v:W}(ea:ev cl a ρ h=.ok x h1)(eb:ev cl b ρ h1=.ok y h2)(ec:ev cl c ρ h2=.ok z h3)(ed:ev cl d ρ h3=.ok u h4)(ee:ev cl e ρ h4=.ok v h5):ev cl (.tup (.cons a (.cons b (.cons c (.cons d (.cons e .nil)))))) ρ h=.ok (.tup [x,y,z,u,v]) h5:=by
 rw[ev,ev,ea,bindok,ev,eb,bindok,ev,ec,bindok,ev,ed,bindok,ev,ee,bindok,ev];rfl
noncomputable def optW:Option Nat->W
 |none=>.non
 |some f=>.int f
noncomputable def callO(B:Bd)(ls:List Int)(f:Nat):Option Nat:=match outD B ls f with
 |.tup [_,.int i]=>some i.toNat
 |_=>none
theorem zc3{B:Bd}{ls:List Int}{f:Nat}(b:B.Ok)(hf:f<B.fd.length)(hl:(ls.length:Int)=B.gr)(bi:Bits ls):outD B ls f=.tup [nameP B ls f,optW (callO B ls f)]/\∀g,callO B ls f=some g->g<B.fd.length:=by
 have q:=b.fall hf hl bi
 unfold callO nameP
 by_cases z:(B.fall ls f).st=true
 .have:outD B ls f=.tup [.non,.non]:=by unfold outD;rw[if_pos z]
  rw[this]
  exact⟨rfl,λg h=>by cases h⟩
 .have e:outD B ls f=B.door (lastC (B.col f) (B.fall ls f).cs):=by unfold outD;rw[if_neg z]
  obtain⟨_,d2⟩:=b.door q.c4.1 q.c4.2
  obtain⟨x,y,de,_,_,hy⟩:=zhq d2
  rw[e,de]
  rcases hy with rfl|⟨i,rfl,i0,i1⟩
  .exact⟨rfl,λg h=>by cases h⟩
  .refine⟨?_,λg h=>?_⟩
   .show W.tup [.int x,.int i]=.tup [.int x,.int (i.toNat:Int)]
    rw[Int.toNat_of_nonneg i0]
   .have h:some i.toNat=some g:=h
    cases h
    omega
theorem znz{n:Nat}{fo:Option Nat}:W.lt n (optW fo)=true:=by cases fo<;>simp[optW]
theorem slcE{cl:Call}{a lo hi:E}{bl bh:Bool}{ρ:En}{h h1 h2 h3 h4:VH}{x l u w:W}{l' u':Option Int}(ea:ev cl a ρ h=.ok x h1)(el:ev cl lo ρ h1=.ok l h2)(eu:ev cl hi ρ h2=.ok u h3)(pl:partW bl l=some l')(pu:partW bh u=some u')(e:slcW x l' u' h3=.ok w h4):ev cl (.slc a bl lo bh hi) ρ h=.ok w h4:=by
 rw[ev,ea,bindok,el,bindok,eu,bindok,pl,pu]
 exact e
theorem lst2E{cl:Call}{a b:E}{ρ:En}{h h1 h2:VH}{x y:W}(ea:ev cl a ρ h=.ok x h1)(eb:ev cl b ρ h1=.ok y h2):ev cl (.lst (.cons a (.cons b .nil))) ρ h=.ok (.ref h2.n) (h2.new (.lst [x,y])):=by
 rw[ev,ev,ea,bindok,ev,eb,bindok,ev];rfl
theorem iteF{cl:Call}{c:E}{a b:S}{ρ:En}{h h1:VH}(e:ev cl c ρ h=.ok (.bl false) h1):exs cl (.ite c a b) ρ h=exs cl b ρ h1:=by
 rw[exs,e];rfl
theorem iteT{cl:Call}{c:E}{a b:S}{ρ:En}{h h1:VH}(e:ev cl c ρ h=.ok (.bl true) h1):exs cl (.ite c a b) ρ h=exs cl a ρ h1:=by
 rw[exs,e];rfl
theorem truE{cl:Call}{a:E}{ρ:En}{h h1:VH}{b:Bool}(e:ev cl a ρ h=.ok (.bl b) h1):ev cl (.tru a) ρ h=.ok (.bl b) h1:=by
 rw[ev,e,bindok];rfl
theorem exprE{cl:Call}{a:E}{ρ:En}{h h1:VH}{x:W}(ea:ev cl a ρ h=.ok x h1):exs cl (.expr a) ρ h=.ok (.nx ρ) h1:=by
 rw[exs,ea,bindok]
theorem zgj{n:Nat}{ls:List Int}:za2 (n+2) (iW ls)=true:=by
 unfold iW
 rw[zhm,vbp]
 intro w hw
 obtain⟨x,_,rfl⟩:=va6.mp hw
 rfl
theorem zn0{P:Int->Prop}:∀{ws:List W},(∀w∈ws,∃x:Int,w=.int x/\P x)->∃xs:List Int,ws=xs.map .int/\∀x∈xs,P x
 |[],_=>⟨[],rfl,by simp⟩
 |w::r,h=>by
  obtain⟨x,rfl,hx⟩:=h w van
  obtain⟨xs,rfl,hs⟩:=zn0 λw hw=>h w (vag _ hw)
  refine⟨x::xs,rfl,λy hy=>?_⟩
  rcases vaz.mp hy with rfl|hy
  .exact hx
  .exact hs y hy
structure CoreY1(F:Nat->Option Fn):Prop where
 f173:F 173=some fn173
 f174:F 174=some fn174
structure CoreY0(F:Nat->Option Fn):Prop where
 f173:F 173=some fn173
 f174:F 174=some fn174
 f175:F 175=some fn175
theorem varE0{cl:Call}{i:Nat}{ρ:En}{h:VH}{x:W}(e:ρ[i]?=some (some x)):ev cl (.var i) ρ h=.ok x h:=by
 rw[ev,e];rfl
theorem idxE0{cl:Call}{a b:E}{ρ:En}{h h1 h2:VH}{x y z:W}(ea:ev cl a ρ h=.ok x h1)(eb:ev cl b ρ h1=.ok y h2)(e:idxW h2 x y=some z):ev cl (.idx a b) ρ h=.ok z h2:=by
 rw[ev,ea,bindok,eb,bindok,e];rfl
theorem setE0{cl:Call}{i:Nat}{a:E}{ρ:En}{h h1:VH}{x:W}(ea:ev cl a ρ h=.ok x h1):exs cl (.set i a) ρ h=.ok (.nx (ρ.set i (some x))) h1:=by
 rw[exs,ea];rfl
theorem zn1{h:VH}{x:W}{r:List W}:idxW h (.tup (x::r)) (.int 0)=some x:=zbv (j:=0) (xs:=x::r) rfl
theorem zgk{h:VH}{i:Int}:eqW h (.int i) .non=some false:=rfl
section
variable{F:Nat->Option Fn}(C:CoreY1 F)
include C
theorem zqk{k:Nat}{h0:VH}{gs:List VO}{cs ts:List W}{ls:List Int}{w:W}{c wd hd:Int}(hm:zax w c wd (ls.length:Int)=true) :
 run F (k+1) 173 [w,.int hd,.ref (h0.n+2),.non] (st3 h0 gs cs ts (ls.map .int))=match stepP w hd ls with
  |none=>.ok .non (st3 h0 gs cs ts (ls.map .int))
  |some (d,_,l)=>.ok (.int d) (st3 h0 gs cs ts (l.map .int)):=by
 rw[zak C.f173 rfl]
 rcases zes hm with⟨rfl,h3,h4⟩|⟨rfl,h3⟩|⟨rfl,h3⟩|rfl|rfl|⟨p,q,rfl,h3,h4,h5,h6⟩
 .rw[znl];simp[fn173,exs,ev,cmpW,zai]
 .rw[ziy];simp[fn173,exs,ev,cmpW,zai]
 .rw[ziz];simp[fn173,exs,ev,cmpW,zai]
 .rw[zd5];simp[fn173,exs,ev,cmpW,zai]
 .rw[znm];simp[fn173,exs,ev,cmpW,zai]
 .rw[zgi]
  have hp:p<ls.length:=by omega
  have e1:=zx0 hp
  have g:VH.get ⟨(st3 h0 gs cs ts (ls.map .int)).n,(st3 h0 gs cs ts (ls.map .int)).n,(st3 h0 gs cs ts (ls.map .int)).os⟩ (h0.n+2)=some (.lst (ls.map .int)):=by rw[get_lo];exact st_l
  have e2:ixN (ls.map W.int).length (p:Int)=some p:=znt (by rw[vad];exact hp)
  have e3:exs (run F k) fn173.body [some (.tup [.int p,.int q]),some (.int hd),some (.ref (h0.n+2)),some .non,none,none,none] ⟨(st3 h0 gs cs ts (ls.map .int)).n,(st3 h0 gs cs ts (ls.map .int)).n,(st3 h0 gs cs ts (ls.map .int)).os⟩=.ok (.rt (.int (if ls.getD p 0=q then -1 else 1))) (VH.set ⟨(st3 h0 gs cs ts (ls.map .int)).n,(st3 h0 gs cs ts (ls.map .int)).n,(st3 h0 gs cs ts (ls.map .int)).os⟩ (h0.n+2) (.lst ((ls.set p (1-ls.getD p 0)).map .int))):=by
   rw[List.map_set]
   generalize ls.getD p 0=y at e1 ⊢
   by_cases z:y=(q:Int)
   .simp only[fn173,exs,ev,tgW,seqW,zaz,vb4,va0,vbh,ofsome,bindok,isi_tup,vaj,tru_bl,ty_tuple_tuple,vbv,vbl,idxW,g,e1,opW,opI,e2,cmpW,za8,zgk,vez,z,decide_true,vbe]
   .simp only[fn173,exs,ev,tgW,seqW,zaz,vb4,va0,vbh,ofsome,bindok,isi_tup,vaj,tru_bl,ty_tuple_tuple,vbv,vbl,idxW,g,e1,opW,opI,e2,cmpW,za8,zgk,vez,z,decide_false,vbk]
  show fin _ (exs (run F k) fn173.body [some (.tup [.int p,.int q]),some (.int hd),some (.ref (h0.n+2)),some .non,none,none,none] _)=_
  rw[e3]
  exact zqi
theorem zt5{k:Nat}{h0:VH}{b l f:W}{r:List W}{c wd hd:Int}{cs ts:List W}{ls:List Int}{y:Option W}(ok:(r.length:Int)=wd/\rowOk wd (ls.length:Int) 0 r)(c0:0<=c)(c1:c<wd)(hc:cs.length<=1000)(ht:ts.length<=1000) :
 exs (run F (k+1)) zcy [some b,some l,some f,some .non,some (.int c),some (.ref h0.n),some (.ref (h0.n+1)),some (.ref (h0.n+2)),some (.int hd),some (.tup r),y] (st3 h0 [] cs ts (ls.map .int))=match stepP (colAt r c) hd ls with
  |none=>.ok (.bk [some b,some l,some f,some .non,some (.int c),some (.ref h0.n),some (.ref (h0.n+1)),some (.ref (h0.n+2)),some .non,some (.tup r),some (colAt r c)]) (st3 h0 [] cs ts (ls.map .int))
  |some (d,t,l')=>.ok (.nx [some b,some l,some f,some .non,some (.int (c+d)),some (.ref h0.n),some (.ref (h0.n+1)),some (.ref (h0.n+2)),some (.int d),some (.tup r),some (colAt r c)]) (st3 h0 [] (cs++[.int (c+d)]) (ts++t.map .int) (l'.map .int)):=by
 obtain⟨_,hm⟩:=zka ok c0 c1
 have e0:=zx1 ok c0 c1
 generalize colAt r c=w at hm e0 ⊢
 have e1:=zqk C (k:=k) (h0:=h0) (gs:=[]) (cs:=cs) (ts:=ts) (hd:=hd) hm
 unfold zcy
 rw[zaa (ρ':=[some b,some l,some f,some .non,some (.int c),some (.ref h0.n),some (.ref (h0.n+1)),some (.ref (h0.n+2)),some (.int hd),some (.tup r),some w]) (h':=st3 h0 [] cs ts (ls.map .int)) (setE0 (idxE0 (x:=.tup r) (y:=.int c) (varE0 rfl) (varE0 rfl) e0))]
 have key:∀(d:Int)(l':List Int)(t:List Int),stepP w hd ls=some (d,t,l')->exs (run F (k+1)) (.seq (.ite (.and (.tru (.isi .tuple (.var 10))) (.cmp .ne (.idx (.var 10) (.cst (.int (0)))) (.var 3))) (.seq (.expr (.mt .append (.var 6) (.cons (.idx (.var 10) (.cst (.int (0)))) .nil))) .skip) .skip) (.seq (.aug 4 .add (.var 8)) (.seq (.expr (.mt .append (.var 5) (.cons (.var 4) .nil))) .skip))) [some b,some l,some f,some .non,some (.int c),some (.ref h0.n),some (.ref (h0.n+1)),some (.ref (h0.n+2)),some (.int d),some (.tup r),some w] (st3 h0 [] cs ts (l'.map .int))=.ok (.nx [some b,some l,some f,some .non,some (.int (c+d)),some (.ref h0.n),some (.ref (h0.n+1)),some (.ref (h0.n+2)),some (.int d),some (.tup r),some w]) (st3 h0 [] (cs++[.int (c+d)]) (ts++t.map .int) (l'.map .int)):=by
  intro d l' t es
  have fin:∀ts':List W,exs (run F (k+1)) (.seq (.aug 4 .add (.var 8)) (.seq (.expr (.mt .append (.var 5) (.cons (.var 4) .nil))) .skip)) [some b,some l,some f,some .non,some (.int c),some (.ref h0.n),some (.ref (h0.n+1)),some (.ref (h0.n+2)),some (.int d),some (.tup r),some w] (st3 h0 [] cs ts' (l'.map .int))=.ok (.nx [some b,some l,some f,some .non,some (.int (c+d)),some (.ref h0.n),some (.ref (h0.n+1)),some (.ref (h0.n+2)),some (.int d),some (.tup r),some w]) (st3 h0 [] (cs++[.int (c+d)]) ts' (l'.map .int)):=by
   intro ts'
   rw[zaa (ρ':=[some b,some l,some f,some .non,some (.int (c+d)),some (.ref h0.n),some (.ref (h0.n+1)),some (.ref (h0.n+2)),some (.int d),some (.tup r),some w]) (h':=st3 h0 [] cs ts' (l'.map .int)) rfl]
   have ea:=zcx (cl:=run F (k+1)) (i:=5) (l:=h0.n) (x:=.var 4) (ρ:=[some b,some l,some f,some .non,some (.int (c+d)),some (.ref h0.n),some (.ref (h0.n+1)),some (.ref (h0.n+2)),some (.int d),some (.tup r),some w]) (h:=st3 h0 [] cs ts' (l'.map .int)) (h1:=st3 h0 [] cs ts' (l'.map .int)) (w:=.int (c+d)) (acc:=cs) (acc0:=cs) rfl st_c (by simp[ev]) st_c (by omega)
   rw[zt0]at ea
   simp only[exs,ea,bindok]
  rcases zes hm with⟨rfl,h3,h4⟩|⟨rfl,h3⟩|⟨rfl,h3⟩|rfl|rfl|⟨p,q,rfl,h3,h4,h5,h6⟩
  .rw[znl]at es;cases es
   rw[zaa (ρ':=[some b,some l,some f,some .non,some (.int c),some (.ref h0.n),some (.ref (h0.n+1)),some (.ref (h0.n+2)),some (.int hd),some (.tup r),some (.str sX)]) (h':=st3 h0 [] cs ts (ls.map .int)) rfl,fin];simp
  .rw[ziy]at es;cases es
   rw[zaa (ρ':=[some b,some l,some f,some .non,some (.int c),some (.ref h0.n),some (.ref (h0.n+1)),some (.ref (h0.n+2)),some (.int (-1)),some (.tup r),some (.str sLt)]) (h':=st3 h0 [] cs ts (ls.map .int)) rfl,fin];simp
  .rw[ziz]at es;cases es
   rw[zaa (ρ':=[some b,some l,some f,some .non,some (.int c),some (.ref h0.n),some (.ref (h0.n+1)),some (.ref (h0.n+2)),some (.int 1),some (.tup r),some (.str sGt)]) (h':=st3 h0 [] cs ts (ls.map .int)) rfl,fin];simp
  .rw[zd5]at es;cases es
   rw[zaa (ρ':=[some b,some l,some f,some .non,some (.int c),some (.ref h0.n),some (.ref (h0.n+1)),some (.ref (h0.n+2)),some (.int 0),some (.tup r),some (.str sDot)]) (h':=st3 h0 [] cs ts (ls.map .int)) rfl,fin];simp
  .rw[znm]at es;cases es
  .rw[zgi]at es;cases es
   have ea:=zcx (cl:=run F (k+1)) (i:=6) (l:=h0.n+1) (x:=.idx (.var 10) (.cst (.int 0))) (ρ:=[some b,some l,some f,some .non,some (.int c),some (.ref h0.n),some (.ref (h0.n+1)),some (.ref (h0.n+2)),some (.int (if ls.getD p 0=q then -1 else 1)),some (.tup r),some (.tup [.int p,.int q])]) (h:=st3 h0 [] cs ts ((ls.set p (1-ls.getD p 0)).map .int)) (h1:=st3 h0 [] cs ts ((ls.set p (1-ls.getD p 0)).map .int)) (w:=.int p) (acc:=ts) (acc0:=ts) rfl st_t (by simp[ev,idxW];rfl) st_t (by omega)
   rw[zt1]at ea
   have eb:exs (run F (k+1)) (.ite (.and (.tru (.isi .tuple (.var 10))) (.cmp .ne (.idx (.var 10) (.cst (.int (0)))) (.var 3))) (.seq (.expr (.mt .append (.var 6) (.cons (.idx (.var 10) (.cst (.int (0)))) .nil))) .skip) .skip) [some b,some l,some f,some .non,some (.int c),some (.ref h0.n),some (.ref (h0.n+1)),some (.ref (h0.n+2)),some (.int (if ls.getD p 0=q then -1 else 1)),some (.tup r),some (.tup [.int p,.int q])] (st3 h0 [] cs ts ((ls.set p (1-ls.getD p 0)).map .int))=.ok (.nx [some b,some l,some f,some .non,some (.int c),some (.ref h0.n),some (.ref (h0.n+1)),some (.ref (h0.n+2)),some (.int (if ls.getD p 0=q then -1 else 1)),some (.tup r),some (.tup [.int p,.int q])]) (st3 h0 [] cs (ts++[.int p]) ((ls.set p (1-ls.getD p 0)).map .int)):=by
    rw[exs]
    have e5:ev (run F (k+1)) (.and (.tru (.isi .tuple (.var 10))) (.cmp .ne (.idx (.var 10) (.cst (.int (0)))) (.var 3))) [some b,some l,some f,some .non,some (.int c),some (.ref h0.n),some (.ref (h0.n+1)),some (.ref (h0.n+2)),some (.int (if ls.getD p 0=q then -1 else 1)),some (.tup r),some (.tup [.int p,.int q])] (st3 h0 [] cs ts ((ls.set p (1-ls.getD p 0)).map .int))=.ok (.bl true) (st3 h0 [] cs ts ((ls.set p (1-ls.getD p 0)).map .int)):=by simp[ev,zn1,cmpW,zgk]
    rw[e5,bindok]
    simp only[exs,ea,bindok]
   rw[zaa eb,fin]
   rfl
 cases es:stepP w hd ls with
 |none=>
  rw[es]at e1
  rw[zaa (ρ':=[some b,some l,some f,some .non,some (.int c),some (.ref h0.n),some (.ref (h0.n+1)),some (.ref (h0.n+2)),some .non,some (.tup r),some w]) (h':=st3 h0 [] cs ts (ls.map .int)) (by simp only[exs,ev,vb4,va0,vbh,ofsome,bindok,e1,vbv,vbl])]
  exact zlf rfl
 |some q=>
  obtain⟨d,t,l'⟩:=q
  rw[es]at e1
  rw[zaa (ρ':=[some b,some l,some f,some .non,some (.int c),some (.ref h0.n),some (.ref (h0.n+1)),some (.ref (h0.n+2)),some (.int d),some (.tup r),some w]) (h':=st3 h0 [] cs ts (l'.map .int)) (by simp only[exs,ev,vb4,va0,vbh,ofsome,bindok,e1,vbv,vbl])]
  rw[zaa (ρ':=[some b,some l,some f,some .non,some (.int c),some (.ref h0.n),some (.ref (h0.n+1)),some (.ref (h0.n+2)),some (.int d),some (.tup r),some w]) (h':=st3 h0 [] cs ts (l'.map .int)) rfl]
  exact key d l' t es
theorem zfo{k:Nat}{h0:VH}{b l f:W}{wd:Int}:∀(rs:List (List W)) (c hd:Int) (cs ts:List W) (ls:List Int) (x y:Option W),zno wd (ls.length:Int) rs->0<=c->c<wd->-1<=hd->hd<=1->Bits ls->cs.length+rs.length<=1000->ts.length+rs.length<=1000->
 ∃c' hd' x' y',forL (tgW (.one 9)) (exs (run F (k+1)) zcy) (rs.map .tup) [some b,some l,some f,some .non,some (.int c),some (.ref h0.n),some (.ref (h0.n+1)),some (.ref (h0.n+2)),some (.int hd),x,y] (st3 h0 [] cs ts (ls.map .int)) =
  .ok (.nx [some b,some l,some f,some .non,c',some (.ref h0.n),some (.ref (h0.n+1)),some (.ref (h0.n+2)),hd',x',y']) (st3 h0 [] (cs++(fallP rs c hd ls).cs.map .int) (ts++(fallP rs c hd ls).ts.map .int) ((fallP rs c hd ls).ls.map .int))
 |[],c,hd,cs,ts,ls,x,y,_,_,_,_,_,_,_,_=>⟨some (.int c),some (.int hd),x,y,by simp[forL,fallP]⟩
 |r::rs,c,hd,cs,ts,ls,x,y,ok,c0,c1,h1,h2,bi,hc,ht=>by
  have hc':cs.length+rs.length+1<=1000:=by rw[vai]at hc;omega
  have ht':ts.length+rs.length+1<=1000:=by rw[vai]at ht;omega
  have eb:=zt5 C (k:=k) (h0:=h0) (b:=b) (l:=l) (f:=f) (hd:=hd) (cs:=cs) (ts:=ts) (y:=y) (ok r van) c0 c1 (by omega) (by omega)
  obtain⟨_,hm⟩:=zka (ok r van) c0 c1
  cases e:stepP (colAt r c) hd ls with
  |none=>
   rw[e]at eb
   rw[znq e]
   refine⟨some (.int c),some .non,some (.tup r),some (colAt r c),?_⟩
   simp only[vam,forL,tgW,vbv,vbl,eb,bindok,vda,vcd]
  |some q=>
   obtain⟨d,t,l'⟩:=q
   rw[e]at eb
   obtain⟨a1,a2,a3,a4,a5,a6,a7⟩:=znn hm c0 c1 h1 h2 bi e
   obtain⟨c',hd',x',y',ih⟩:=zfo (k:=k) (h0:=h0) (b:=b) (l:=l) (f:=f) rs (c+d) d (cs++[.int (c+d)]) (ts++t.map .int) l' (some (.tup r)) (some (colAt r c)) (λr hr=>by rw[a5];exact ok r (vag _ hr)) a3 a4 a1 a2 a6 (by simp only[vao,va9];omega) (by simp only[vao,vad];omega)
   rw[znr e]
   refine⟨c',hd',x',y',?_⟩
   simp only[vam,forL,tgW,vbv,vbl,eb,bindok,ih,vbm,vd8,List.singleton_append]
theorem zt6{k:Nat}{h:VH}{B:Bd}{ls:List Int}{f:Nat}(b:B.Ok)(hf:f<B.fd.length)(hl:(ls.length:Int)=B.gr)(bi:Bits ls):run F (k+2) 174 [B.w,iW ls,.int f,.non] h=.ok (wayW B ls f) h:=by
 rw[zak C.f174 rfl]
 obtain⟨e0,c0,c1⟩:=b.col hf
 have hr:=b.r1
 obtain⟨c',hd',x',y',el⟩:=zfo C (k:=k) (h0:=h) (b:=B.w) (l:=iW ls) (f:=.int f) B.rows (B.col f) 0 [.int (B.col f)] [] ls none none (b.rows hl) c0 c1 (by decide) (by decide) bi (by rw[va9];omega) (by rw[vd2];omega)
 have e1:atI B.fd (f:Int)=some (.int (B.col f)):=zbv e0
 have i3:atI [W.int B.wd,.int B.gr,.tup (B.rows.map .tup),.tup B.fd,.tup B.dr] 3=some (.tup B.fd):=rfl
 have i2:atI [W.int B.wd,.int B.gr,.tup (B.rows.map .tup),.tup B.fd,.tup B.dr] 2=some (.tup (B.rows.map .tup)):=rfl
 have hz:(B.rows.map W.tup).length<1000000:=by rw[vad];omega
 have eb:exs (run F (k+1)) fn174.body [some B.w,some (iW ls),some (.int f),some .non,none,none,none,none,none,none,none] ⟨h.n,h.n,h.os⟩=.ok (.rt (wayW B ls f)) (st3 h [] (([.int (B.col f)]:List W)++(fallP B.rows (B.col f) 0 ls).cs.map .int) (([]:List W)++(fallP B.rows (B.col f) 0 ls).ts.map .int) ((fallP B.rows (B.col f) 0 ls).ls.map .int)):=by
  show exs (run F (k+1)) (.seq _ _) _ _=_
  rw[zaa (ρ':=[some B.w,some (iW ls),some (.int f),some .non,some (.int (B.col f)),none,none,none,none,none,none]) (h':=⟨h.n,h.n,h.os⟩) (by unfold Bd.w;simp[exs,ev,idxW,i3,e1])]
  rw[zaa (ρ':=[some B.w,some (iW ls),some (.int f),some .non,some (.int (B.col f)),some (.ref h.n),none,none,none,none,none]) (h':=VH.new ⟨h.n,h.n,h.os⟩ (.lst [.int (B.col f)])) (by simp[exs,ev])]
  rw[zaa (ρ':=[some B.w,some (iW ls),some (.int f),some .non,some (.int (B.col f)),some (.ref h.n),some (.ref (h.n+1)),none,none,none,none]) (h':=VH.new (VH.new ⟨h.n,h.n,h.os⟩ (.lst [.int (B.col f)])) (.lst [])) (by simp[exs,ev,VH.new])]
  rw[zaa (ρ':=[some B.w,some (iW ls),some (.int f),some .non,some (.int (B.col f)),some (.ref h.n),some (.ref (h.n+1)),some (.ref (h.n+2)),none,none,none]) (h':=st3 h [] [.int (B.col f)] [] (ls.map .int)) (by unfold iW;simp[exs,ev,VH.new,biW,listW,seqW,st3])]
  rw[zaa (ρ':=[some B.w,some (iW ls),some (.int f),some .non,some (.int (B.col f)),some (.ref h.n),some (.ref (h.n+1)),some (.ref (h.n+2)),some (.int 0),none,none]) (h':=st3 h [] [.int (B.col f)] [] (ls.map .int)) (by simp[exs,ev])]
  have ei:ev (run F (k+1)) (.idx (.var 0) (.cst (.int (2)))) [some B.w,some (iW ls),some (.int f),some .non,some (.int (B.col f)),some (.ref h.n),some (.ref (h.n+1)),some (.ref (h.n+2)),some (.int 0),none,none] (st3 h [] [.int (B.col f)] [] (ls.map .int))=.ok (.tup (B.rows.map .tup)) (st3 h [] [.int (B.col f)] [] (ls.map .int)):=by
   unfold Bd.w;simp[ev,idxW,i2]
  have ef:=zdd (tg:=tgW (.one 9)) (b:=exs (run F (k+1)) zcy) (ρ:=[some B.w,some (iW ls),some (.int f),some .non,some (.int (B.col f)),some (.ref h.n),some (.ref (h.n+1)),some (.ref (h.n+2)),some (.int 0),none,none]) (h:=st3 h [] [.int (B.col f)] [] (ls.map .int)) hz
  rw[el]at ef
  refine(zaa (by rw[exs,ei,bindok,ef])).trans ?_
  have et:=tup3 (cl:=run F (k+1)) (zdg (i:=5) (ρ:=[some B.w,some (iW ls),some (.int f),some .non,c',some (.ref h.n),some (.ref (h.n+1)),some (.ref (h.n+2)),hd',x',y']) rfl (st_c (h:=h) (gs:=[]) (c:=([.int (B.col f)]:List W)++(fallP B.rows (B.col f) 0 ls).cs.map .int) (t:=([]:List W)++(fallP B.rows (B.col f) 0 ls).ts.map .int) (l:=(fallP B.rows (B.col f) 0 ls).ls.map .int))) (zdg (i:=6) rfl st_t) (zdg (i:=7) rfl st_l)
  simp only[exs,et,bindok]
  rfl
 show fin h (exs (run F (k+1)) fn174.body [some B.w,some (iW ls),some (.int f),some .non,none,none,none,none,none,none,none] ⟨h.n,h.n,h.os⟩)=_
 rw[eb]
 exact zai (vae _) zt2
end
section
variable{F:Nat->Option Fn}(C:CoreY0 F)
include C
theorem zt7{k:Nat}{h:VH}{B:Bd}{ls:List Int}{f:Nat}(b:B.Ok)(hf:f<B.fd.length)(hl:(ls.length:Int)=B.gr)(bi:Bits ls):run F (k+2) 174 [B.w,iW ls,.int f,.non] h=.ok (wayW B ls f) h:=zt6 ⟨C.f173,C.f174⟩ b hf hl bi
noncomputable def downW(B:Bd)(ls:List Int)(f:Nat):W:=if(B.fall ls f).st then .non else .int (lastC (B.col f) (B.fall ls f).cs)
theorem zlg{k:Nat}{h:VH}{B:Bd}{ls:List Int}{f:Nat}(b:B.Ok)(hf:f<B.fd.length)(hl:(ls.length:Int)=B.gr)(bi:Bits ls):run F (k+3) 175 [B.w,iW ls,.int f,.non] h=.ok (.tup [downW B ls f,iW (B.fall ls f).ls]) h:=by
 rw[zak C.f175 rfl]
 have e1:=zt7 C (k:=k) (h:=⟨h.n,h.n,h.os⟩) b hf hl bi
 have q:=b.fall hf hl bi
 have i2:atI [W.int B.wd,.int B.gr,.tup (B.rows.map .tup),.tup B.fd,.tup B.dr] 2=some (.tup (B.rows.map .tup)):=rfl
 have e2:exs (run F (k+2)) (.unp [4,5,6] (.call 174 (.cons (.var 0) (.cons (.var 1) (.cons (.var 2) (.cons (.var 3) .nil)))))) [some B.w,some (iW ls),some (.int f),some .non,none,none,none,none] ⟨h.n,h.n,h.os⟩=.ok (.nx [some B.w,some (iW ls),some (.int f),some .non,some (iW (B.col f:: (B.fall ls f).cs)),some (iW (B.fall ls f).ts),some (iW (B.fall ls f).ls),none]) ⟨h.n,h.n,h.os⟩:=by
  simp only[exs,ev,vb4,va0,vbh,ofsome,bindok,e1,wayW,tgW,seqW,zaz,vbv,vbl,vaj]
 have e3:ev (run F (k+2)) (.cmp .gt (.bi .len (.cons (.var 4) .nil)) (.bi .len (.cons (.idx (.var 0) (.cst (.int (2)))) .nil))) [some B.w,some (iW ls),some (.int f),some .non,some (iW (B.col f:: (B.fall ls f).cs)),some (iW (B.fall ls f).ts),some (iW (B.fall ls f).ls),none] ⟨h.n,h.n,h.os⟩=.ok (.bl (!(B.fall ls f).st)) ⟨h.n,h.n,h.os⟩:=by
  have:decide ((B.rows.length:Int)< ((B.fall ls f).cs.length:Int)+1)=!(B.fall ls f).st:=by
   cases z:(B.fall ls f).st with
   |true=>have:=q.c5 z;exact vax (by omega)
   |false=>have:=q.c3 z;exact vb5 (by omega)
  unfold Bd.w iW
  simp[ev,biW,lenW,seqW,idxW,i2,cmpW,cmpI,this]
 have el:=zt3 (cs:=(B.fall ls f).cs) (c:=B.col f)
 show fin h (exs (run F (k+2)) (.seq (.unp [4,5,6] (.call 174 (.cons (.var 0) (.cons (.var 1) (.cons (.var 2) (.cons (.var 3) .nil)))))) _) [some B.w,some (iW ls),some (.int f),some .non,none,none,none,none] ⟨h.n,h.n,h.os⟩)=_
 rw[zaa e2]
 have e4:ev (run F (k+2)) (.idx (.var 4) (.neg (.cst (.int (1))))) [some B.w,some (iW ls),some (.int f),some .non,some (iW (B.col f:: (B.fall ls f).cs)),some (iW (B.fall ls f).ts),some (iW (B.fall ls f).ls),none] ⟨h.n,h.n,h.os⟩=.ok (.int (lastC (B.col f) (B.fall ls f).cs)) ⟨h.n,h.n,h.os⟩:=by
  unfold iW
  simp only[ev,vb4,va0,vbh,ofsome,bindok,idxW,el]
 have e5:exs (run F (k+2)) (.set 7 (.ite (.cmp .gt (.bi .len (.cons (.var 4) .nil)) (.bi .len (.cons (.idx (.var 0) (.cst (.int (2)))) .nil))) (.idx (.var 4) (.neg (.cst (.int (1))))) (.cst .non))) [some B.w,some (iW ls),some (.int f),some .non,some (iW (B.col f:: (B.fall ls f).cs)),some (iW (B.fall ls f).ts),some (iW (B.fall ls f).ls),none] ⟨h.n,h.n,h.os⟩=.ok (.nx [some B.w,some (iW ls),some (.int f),some .non,some (iW (B.col f:: (B.fall ls f).cs)),some (iW (B.fall ls f).ts),some (iW (B.fall ls f).ls),some (downW B ls f)]) ⟨h.n,h.n,h.os⟩:=by
  unfold downW
  rw[exs,ev,e3]
  cases z:(B.fall ls f).st with
  |true=>rfl
  |false=>simp only[vez,bindok,e4];rfl
 rw[zaa e5]
 simp only[exs]
 rw[tup2 (x:=downW B ls f) (y:=iW (B.fall ls f).ls) rfl rfl]
 refine zai (vae _) ?_
 unfold downW
 split<;>simp[iW_lt]
end
noncomputable abbrev Stn:=List Int×Option Nat
noncomputable def stW(s:Stn):W:=.tup [iW s.1,optW s.2]
noncomputable def dkS(s:Stn):DK:=(s.1,s.2.map λ(f:Nat)=>(f:Int))
theorem zgl:∀ls:List Int,mapO intD (ls.map .int)=some ls
 |[]=>rfl
 |x::ls=>by
  have h:=zgl ls
  rw[vam]
  unfold mapO
  simp only[intD,h]
theorem zgm(s:Stn):keyD (stW s)=some (dkS s):=by
 obtain⟨ls,fo⟩:=s
 cases fo with
 |none=>simp[stW,iW,optW,keyD,zgl,dkS]
 |some f=>simp[stW,iW,optW,keyD,zgl,dkS]
theorem zt8{s t:Stn}(h:dkS s=dkS t):s=t:=by
 obtain⟨ls,fo⟩:=s
 obtain⟨ms,go⟩:=t
 unfold dkS at h
 have h1:=vey Prod.fst h
 have h2:=vey Prod.snd h
 simp only at h1 h2
 subst h1
 cases fo<;>cases go<;>simp at h2 ⊢
 omega
theorem zr0{n:Nat}{s:Stn}:W.lt n (stW s)=true:=by
 unfold stW
 simp[iW_lt,znz]
noncomputable def GoodS(B:Bd)(s:Stn):Prop:=(s.1.length:Int)=B.gr/\Bits s.1/\∀f,s.2=some f->f<B.fd.length
noncomputable def nextS(B:Bd)(s:Stn):Option Stn:=match s.2 with
 |none=>none
 |some f=>some ((B.fall s.1 f).ls,callO B s.1 f)
theorem zb2{B:Bd}{s t:Stn}(b:B.Ok)(h:GoodS B s)(e:nextS B s=some t):GoodS B t:=by
 obtain⟨ls,fo⟩:=s
 obtain⟨hl,bi,hf⟩:=h
 cases fo with
 |none=>cases e
 |some f=>
  cases e
  have hf:=hf f rfl
  have q:=b.fall hf hl bi
  exact⟨by rw[q.l1];exact hl,q.l2,(zc3 b hf hl bi).2⟩
noncomputable def posS(s:Stn):Nat->List Stn->Option Nat
 |_,[]=>none
 |i,x::xs=>if x=s then some i else posS s (i+1) xs
theorem zd8{s:Stn}:∀{xs:List Stn} {i:Nat},posS s i xs=none->s∉xs
 |[],_,_=>λh=>nomatch h
 |x::xs,i,e=>by
  unfold posS at e
  split at e
  .cases e
  .rename_i hx
   intro h
   rcases vaz.mp h with rfl|h
   .exact hx rfl
   .exact zd8 e h
theorem zav(a:Int)(n:Nat):zaj a (n+1)=.int a::zaj (a+1) n:=rfl
theorem zgn{s:Stn}:∀(xs:List Stn) (i:Nat),lookD (xs.map stW) (zaj (i:Int) xs.length) (dkS s)=(posS s i xs).map λ(n:Nat)=>.int (n:Int)
 |[],i=>by unfold lookD posS;rfl
 |x::xs,i=>by
  rw[vam,vai,zav]
  unfold lookD posS
  rw[zgm]
  by_cases e:x=s
  .rw[if_pos (by rw[e]),if_pos e];rfl
  .rw[if_neg (λz=>e (zt8 (vbr z))),if_neg e]
   have:=zgn (s:=s) xs (i+1)
   rw[show((i:Int)+1)=((i+1:Nat):Int) by omega]
   exact this
theorem zfp:∀(n:Nat) (a:Int),zaj a n++[.int (a+n)]=zaj a (n+1)
 |0,a=>by show [W.int (a+0)]=[W.int a];rw[Int.add_zero]
 |n+1,a=>by
  rw[zav,zav a (n+1),vc0]
  have:=zfp n (a+1)
  rw[show a+ ((n+1:Nat):Int)=a+1+ (n:Int) by omega,this]
noncomputable def everP(B:Bd):Nat->List Stn->Option Stn->List Stn×Option Nat
 |0,seen,_=>(seen,none)
 |_+1,seen,none=>(seen,none)
 |n+1,seen,some s=>match posS s 0 seen with
  |some i=>(seen,some i)
  |none=>everP B n (seen++[s]) (nextS B s)
theorem zn2{α:Type}[DecidableEq α]:∀{l m:List α},l.Nodup->(∀x∈l,x∈m)->l.length<=m.length
 |[],m,_,_=>vbw _
 |x::l,m,nd,h=>by
  have hx:=h x van
  obtain⟨h1,h2⟩:=vdz.mp nd
  have:=zn2 (m:=m.erase x) h2 λy hy=>(List.mem_erase_of_ne (show y≠x from λz=>h1 (z▸hy))).mpr (h y (vag _ hy))
  rw[List.length_erase_of_mem hx]at this
  have:0<m.length:=List.length_pos_of_mem hx
  rw[vai];omega
noncomputable def zcj:Nat->List (List Int)
 |0=>[[]]
 |n+1=>(zcj n).map (0 :: ·)++(zcj n).map (1 :: ·)
theorem zet:∀n,(zcj n).length=2 ^ n
 |0=>rfl
 |n+1=>by
  unfold zcj
  rw[vao,vad,vad,zet n,Nat.pow_succ];omega
theorem zeu:∀{ls:List Int},Bits ls->ls∈zcj ls.length
 |[],_=>vbu.mpr rfl
 |x::ls,b=>by
  have:=zeu (ls:=ls) λy hy=>b y (vag _ hy)
  rw[vai]
  unfold zcj
  rcases b x van with rfl|rfl
  .exact vdh _ (va6.mpr ⟨ls,this,rfl⟩)
  .exact va8 _ (va6.mpr ⟨ls,this,rfl⟩)
noncomputable def zev(fs:List (Option Nat)):List (List Int)->List Stn
 |[]=>[]
 |l::ls=>fs.map (λf=>(l,f))++zev fs ls
theorem zfq(fs:List (Option Nat)):∀ls,(zev fs ls).length=ls.length*fs.length
 |[]=>by simp[zev]
 |l::ls=>by
  unfold zev
  rw[vao,vad,zfq fs ls,vai,Nat.add_mul];omega
theorem zfr{fs:List (Option Nat)}{f:Option Nat}(hf:f∈fs){l:List Int}:∀{ls},l∈ls->(l,f)∈zev fs ls
 |x::ls,h=>by
  unfold zev
  rcases vaz.mp h with rfl|h
  .exact vdh _ (va6.mpr ⟨f,hf,rfl⟩)
  .exact va8 _ (zfr hf h)
theorem few{B:Bd}(b:B.Ok){xs:List Stn}(nd:xs.Nodup)(g:∀s∈xs,GoodS B s):xs.length<=1280:=by
 have h:=zn2 (m:=zev [none,some 0,some 1,some 2,some 3] (zcj B.gr.toNat)) nd λs hs=>by
  obtain⟨hl,bi,hf⟩:=g s hs
  obtain⟨ls,fo⟩:=s
  have e:B.gr.toNat=ls.length:=by simp only at hl;omega
  refine zfr ?_ (by rw[e];exact zeu bi)
  cases fo with
  |none=>simp
  |some f=>
   have:=hf f rfl
   have:=b.f2
   have:f=0\/f=1\/f=2\/f=3:=by omega
   rcases this with rfl|rfl|rfl|rfl<;>simp
 rw[zfq,zet]at h
 have h8:B.gr.toNat<=8:=by have:=b.g2;omega
 have:2 ^ B.gr.toNat<=2 ^ 8:=vc1 (by decide) h8
 have e5:([none,some 0,some 1,some 2,some 3]:List (Option Nat)).length=5:=rfl
 rw[e5]at h
 omega
theorem zgo{B:Bd}(b:B.Ok):∀(n:Nat) (xs:List Stn) (c:Option Stn),xs.Nodup->(∀s∈xs,GoodS B s)->(∀s,c=some s->GoodS B s)->(everP B n xs c).1.Nodup/\∀s∈(everP B n xs c).1,GoodS B s
 |0,xs,c,nd,g,_=>⟨nd,g⟩
 |n+1,xs,none,nd,g,_=>⟨nd,g⟩
 |n+1,xs,some s,nd,g,gc=>by
  unfold everP
  split
  .exact⟨nd,g⟩
  .rename_i e
   have hs:=zd8 e
   refine zgo b n (xs++[s]) (nextS B s) ?_ ?_ λt ht=>zb2 b (gc s rfl) ht
   .rw[vew]
    exact⟨nd,by simp,λa ha b hb=>by rw[vbu.mp hb];exact λz=>hs (z▸ha)⟩
   .intro t ht
    rcases vej.mp ht with ht|ht
    .exact g t ht
    .rw[vbu.mp ht];exact gc s rfl
structure CoreE(F:Nat->Option Fn):Prop extends CoreY0 F where
 f17:F 17=some fn17
 f27:F 27=some fn27
 f29:F 29=some fn29
 f176:F 176=some fn176
 f182:F 182=some fn182
 f184:F 184=some fn184
section
variable{F:Nat->Option Fn}(C:CoreE F)
include C
theorem zhr{k:Nat}{h:VH}{B:Bd}{ls:List Int}{f:Nat}(b:B.Ok)(hf:f<B.fd.length)(hl:(ls.length:Int)=B.gr)(bi:Bits ls):run F (k+4) 176 [B.w,iW ls,.int f,.non] h=.ok (.tup [outD B ls f,iW (B.fall ls f).ls]) h:=by
 rw[zak C.f176 rfl]
 have e1:=zlg C.toCoreY0 (k:=k) (h:=⟨h.n,h.n,h.os⟩) b hf hl bi
 have q:=b.fall hf hl bi
 obtain⟨a1,a2⟩:=b.door q.c4.1 q.c4.2
 have e2:exs (run F (k+3)) (.unp [4,5] (.call 175 (.cons (.var 0) (.cons (.var 1) (.cons (.var 2) (.cons (.var 3) .nil)))))) [some B.w,some (iW ls),some (.int f),some .non,none,none,none] ⟨h.n,h.n,h.os⟩=.ok (.nx [some B.w,some (iW ls),some (.int f),some .non,some (downW B ls f),some (iW (B.fall ls f).ls),none]) ⟨h.n,h.n,h.os⟩:=by
  simp only[exs,ev,vb4,va0,vbh,ofsome,bindok,e1,tgW,seqW,zaz,vbv,vbl,vaj]
 have i4:idxW ⟨h.n,h.n,h.os⟩ B.w (.int 4)=some (.tup B.dr):=rfl
 have e3:ev (run F (k+3)) (.ite (.cmp .isn (.var 4) (.cst .non)) (.cst (.tup [.non,.non])) (.idx (.idx (.var 0) (.cst (.int (4)))) (.var 4))) [some B.w,some (iW ls),some (.int f),some .non,some (downW B ls f),some (iW (B.fall ls f).ls),none] ⟨h.n,h.n,h.os⟩=.ok (outD B ls f) ⟨h.n,h.n,h.os⟩:=by
  unfold downW outD
  cases z:(B.fall ls f).st with
  |true=>simp[ev,cmpW,isNon]
  |false=>
   have i5:idxW ⟨h.n,h.n,h.os⟩ (.tup B.dr) (.int (lastC (B.col f) (B.fall ls f).cs))=some (B.door (lastC (B.col f) (B.fall ls f).cs)):=a1
   simp[ev,cmpW,isNon,i4,i5]
 show fin h (exs (run F (k+3)) fn176.body [some B.w,some (iW ls),some (.int f),some .non,none,none,none] ⟨h.n,h.n,h.os⟩)=_
 have eb:exs (run F (k+3)) fn176.body [some B.w,some (iW ls),some (.int f),some .non,none,none,none] ⟨h.n,h.n,h.os⟩=.ok (.rt (.tup [outD B ls f,iW (B.fall ls f).ls])) ⟨h.n,h.n,h.os⟩:=by
  refine(zaa e2).trans ?_
  refine(zaa (setE e3)).trans ?_
  exact zae (retE (tup2E (varE rfl) (varE rfl)))
 rw[eb]
 refine zai (vae _) ?_
 obtain⟨oe,_⟩:=zc3 b hf hl bi
 rw[oe]
 simp[iW_lt,znz,zt4 b hf hl bi]
noncomputable def nextW(B:Bd)(s:Stn):W:=match nextS B s with
 |none=>.non
 |some t=>stW t
omit C in
theorem zql{B:Bd}{s:Stn}{n:Nat}:W.lt n (nextW B s)=true:=by
 unfold nextW
 split
 .simp
 .exact zr0
theorem zdt{k:Nat}{h:VH}{B:Bd}{s:Stn}(b:B.Ok)(g:GoodS B s):run F (k+5) 182 [B.w,stW s] h=.ok (nextW B s) h:=by
 rw[zak C.f182 rfl]
 obtain⟨ls,fo⟩:=s
 obtain⟨hl,bi,hf⟩:=g
 have e1:exs (run F (k+4)) (.unp [2,3] (.var 1)) [some B.w,some (stW (ls,fo)),none,none,none,none] ⟨h.n,h.n,h.os⟩=.ok (.nx [some B.w,some (stW (ls,fo)),some (iW ls),some (optW fo),none,none]) ⟨h.n,h.n,h.os⟩:=by
  simp only[stW,exs,ev,vb4,va0,vbh,ofsome,bindok,tgW,seqW,zaz,vbv,vbl,vaj]
 show fin h (exs (run F (k+4)) fn182.body [some B.w,some (stW (ls,fo)),none,none,none,none] ⟨h.n,h.n,h.os⟩)=_
 have eb:exs (run F (k+4)) fn182.body [some B.w,some (stW (ls,fo)),none,none,none,none] ⟨h.n,h.n,h.os⟩=.ok (.rt (nextW B (ls,fo))) ⟨h.n,h.n,h.os⟩:=by
  refine(zaa e1).trans ?_
  cases fo with
  |none=>
   refine zae ?_
   rw[iteT (h1:=⟨h.n,h.n,h.os⟩) (by simp[ev,cmpW,isNon,optW])]
   exact zae (retE (by simp[ev,nextW,nextS]))
  |some f=>
   have hf:=hf f rfl
   obtain⟨oe,og⟩:=zc3 b hf hl bi
   have e2:=zhr C (k:=k) (h:=⟨h.n,h.n,h.os⟩) b hf hl bi
   refine(zaa (ρ':=[some B.w,some (stW (ls,some f)),some (iW ls),some (optW (some f)),none,none]) (h':=⟨h.n,h.n,h.os⟩) ?_).trans ?_
   .rw[iteF (h1:=⟨h.n,h.n,h.os⟩) (by simp[ev,cmpW,isNon,optW])];rfl
   have e3:exs (run F (k+4)) (.unp [4,5] (.call 176 (.cons (.var 0) (.cons (.var 2) (.cons (.var 3) (.cons (.cst .non) .nil)))))) [some B.w,some (stW (ls,some f)),some (iW ls),some (optW (some f)),none,none] ⟨h.n,h.n,h.os⟩=.ok (.nx [some B.w,some (stW (ls,some f)),some (iW ls),some (optW (some f)),some (outD B ls f),some (iW (B.fall ls f).ls)]) ⟨h.n,h.n,h.os⟩:=by
    have e2':run F (k+4) 176 [B.w,iW ls,optW (some f),.non] ⟨h.n,h.n,h.os⟩=.ok (.tup [outD B ls f,iW (B.fall ls f).ls]) ⟨h.n,h.n,h.os⟩:=e2
    simp only[exs,ev,vb4,va0,vbh,ofsome,bindok,e2',tgW,seqW,zaz,vbv,vbl,vaj]
   refine(zaa e3).trans (zae (retE ?_))
   have e4:ev (run F (k+4)) (.idx (.var 4) (.cst (.int (1)))) [some B.w,some (stW (ls,some f)),some (iW ls),some (optW (some f)),some (outD B ls f),some (iW (B.fall ls f).ls)] ⟨h.n,h.n,h.os⟩=.ok (optW (callO B ls f)) ⟨h.n,h.n,h.os⟩:=by
    refine idxE (varE rfl) rfl ?_
    rw[oe];rfl
   exact tup2E (varE rfl) e4
 rw[eb]
 exact zai (vae _) zql
end
section
variable{F:Nat->Option Fn}(C:CoreE F)(B':CoreB F)
include C B'
theorem zce{k:Nat}{h:VH}{B:Bd}{s:Stn}(b:B.Ok)(g:GoodS B s):run F (k+9) 29 [B.w,stW s] h=.ok .non h:=by
 obtain⟨ls,fo⟩:=s
 obtain⟨hl,bi,hf⟩:=g
 have hg:=b.g2
 have w0:∀h:VH,run F (k+7) 17 [iW ls,.int B.gr] h=.ok (.bl true) h:=by
  intro h
  rw[zak C.f17 rfl]
  have e:=zbi B'.toCoreA (k:=k+3) (h:=⟨h.n,h.n,h.os⟩) (w:=iW ls) (a:=B.gr) (b:=B.gr) (lo:=0) (hi:=1) (by unfold Kn iW;simp) (λws e=>by
   cases e
   refine⟨by rw[vad];simp only at hl;omega,λx hx=>?_⟩
   obtain⟨y,_,rfl⟩:=va6.mp hx
   unfold Kn;simp)
  rw[znu hl bi]at e
  simp[fn17,exs,ev,e,zai]
 have wf:∀h:VH,run F (k+7) 12 [optW fo,.int B.fd.length] h=.ok (.bl true) h:=by
  intro h
  rw[zbl B' (k:=k+4) (w:=optW fo) (n:=B.fd.length) (by cases fo<;> (unfold Kn optW;simp))]
  have:fon (optW fo) B.fd.length=true:=by
   cases fo with
   |none=>rfl
   |some f=>
    have:=hf f rfl
    simp only[optW,fon,isNon,within,Bool.false_or,vab,vaw]
    omega
  rw[this]
 have w1:∀h:VH,run F (k+8) 27 [B.w,.tup [iW ls,optW fo]] h=.ok (.bl true) h:=by
  intro h
  rw[zak C.f27 rfl]
  have e:=zgh B' (k:=k) (h:=⟨h.n,h.n,h.os⟩) b
  have e6:=zal B'.toCoreA (k:=k+6) (h:=⟨h.n,h.n,h.os⟩) (w:=.tup [iW ls,optW fo]) (lo:=2) (hi:=2) (by unfold Kn;simp)
  have t6:zat (.tup [iW ls,optW fo]) 2 2=true:=rfl
  rw[t6]at e6
  have i1:idxW ⟨h.n,h.n,h.os⟩ B.w (.int 1)=some (.int B.gr):=rfl
  have i3:idxW ⟨h.n,h.n,h.os⟩ B.w (.int 3)=some (.tup B.fd):=rfl
  have eb:exs (run F (k+7)) fn27.body [some B.w,some (.tup [iW ls,optW fo]),none,none] ⟨h.n,h.n,h.os⟩=.ok (.rt (.bl true)) ⟨h.n,h.n,h.os⟩:=by
   refine(zaa (ρ':=[some B.w,some (.tup [iW ls,optW fo]),none,none]) (h':=⟨h.n,h.n,h.os⟩) (by simp[exs,ev,e])).trans ?_
   refine(zaa (ρ':=[some B.w,some (.tup [iW ls,optW fo]),none,none]) (h':=⟨h.n,h.n,h.os⟩) (by simp[exs,ev,e6])).trans ?_
   refine(zaa (ρ':=[some B.w,some (.tup [iW ls,optW fo]),some (iW ls),some (optW fo)]) (h':=⟨h.n,h.n,h.os⟩) (by simp[exs,ev,tgW,seqW,zaz])).trans ?_
   refine zae (retE ?_)
   rw[ev,za3 (varE rfl) (idxE (varE rfl) rfl i1) (w0 _),bindok]
   exact za3 (varE rfl) (lenE (idxE (varE rfl) rfl i3) rfl) (wf _)
  show fin h (exs (run F (k+7)) fn27.body [some B.w,some (.tup [iW ls,optW fo]),none,none] ⟨h.n,h.n,h.os⟩)=_
  rw[eb]
  exact zai (vae _) (by simp)
 rw[zak C.f29 rfl]
 have w2:run F (k+8) 27 [B.w,stW (ls,fo)] ⟨h.n,h.n,h.os⟩=.ok (.bl true) ⟨h.n,h.n,h.os⟩:=w1 _
 simp[fn29,exs,ev,w2,zrw]
end
noncomputable def stD(h:VH)(xs:List Stn):VH:=⟨h.n+1,h.n,.dt (xs.map stW) (zaj 0 xs.length)::h.os⟩
theorem zbe{h:VH}{xs:List Stn}:(stD h xs).get h.n=some (.dt (xs.map stW) (zaj 0 xs.length)):=zad (h:=h)
theorem zn3{h:VH}{xs:List Stn}{s:Stn}:(stD h xs).set h.n (.dt (xs.map stW++[stW s]) (zaj 0 xs.length++[.int xs.length]))=stD h (xs++[s]):=by
 have e:=zfp xs.length 0
 rw[Int.zero_add]at e
 unfold VH.set stD
 simp only[zns (vae h.n),vbm,vam,vda,vao,vai,vd2,e]
 have:h.n+1-1-h.n=0:=by omega
 rw[this];rfl
noncomputable def optS:Option Stn->W
 |none=>.non
 |some s=>stW s
theorem zhs{B:Bd}{s:Stn}:nextW B s=optS (nextS B s):=by
 unfold nextW optS
 cases nextS B s<;>rfl
noncomputable def backW:Option Nat->W
 |none=>.non
 |some i=>.int (i:Int)
theorem in_st{h:VH}{a:Nat}{xs:List Stn}{s:Stn}(g:h.get a=some (.dt (xs.map stW) (zaj 0 xs.length))):inW h (stW s) (.ref a)=some (posS s 0 xs).isSome:=by
 have e:seqW h (.ref a)=none:=by simp[seqW,g]
 have:lookD (xs.map stW) (zaj 0 xs.length) (dkS s)=_:=zgn (s:=s) xs 0
 unfold inW
 rw[e]
 simp only[inD,g,zgm,this]
 cases posS s 0 xs<;>rfl
theorem zr1{h:VH}{a:Nat}{xs:List Stn}{s:Stn}{i:Nat}(g:h.get a=some (.dt (xs.map stW) (zaj 0 xs.length)))(e:posS s 0 xs=some i):idxW h (.ref a) (stW s)=some (.int (i:Int)):=by
 have:lookD (xs.map stW) (zaj 0 xs.length) (dkS s)=_:=zgn (s:=s) xs 0
 show idxD h a (stW s)=_
 simp only[idxD,g,zgm,this,e];rfl
theorem zn4{cl:Call}{ρ:En}{h:VH}{i a:Nat}{xs:List Stn}(hρ:ρ[i]?=some (some (.ref a)))(g:h.get a=some (.dt (xs.map stW) (zaj 0 xs.length))):ev cl (.bi .len (.cons (.var i) .nil)) ρ h=.ok (.int xs.length) h:=by
 have e:seqW h (.ref a)=none:=by simp[seqW,g]
 have hv:ev cl (.cons (.var i) .nil) ρ h=.ok (.tup [.ref a]) h:=by
  rw[ev,varE hρ,bindok,ev];rfl
 rw[ev,hv,bindok]
 show lenW [.ref a] h=_
 simp only[lenW,e,keysD,g,vaj,ofsome,vad]
theorem zt9{cl:Call}{ρ:En}{h:VH}{i a:Nat}{xs:List Stn}(hρ:ρ[i]?=some (some (.ref a)))(g:h.get a=some (.dt (xs.map stW) (zaj 0 xs.length))):ev cl (.bi .tuple (.cons (.var i) .nil)) ρ h=.ok (.tup (xs.map stW)) h:=by
 have e:seqW h (.ref a)=none:=by simp[seqW,g]
 have hv:ev cl (.cons (.var i) .nil) ρ h=.ok (.tup [.ref a]) h:=by
  rw[ev,varE hρ,bindok,ev];rfl
 rw[ev,hv,bindok]
 show zdm [.ref a] h=_
 simp only[zdm,e,keysD,g,vaj,ofsome]
theorem putE{cl:Call}{o i v:E}{ρ:En}{h h1 h2 h3:VH}{a:Nat}{w:W}{xs:List Stn}{s:Stn}(ev1:ev cl v ρ h=.ok w h1)(ev2:ev cl o ρ h1=.ok (.ref a) h2)(ev3:ev cl i ρ h2=.ok (stW s) h3)(g:h3.get a=some (.dt (xs.map stW) (zaj 0 xs.length)))(hn:posS s 0 xs=none)(hl:xs.length<=100000) :
 exs cl (.put o i v) ρ h=.ok (.nx ρ) (h3.set a (.dt (xs.map stW++[stW s]) (zaj 0 xs.length++[w]))):=by
 have:lookD (xs.map stW) (zaj 0 xs.length) (dkS s)=_:=zgn (s:=s) xs 0
 rw[hn]at this
 rw[exs,ev1,bindok,ev2,bindok,ev3,bindok]
 show putD ρ a (stW s) w h3=_
 have hb:Nat.blt (xs.map stW).length big=true:=znj (by rw[vad];omega)
 simp only[putD,g,zgm,this,hb]
 rfl
theorem zkc{s:Stn}:isNon (stW s)=false:=rfl
section
variable{F:Nat->Option Fn}(C:CoreE F)
include C
theorem zht{k:Nat}{h:VH}{B:Bd}{s0:W}(b:B.Ok):∀(n fu:Nat) (xs:List Stn) (c:Option Stn) (x:Option W),n<fu->1281<=n+xs.length->xs.Nodup->(∀s∈xs,GoodS B s)->(∀s,c=some s->GoodS B s)->
 ∃c',whlG (ev (run F (k+5)) zbo) (exs (run F (k+5)) zb8) fu [some B.w,some s0,some (.ref h.n),some (optS c),x] (stD h xs)=.ok (.nx [some B.w,some s0,some (.ref h.n),some (optS c'),x]) (stD h (everP B n xs c).1)/\
  ((c'=none/\(everP B n xs c).2=none)\/∃s i,c'=some s/\(everP B n xs c).2=some i/\posS s 0 (everP B n xs c).1=some i)
 |n,0,xs,c,x,hn,_,_,_,_=>by omega
 |0,fu+1,xs,c,x,_,hN,nd,g,_=>by have:=few b nd g;omega
 |n+1,fu+1,xs,none,x,hn,hN,nd,g,gc=>by
  refine⟨none,?_,.inl ⟨rfl,rfl⟩⟩
  have ec:ev (run F (k+5)) zbo [some B.w,some s0,some (.ref h.n),some (optS none),x] (stD h xs)=.ok (.bl false) (stD h xs):=by
   simp[zbo,ev,cmpW,isNon,optS]
  rw[whlG,ec,bindok];rfl
 |n+1,fu+1,xs,some s,x,hn,hN,nd,g,gc=>by
  have hin:=in_st (s:=s) (zbe (h:=h) (xs:=xs))
  have ec:ev (run F (k+5)) zbo [some B.w,some s0,some (.ref h.n),some (optS (some s)),x] (stD h xs)=.ok (.bl (!(posS s 0 xs).isSome)) (stD h xs):=by
   unfold zbo
   rw[ev]
   have e1:ev (run F (k+5)) (.cmp .notn (.var 3) (.cst .non)) [some B.w,some s0,some (.ref h.n),some (optS (some s)),x] (stD h xs)=.ok (.bl true) (stD h xs):=by
    simp[ev,cmpW,zbj,optS,zkc]
   rw[e1,bindok]
   show ev (run F (k+5)) (.cmp .nin (.var 3) (.var 2)) _ _=_
   simp[ev,cmpW,optS,hin]
  cases hp:posS s 0 xs with
  |some i=>
   refine⟨some s,?_,.inr ⟨s,i,rfl,by simp only[everP,hp],by simp only[everP,hp]⟩⟩
   rw[hp]at ec
   rw[whlG,ec,bindok]
   simp only[everP,hp];rfl
  |none=>
   rw[hp]at ec
   have hfew:=few b nd g
   have gs:=gc s rfl
   obtain⟨c',ih,hc'⟩:=zht (k:=k) (h:=h) (s0:=s0) b n fu (xs++[s]) (nextS B s) x (by omega) (by rw[vao,va9];omega)
    (by
      rw[vew]
      exact⟨nd,by simp,λa ha b hb=>by rw[vbu.mp hb];exact λz=>zd8 hp (z▸ha)⟩)
    (λt ht=>by
      rcases vej.mp ht with ht|ht
      .exact g t ht
      .rw[vbu.mp ht];exact gs) (λt ht=>zb2 b gs ht)
   have e1:=putE (cl:=run F (k+5)) (o:=.var 2) (i:=.var 3) (v:=.bi .len (.cons (.var 2) .nil)) (ρ:=[some B.w,some s0,some (.ref h.n),some (optS (some s)),x]) (h:=stD h xs) (a:=h.n) (xs:=xs) (s:=s) (zn4 rfl zbe) (varE rfl) (varE rfl) zbe hp (by omega)
   rw[zn3]at e1
   have e2:=zdt C (k:=k) (h:=stD h (xs++[s])) b gs
   rw[zhs]at e2
   have eb:exs (run F (k+5)) zb8 [some B.w,some s0,some (.ref h.n),some (optS (some s)),x] (stD h xs)=.ok (.nx [some B.w,some s0,some (.ref h.n),some (optS (nextS B s)),x]) (stD h (xs++[s])):=by
    unfold zb8
    refine(zaa e1).trans ?_
    refine(zaa (setE (za3 (varE rfl) (varE rfl) e2))).trans ?_
    rfl
   refine⟨c',?_,?_⟩
   .rw[whlG,ec,bindok]
    show Res.bind (exs (run F (k+5)) zb8 _ _) _=_
    rw[eb,bindok]
    show whlG _ _ fu _ _=_
    rw[ih]
    simp only[everP,hp]
   .simp only[everP,hp];exact hc'
end
section
variable{F:Nat->Option Fn}(C:CoreE F)(B':CoreB F)
include C B'
theorem zkd{k:Nat}{h:VH}{B:Bd}{s:Stn}(b:B.Ok)(g:GoodS B s):run F (k+10) 184 [B.w,stW s] h=.ok (.tup [.tup ((everP B 1281 [] (some s)).1.map stW),backW (everP B 1281 [] (some s)).2]) h:=by
 rw[zak C.f184 rfl]
 have e0:=zce C B' (k:=k) (h:=⟨h.n,h.n,h.os⟩) b g
 obtain⟨c',el,hc'⟩:=zht C (k:=k+4) (h:=h) (s0:=stW s) b 1281 fuel [] (some s) none (by decide) (by decide) vfl (λ_ h=>nomatch h) (λt ht=>by cases ht;exact g)
 generalize everP B 1281 [] (some s)=E at el hc' ⊢
 have e1:exs (run F (k+9)) (.set 2 (.dsp .nil)) [some B.w,some (stW s),none,none,none] ⟨h.n,h.n,h.os⟩=.ok (.nx [some B.w,some (stW s),some (.ref h.n),none,none]) (stD h []):=by
  simp only[exs,ev,bindok,zcp]
  rw[if_pos (by decide)]
  rfl
 have e4:ev (run F (k+9)) (.ite (.cmp .isn (.var 3) (.cst .non)) (.cst .non) (.idx (.var 2) (.var 3))) [some B.w,some (stW s),some (.ref h.n),some (optS c'),none] (stD h E.1)=.ok (backW E.2) (stD h E.1):=by
  rcases hc' with⟨rfl,e⟩|⟨t,i,rfl,e,ep⟩
  .rw[e];simp[ev,cmpW,isNon,optS,backW]
  .rw[e,ev]
   have:ev (run F (k+9)) (.cmp .isn (.var 3) (.cst .non)) [some B.w,some (stW s),some (.ref h.n),some (optS (some t)),none] (stD h E.1)=.ok (.bl false) (stD h E.1):=by
    simp[ev,cmpW,zbj,optS,zkc]
   rw[this,bindok]
   exact idxE (varE rfl) (varE rfl) (zr1 zbe ep)
 show fin h (exs (run F (k+9)) fn184.body [some B.w,some (stW s),none,none,none] ⟨h.n,h.n,h.os⟩)=_
 have eb:exs (run F (k+9)) fn184.body [some B.w,some (stW s),none,none,none] ⟨h.n,h.n,h.os⟩=.ok (.rt (.tup [.tup (E.1.map stW),backW E.2])) (stD h E.1):=by
  refine(zaa (exprE (za3 (varE rfl) (varE rfl) e0))).trans ?_
  refine(zaa e1).trans ?_
  refine(zaa (setE (varE rfl))).trans ?_
  refine(zaa (show exs (run F (k+9)) (.whl zbo zb8) _ _=_ from el)).trans ?_
  refine(zaa (setE e4)).trans ?_
  exact zae (retE (tup2E (zt9 rfl zbe) (varE rfl)))
 rw[eb]
 refine zai (vae _) ?_
 have h1:W.lts h.n (E.1.map stW)=true:=zry λw hw=>by
  obtain⟨t,_,rfl⟩:=va6.mp hw
  exact zr0
 have h2:W.lt h.n (backW E.2)=true:=by cases E.2<;>simp[backW]
 simp[h1,h2]
end
theorem zbm{B:Bd}{s:Stn}(n:Nat):everP B (n+1) [] (some s)=everP B n [s] (nextS B s):=rfl
noncomputable def nestN:Nat->W->Bool
 |_,.int _=>true
 |_,.non=>true
 |n+1,.tup ws=>Nat.ble ws.length 5000&&ws.all (nestN n)
 |_,_=>false
theorem allE{cl:Call}{a:E}{ρ:En}{h h1:VH}{j:Nat}{n:Nat}(ea:ev cl a ρ h=.ok (.ref j) h1)(g:h1.get j=some (.lst (List.replicate n (.bl true)))):ev cl (.bi .all (.cons a .nil)) ρ h=.ok (.bl true) h1:=by
 have hm:mapO blW (List.replicate n (W.bl true))=some (List.replicate n true):=by
  clear g
  induction n with
  |zero=>rfl
  |succ n ih=>simp only[vbd,mapO,blW,ih]
 have ha:(List.replicate n true).all id=true:=by
  rw[vbp];intro x hx;exact(List.mem_replicate.mp hx).2
 rw[ev,ev,ea,bindok,ev,bindok,bindok]
 show allW [.ref j] h1=_
 simp only[allW,g,hm,vaj,ha,ofsome]
theorem zi2{cl:Call}{e:E}:∀(ws:List W) (x y:Option W) (h:VH),(∀w∈ws,∀h,ev cl e [some w,some w] h=.ok (.bl true) h)->lcL (tgW (.many [0,1])) (λ_ h=>.ok (.bl true) h) (ev cl e) (zipW ws ws) [x,y] h=.ok (List.replicate ws.length (.bl true)) h
 |[],x,y,h,_=>rfl
 |a::ws,x,y,h,hs=>by
  have e1:=hs a van h
  have e2:=zi2 (e:=e) ws (some a) (some a) h λw hw=>hs w (vag _ hw)
  show lcL _ _ _ (.tup [a,a]::zipW ws ws) _ _=_
  simp only[lcL,tgW,seqW,zaz,List.set,bindok,e1,e2];rfl
structure CoreM(F:Nat->Option Fn):Prop where
 f39:F 39=some fn39
 f92:F 92=some fn92
section
variable{F:Nat->Option Fn}(C:CoreM F)
include C
theorem zqm:∀(n:Nat) {k:Nat} {h:VH} {w:W},nestN n w=true->run F (k+n+2) 92 [w,w] h=.ok (.bl true) h:=by
 have hint:∀{k:Nat}{h:VH}{i:Int},run F (k+2) 92 [.int i,.int i] h=.ok (.bl true) h:=by
  intro k h i
  have e1:∀h,run F (k+1) 39 [.int i,.int i] h=.ok (.bl true) h:=by
   intro h
   rw[zak C.f39 rfl]
   simp[fn39,exs,ev,cmpW,za8,zai]
  rw[zak C.f92 rfl]
  simp[fn92,exs,ev,truW,cmpW,isNon,e1,zai]
 have hnon:∀{k:Nat}{h:VH},run F (k+2) 92 [.non,.non] h=.ok (.bl true) h:=by
  intro k h
  rw[zak C.f92 rfl]
  simp[fn92,exs,ev,truW,cmpW,isNon,zai]
 intro n
 induction n with
 |zero=>
  intro k h w hw
  cases w<;>simp only[nestN]at hw<;>first|exact hint|exact hnon|cases hw
 |succ n ih=>
  intro k h w hw
  cases w<;>simp only[nestN]at hw<;>first|(exact hint (k:=k+n+1))|(exact hnon (k:=k+n+1))|(cases hw;done)|skip
  rename_i ws
  rw[vab]at hw
  have hlen:=va3 hw.1
  have hall:=vbp.mp hw.2
  rw[show k+ (n+1)+2=(k+n+2)+1 by omega,zak C.f92 rfl]
  have hz:(zipW ws ws).length<1000000:=by unfold zipW;rw[List.length_zipWith];omega
  have e1:=zi2 (cl:=run F (k+n+2)) (e:=zi1) ws none none ⟨h.n,h.n,h.os⟩ λw hw h=>za3 (varE rfl) (varE rfl) (ih (k:=k) (hall w hw))
  have e2:=znw (cl:=run F (k+n+2)) (a:=.cons (.var 0) (.cons (.var 1) .nil)) (ρ:=[some (.tup ws),some (.tup ws)]) (h:=⟨h.n,h.n,h.os⟩) (h1:=⟨h.n,h.n,h.os⟩) (ow:=2) (ix:=[]) (e:=zi1) (t:=.many [0,1]) rfl hz e1 (by rw[vb7];omega)
  have e3:=allE e2 zad
  have e4:ev (run F (k+n+2)) (.or (.not (.tru (.isi .tuple (.var 0)))) (.cmp .ne (.bi .len (.cons (.var 0) .nil)) (.bi .len (.cons (.var 1) .nil)))) [some (.tup ws),some (.tup ws)] ⟨h.n,h.n,h.os⟩=.ok (.bl false) ⟨h.n,h.n,h.os⟩:=by
   simp[ev,biW,lenW,seqW,cmpW,za8,truW]
  have e5:ev (run F (k+n+2)) (.tru (.isi .tuple (.var 1))) [some (.tup ws),some (.tup ws)] ⟨h.n,h.n,h.os⟩=.ok (.bl true) ⟨h.n,h.n,h.os⟩:=by
   simp[ev,truW]
  have eb:exs (run F (k+n+2)) fn92.body [some (.tup ws),some (.tup ws)] ⟨h.n,h.n,h.os⟩=.ok (.rt (.bl true)) (VH.new ⟨h.n,h.n,h.os⟩ (.lst (List.replicate ws.length (.bl true)))):=by
   refine zae ?_
   rw[iteT e5]
   refine(zaa (ρ':=[some (.tup ws),some (.tup ws)]) (h':=⟨h.n,h.n,h.os⟩) ?_).trans (zae (retE e3))
   rw[iteF e4];rfl
  show fin h (exs (run F (k+n+2)) fn92.body [some (.tup ws),some (.tup ws)] ⟨h.n,h.n,h.os⟩)=_
  rw[eb]
  exact zai (vae _) (by simp)
end
noncomputable def seg(f:Nat->Int):Nat->Nat->List Int
 |_,0=>[]
 |a,n+1=>f a::seg f (a+1) n
theorem zbf(f:Nat->Int):∀(n a:Nat),(seg f a n).length=n
 |0,_=>rfl
 |n+1,a=>by rw[seg,vai,zbf f n]
theorem zew(f:Nat->Int):∀(m n a:Nat),seg f a (m+n)=seg f a m++seg f (a+m) n
 |0,n,a=>by rw[vb9];rfl
 |m+1,n,a=>by
  rw[show m+1+n=(m+n)+1 by omega,seg,seg,vc0,zew f m n (a+1),show a+1+m=a+ (m+1) by omega]
theorem zb3{f g:Nat->Int}:∀{n a b:Nat},(∀j,j<n->f (a+j)=g (b+j))->seg f a n=seg g b n
 |0,_,_,_=>rfl
 |n+1,a,b,h=>by
  rw[seg,seg,show f a=g b from h 0 (by omega)]
  rw[zb3 (n:=n) (a:=a+1) (b:=b+1) λj hj=>by
   have:=h (j+1) (by omega)
   rw[show a+1+j=a+ (j+1) by omega,show b+1+j=b+ (j+1) by omega];exact this]
theorem zn5{f g:Nat->Int}:∀{n a b:Nat},seg f a n=seg g b n->∀j,j<n->f (a+j)=g (b+j)
 |0,_,_,_,j,hj=>by omega
 |n+1,a,b,h,j,hj=>by
  rw[seg,seg,vfd]at h
  cases j with
  |zero=>exact h.1
  |succ j=>
   have:=zn5 h.2 j (by omega)
   rw[show a+1+j=a+ (j+1) by omega,show b+1+j=b+ (j+1) by omega]at this;exact this
theorem zi3(f:Nat->Int):∀(n a j:Nat),j<n->(seg f a n)[j]?=some (f (a+j))
 |0,_,_,h=>by omega
 |n+1,a,0,_=>rfl
 |n+1,a,j+1,h=>by
  rw[seg,va0,zi3 f n (a+1) j (by omega),show a+1+j=a+ (j+1) by omega]
theorem zke(f:Nat->Int)(a n:Nat):seg f a (n+1)=seg f a n++[f (a+n)]:=zew f n 1 a
theorem zc4(f:Nat->Int){a m n:Nat}(h:m<=n):(seg f a n).take m=seg f a m:=by
 obtain⟨k,rfl⟩:=Nat.le.dest h
 rw[zew,ven (zbf f m a)]
theorem zqn(f:Nat->Int){a m n:Nat}(h:m<=n):(seg f a n).drop m=seg f (a+m) (n-m):=by
 obtain⟨k,rfl⟩:=Nat.le.dest h
 rw[zew,vfg (zbf f m a),show m+k-m=k by omega]
noncomputable def Prd(g:Nat->Int)(s:Nat):Prop:=∀j,g (j+s)=g j
theorem zn6{g:Nat->Int}{s:Nat}(h:Prd g s):∀k j,g (j+s*k)=g j
 |0,j=>by rw[Nat.mul_zero];rfl
 |k+1,j=>by rw[Nat.mul_succ,<-vdo,h,zn6 h k]
theorem zx3{g:Nat->Int}{s:Nat}(h:Prd g s)(j:Nat):g (j % s)=g j:=by
 have:=zn6 h (j/s) (j % s)
 rw[Nat.mod_add_div]at this;exact this.symm
theorem pr_of{g:Nat->Int}{R s:Nat}(hR:Prd g R)(h0:0<R)(hs:s ∣ R)(h:∀j,j<R->g j=g (j % s)):Prd g s:=by
 have key:∀j,g j=g (j % s):=λj=>by
  rw[<-zx3 hR j,h _ (vex _ h0),Nat.mod_mod_of_dvd _ hs]
 intro j
 rw[key (j+s),vc5,<-key j]
theorem zn7{p:Nat->Prop}:∀n,p n->∃m,p m/\m<=n/\∀k,k<m->¬p k:=by
 intro n
 induction n using Nat.strongRecOn with
 |_ n ih=>
  intro hn
  by_cases h:∃k,k<n/\p k
  .obtain⟨k,h1,h2⟩:=h
   obtain⟨m,a,b,c⟩:=ih k h1 h2
   exact⟨m,a,by omega,c⟩
  .exact⟨n,hn,vae _,λk hk hp=>h ⟨k,hk,hp⟩⟩
structure Least(g:Nat->Int)(R q:Nat):Prop where
 q0:1<=q
 q1:q<=R
 pr:Prd g q
 no:∀s,1<=s->s<q->¬Prd g s
 dv:q ∣ R
theorem zqo{g:Nat->Int}{R:Nat}(hR:Prd g R)(h0:1<=R):∃q,Least g R q:=by
 obtain⟨q,⟨h1,h2⟩,h3,h4⟩:=zn7 (p:=λs=>1<=s/\Prd g s) R ⟨h0,hR⟩
 refine⟨q,h1,h3,h2,λs a b c=>h4 s b ⟨a,c⟩,?_⟩
 apply Nat.dvd_of_mod_eq_zero
 by_cases hz:R % q=0
 .exact hz
 .refine absurd ⟨by omega,λj=>?_⟩ (h4 (R % q) (vex _ (by omega)))
  have e:=zn6 h2 (R/q) (j+R % q)
  rw[show j+R % q+q* (R/q)=j+R by have:=Nat.mod_add_div R q;omega,hR]at e
  exact e.symm
theorem zi4(g:Nat->Int){s:Nat}(h:Prd g s):∀k,(List.replicate k (seg g 0 s)).flatten=seg g 0 (k*s)
 |0=>by rw[Nat.zero_mul];rfl
 |k+1=>by
  rw[vbd,vcj,zi4 g h k,show(k+1)*s=s+k*s by rw[Nat.add_mul];omega,zew]
  congr 1
  exact zb3 λj _=>by rw[vb9,vb9,show s+j=j+s by omega,h]
theorem zn8{g:Nat->Int}{R s:Nat}(hR:Prd g R)(h0:1<=R)(hs:s ∣ R)(s0:1<=s):(List.replicate (R/s) (seg g 0 s)).flatten=seg g 0 R↔Prd g s:=by
 have hm:R/s*s=R:=Nat.div_mul_cancel hs
 have e1:seg g 0 s=seg (λj=>g (j % s)) 0 s:=zb3 λj hj=>by rw[vb9,va2 hj]
 have p:Prd (λj=>g (j % s)) s:=λj=>by show g ((j+s) % s)=g (j % s);rw[vc5]
 constructor
 .intro h
  rw[e1,zi4 _ p,hm]at h
  exact pr_of hR (by omega) hs λj hj=>by
   have:=zn5 h j hj
   rw[vb9]at this;exact this.symm
 .intro h
  rw[zi4 _ h,hm]
noncomputable def leadP(f:Nat->Int)(q:Nat):Nat->Nat
 |0=>0
 |n+1=>if f n=f (n+q)then leadP f q n else n+1
noncomputable def zaq(v:List Int)(i R n:Nat):Int:=if n<i then v.getD n 0 else v.getD (i+ (n-i) % R) 0
theorem zn9(v:List Int)(i R:Nat):Prd (λj=>zaq v i R (i+j)) R:=λj=>by
 show zaq v i R (i+ (j+R))=zaq v i R (i+j)
 unfold zaq
 rw[if_neg (by omega),if_neg (by omega),show i+ (j+R)-i=j+R by omega,show i+j-i=j by omega,vc5]
theorem zfs{v:List Int}{i R:Nat}(h:v.length=i+R):seg (zaq v i R) 0 (i+R)=v:=by
 apply vea
 intro j
 by_cases hj:j<i+R
 .rw[zi3 _ _ _ _ hj,vb9,vaq (by omega)]
  unfold zaq
  split
  .rw[vay,vaq (by omega)];rfl
  .rw[va2 (by omega),show i+ (j-i)=j by omega,vay,vaq (by omega)];rfl
 .rw[vbi (by rw[zbf];omega),vbi (by omega)]
noncomputable def nmS(B:Bd)(s:Stn):W:=match s.2 with
 |none=>.non
 |some f=>nameP B s.1 f
theorem zoa{nx:Nat->VH->Option (Option W)}{c e:FE}{h:VH}{ws:List W}{tl:En}{p:W->Bool}{f:W->W}(hx:∀i,nx i h=some ws[i]?)(hc:∀w∈ws,c (some w::tl) h=.ok (.bl (p w)) h)(he:∀w∈ws,e (some w::tl) h=.ok (f w) h) :
 ∀(fu i:Nat)(a:Option W)(acc:List W),i<=ws.length->ws.length<fu+i->lcG nx (tgW (.one 0)) c e fu i (a::tl) h acc=.ok (acc.reverse++((ws.drop i).filter p).map f) h
 |0,i,a,acc,hi,hl=>by omega
 |fu+1,i,a,acc,hi,hl=>by
  cases q:ws[i]? with
  |none=>
   rw[vdx (va7.mp q)]
   simp only[lcG,hx,q];simp
  |some w=>
   obtain⟨hi,ee⟩:=vau.mp q
   have hm:=vcn q
   simp only[lcG,hx,q,tgW,vbl,hc w hm,bindok]
   rw[vdf hi,ee]
   cases z:p w with
   |true=>
    simp only[he w hm,bindok]
    rw[zoa hx hc he fu (i+1) (some w) (f w::acc) hi (by omega)]
    simp[z]
   |false=>
    rw[zoa hx hc he fu (i+1) (some w) acc hi (by omega)]
    simp[z]
theorem zkf{h:VH}{n:Nat}:∀ls:List Int,mapO (toD h (n+1)) (ls.map W.int)=some (ls.map PyData.int)
 |[]=>rfl
 |x::r=>by simp only[vam,mapO,zkf r];rfl
theorem zua{h:VH}{n:Nat}{ws:List W}:toD h (n+1) (.tup ws)=(mapO (toD h n) ws).map .tuple:=rfl
theorem zkg{h:VH}{n:Nat}{ls:List Int}:toD h (n+2) (iW ls)=some (.tuple (ls.map .int)):=by
 unfold iW
 rw[zua,zkf,vaj]
theorem zgp:∀ls ms:List Int,PyData.eqvAll (ls.map .int) (ms.map .int)=decide (ls=ms)
 |[],[]=>rfl
 |[],_::_=>rfl
 |_::_,[]=>rfl
 |x::r,y::s=>by
  simp only[vam,PyData.eqvAll,PyData.eqv,zgp r s]
  by_cases a:x=y<;>by_cases b:r=s<;>simp[a,b]
theorem zex{h:VH}{w:W}{d:PyData}(p:za2 24 w=true)(e:toD h 24 w=some d):SeqAt.shaped d=true:=by
 obtain⟨d',h1,h2,h3⟩:=zcv h 24 w p
 rw[e]at h1;cases h1
 unfold SeqAt.shaped
 rw[h2,vfr,vaw];omega
theorem zx4{h:VH}{w w':W}{d d':PyData}(p:za2 24 w=true)(p':za2 24 w'=true)(e:toD h 24 w=some d)(e':toD h 24 w'=some d'):eqW h w w'=some (PyData.eqv d d'):=by
 unfold eqW
 rw[e,e']
 simp[zex p e,zex p' e']
theorem zx5{h:VH}{a b:List Int}:eqW h (iW a) (iW b)=some (decide (a=b)):=by
 rw[zx4 zgj zgj zkg zkg]
 simp only[PyData.eqv,zgp]
theorem zb4{ws:List W}{k:Nat}(h:k<=ws.length):cutW ws none (some (k:Int))=ws.take k:=by
 unfold cutW
 rw[HT.sIx_none,HT.sIx_nat,vcv,Nat.min_eq_left h,Nat.sub_zero]
theorem zi5{ws:List W}{k:Nat}(h:k<=ws.length):cutW ws (some (k:Int)) none=ws.drop k:=by
 unfold cutW
 rw[HT.sIx_none,HT.sIx_nat,Nat.min_eq_left h]
 exact List.take_of_length_le (by rw[vcz];omega)
theorem zkh{ws:List W}{w:W}:cutW (ws++[w]) none (some (-1))=ws:=by
 unfold cutW HT.sIx
 have:((-1:Int)+ ((ws++[w]).length:Int)).toNat=ws.length:=by rw[vao,va9];omega
 simp only[if_pos (show(-1:Int)<0 by decide),this,vcv,Nat.sub_zero]
 exact ven rfl
theorem zqp{ws:List W}{w:W}:cutW (ws++[w]) (some (-1)) none=[w]:=by
 unfold cutW HT.sIx
 have:((-1:Int)+ ((ws++[w]).length:Int)).toNat=ws.length:=by rw[vao,va9];omega
 simp only[if_pos (show(-1:Int)<0 by decide),this]
 rw[vfg rfl]
 exact List.take_of_length_le (by rw[vao,va9];simp)
theorem zob{ws:List W}{w:W}:atI (ws++[w]) (-1)=some w:=by
 unfold atI ixN
 rw[if_neg (by decide),if_pos (by rw[vao,va9];omega)]
 show(ws++[w])[(((ws++[w]).length:Int) + -1).toNat]?=_
 rw[show(((ws++[w]).length:Int) + -1).toNat=ws.length by rw[vao,va9];omega]
 simp
theorem zdh{xs:List Int}{x:Int}:iW (xs++[x])=.tup (xs.map .int++[.int x]):=by unfold iW;rw[vbm];rfl
theorem zft{m:Nat}(h:m<=5000):fits (m:Int)=true:=by
 unfold fits
 rw[vab,vaw,vaw]
 omega
theorem orF{cl:Call}{a b:E}{ρ:En}{h h1:VH}(ea:ev cl a ρ h=.ok (.bl false) h1):ev cl (.or a b) ρ h=ev cl b ρ h1:=by rw[ev,ea,bindok]
theorem orT{cl:Call}{a b:E}{ρ:En}{h h1:VH}(ea:ev cl a ρ h=.ok (.bl true) h1):ev cl (.or a b) ρ h=.ok (.bl true) h1:=by rw[ev,ea,bindok]
structure CoreF(F:Nat->Option Fn):Prop where
 f194:F 194=some fn194
 f197:F 197=some fn197
section
variable{F:Nat->Option Fn}(C:CoreF F)
include C
omit C in
theorem zfu{cl:Call}{f:Nat->Int}{q:Nat}{h:VH}(hq5:q<=5000):∀(a fu:Nat),a<fu->whlG (ev cl zbp) (exs cl zb9) fu [some (iW (seg f 0 a)),some (iW (seg f a (q+1)))] h=.ok (.nx [some (iW (seg f 0 (leadP f (q+1) a))),some (iW (seg f (leadP f (q+1) a) (q+1)))]) h
 |a,0,hf=>by omega
 |0,fu+1,_=>by
  have ec:ev cl zbp [some (iW (seg f 0 0)),some (iW (seg f 0 (q+1)))] h=.ok (.bl false) h:=by
   simp[zbp,ev,truW,seg,iW]
  rw[whlG,ec,bindok];rfl
 |a+1,fu+1,hf=>by
  have s1:seg f 0 (a+1)=seg f 0 a++[f a]:=by rw[zke,vb9]
  have s2:seg f (a+1) (q+1)=seg f (a+1) q++[f (a+ (q+1))]:=by rw[zke,show a+1+q=a+ (q+1) by omega]
  have e1:ev cl (.tru (.var 0)) [some (iW (seg f 0 (a+1))),some (iW (seg f (a+1) (q+1)))] h=.ok (.bl true) h:=by
   rw[ev,varE (x:=iW (seg f 0 (a+1))) rfl,bindok,s1,zdh]
   simp[truW]
  have e2:ev cl (.cmp .eq (.idx (.var 0) (.neg (.cst (.int (1))))) (.idx (.var 1) (.neg (.cst (.int (1)))))) [some (iW (seg f 0 (a+1))),some (iW (seg f (a+1) (q+1)))] h=.ok (.bl (decide (f a=f (a+ (q+1))))) h:=by
   have i1:ev cl (.idx (.var 0) (.neg (.cst (.int (1))))) [some (iW (seg f 0 (a+1))),some (iW (seg f (a+1) (q+1)))] h=.ok (.int (f a)) h:=idxE (varE rfl) rfl (by rw[s1,zdh];exact zob)
   have i2:ev cl (.idx (.var 1) (.neg (.cst (.int (1))))) [some (iW (seg f 0 (a+1))),some (iW (seg f (a+1) (q+1)))] h=.ok (.int (f (a+ (q+1)))) h:=idxE (varE rfl) rfl (by rw[s2,zdh];exact zob)
   rw[ev,i1,bindok,i2,bindok]
   simp only[cmpW,za8,vaj,ofsome]
  have ec:ev cl zbp [some (iW (seg f 0 (a+1))),some (iW (seg f (a+1) (q+1)))] h=.ok (.bl (decide (f a=f (a+ (q+1))))) h:=by
   unfold zbp
   rw[ev,e1,bindok]
   exact e2
  by_cases z:f a=f (a+ (q+1))
  .rw[vb5 z]at ec
   have eb:exs cl zb9 [some (iW (seg f 0 (a+1))),some (iW (seg f (a+1) (q+1)))] h=.ok (.nx [some (iW (seg f 0 a)),some (iW (seg f a (q+1)))]) h:=by
    unfold zb9
    have v0:ev cl (.slc (.var 0) false (.cst .non) true (.neg (.cst (.int (1))))) [some (iW (seg f 0 (a+1))),some (iW (seg f (a+1) (q+1)))] h=.ok (iW (seg f 0 a)) h:=slcE (varE rfl) rfl rfl rfl rfl (by rw[s1,zdh,slcW_tup,zkh];rfl)
    refine(zaa (setE v0)).trans ?_
    have v1:ev cl (.slc (.var 1) true (.neg (.cst (.int (1)))) false (.cst .non)) [some (iW (seg f 0 a)),some (iW (seg f (a+1) (q+1)))] h=.ok (.tup [.int (f (a+ (q+1)))]) h:=slcE (varE rfl) rfl rfl rfl rfl (by rw[s2,zdh,slcW_tup,zqp])
    have v2:ev cl (.slc (.var 1) false (.cst .non) true (.neg (.cst (.int (1))))) [some (iW (seg f 0 a)),some (iW (seg f (a+1) (q+1)))] h=.ok (iW (seg f (a+1) q)) h:=slcE (varE rfl) rfl rfl rfl rfl (by rw[s2,zdh,slcW_tup,zkh];rfl)
    have hq:opW .add (.tup [.int (f (a+ (q+1)))]) (iW (seg f (a+1) q)) h=.ok (iW (seg f a (q+1))) h:=by
     have:iW (seg f a (q+1))=.tup ([.int (f (a+ (q+1)))]++(seg f (a+1) q).map .int):=by rw[<-z];rfl
     rw[this]
     exact zxz (by rw[vad,zbf,va9];omega)
    exact(zaa (setE (opE v1 v2 hq))).trans rfl
   rw[whlG,ec,bindok]
   show Res.bind (exs cl zb9 _ _) _=_
   rw[eb,bindok]
   show whlG _ _ fu _ _=_
   rw[zfu hq5 a fu (by omega),leadP,if_pos z]
  .rw[vax z]at ec
   rw[whlG,ec,bindok,leadP,if_neg z]
theorem zqq{k:Nat}{h:VH}{f:Nat->Int}{q a:Nat}(q0:1<=q)(hq:q<=5000)(ha:a<=5000):run F (k+1) 194 [iW (seg f 0 a),iW (seg f a q)] h=.ok (.tup [iW (seg f 0 (leadP f q a)),iW (seg f (leadP f q a) q)]) h:=by
 obtain⟨q,rfl⟩:∃p,q=p+1:=⟨q-1,by omega⟩
 rw[zak C.f194 rfl]
 have e1:=zfu (cl:=run F k) (f:=f) (q:=q) (h:=⟨h.n,h.n,h.os⟩) (by omega) a fuel (by have:fuel=1000000:=rfl;omega)
 have eb:exs (run F k) fn194.body [some (iW (seg f 0 a)),some (iW (seg f a (q+1)))] ⟨h.n,h.n,h.os⟩=.ok (.rt (.tup [iW (seg f 0 (leadP f (q+1) a)),iW (seg f (leadP f (q+1) a) (q+1))])) ⟨h.n,h.n,h.os⟩:=by
  refine(zaa (show exs (run F k) (.whl zbp zb9) _ _=_ from e1)).trans ?_
  exact zae (retE (tup2E (varE rfl) (varE rfl)))
 show fin h (exs (run F k) fn194.body [some (iW (seg f 0 a)),some (iW (seg f a (q+1)))] ⟨h.n,h.n,h.os⟩)=_
 rw[eb]
 exact zai (vae _) (by simp[iW_lt])
omit C in
theorem zhu{cl:Call}{g:Nat->Int}{R s:Nat}{h:VH}(hR:Prd g R)(R0:1<=R)(R1:R<=5000)(s0:1<=s)(s1:s<=R):ev cl zcz [some (iW (seg g 0 R)),some (.int (s:Int))] h=.ok (.bl (!decide (s ∣ R/\(List.replicate (R/s) (seg g 0 s)).flatten=seg g 0 R))) h:=by
 have el:ev cl (.bi .len (.cons (.var 0) .nil)) [some (iW (seg g 0 R)),some (.int (s:Int))] h=.ok (.int (R:Int)) h:=by
  have:=lenE (cl:=cl) (a:=.var 0) (ρ:=[some (iW (seg g 0 R)),some (.int (s:Int))]) (h:=h) (x:=iW (seg g 0 R)) (ws:=(seg g 0 R).map .int) (varE rfl) rfl
  rw[vad,zbf]at this
  exact this
 have hm:opW .mod (.int (R:Int)) (.int (s:Int)) h=.ok (.int ((R % s:Nat):Int)) h:=by
  have:opI .mod (R:Int) (s:Int)=some ((R % s:Nat):Int):=by
   simp only[opI]
   rw[if_pos (by simp;omega)];rfl
  simp only[opW,this,vaj,ofsome]
 have hd:opW .fdiv (.int (R:Int)) (.int (s:Int)) h=.ok (.int ((R/s:Nat):Int)) h:=by
  have:opI .fdiv (R:Int) (s:Int)=some ((R/s:Nat):Int):=by
   simp only[opI]
   rw[if_pos (by simp;omega)];rfl
  simp only[opW,this,vaj,ofsome]
 have e1:ev cl (.cmp .ne (.op .mod (.bi .len (.cons (.var 0) .nil)) (.var 1)) (.cst (.int (0)))) [some (iW (seg g 0 R)),some (.int (s:Int))] h=.ok (.bl (!decide (R % s=0))) h:=by
  rw[ev,opE el (varE rfl) hm,bindok,ev,bindok]
  have hdd:decide (((R % s:Nat):Int)=0)=decide (R % s=0):=decide_eq_decide.mpr (by omega)
  simp only[cmpW,za8,vaj,ofsome,hdd]
 unfold zcz
 by_cases z:R % s=0
 .rw[vb5 z]at e1
  rw[orF e1]
  have hs:s ∣ R:=Nat.dvd_of_mod_eq_zero z
  have hmul:R/s*s=R:=Nat.div_mul_cancel hs
  have e2:ev cl (.slc (.var 0) false (.cst .non) true (.var 1)) [some (iW (seg g 0 R)),some (.int (s:Int))] h=.ok (iW (seg g 0 s)) h:=slcE (varE rfl) rfl (varE rfl) rfl rfl (by
   show slcW (iW (seg g 0 R)) none (some (s:Int)) h=_
   unfold iW
   rw[slcW_tup,zb4 (by rw[vad,zbf];exact s1),<-vdq,zc4 _ s1])
  have e3:opW .mul (iW (seg g 0 s)) (.int ((R/s:Nat):Int)) h=.ok (iW (List.replicate (R/s) (seg g 0 s)).flatten) h:=by
   have:repW .mul ((seg g 0 s).map .int) ((R/s:Nat):Int)=some ((List.replicate (R/s) (seg g 0 s)).flatten.map .int):=by
    simp only[repW]
    have hf:fits ((R/s:Nat):Int)=true:=zft (vbs (Nat.div_le_self _ _) R1)
    have hb:Nat.ble (((seg g 0 s).map W.int).length* ((R/s:Nat):Int).toNat) big=true:=zb1 (by rw[vad,zbf,vbn,vfk,hmul];omega)
    rw[hf,hb,vbn]
    simp[List.map_flatten]
   unfold iW
   simp only[opW,this,vaj,ofsome]
  rw[ev,opE e2 (opE el (varE rfl) hd) e3,bindok,varE (x:=iW (seg g 0 R)) rfl,bindok]
  have hdd:decide ((List.replicate (R/s) (seg g 0 s)).flatten=seg g 0 R)=decide (s ∣ R/\(List.replicate (R/s) (seg g 0 s)).flatten=seg g 0 R):=decide_eq_decide.mpr ⟨λa=>⟨hs,a⟩,λa=>a.2⟩
  simp only[cmpW,zx5,vaj,ofsome,hdd]
 .rw[vax z]at e1
  rw[orT e1]
  have:¬(s ∣ R/\(List.replicate (R/s) (seg g 0 s)).flatten=seg g 0 R):=λa=>z (Nat.mod_eq_zero_of_dvd a.1)
  rw[vax this]
  rfl
omit C in
theorem zhv{cl:Call}{g:Nat->Int}{R q:Nat}{h:VH}(hR:Prd g R)(R0:1<=R)(R1:R<=5000)(L:Least g R q):∀(n s fu:Nat),n<fu->s+n=q->1<=s->whlG (ev cl zcz) (exs cl zca) fu [some (iW (seg g 0 R)),some (.int (s:Int))] h=.ok (.nx [some (iW (seg g 0 R)),some (.int (q:Int))]) h
 |n,s,0,h1,_,_=>by omega
 |0,s,fu+1,h1,h2,h3=>by
  have hs:s=q:=by omega
  subst hs
  have ec:=zhu (cl:=cl) (h:=h) hR R0 R1 h3 L.q1
  rw[vb5 ⟨L.dv,(zn8 hR R0 L.dv h3).mpr L.pr⟩]at ec
  rw[whlG,ec,bindok];rfl
 |n+1,s,fu+1,h1,h2,h3=>by
  have q1:=L.q1
  have ec:=zhu (cl:=cl) (h:=h) hR R0 R1 h3 (show s<=R by omega)
  rw[vax (λa=>L.no s h3 (by omega) ((zn8 hR R0 a.1 h3).mp a.2))]at ec
  have eb:exs cl zca [some (iW (seg g 0 R)),some (.int (s:Int))] h=.ok (.nx [some (iW (seg g 0 R)),some (.int ((s+1:Nat):Int))]) h:=by
   simp[zca,exs,ev,ipW]
  rw[whlG,ec,bindok]
  show Res.bind (exs cl zca _ _) _=_
  rw[eb,bindok]
  exact zhv hR R0 R1 L n (s+1) fu (by omega) (by omega) (by omega)
theorem zgq{k:Nat}{h:VH}{g:Nat->Int}{R q:Nat}(hR:Prd g R)(R0:1<=R)(R1:R<=5000)(L:Least g R q):run F (k+1) 197 [iW (seg g 0 R)] h=.ok (iW (seg g 0 q)) h:=by
 rw[zak C.f197 rfl]
 have q0:=L.q0
 have q1:=L.q1
 have e1:=zhv (cl:=run F k) (h:=⟨h.n,h.n,h.os⟩) hR R0 R1 L (q-1) 1 fuel (by have:fuel=1000000:=rfl;omega) (by omega) (by omega)
 have eb:exs (run F k) fn197.body [some (iW (seg g 0 R)),none] ⟨h.n,h.n,h.os⟩=.ok (.rt (iW (seg g 0 q))) ⟨h.n,h.n,h.os⟩:=by
  refine(zaa (setE rfl)).trans ?_
  refine(zaa (show exs (run F k) (.whl zcz zca) _ _=_ from e1)).trans ?_
  exact zae (retE (slcE (varE rfl) rfl (varE rfl) rfl rfl (by
   show slcW (iW (seg g 0 R)) none (some (q:Int)) _=_
   unfold iW
   rw[slcW_tup,zb4 (by rw[vad,zbf];exact q1),<-vdq,zc4 _ q1])))
 show fin h (exs (run F k) fn197.body [some (iW (seg g 0 R)),none] ⟨h.n,h.n,h.os⟩)=_
 rw[eb]
 exact zai (vae _) iW_lt
end
structure CoreH(F:Nat->Option Fn):Prop where
 f59:F 59=some fn59
 f204:F 204=some fn204
theorem zub{h:VH}:eqW h .non .non=some true:=rfl
section
variable{F:Nat->Option Fn}(C:CoreH F)(A:CoreA F)
include C A
omit C in
theorem zx6{k:Nat}{h:VH}{ws:List W}:run F (k+1) 6 [.tup ws,.int ws.length,.int ws.length] h=.ok (.bl true) h:=by
 rw[zal A (by unfold Kn;simp)]
 simp[zat]
theorem zi6:∀(n:Nat) {k:Nat} {h:VH} {w:W},nestN n w=true->run F (k+n+2) 59 [w,w] h=.ok (.bl true) h:=by
 have hint:∀{k:Nat}{h:VH}{i:Int},run F (k+2) 59 [.int i,.int i] h=.ok (.bl true) h:=by
  intro k h i
  rw[zak C.f59 rfl]
  simp[fn59,exs,ev,truW,cmpW,za8,zai]
 have hnon:∀{k:Nat}{h:VH},run F (k+2) 59 [.non,.non] h=.ok (.bl true) h:=by
  intro k h
  rw[zak C.f59 rfl]
  simp[fn59,exs,ev,truW,cmpW,zub,zai]
 intro n
 induction n with
 |zero=>
  intro k h w hw
  cases w<;>simp only[nestN]at hw<;>first|exact hint|exact hnon|cases hw
 |succ n ih=>
  intro k h w hw
  cases w<;>simp only[nestN]at hw<;>first|(exact hint (k:=k+n+1))|(exact hnon (k:=k+n+1))|(cases hw;done)|skip
  rename_i ws
  rw[vab]at hw
  have hlen:=va3 hw.1
  have hall:=vbp.mp hw.2
  rw[show k+ (n+1)+2=(k+n+2)+1 by omega,zak C.f59 rfl]
  have hz:(zipW ws ws).length<1000000:=by unfold zipW;rw[List.length_zipWith];omega
  have e1:=zi2 (cl:=run F (k+n+2)) (e:=zi0) ws none none ⟨h.n,h.n,h.os⟩ λw hw h=>za3 (varE rfl) (varE rfl) (ih (k:=k) (hall w hw))
  have e2:=znw (cl:=run F (k+n+2)) (a:=.cons (.var 0) (.cons (.var 1) .nil)) (ρ:=[some (.tup ws),some (.tup ws)]) (h:=⟨h.n,h.n,h.os⟩) (h1:=⟨h.n,h.n,h.os⟩) (ow:=2) (ix:=[]) (e:=zi0) (t:=.many [0,1]) rfl hz e1 (by rw[vb7];omega)
  have e3:=allE e2 zad
  have el:ev (run F (k+n+2)) (.bi .len (.cons (.var 1) .nil)) [some (.tup ws),some (.tup ws)] ⟨h.n,h.n,h.os⟩=.ok (.int ws.length) ⟨h.n,h.n,h.os⟩:=lenE (varE rfl) rfl
  have e4:ev (run F (k+n+2)) (.not (.tru (.call 6 (.cons (.var 0) (.cons (.bi .len (.cons (.var 1) .nil)) (.cons (.bi .len (.cons (.var 1) .nil)) .nil)))))) [some (.tup ws),some (.tup ws)] ⟨h.n,h.n,h.os⟩=.ok (.bl false) ⟨h.n,h.n,h.os⟩:=by
   rw[ev,truE (znx (varE rfl) el el (zx6 A (k:=k+n+1)))];rfl
  have e5:ev (run F (k+n+2)) (.tru (.isi .tuple (.var 1))) [some (.tup ws),some (.tup ws)] ⟨h.n,h.n,h.os⟩=.ok (.bl true) ⟨h.n,h.n,h.os⟩:=by
   simp[ev,truW]
  have eb:exs (run F (k+n+2)) fn59.body [some (.tup ws),some (.tup ws)] ⟨h.n,h.n,h.os⟩=.ok (.rt (.bl true)) (VH.new ⟨h.n,h.n,h.os⟩ (.lst (List.replicate ws.length (.bl true)))):=by
   refine zae ?_
   rw[iteT e5]
   refine(zaa (ρ':=[some (.tup ws),some (.tup ws)]) (h':=⟨h.n,h.n,h.os⟩) ?_).trans (zae (retE e3))
   rw[iteF e4];rfl
  show fin h (exs (run F (k+n+2)) fn59.body [some (.tup ws),some (.tup ws)] ⟨h.n,h.n,h.os⟩)=_
  rw[eb]
  exact zai (vae _) (by simp)
end
theorem zqr(s:Stn)(hl:s.1.length<=5000)(n:Nat):nestN (n+2) (stW s)=true:=by
 obtain⟨ls,fo⟩:=s
 have h1:nestN (n+1) (iW ls)=true:=by
  unfold iW nestN
  rw[vab,vbp]
  refine⟨ve8.mpr (by rw[vad];exact hl),λw hw=>?_⟩
  obtain⟨i,_,rfl⟩:=va6.mp hw
  cases n<;>rfl
 have h2:nestN (n+1) (optW fo)=true:=by cases fo<;>rfl
 unfold stW
 show(Nat.ble 2 5000 && [iW ls,optW fo].all (nestN (n+1)))=true
 simp[h1,h2]
section
variable{F:Nat->Option Fn}(C:CoreH F)(A:CoreA F)(Y:CoreE F)(B':CoreB F)
include C A Y B'
omit B' in
theorem zfv{k:Nat}{h:VH}{B:Bd}{s0 p st bk:W}(b:B.Ok):∀(n:Nat) (xs:List Stn) (c:Option Stn) (x:Option W),1281<=n+xs.length->xs.Nodup->(∀s∈xs,GoodS B s)->(∀s,c=some s->GoodS B s)->
 ∃rest c' x',(everP B n xs c).1=xs++rest/\forL (tgW (.one 7)) (exs (run F (k+5)) zc2) (rest.map stW) [some B.w,some s0,some p,some st,some bk,some (.ref h.n),some (optS c),x] (stD h xs)=.ok (.nx [some B.w,some s0,some p,some st,some bk,some (.ref h.n),some (optS c'),x']) (stD h (everP B n xs c).1)/\
  ((c'=none/\(everP B n xs c).2=none)\/∃s i,c'=some s/\(everP B n xs c).2=some i/\posS s 0 (everP B n xs c).1=some i)
 |0,xs,c,x,hN,nd,g,_=>by have:=few b nd g;omega
 |n+1,xs,none,x,hN,nd,g,gc=>⟨[],none,x,(vcd _).symm,rfl,.inl ⟨rfl,rfl⟩⟩
 |n+1,xs,some s,x,hN,nd,g,gc=>by
  cases hp:posS s 0 xs with
  |some i=>
   have hev:everP B (n+1) xs (some s)=(xs,some i):=by simp only[everP,hp]
   rw[hev]
   exact⟨[],some s,x,(vcd _).symm,rfl,.inr ⟨s,i,rfl,rfl,hp⟩⟩
  |none=>
   have hev:everP B (n+1) xs (some s)=everP B n (xs++[s]) (nextS B s):=by simp only[everP,hp]
   rw[hev]
   have hfew:=few b nd g
   have gs:=gc s rfl
   obtain⟨rest,c',x',h1,ih,hc'⟩:=zfv (k:=k) (h:=h) (s0:=s0) (p:=p) (st:=st) (bk:=bk) b n (xs++[s]) (nextS B s) (some (stW s)) (by rw[vao,va9];omega)
    (by
      rw[vew]
      exact⟨nd,by simp,λa ha b hb=>by rw[vbu.mp hb];exact λz=>zd8 hp (z▸ha)⟩)
    (λt ht=>by
      rcases vej.mp ht with ht|ht
      .exact g t ht
      .rw[vbu.mp ht];exact gs) (λt ht=>zb2 b gs ht)
   refine⟨s::rest,c',x',by rw[h1,vd8];rfl,?_,hc'⟩
   have hin:=in_st (s:=s) (zbe (h:=h) (xs:=xs))
   have hlen:s.1.length<=5000:=by have:=gs.1;have:=b.g2;omega
   have hj:=zi6 C A 2 (k:=k+1) (h:=stD h xs) (zqr s hlen 0)
   have ec:ev (run F (k+5)) (.or (.cmp .isn (.var 6) (.cst .non)) (.or (.cmp .inn (.var 6) (.var 5)) (.not (.tru (.call 59 (.cons (.var 7) (.cons (.var 6) .nil))))))) [some B.w,some s0,some p,some st,some bk,some (.ref h.n),some (optS (some s)),some (stW s)] (stD h xs)=.ok (.bl false) (stD h xs):=by
    rw[orF (h1:=stD h xs) (by simp[ev,cmpW,zbj,optS,zkc]),orF (h1:=stD h xs) (by simp[ev,cmpW,optS,hin,hp]),ev,truE (za3 (x:=stW s) (y:=stW s) (varE rfl) (varE rfl) hj)]
    rfl
   have e1:=putE (cl:=run F (k+5)) (o:=.var 5) (i:=.var 6) (v:=.bi .len (.cons (.var 5) .nil)) (ρ:=[some B.w,some s0,some p,some st,some bk,some (.ref h.n),some (optS (some s)),some (stW s)]) (h:=stD h xs) (a:=h.n) (xs:=xs) (s:=s) (zn4 rfl zbe) (varE rfl) (varE rfl) zbe hp (by omega)
   rw[zn3]at e1
   have e2:=zdt Y (k:=k) (h:=stD h (xs++[s])) b gs
   rw[zhs]at e2
   have eb:exs (run F (k+5)) zc2 [some B.w,some s0,some p,some st,some bk,some (.ref h.n),some (optS (some s)),some (stW s)] (stD h xs)=.ok (.nx [some B.w,some s0,some p,some st,some bk,some (.ref h.n),some (optS (nextS B s)),some (stW s)]) (stD h (xs++[s])):=by
    unfold zc2
    refine(zaa ((iteF ec).trans rfl)).trans ?_
    refine(zaa e1).trans ?_
    refine(zaa (setE (za3 (varE rfl) (varE rfl) e2))).trans ?_
    rfl
   rw[vam]
   simp only[forL,tgW,vbv,vbl,eb,bindok]
   exact ih
theorem zlh{k:Nat}{h:VH}{B:Bd}{s:Stn}(b:B.Ok)(g:GoodS B s):run F (k+10) 204 [B.w,stW s,.tup [.tup ((everP B 1281 [] (some s)).1.map stW),backW (everP B 1281 [] (some s)).2]] h=.ok (.bl true) h:=by
 rw[zak C.f204 rfl]
 have e0:=zce Y B' (k:=k) (h:=⟨h.n,h.n,h.os⟩) b g
 obtain⟨rest,c',x',h1,el,hc'⟩:=zfv C A Y (k:=k+4) (h:=h) (s0:=stW s) (p:=.tup [.tup ((everP B 1281 [] (some s)).1.map stW),backW (everP B 1281 [] (some s)).2]) (st:=.tup ((everP B 1281 [] (some s)).1.map stW)) (bk:=backW (everP B 1281 [] (some s)).2) b 1281 [] (some s) none (by decide) vfl (λ_ h=>nomatch h) (λt ht=>by cases ht;exact g)
 obtain⟨nd,gd⟩:=zgo b 1281 [] (some s) vfl (λ_ h=>nomatch h) (λt ht=>by cases ht;exact g)
 generalize everP B 1281 [] (some s)=E at *
 have hfew:=few b nd gd
 rw[vb8]at h1
 subst h1
 have e1:exs (run F (k+9)) (.set 5 (.dsp .nil)) [some B.w,some (stW s),some (.tup [.tup (E.1.map stW),backW E.2]),some (.tup (E.1.map stW)),some (backW E.2),none,none,none] ⟨h.n,h.n,h.os⟩=.ok (.nx [some B.w,some (stW s),some (.tup [.tup (E.1.map stW),backW E.2]),some (.tup (E.1.map stW)),some (backW E.2),some (.ref h.n),none,none]) (stD h []):=by
  simp only[exs,ev,bindok,zcp]
  rw[if_pos (by decide)]
  rfl
 have e6:=zal A (k:=k+8) (h:=⟨h.n,h.n,h.os⟩) (w:=.tup [.tup (E.1.map stW),backW E.2]) (lo:=2) (hi:=2) (by unfold Kn;simp)
 have t6:zat (.tup [.tup (E.1.map stW),backW E.2]) 2 2=true:=rfl
 rw[t6]at e6
 have ec:ev (run F (k+9)) (.or (.not (.tru (.call 6 (.cons (.var 2) (.cons (.cst (.int (2))) (.cons (.cst (.int (2))) .nil)))))) (.not (.tru (.isi .tuple (.idx (.var 2) (.cst (.int (0)))))))) [some B.w,some (stW s),some (.tup [.tup (E.1.map stW),backW E.2]),none,none,none,none,none] ⟨h.n,h.n,h.os⟩=.ok (.bl false) ⟨h.n,h.n,h.os⟩:=by
  rw[orF (h1:=⟨h.n,h.n,h.os⟩) (by rw[ev,truE (znx (x:=.tup [.tup (E.1.map stW),backW E.2]) (y:=.int 2) (z:=.int 2) (varE rfl) rfl rfl e6)];rfl)]
  rfl
 have efor:exs (run F (k+9)) (.«for» .seq (.var 3) (.one 7) zc2) [some B.w,some (stW s),some (.tup [.tup (E.1.map stW),backW E.2]),some (.tup (E.1.map stW)),some (backW E.2),some (.ref h.n),some (optS (some s)),none] (stD h [])=.ok (.nx [some B.w,some (stW s),some (.tup [.tup (E.1.map stW),backW E.2]),some (.tup (E.1.map stW)),some (backW E.2),some (.ref h.n),some (optS c'),x']) (stD h E.1):=by
  rw[exs,varE (x:=.tup (E.1.map stW)) rfl,bindok,zdd (by rw[vad];omega)]
  exact el
 have eb:exs (run F (k+9)) fn204.body [some B.w,some (stW s),some (.tup [.tup (E.1.map stW),backW E.2]),none,none,none,none,none] ⟨h.n,h.n,h.os⟩=.ok (.rt (.bl true)) (stD h E.1):=by
  refine(zaa (exprE (za3 (varE rfl) (varE rfl) e0))).trans ?_
  refine(zaa ((iteF ec).trans rfl)).trans ?_
  refine(zaa (ρ':=[some B.w,some (stW s),some (.tup [.tup (E.1.map stW),backW E.2]),some (.tup (E.1.map stW)),some (backW E.2),none,none,none]) (h':=⟨h.n,h.n,h.os⟩) rfl).trans ?_
  refine(zaa e1).trans ?_
  refine(zaa (setE (varE rfl))).trans ?_
  refine(zaa efor).trans ?_
  rcases hc' with⟨rfl,e⟩|⟨t,i,rfl,e,ep⟩
  .refine zae ?_
   rw[iteT (h1:=stD h E.1) (by simp[ev,cmpW,isNon,optS])]
   exact zae (retE (by rw[e];rfl))
  .refine(zaa (ρ':=[some B.w,some (stW s),some (.tup [.tup (E.1.map stW),backW E.2]),some (.tup (E.1.map stW)),some (backW E.2),some (.ref h.n),some (optS (some t)),x']) (h':=stD h E.1) ?_).trans (zae (retE ?_))
   .exact(iteF (h1:=stD h E.1) (by simp[ev,cmpW,zbj,optS,zkc])).trans rfl
   .have hin:=in_st (s:=t) (zbe (h:=h) (xs:=E.1))
    have hj:=zi6 C A 0 (k:=k+7) (h:=stD h E.1) (w:=.int (i:Int)) rfl
    have e7:ev (run F (k+9)) (.cmp .inn (.var 6) (.var 5)) [some B.w,some (stW s),some (.tup [.tup (E.1.map stW),backW E.2]),some (.tup (E.1.map stW)),some (backW E.2),some (.ref h.n),some (optS (some t)),x'] (stD h E.1)=.ok (.bl true) (stD h E.1):=by
     simp[ev,cmpW,optS,hin,ep]
    rw[ev,e7,bindok]
    refine za3 (x:=.int (i:Int)) ?_ (idxE (varE rfl) (varE rfl) (zr1 zbe ep)) hj
    rw[e];rfl
 show fin h (exs (run F (k+9)) fn204.body [some B.w,some (stW s),some (.tup [.tup (E.1.map stW),backW E.2]),none,none,none,none,none] ⟨h.n,h.n,h.os⟩)=_
 rw[eb]
 exact zai (vae _) (by simp)
end
theorem zx7{s:Stn}:∀{xs:List Stn} {i j:Nat},posS s j xs=some i->j<=i/\i<j+xs.length
 |[],_,_,h=>by cases h
 |x::xs,i,j,h=>by
  unfold posS at h
  split at h
  .cases h;rw[vai];omega
  .have:=zx7 h;rw[vai];omega
theorem zoc{s:Stn}:∀{xs:List Stn} {i j:Nat},posS s j xs=some i->s∈xs
 |[],_,_,h=>by cases h
 |x::xs,i,j,h=>by
  unfold posS at h
  split at h
  .rename_i e;rw[e];exact van
  .exact vag _ (zoc h)
noncomputable def nnW(w:W):Bool:=!isNon w
theorem zdu{B:Bd}:∀(xs:List Stn),((xs.filter λs=>s.2.isSome).filter λs=>nnW (nmS B s)).map (nmS B)=(xs.map (nmS B)).filter nnW
 |[]=>rfl
 |s::xs=>by
  have ih:=zdu (B:=B) xs
  obtain⟨ls,fo⟩:=s
  cases fo with
  |none=>
   have e:nnW (nmS B (ls,none))=false:=rfl
   rw[vam,vcq,vcq,e]
   exact ih
  |some f=>
   rw[vam,vcq,if_pos (show((ls,some f):Stn).2.isSome=true from rfl),vcq,vcq]
   split
   .rw[vam,ih]
   .exact ih
theorem zfw(v:List Int):(v.map W.int).filter nnW=v.map .int:=by
 induction v with
 |nil=>rfl
 |cons i v ih=>rw[vam,vcq,if_pos (show nnW (.int i)=true from rfl),ih]
theorem zd9{α:Type}{nx:Nat->VH->Option (Option W)}{c e:En->VH->Res W}{h:VH}{u:α->W}{tl:En}{p:α->Bool}{f:α->W}{zs:List α}(hx:∀i,nx i h=some ((zs.map u)[i]?))
 (ht:∀z∈zs,∃a b,u z=.tup [a,b]/\c (some a::some b::tl) h=.ok (.bl (p z)) h/\(p z=true->e (some a::some b::tl) h=.ok (f z) h)) :
 ∀(fu i:Nat)(x y:Option W)(acc:List W),i<=zs.length->zs.length<fu+i->lcG nx (tgW (.many [0,1])) c e fu i (x::y::tl) h acc=.ok (acc.reverse++((zs.drop i).filter p).map f) h
 |0,i,x,y,acc,hi,hl=>by omega
 |fu+1,i,x,y,acc,hi,hl=>by
  cases q:zs[i]? with
  |none=>
   rw[vdx (va7.mp q)]
   have hn:(zs.map u)[i]?=none:=by rw[vat,q];rfl
   rw[lcG,hx,hn]
   simp
  |some z=>
   obtain⟨hi,ee⟩:=vau.mp q
   obtain⟨a,b,hu,hc,he⟩:=ht z (vcn q)
   have hn:(zs.map u)[i]?=some (.tup [a,b]):=by rw[vat,q,<-hu];rfl
   rw[lcG,hx,hn]
   simp only[tgW,seqW,zaz,vbl,vbv,hc,bindok]
   rw[vdf hi,ee,vcq]
   cases w:p z with
   |true=>
    simp only[he w,bindok]
    rw[zd9 hx ht fu (i+1) (some a) (some b) (f z::acc) hi (by omega)]
    simp
   |false=>
    simp only[vap,vbk]
    exact zd9 hx ht fu (i+1) (some a) (some b) acc hi (by omega)
noncomputable def rkW(k:Nat):W:=.tup [.int (k:Int),.int 0]
noncomputable def chRow(g b k:Nat):List W:=(List.range ((g+2)*b)).map λc=>if c % (g+2)=1+k then rkW k else .str sDot
noncomputable def zdv(g b:Nat)(nm:Int)(es:List Int)(la:Option Nat)(c:Nat):W:=
 if c % (g+2)=g+1 then .tup [.int (es.getD (c/ (g+2)) 0),optW (if c/ (g+2)+1=b then la else some (c/ (g+2)+1))]else .tup [.int nm,.int ((c/ (g+2):Nat):Int)]
noncomputable def chain(g b:Nat)(nm:Int)(es:List Int)(la:Option Nat):Bd:=
 ⟨((g+2)*b:Nat),(g:Int),(List.range' 0 g).map (chRow g b),(List.range b).map λ(i:Nat)=>.int (((g+2)*i+1:Nat):Int),(List.range ((g+2)*b)).map (zdv g b nm es la)⟩
theorem ch_at{g b k c:Nat}(hc:c< (g+2)*b):colAt (chRow g b k) (c:Int)=if c % (g+2)=1+k then rkW k else .str sDot:=by
 unfold colAt chRow
 rw[vbn,vat,vbx hc]
 rfl
theorem zey{g b c:Nat}{ls:List Int}(hc:c< (g+2)*b):∀(m k:Nat) (hd:Int),(∀j,k<=j->j<k+m->c % (g+2)≠1+j)->fallP ((List.range' k m).map (chRow g b)) (c:Int) hd ls=⟨List.replicate m (c:Int),[],ls,false⟩
 |0,_,_,_=>rfl
 |m+1,k,hd,h=>by
  rw[List.range'_succ,vam]
  unfold fallP
  rw[ch_at hc,if_neg (h k (vae _) (by omega)),zd5]
  have ih:=zey (ls:=ls) hc m (k+1) 0 λj h1 h2=>h j (by omega) (by omega)
  simp only[Int.add_zero,ih,vb8,vbd]
noncomputable def inc:List Int->List Int×Bool
 |[]=>([],true)
 |x::r=>if x=0 then(1::r,false)else(0:: (inc r).1,(inc r).2)
theorem zki(c:Int):∀m,lastC c (List.replicate m c)=c
 |0=>rfl
 |m+1=>by rw[vbd];exact zki c m
theorem zdi{g i o:Nat}(h:o<g+2):((g+2)*i+o) % (g+2)=o/\((g+2)*i+o)/ (g+2)=i:=by
 constructor
 .rw[vcm,va2 h]
 .rw[veq (by omega),vef h,ve1]
theorem zfx{g b i o:Nat}(h:o<g+2)(hi:i<b):(g+2)*i+o< (g+2)*b:=by
 have:(g+2)* (i+1)<=(g+2)*b:=vby _ hi
 rw[vcs]at this
 omega
theorem zkj{g b i:Nat}(hi:i<b):∀(rest pre:List Int) (hd:Int),pre.length+rest.length=g->Bits rest->
 ∃cs ts o,fallP ((List.range' pre.length rest.length).map (chRow g b)) (((g+2)*i+ (1+pre.length):Nat):Int) hd (pre++rest)=⟨cs,ts,pre++(inc rest).1,false⟩/\lastC (((g+2)*i+ (1+pre.length):Nat):Int) cs=(((g+2)*i+o:Nat):Int)/\o<g+2/\(o=g+1↔(inc rest).2=true)
 |[],pre,hd,hg,_=>⟨[],[],1+pre.length,rfl,rfl,by simp at hg;omega,by simp at hg;simp[inc];omega⟩
 |x::r,pre,hd,hg,hb=>by
  rw[vai]at hg
  have hk:1+pre.length<g+2:=by omega
  have hc:=zfx hk hi
  have hm:=(zdi (i:=i) hk).1
  rw[vai,List.range'_succ,vam]
  unfold fallP
  rw[ch_at hc,if_pos hm]
  unfold rkW
  have hget:(pre++x::r).getD pre.length 0=x:=by simp
  have hset:∀y:Int,(pre++x::r).set pre.length y=pre++y::r:=λy=>by simp
  have h01:=hb x van
  have st:stepP (.tup [.int (pre.length:Int),.int 0]) hd (pre++x::r)=some (if x=0 then -1 else 1,[(pre.length:Int)],pre++(1-x)::r):=by
   rw[show(W.tup [.int (pre.length:Int),.int 0])=.tup [.int (pre.length:Int),.int ((0:Nat):Int)]from rfl,zgi,hget,hset];rfl
  rcases h01 with rfl|rfl
  .have hm2:=(zdi (g:=g) (i:=i) (o:=pre.length) (by omega)).1
   have sr:=zey (g:=g) (b:=b) (c:=(g+2)*i+pre.length) (ls:=pre++1::r) (zfx (by omega) hi) r.length (pre.length+1) (-1) λj h1 h2=>by omega
   have st':stepP (.tup [.int (pre.length:Int),.int 0]) hd (pre++0::r)=some (-1,[(pre.length:Int)],pre++1::r):=st
   have e:(((g+2)*i+ (1+pre.length):Nat):Int) + -1=(((g+2)*i+pre.length:Nat):Int):=by omega
   rw[st']
   simp only[e,sr]
   refine⟨_,_,pre.length,rfl,?_,by omega,?_⟩
   .exact zki _ _
   .simp[inc];omega
  .have e:(((g+2)*i+ (1+pre.length):Nat):Int)+1=(((g+2)*i+ (1+ (pre++[(0:Int)]).length):Nat):Int):=by simp;omega
   obtain⟨cs,ts,o,e1,e2,e3,e4⟩:=zkj (g:=g) (b:=b) (i:=i) hi r (pre++[(0:Int)]) 1 (by simp;omega) (λy hy=>hb y (vag _ hy))
   rw[vd8,vd8]at e1
   have hl:(pre++[(0:Int)]).length=pre.length+1:=by simp
   have st':stepP (.tup [.int (pre.length:Int),.int 0]) hd (pre++1::r)=some (1,[(pre.length:Int)],pre++([0]++r)):=st
   rw[st',<-hl]
   simp only[e,e1]
   refine⟨_,_,o,rfl,?_,e3,?_⟩
   .exact e2
   .rw[e4];simp[inc]
noncomputable def val:List Int->Nat
 |[]=>0
 |x::r=>x.toNat+2*val r
theorem zc5:∀{ls:List Int},Bits ls->val ls<2 ^ ls.length
 |[],_=>Nat.one_pos
 |x::r,h=>by
  have ih:=zc5 (ls:=r) λy hy=>h y (vag _ hy)
  rw[vai,Nat.pow_succ]
  rcases h x van with rfl|rfl<;>simp[val]<;>omega
theorem zod:∀{ls ms:List Int},Bits ls->Bits ms->ls.length=ms.length->val ls=val ms->ls=ms
 |[],[],_,_,_,_=>rfl
 |[],_::_,_,_,h,_=>by simp at h
 |_::_,[],_,_,h,_=>by simp at h
 |x::r,y::t,h1,h2,hl,hv=>by
  have ih:=λz=>zod (ls:=r) (ms:=t) (λy hy=>h1 y (vag _ hy)) (λy hy=>h2 y (vag _ hy)) (by simpa using hl) z
  rcases h1 x van with rfl|rfl<;>rcases h2 y van with rfl|rfl<;>simp[val]at hv
  .rw[ih (by omega)]
  .omega
  .omega
  .rw[ih (by omega)]
theorem zkk:∀{ls:List Int},Bits ls->(inc ls).1.length=ls.length/\Bits (inc ls).1/\((inc ls).2=true->val ls+1=2 ^ ls.length/\val (inc ls).1=0)/\((inc ls).2=false->val (inc ls).1=val ls+1)
 |[],_=>⟨rfl,λ_ h=>(nomatch h),λ_=>⟨rfl,rfl⟩,λh=>by cases h⟩
 |x::r,h=>by
  have hr:Bits r:=λy hy=>h y (vag _ hy)
  obtain⟨i1,i2,i3,i4⟩:=zkk hr
  have hcons:∀{a:Int}{l:List Int},(a=0\/a=1)->Bits l->Bits (a::l):=λha hl y hy=>by
   rcases vaz.mp hy with rfl|hy
   .exact ha
   .exact hl y hy
  rcases h x van with rfl|rfl
  .simp only[inc,vbe]
   exact⟨by simp,hcons (.inr rfl) hr,λh=>(nomatch h),λ_=>by simp[val];omega⟩
  .simp only[inc,show ¬((1:Int)=0)from by decide,vbk]
   refine⟨by simp[i1],hcons (.inl rfl) i2,λh=>?_,λh=>?_⟩
   .obtain⟨a,b⟩:=i3 h
    rw[vai,Nat.pow_succ]
    simp[val];omega
   .have:=i4 h
    simp[val];omega
section
variable{g b:Nat}{nm:Int}{es:List Int}{la:Option Nat}
theorem zuc{i:Nat}{ls:List Int}(hi:i<b)(hl:ls.length=g)(hb:Bits ls):((chain g b nm es la).fall ls i).ls=(inc ls).1/\
 outD (chain g b nm es la) ls i=if(inc ls).2 then .tup [.int (es.getD i 0),optW (if i+1=b then la else some (i+1))]else .tup [.int nm,.int (i:Int)]:=by
 obtain⟨cs,ts,o,e1,e2,e3,e4⟩:=zkj (g:=g) hi ls [] 0 (by simpa using hl) hb
 have hcol:(chain g b nm es la).col i=(((g+2)*i+ (1+ ([]:List Int).length):Nat):Int):=by
  unfold Bd.col chain
  simp only[vat,vbx hi]
  rfl
 have hf:(chain g b nm es la).fall ls i=⟨cs,ts,(inc ls).1,false⟩:=by
  unfold Bd.fall
  rw[hcol]
  rw[hl]at e1
  exact e1
 refine⟨by rw[hf],?_⟩
 unfold outD
 rw[hf,hcol]
 simp only[vap,vbk,e2]
 unfold Bd.door chain
 have hc:=zfx (g:=g) e3 hi
 obtain⟨m1,m2⟩:=zdi (g:=g) (i:=i) e3
 simp only[vbn,vat,vbx hc,vaj,ve3,zdv,m1,m2]
 by_cases z:o=g+1
 .rw[if_pos z,if_pos (e4.mp z)]
 .rw[if_neg z,if_neg (λh=>z (e4.mpr h))]
theorem zi7{i:Nat}{ls:List Int}(hi:i<b)(hl:ls.length=g)(hb:Bits ls):nextS (chain g b nm es la) (ls,some i)=some ((inc ls).1,if(inc ls).2 then(if i+1=b then la else some (i+1))else some i)/\
 nmS (chain g b nm es la) (ls,some i)=.int (if(inc ls).2 then es.getD i 0 else nm):=by
 obtain⟨h1,h2⟩:=zuc (nm:=nm) (es:=es) (la:=la) hi hl hb
 constructor
 .show some (((chain g b nm es la).fall ls i).ls,callO (chain g b nm es la) ls i)=_
  rw[h1]
  unfold callO
  rw[h2]
  cases(inc ls).2
  .simp
  .simp only[vbe]
   split
   .rename_i x j q
    injection q with q
    injection q with _ q
    injection q with q _
    revert q
    cases(if i+1=b then la else some (i+1))<;>intro q
    .cases q
    .cases q;simp
   .rename_i q
    revert q
    cases(if i+1=b then la else some (i+1))<;>intro q
    .rfl
    .exact absurd rfl (q _ _)
 .show nameP (chain g b nm es la) ls i=_
  unfold nameP
  rw[h2]
  cases(inc ls).2<;>rfl
noncomputable def fnd(g:Nat)(nm:Int)(es:List Int)(t:Nat):Int:=if t % 2 ^ g+1=2 ^ g then es.getD (t/2 ^ g) 0 else nm
theorem zx8{i:Nat}{ls:List Int}(hi:i<b)(hl:ls.length=g)(hb:Bits ls):nmS (chain g b nm es la) (ls,some i)=.int (fnd g nm es (2 ^ g*i+val ls)):=by
 rw[(zi7 hi hl hb).2]
 have hv:=zc5 hb
 rw[hl]at hv
 have m1:(2 ^ g*i+val ls) % 2 ^ g=val ls:=by rw[vcm,va2 hv]
 have m2:(2 ^ g*i+val ls)/2 ^ g=i:=by rw[veq (by omega),vef hv,ve1]
 obtain⟨i1,i2,i3,i4⟩:=zkk hb
 unfold fnd
 rw[m1,m2]
 cases z:(inc ls).2
 .have:=i4 z
  have h3:=zc5 i2
  rw[i1,hl,this]at h3
  rw[if_neg (c:=val ls+1=2 ^ g) (va5 h3)];rfl
 .have:=(i3 z).1
  rw[hl]at this
  rw[if_pos this];rfl
noncomputable def orb(B:Bd)(s:Stn):Nat->Stn
 |0=>s
 |j+1=>(nextS B (orb B s j)).getD (orb B s j)
noncomputable def At(g b:Nat)(s:Stn)(t:Nat):Prop:=∃ls i,s=(ls,some i)/\ls.length=g/\Bits ls/\i<b/\2 ^ g*i+val ls=t
theorem At.inj{s s':Stn}{t:Nat}(h:At g b s t)(h':At g b s' t):s=s':=by
 obtain⟨ls,i,rfl,a1,a2,a3,a4⟩:=h
 obtain⟨ms,j,rfl,b1,b2,b3,b4⟩:=h'
 have v1:=zc5 a2
 have v2:=zc5 b2
 rw[a1]at v1
 rw[b1]at v2
 have d1:(2 ^ g*i+val ls)/2 ^ g=i:=by rw[veq (by omega),vef v1,ve1]
 have d2:(2 ^ g*j+val ms)/2 ^ g=j:=by rw[veq (by omega),vef v2,ve1]
 rw[a4]at d1
 rw[b4]at d2
 have e:i=j:=d1.symm.trans d2
 subst e
 rw[zod a2 b2 (a1.trans b1.symm) (by omega)]
theorem At.uniq{s:Stn}{t t':Nat}(h:At g b s t)(h':At g b s t'):t=t':=by
 obtain⟨ls,i,rfl,a1,a2,a3,a4⟩:=h
 obtain⟨ms,j,e,b1,b2,b3,b4⟩:=h'
 cases e
 omega
theorem At.next{s:Stn}{t:Nat}(h:At g b s t)(ht:t+1<2 ^ g*b):∃s',nextS (chain g b nm es la) s=some s'/\At g b s' (t+1):=by
 obtain⟨ls,i,rfl,a1,a2,a3,a4⟩:=h
 refine⟨_,(zi7 a3 a1 a2).1,?_⟩
 obtain⟨i1,i2,i3,i4⟩:=zkk a2
 cases z:(inc ls).2
 .have:=i4 z
  exact⟨_,i,rfl,i1.trans a1,i2,a3,by omega⟩
 .obtain⟨h1,h2⟩:=i3 z
  rw[a1]at h1
  have hb:i+1≠b:=λe=>by
   have:2 ^ g* (i+1)=2 ^ g*b:=by rw[e]
   rw[vcs]at this
   omega
  refine⟨_,i+1,?_,i1.trans a1,i2,by omega,?_⟩
  .simp[hb]
  .rw[h2,vcs];omega
theorem At.last{s:Stn}{t:Nat}(h:At g b s t)(ht:t+1=2 ^ g*b):∃ls,nextS (chain g b nm es la) s=some (ls,la)/\ls.length=g/\Bits ls/\val ls=0:=by
 obtain⟨ls,i,rfl,a1,a2,a3,a4⟩:=h
 have:=(zi7 (nm:=nm) (es:=es) (la:=la) a3 a1 a2).1
 obtain⟨i1,i2,i3,i4⟩:=zkk a2
 have hv:=zc5 a2
 rw[a1]at hv
 have hb:i+1=b:=by
  rcases vcp (i+1) b with h|h
  .have:=vby (2 ^ g) (show i+2<=b from h)
   rw[vcs]at this
   omega
  .omega
 have hz:(inc ls).2=true:=by
  cases z:(inc ls).2
  .have q:=i4 z
   have:=zc5 i2
   rw[i1,a1,q]at this
   rw[<-hb,vcs]at ht
   omega
  .rfl
 rw[hz]at this
 simp only[vbe,if_pos hb]at this
 exact⟨_,this,i1.trans a1,i2,(i3 hz).2⟩
theorem At.name{s:Stn}{t:Nat}(h:At g b s t):nmS (chain g b nm es la) s=.int (fnd g nm es t):=by
 obtain⟨ls,i,rfl,a1,a2,a3,a4⟩:=h
 rw[<-a4];exact zx8 a3 a1 a2
end
theorem zr2{wd g:Int}:∀{r:List W} {c:Int},(∀j w,r[j]?=some w->zax w (c+ (j:Nat)) wd g=true)->rowOk wd g c r
 |[],_,_=>trivial
 |w::r,c,h=>⟨by have:=h 0 w rfl;rwa [show c+ ((0:Nat):Int)=c by omega]at this,zr2 λj w' e=>by have:=h (j+1) w' e;rwa [show c+ ((j+1:Nat):Int)=c+1+ (j:Int) by omega]at this⟩
section
variable{g b:Nat}{nm:Int}{es:List Int}{la:Option Nat}
theorem ch_ok(hg:g<=8)(b1:1<=b)(b4:b<=4)(hn:0<=nm/\nm<=99)(he:∀e∈es,0<=e/\e<=99)(hla:la=none\/la=some 0):(chain g b nm es la).Ok:=by
 have hw1:(g+2)*1<=(g+2)*b:=vby _ b1
 have hw2:(g+2)*b<=10*4:=vdg (by omega) b4
 refine⟨?_,?_,?_,?_,?_,?_,?_,?_,?_,?_,?_⟩
 .show(1:Int)<=((g+2)*b:Nat);omega
 .show(((g+2)*b:Nat):Int)<=40;omega
 .show(0:Int)<=(g:Int);omega
 .show(g:Int)<=8;omega
 .show((List.range' 0 g).map (chRow g b)).length<=60;simp;omega
 .intro r hr
  obtain⟨k,hk,rfl⟩:=va6.mp (show r∈(List.range' 0 g).map (chRow g b)from hr)
  have hk:k<g:=by have:=List.mem_range'_1.mp hk;omega
  refine⟨by simp[chRow,chain],zr2 λj w e=>?_⟩
  unfold chRow at e
  have hj:j< (g+2)*b:=by
   have:=(vau.mp e).1
   simpa using this
  rw[vat,vbx hj]at e
  simp only[vaj]at e
  by_cases z:j % (g+2)=1+k
  .rw[if_pos z]at e
   cases e
   have hd:=vdm j (g+2)
   have hq:j/ (g+2)<b:=vdj hj
   have:=vby (g+2) (show j/ (g+2)+1<=b from hq)
   rw[vcs]at this
   have hr:zbk (rkW k) (chain g b nm es la).gr=true:=by
    show zbk (rkW k) (g:Int)=true
    unfold zbk rkW within
    simp
    omega
   unfold zax
   rw[hr,Bool.or_true,if_pos rfl,vab,vaw,vaw]
   show(0:Int)<0+ (j:Int)/\0+ (j:Int)< (((g+2)*b:Nat):Int)-1
   omega
  .rw[if_neg z]at e
   cases e
   first|exact ztz|rfl
 .show 1<=((List.range b).map _).length;simp;omega
 .show((List.range b).map _).length<=4;simp;omega
 .intro f hf
  obtain⟨i,hi,rfl⟩:=va6.mp (show f∈(List.range b).map _ from hf)
  have hi:=vca.mp hi
  have:=zfx (g:=g) (b:=b) (i:=i) (o:=1) (by omega) hi
  show(decide ((0:Int)<=(((g+2)*i+1:Nat):Int))&&decide ((((g+2)*i+1:Nat):Int)<=(((g+2)*b:Nat):Int)-1))=true
  rw[vab,vaw,vaw]
  omega
 .show((((List.range ((g+2)*b)).map _).length:Nat):Int)=_;simp[chain]
 .intro d hd
  obtain⟨c,hc,rfl⟩:=va6.mp (show d∈(List.range ((g+2)*b)).map _ from hd)
  have hc:=vca.mp hc
  have hq:c/ (g+2)<b:=vdj hc
  have hl:(chain g b nm es la).fd.length=b:=by simp[chain]
  rw[hl]
  unfold zdv
  generalize c/ (g+2)=q at hq ⊢
  have hE:0<=es.getD q 0/\es.getD q 0<=99:=by
   rw[vay]
   cases z:es[q]? with
   |none=>exact⟨by decide,by decide⟩
   |some e=>exact he e (vcn z)
  split
  .simp only[door,within,hE.1,hE.2,decide_true,veo,vfr]
   split
   .rcases hla with rfl|rfl
    .rfl
    .simp[optW,fon,within];omega
   .simp[optW,fon,within];omega
  .simp[door,within,fon];omega
theorem zud{s:Stn}{xs:List Stn}(h:s∉xs):posS s 0 xs=none:=by
 cases z:posS s 0 xs with
 |none=>rfl
 |some i=>exact absurd (zoc z) h
theorem zkl{B:Bd}{n:Nat}{xs:List Stn}{s:Stn}(h:s∉xs):everP B (n+1) xs (some s)=everP B n (xs++[s]) (nextS B s):=by
 rw[everP,zud h]
theorem zez{B:Bd}{s:Stn}(n:Nat):∀(m j:Nat),(∀a,a<j+m->nextS B (orb B s a)=some (orb B s (a+1)))->(∀a c,a<c->c<j+m->orb B s a≠orb B s c)->
 everP B (n+m) ((List.range j).map (orb B s)) (some (orb B s j))=everP B n ((List.range (j+m)).map (orb B s)) (some (orb B s (j+m)))
 |0,j,_,_=>rfl
 |m+1,j,hn,hd=>by
  rw[<-vdo,zkl]
  .rw[hn j (by omega),show(List.range j).map (orb B s)++[orb B s j]=(List.range (j+1)).map (orb B s) by rw[List.range_succ,vbm];rfl]
   rw[zez n m (j+1) (λa h=>hn a (by omega)) (λa c h1 h2=>hd a c h1 (by omega)),show j+1+m=j+ (m+1) by omega]
  .intro h
   obtain⟨a,ha,e⟩:=va6.mp h
   exact hd a j (vca.mp ha) (by omega) e
theorem zhw{s:Stn}{t:Nat}(b1:1<=b)(hs:At g b s t):∀j,At g b (orb (chain g b nm es (some 0)) s j) ((t+j) % (2 ^ g*b))/\nextS (chain g b nm es (some 0)) (orb (chain g b nm es (some 0)) s j)=some (orb (chain g b nm es (some 0)) s (j+1)):=by
 have hN:0<2 ^ g*b:=vd6 (vb0 g) b1
 have ht:t<2 ^ g*b:=by
  obtain⟨ls,i,_,a1,a2,a3,a4⟩:=hs
  have:=zc5 a2
  rw[a1]at this
  have h2:=vby (2 ^ g) (show i+1<=b from a3)
  rw[vcs]at h2
  omega
 have step:∀{s':Stn}{u:Nat},At g b s' (u % (2 ^ g*b))->∃s2,nextS (chain g b nm es (some 0)) s'=some s2/\At g b s2 ((u+1) % (2 ^ g*b)):=by
  intro s' u h
  have hu:=vex u hN
  rcases vcp (u % (2 ^ g*b)+1) (2 ^ g*b)with q|q
  .obtain⟨s2,e1,e2⟩:=At.next (nm:=nm) (es:=es) (la:=some 0) h q
   refine⟨s2,e1,?_⟩
   rw[Nat.add_mod,va2 (a:=u % (2 ^ g*b)+1 % (2 ^ g*b))]
   .rw[va2 (a:=1) (by omega)];exact e2
   .rw[va2 (a:=1) (by omega)];exact q
  .have q:u % (2 ^ g*b)+1=2 ^ g*b:=by omega
   obtain⟨ls,e1,e2,e3,e4⟩:=At.last (nm:=nm) (es:=es) (la:=some 0) h q
   refine⟨_,e1,ls,0,rfl,e2,e3,b1,?_⟩
   have hd:=vdm u (2 ^ g*b)
   rw[e4,show u+1=2 ^ g*b* (u/ (2 ^ g*b))+2 ^ g*b by omega,vcm,Nat.mod_self]
   rfl
 have key:∀j,At g b (orb (chain g b nm es (some 0)) s j) ((t+j) % (2 ^ g*b)):=by
  intro j
  induction j with
  |zero=>rw[ve1,va2 ht];exact hs
  |succ j ih=>
   obtain⟨s2,e1,e2⟩:=step ih
   show At g b ((nextS _ (orb (chain g b nm es (some 0)) s j)).getD _) _
   rw[e1]
   exact e2
 intro j
 refine⟨key j,?_⟩
 obtain⟨s2,e1,e2⟩:=step (key j)
 show _=some ((nextS _ (orb (chain g b nm es (some 0)) s j)).getD _)
 rw[e1];rfl
theorem zli{s:Stn}{t:Nat}(b1:1<=b)(hN:2 ^ g*b<=1280)(hs:At g b s t):everP (chain g b nm es (some 0)) 1281 [] (some s)=((List.range (2 ^ g*b)).map (orb (chain g b nm es (some 0)) s),some 0):=by
 have O:=zhw (nm:=nm) (es:=es) b1 hs
 have N0:0<2 ^ g*b:=vd6 (vb0 g) b1
 have ht:t<2 ^ g*b:=by
  have h0:=(O 0).1
  have:=At.uniq h0 (show At g b (orb (chain g b nm es (some 0)) s 0) t from hs)
  rw[<-this];exact vex _ N0
 obtain⟨n,hn⟩:∃n,1281=(n+1)+2 ^ g*b:=⟨1280-2 ^ g*b,by omega⟩
 have hdist:∀a c,a<c->c<0+2 ^ g*b->orb (chain g b nm es (some 0)) s a≠orb (chain g b nm es (some 0)) s c:=by
  intro a c h1 h2 e
  have q1:=(O a).1
  have q2:=(O c).1
  rw[e]at q1
  have q:=At.uniq q1 q2
  have m1:(t+a) % (2 ^ g*b)=if t+a<2 ^ g*b then t+a else t+a-2 ^ g*b:=by
   split
   .rename_i h;exact va2 h
   .rename_i h;rw[ver (by omega),va2 (by omega)]
  have m2:(t+c) % (2 ^ g*b)=if t+c<2 ^ g*b then t+c else t+c-2 ^ g*b:=by
   split
   .rename_i h;exact va2 h
   .rename_i h;rw[ver (by omega),va2 (by omega)]
  rw[m1,m2]at q
  split at q<;>split at q<;>omega
 have w:=zez (B:=chain g b nm es (some 0)) (s:=s) (n+1) (2 ^ g*b) 0 (λa _=>(O a).2) hdist
 rw[hn]
 refine w.trans ?_
 rw[vb9]
 have e0:orb (chain g b nm es (some 0)) s (2 ^ g*b)=s:=by
  have q:=(O (2 ^ g*b)).1
  rw[vc5,va2 ht]at q
  exact At.inj q hs
 rw[e0]
 unfold everP
 obtain⟨m,hm⟩:∃m,2 ^ g*b=m+1:=⟨2 ^ g*b-1,by omega⟩
 have hp:posS s 0 ((List.range (2 ^ g*b)).map (orb (chain g b nm es (some 0)) s))=some 0:=by
  rw[hm,List.range_succ_eq_map,vam]
  unfold posS
  rw[if_pos (show orb (chain g b nm es (some 0)) s 0=s from rfl)]
 rw[hp]
end
section
variable{g b:Nat}{nm:Int}{es:List Int}
theorem At.lt{s:Stn}{t:Nat}(h:At g b s t):t<2 ^ g*b:=by
 obtain⟨ls,i,_,a1,a2,a3,a4⟩:=h
 have:=zc5 a2
 rw[a1]at this
 have h2:=vby (2 ^ g) (show i+1<=b from a3)
 rw[vcs]at h2
 omega
theorem zi8{s:Stn}{t:Nat}(hs:At g b s t):∀j,t+j<2 ^ g*b->At g b (orb (chain g b nm es none) s j) (t+j)
 |0,_=>hs
 |j+1,h=>by
  obtain⟨s2,e1,e2⟩:=At.next (nm:=nm) (es:=es) (la:=none) (zi8 hs j (by omega)) (by omega)
  show At g b ((nextS _ (orb (chain g b nm es none) s j)).getD _) _
  rw[e1]
  exact e2
theorem zqs{s:Stn}{t:Nat}(hN:2 ^ g*b<=1279)(hs:At g b s t):∃ls,everP (chain g b nm es none) 1281 [] (some s)=((List.range (2 ^ g*b-t)).map (orb (chain g b nm es none) s)++[(ls,none)],none):=by
 have ht:=hs.lt
 have O:=zi8 (nm:=nm) (es:=es) hs
 obtain⟨m,hm⟩:∃m,2 ^ g*b-t=m+1:=⟨2 ^ g*b-t-1,by omega⟩
 have hl:=O m (by omega)
 obtain⟨ls,e1,e2,e3,e4⟩:=At.last (nm:=nm) (es:=es) (la:=none) hl (by omega)
 have hnx:∀a,a<0+ (m+1)->nextS (chain g b nm es none) (orb (chain g b nm es none) s a)=some (orb (chain g b nm es none) s (a+1)):=by
  intro a ha
  show _=some ((nextS _ (orb (chain g b nm es none) s a)).getD _)
  rcases vcp a m with h|h
  .obtain⟨s2,q1,q2⟩:=At.next (nm:=nm) (es:=es) (la:=none) (O a (by omega)) (by omega)
   rw[q1];rfl
  .rw[show a=m by omega,e1];rfl
 have hdist:∀a c,a<c->c<0+ (m+1)->orb (chain g b nm es none) s a≠orb (chain g b nm es none) s c:=by
  intro a c h1 h2 e
  have q1:=O a (by omega)
  have q2:=O c (by omega)
  rw[e]at q1
  have:=At.uniq q1 q2
  omega
 obtain⟨n,hn⟩:∃n,1281=(n+2)+ (m+1):=⟨1278-m,by omega⟩
 have w:=zez (B:=chain g b nm es none) (s:=s) (n+2) (m+1) 0 hnx hdist
 refine⟨ls,?_⟩
 rw[hn]
 refine w.trans ?_
 rw[vb9,hm]
 have eo:orb (chain g b nm es none) s (m+1)=(ls,none):=by
  show(nextS _ (orb (chain g b nm es none) s m)).getD _=_
  rw[e1];rfl
 rw[eo]
 rw[zkl]
 .show everP _ (n+1) _ none=_
  rfl
 .intro h
  obtain⟨a,ha,e⟩:=va6.mp h
  obtain⟨ms,i,q,_⟩:=O a (by have:=vca.mp ha;omega)
  rw[e]at q
  cases q
noncomputable def turned(g b:Nat)(nm:Int)(es:List Int)(t:Nat):List Int:=(List.range (2 ^ g*b)).map λ(j:Nat)=>fnd g nm es ((t+j) % (2 ^ g*b))
noncomputable def rnd(g b:Nat)(nm:Int)(es:List Int)(t j:Nat):Int:=fnd g nm es ((t+j) % (2 ^ g*b))
theorem zdj{t:Nat}:(turned g b nm es t).length=2 ^ g*b:=by simp[turned]
theorem zgr{t:Nat}(N0:0<2 ^ g*b):(λj=>zaq (turned g b nm es t) 0 (2 ^ g*b) (0+j))=rnd g b nm es t:=by
 funext j
 unfold zaq rnd turned
 rw[if_neg (by omega),vay,vat,vb9,vbx (by have:=vex (0+j-0) N0;omega)]
 simp
theorem zx9{t:Nat}:Prd (rnd g b nm es t) (2 ^ g*b):=λj=>by
 unfold rnd
 rw[<-vdo,vc5]
theorem zue{t:Nat}(h:fnd g nm es t≠nm):t % 2 ^ g+1=2 ^ g:=by
 unfold fnd at h
 split at h
 .assumption
 .exact absurd rfl h
theorem ze0{i:Nat}:fnd g nm es (2 ^ g*i+ (2 ^ g-1))=es.getD i 0:=by
 have:=vb0 g
 unfold fnd
 rw[vcm,va2 (by omega),if_pos (by omega),veq (by omega),vef (by omega),ve1]
theorem ze1{x:Nat}:x % (2 ^ g*b) % 2 ^ g=x % 2 ^ g:=Nat.mod_mul_right_mod ..
theorem zi9{t q:Nat}(b1:1<=b)(hl:es.length=b)(hne:∃e∈es,e≠nm)(h:Prd (rnd g b nm es t) q):∃p,q=2 ^ g*p/\∀i,es.getD ((i+p) % b) 0=es.getD (i % b) 0:=by
 have M0:=vb0 g
 have N0:0<2 ^ g*b:=vd6 M0 b1
 have hp:∀x,fnd g nm es ((x+q) % (2 ^ g*b))=fnd g nm es (x % (2 ^ g*b)):=by
  intro x
  have k:=h (x+ (2 ^ g*b*t-t))
  unfold rnd at k
  have hge:t<=2 ^ g*b*t:=Nat.le_mul_of_pos_left _ N0
  rw[show t+ (x+ (2 ^ g*b*t-t)+q)=2 ^ g*b*t+ (x+q) by omega,show t+ (x+ (2 ^ g*b*t-t))=2 ^ g*b*t+x by omega,vcm,vcm]at k
  exact k
 obtain⟨e,he,hn⟩:=hne
 obtain⟨i,hi⟩:=List.mem_iff_getElem?.mp he
 have hib:i<b:=by rw[<-hl];exact(vau.mp hi).1
 have hei:es.getD i 0=e:=by rw[vay,hi];rfl
 have lt:∀i,i<b->2 ^ g*i+ (2 ^ g-1)<2 ^ g*b:=λi hi=>by
  have:=vby (2 ^ g) (show i+1<=b from hi)
  rw[vcs]at this;omega
 have k:=hp (2 ^ g*i+ (2 ^ g-1))
 rw[va2 (lt i hib),ze0,hei]at k
 have d:=zue (g:=g) (nm:=nm) (es:=es) (by rw[k];exact hn)
 rw[ze1,vdo,vcm]at d
 have hq:q % 2 ^ g=0:=by
  have e1:=vdm q (2 ^ g)
  have e2:=vex q M0
  rw[<-e1,show 2 ^ g-1+ (2 ^ g* (q/2 ^ g)+q % 2 ^ g)=2 ^ g* (q/2 ^ g)+ (2 ^ g-1+q % 2 ^ g) by omega,vcm]at d
  rcases Nat.eq_zero_or_pos (q % 2 ^ g)with z|z
  .exact z
  .rw[ver (by omega),va2 (by omega)]at d
   omega
 refine⟨q/2 ^ g,(by have:=vdm q (2 ^ g);omega),λj=>?_⟩
 have e1:q=2 ^ g* (q/2 ^ g):=by have:=vdm q (2 ^ g);omega
 generalize q/2 ^ g=p at *
 have blk:∀x,(2 ^ g*x+ (2 ^ g-1)) % (2 ^ g*b)=2 ^ g* (x % b)+ (2 ^ g-1):=by
  intro x
  have dx:=vdm x b
  have:2 ^ g*x=2 ^ g*b* (x/b)+2 ^ g* (x % b):=by
   conv=>lhs;rw[<-dx]
   rw[vcs,Nat.mul_assoc]
  rw[this,vdo,vcm,va2 (lt _ (vex _ b1))]
 have k:=hp (2 ^ g*j+ (2 ^ g-1))
 rw[show 2 ^ g*j+ (2 ^ g-1)+q=2 ^ g* (j+p)+ (2 ^ g-1) by rw[vcs];omega,blk,blk,ze0,ze0]at k
 exact k
theorem zoe{t p:Nat}(b1:1<=b)(h:∀i,es.getD ((i+p) % b) 0=es.getD (i % b) 0):Prd (rnd g b nm es t) (2 ^ g*p):=by
 have M0:=vb0 g
 intro j
 unfold rnd
 have key:∀x,fnd g nm es (x % (2 ^ g*b))=if x % 2 ^ g+1=2 ^ g then es.getD (x/2 ^ g % b) 0 else nm:=λx=>by
  unfold fnd
  rw[ze1,Nat.mod_mul_right_div_self]
 rw[key,key,show t+ (j+2 ^ g*p)=t+j+2 ^ g*p by omega,Nat.add_mul_mod_self_left,Nat.add_mul_div_left _ _ M0]
 split
 .exact h _
 .rfl
theorem zqt{t:Nat}(h:∀e∈es,e=nm)(hl:es.length=b)(b1:1<=b):Prd (rnd g b nm es t) 1:=by
 have M0:=vb0 g
 have N0:0<2 ^ g*b:=vd6 M0 b1
 have key:∀x,fnd g nm es (x % (2 ^ g*b))=nm:=λx=>by
  unfold fnd
  split
  .have hq:x % (2 ^ g*b)/2 ^ g<es.length:=by rw[hl];exact vdj (vex _ N0)
   rw[vay,vaq hq]
   exact h _ (vdr hq)
  .rfl
 intro j
 unfold rnd
 rw[key,key]
end
structure CoreO(F:Nat->Option Fn):Prop extends CoreF F,CoreH F,CoreE F where
 f200:F 200=some fn200
 f203:F 203=some fn203
 f269:F 269=some fn269
noncomputable def outS(B:Bd)(s:Stn):W:=match s.2 with
 |none=>.non
 |some f=>outD B s.1 f
noncomputable def papW(E:List Stn×Option Nat):W:=.tup [.tup (E.1.map stW),backW E.2]
theorem zja{cl:Call}{a c e:E}{t:Tg}{ρ:En}{h h1 h2:VH}{x:W}{ow:Nat}{ix:List Nat}{ys:List W}(ea:ev cl a ρ h=.ok x h1)(el:lcG (nxt .seq x) (tgW t) (ev cl c) (ev cl e) fuel 0 (inner ow ix ρ) h1 []=.ok ys h2)(hy:ys.length<=1000000):ev cl (.lc .seq a t ow ix c e) ρ h=.ok (.ref h2.n) (h2.new (.lst ys)):=by
 rw[ev,ea,bindok,el,bindok,if_pos (zb1 hy)]
section
variable{F:Nat->Option Fn}(C:CoreO F)
include C
theorem zhx{k:Nat}{h:VH}{B:Bd}{E:List Stn×Option Nat}(b:B.Ok)(g:∀s∈E.1,GoodS B s)(hlen:E.1.length<=1280) :
 ∃x,exs (run F (k+4)) (.seq (.unp [2,3] (.var 1)) (.seq (.set 4 (.lc .seq (.var 2) (.many [0,1]) 2 [0] zc0 zd6)) (.seq (.set 5 (.bi .tuple (.cons (.lc .seq (.var 4) (.many [0,1]) 2 [] zc1 zd7) .nil))) .skip))) [some B.w,some (papW E),none,none,none,none] ⟨h.n,h.n,h.os⟩=.ok (.nx [some B.w,some (papW E),some (.tup (E.1.map stW)),some (backW E.2),x,some (.tup ((E.1.map (nmS B)).filter nnW))]) ((VH.new ⟨h.n,h.n,h.os⟩ (.lst ((E.1.filter λs=>s.2.isSome).map (outS B)))).new (.lst ((E.1.map (nmS B)).filter nnW))):=by
 have hf:fuel=1000000:=rfl
 have l1:=zd9 (nx:=nxt .seq (.tup (E.1.map stW))) (c:=ev (run F (k+4)) zc0) (e:=ev (run F (k+4)) zd6) (h:=⟨h.n,h.n,h.os⟩) (u:=stW) (tl:=[some B.w]) (p:=λs:Stn=>s.2.isSome) (f:=outS B) (zs:=E.1) (λi=>rfl) (λs hs=>by
  obtain⟨ls,fo⟩:=s
  obtain⟨hl,bi,hf⟩:=g _ hs
  refine⟨iW ls,optW fo,rfl,by cases fo<;>simp[zc0,ev,cmpW,isNon,optW],λhp=>?_⟩
  cases fo with
  |none=>cases hp
  |some f=>
   have e:=zhr C.toCoreE (k:=k) (h:=⟨h.n,h.n,h.os⟩) b (hf f rfl) hl bi
   exact idxE (zny (varE rfl) (varE rfl) (varE rfl) rfl e) rfl rfl) fuel 0 none none [] (vbw _) (by omega)
 rw[vcv,vee,vb8]at l1
 have e1:=zja (cl:=run F (k+4)) (a:=.var 2) (c:=zc0) (e:=zd6) (t:=.many [0,1]) (ρ:=[some B.w,some (papW E),some (.tup (E.1.map stW)),some (backW E.2),none,none]) (h:=⟨h.n,h.n,h.os⟩) (ow:=2) (ix:=[0]) (varE rfl) l1 (by rw[vad];have:=vd7 (λs:Stn=>s.2.isSome) E.1;omega)
 generalize hds:(E.1.filter λs=>s.2.isSome)=zs at e1 ⊢
 have gz:(VH.new ⟨h.n,h.n,h.os⟩ (.lst (zs.map (outS B)))).get h.n=some (.lst (zs.map (outS B))):=zad (h:=⟨h.n,h.n,h.os⟩)
 have hz:zs.length<=1280:=by rw[<-hds];have:=vd7 (λs:Stn=>s.2.isSome) E.1;omega
 have l2:=zd9 (nx:=nxt .seq (.ref h.n)) (c:=ev (run F (k+4)) zc1) (e:=ev (run F (k+4)) zd7) (h:=VH.new ⟨h.n,h.n,h.os⟩ (.lst (zs.map (outS B)))) (u:=outS B) (tl:=[]) (p:=λs:Stn=>nnW (nmS B s)) (f:=nmS B) (zs:=zs) (λi=>by simp only[nxt,seqW,gz];rfl) (λs hs=>by
  rw[<-hds]at hs
  obtain⟨hs,hp⟩:=List.mem_filter.mp hs
  obtain⟨ls,fo⟩:=s
  obtain⟨hl,bi,hf⟩:=g _ hs
  cases fo with
  |none=>cases hp
  |some f=>
   obtain⟨oe,_⟩:=zc3 b (hf f rfl) hl bi
   refine⟨nameP B ls f,optW (callO B ls f),oe,?_,λ_=>rfl⟩
   simp[zc1,ev,cmpW,zbj,nnW,nmS]) fuel 0 none none [] (vbw _) (by omega)
 rw[vcv,vee,vb8,<-hds,zdu,hds]at l2
 have hN:((E.1.map (nmS B)).filter nnW).length<=1000000:=by have:=vd7 nnW (E.1.map (nmS B));rw[vad]at this;omega
 have e2:=zja (cl:=run F (k+4)) (a:=.var 4) (c:=zc1) (e:=zd7) (t:=.many [0,1]) (ρ:=[some B.w,some (papW E),some (.tup (E.1.map stW)),some (backW E.2),some (.ref h.n),none]) (h:=VH.new ⟨h.n,h.n,h.os⟩ (.lst (zs.map (outS B)))) (ow:=2) (ix:=[]) (varE rfl) l2 hN
 refine⟨some (.ref h.n),?_⟩
 refine(zaa (ρ':=[some B.w,some (papW E),some (.tup (E.1.map stW)),some (backW E.2),none,none]) (h':=⟨h.n,h.n,h.os⟩) rfl).trans ?_
 refine(zaa (setE e1)).trans ?_
 refine(zaa (setE (zj8 e2 zad))).trans ?_
 rfl
omit C in
theorem zhy{cl:Call}{a b c d:S}{ρ ρ':En}{h h':VH}(e:exs cl (.seq a (.seq b (.seq c .skip))) ρ h=.ok (.nx ρ') h'):exs cl (.seq a (.seq b (.seq c d))) ρ h=exs cl d ρ' h':=by
 simp only[exs]at e ⊢
 cases h1:exs cl a ρ h with
 |no=>rw[h1]at e;cases e
 |ex x g=>rw[h1]at e;cases e
 |ok fl g=>
  rw[h1,bindok]at e
  rw[bindok]
  cases fl with
  |nx ρ1=>
   simp only at e ⊢
   cases h2:exs cl b ρ1 g with
   |no=>rw[h2]at e;cases e
   |ex x g=>rw[h2]at e;cases e
   |ok fl g=>
    rw[h2,bindok]at e
    rw[bindok]
    cases fl with
    |nx ρ2=>
     simp only at e ⊢
     cases h3:exs cl c ρ2 g with
     |no=>rw[h3]at e;cases e
     |ex x g=>rw[h3]at e;cases e
     |ok fl g=>
      rw[h3,bindok]at e
      rw[bindok]
      cases fl with
      |nx ρ3=>cases e;rfl
      |_=>cases e
    |_=>cases e
  |_=>cases e
theorem zof{k:Nat}{h:VH}{B:Bd}{E:List Stn×Option Nat}(b:B.Ok)(g:∀s∈E.1,GoodS B s)(hlen:E.1.length<=1280)(hE:E.2=none)(hlt:∀n,W.lts n ((E.1.map (nmS B)).filter nnW)=true) :
 run F (k+5) 200 [B.w,papW E] h=.ok (.tup [.tup ((E.1.map (nmS B)).filter nnW),.tup []]) h:=by
 rw[zak C.f200 rfl]
 obtain⟨x,e1⟩:=zhx C (k:=k) (h:=h) b g hlen
 have eb:exs (run F (k+4)) fn200.body [some B.w,some (papW E),none,none,none,none] ⟨h.n,h.n,h.os⟩=.ok (.rt (.tup [.tup ((E.1.map (nmS B)).filter nnW),.tup []])) ((VH.new ⟨h.n,h.n,h.os⟩ (.lst ((E.1.filter λs=>s.2.isSome).map (outS B)))).new (.lst ((E.1.map (nmS B)).filter nnW))):=by
  refine(zhy e1).trans ?_
  refine zae ?_
  refine(iteT (h1:=(VH.new ⟨h.n,h.n,h.os⟩ (.lst ((E.1.filter λs=>s.2.isSome).map (outS B)))).new (.lst ((E.1.map (nmS B)).filter nnW))) (by rw[hE];rfl)).trans ?_
  exact zae (retE (tup2E (varE rfl) rfl))
 show fin h (exs (run F (k+4)) fn200.body [some B.w,some (papW E),none,none,none,none] ⟨h.n,h.n,h.os⟩)=_
 rw[eb]
 exact zai (vae _) (by simp[hlt])
theorem zog{k:Nat}{h:VH}{B:Bd}{E:List Stn×Option Nat}{v:List Int}{i q:Nat}(b:B.Ok)(g:∀s∈E.1,GoodS B s)(hlen:E.1.length<=1280)(hE:E.2=some i)(hv:E.1.map (nmS B)=v.map .int)(hi:i<v.length)(L:Least (λj=>zaq v i (v.length-i) (i+j)) (v.length-i) q) :
 run F (k+5) 200 [B.w,papW E] h=.ok (.tup [iW (seg (zaq v i (v.length-i)) 0 (leadP (zaq v i (v.length-i)) q i)),iW (seg (zaq v i (v.length-i)) (leadP (zaq v i (v.length-i)) q i) q)]) h:=by
 rw[zak C.f200 rfl]
 obtain⟨x,e1⟩:=zhx C (k:=k) (h:=h) b g hlen
 rw[hv,zfw]at e1
 have hvl:v.length=E.1.length:=by have:=vey List.length hv;rw[vad,vad]at this;exact this.symm
 generalize hR:v.length-i=R at *
 have hvR:v.length=i+R:=by omega
 have hseg:=zfs hvR
 generalize hh2:(VH.new ⟨h.n,h.n,h.os⟩ (.lst ((E.1.filter λs=>s.2.isSome).map (outS B)))).new (.lst (v.map .int))=h2 at e1
 have t1:v.take i=seg (zaq v i R) 0 i:=by
  have:=zc4 (zaq v i R) (a:=0) (show i<=i+R by omega)
  rw[hseg]at this;exact this
 have t2:v.drop i=seg (λj=>zaq v i R (i+j)) 0 R:=by
  have:=zqn (zaq v i R) (a:=0) (show i<=i+R by omega)
  rw[hseg,show i+R-i=R by omega]at this
  rw[this]
  exact zb3 λj _=>by rw[vb9,vb9]
 have t3:seg (λj=>zaq v i R (i+j)) 0 q=seg (zaq v i R) i q:=zb3 λj _=>by rw[vb9]
 have e2:=zgq C.toCoreF (k:=k+3) (h:=h2) (zn9 v i R) (by omega) (by omega) L
 rw[t3]at e2
 have q0:=L.q0
 have q1:=L.q1
 have e3:=zqq C.toCoreF (k:=k+3) (h:=h2) (f:=zaq v i R) (a:=i) q0 (by omega) (by omega)
 have eb:exs (run F (k+4)) fn200.body [some B.w,some (papW E),none,none,none,none] ⟨h.n,h.n,h.os⟩=.ok (.rt (.tup [iW (seg (zaq v i R) 0 (leadP (zaq v i R) q i)),iW (seg (zaq v i R) (leadP (zaq v i R) q i) q)])) h2:=by
  refine(zhy e1).trans ?_
  refine(zaa (ρ':=[some B.w,some (papW E),some (.tup (E.1.map stW)),some (backW E.2),x,some (.tup (v.map .int))]) (h':=h2) ?_).trans ?_
  .exact(iteF (h1:=h2) (by rw[hE];rfl)).trans rfl
  .refine zae (retE ?_)
   have s1:ev (run F (k+4)) (.slc (.var 5) false (.cst .non) true (.var 3)) [some B.w,some (papW E),some (.tup (E.1.map stW)),some (backW E.2),x,some (.tup (v.map .int))] h2=.ok (iW (seg (zaq v i R) 0 i)) h2:=slcE (varE rfl) rfl (varE rfl) rfl (show partW true (backW E.2)=some (some (i:Int)) by rw[hE];rfl) (by
    rw[slcW_tup,zb4 (by rw[vad];omega),<-vdq,t1];rfl)
   have s2:ev (run F (k+4)) (.slc (.var 5) true (.var 3) false (.cst .non)) [some B.w,some (papW E),some (.tup (E.1.map stW)),some (backW E.2),x,some (.tup (v.map .int))] h2=.ok (iW (seg (λj=>zaq v i R (i+j)) 0 R)) h2:=slcE (varE rfl) (varE rfl) rfl (show partW true (backW E.2)=some (some (i:Int)) by rw[hE];rfl) rfl (by
    rw[slcW_tup,zi5 (by rw[vad];omega),<-vfs,t2];rfl)
   exact za3 s1 (zrz s2 e2) e3
 show fin h (exs (run F (k+4)) fn200.body [some B.w,some (papW E),none,none,none,none] ⟨h.n,h.n,h.os⟩)=_
 rw[eb]
 refine zai ?_ (by simp[iW_lt])
 rw[<-hh2];exact vae _
end
theorem zck{h:VH}{c:Nat}{ws:List W}{l u:Option Int}(g:h.get c=some (.lst ws)):slcW (.ref c) l u h=.ok (.ref h.n) (h.new (.lst (cutW ws l u))):=by
 simp only[slcW,g]
theorem Dk.lt{h:VH}{d c b:Nat}(D:Dk h d c b):d<h.n/\c<h.n:=by
 obtain⟨ne,ns,cells,p,q,a1,a2,a3⟩:=D
 exact⟨zam a1,zam a2⟩
theorem zhz{h:VH}{i j:Nat}{ws:List W}{w:W}(g:h.get i=some (.lst ws))(e:ws[j]?=some w):idxW h (.ref i) (.int (j:Int))=some w:=by
 simp only[idxW,g]
 exact zbv e
noncomputable def zkm:S:=(.seq (.put (.var 7) (.op .add (.op .add (.op .mul (.var 4) (.var 8)) (.cst (.int (1)))) (.var 6)) (.tup (.cons (.var 6) (.cons (.cst (.int (0))) .nil)))) .skip)
noncomputable def zkn:S:=(.seq (.set 7 (.op .mul (.lst (.cons (.cst (.str (PySem.Str.ofString "."))) .nil)) (.op .mul (.var 4) (.var 1)))) (.seq (.«for» .rng1 (.cons (.var 1) .nil) (.one 8) zkm) (.seq (.expr (.mt .append (.var 5) (.cons (.bi .tuple (.cons (.var 7) .nil)) .nil))) .skip)))
noncomputable def zko:S:=(.seq (.set 9 (.op .add (.var 9) (.op .mul (.lst (.cons (.tup (.cons (.idx (.var 2) (.cst (.int (0)))) (.cons (.var 8) .nil))) .nil)) (.op .add (.var 0) (.cst (.int (1))))))) (.seq (.set 10 (.op .mod (.op .add (.var 8) (.cst (.int (1)))) (.var 1))) (.seq (.ite (.cmp .eq (.var 8) (.op .sub (.var 1) (.cst (.int (1))))) (.seq (.set 10 (.var 3)) .skip) .skip) (.seq (.expr (.mt .append (.var 9) (.cons (.tup (.cons (.idx (.var 2) (.op .add (.cst (.int (1))) (.var 8))) (.cons (.var 10) .nil))) .nil))) .skip))))
noncomputable def zgs:E:=(.op .add (.op .mul (.var 1) (.var 0)) (.cst (.int (1))))
noncomputable def fn130:Fn:=⟨4,12,(.seq (.set 4 (.op .add (.var 0) (.cst (.int (2))))) (.seq (.set 5 (.lst .nil)) (.seq (.«for» .rng1 (.cons (.var 0) .nil) (.one 6) zkn) (.seq (.set 9 (.lst .nil)) (.seq (.«for» .rng1 (.cons (.var 1) .nil) (.one 8) zko) (.seq (.set 11 (.bi .tuple (.cons (.lc .rng1 (.cons (.var 1) .nil) (.one 0) 1 [4] (.cst (.bl true)) zgs) .nil))) (.seq (.ret (.tup (.cons (.op .mul (.var 4) (.var 1)) (.cons (.var 0) (.cons (.bi .tuple (.cons (.var 5) .nil)) (.cons (.var 11) (.cons (.bi .tuple (.cons (.var 9) .nil)) .nil))))))) .skip)))))))⟩
noncomputable def zcl:S:=(.seq (.set 6 (.op .add (.var 6) (.var 6))) .skip)
noncomputable def zbq:S:=(.seq (.set 8 (.op .add (.op .add (.var 8) (.op .mul (.lst (.cons (.var 3) .nil)) (.op .sub (.var 6) (.cst (.int (1)))))) (.lst (.cons (.var 9) .nil)))) .skip)
noncomputable def zbr:S:=(.seq (.ite (.and (.cmp .eq (.op .mod (.bi .len (.cons (.var 4) .nil)) (.var 12)) (.cst (.int (0)))) (.cmp .eq (.var 4) (.slc (.op .mul (.slc (.var 4) false (.cst .non) true (.var 12)) (.bi .len (.cons (.var 4) .nil))) false (.cst .non) true (.bi .len (.cons (.var 4) .nil))))) (.seq (.set 11 (.bi .min (.cons (.var 11) (.cons (.op .mul (.var 6) (.var 12)) .nil)))) .skip) .skip) .skip)
noncomputable def zbb:E:=(.cmp .ne (.var 0) (.var 1))
noncomputable def zbc:E:=(.var 0)
noncomputable def zbs:Fn:=⟨6,14,(.seq (.set 6 (.cst (.int (1)))) (.seq (.«for» .rng1 (.cons (.var 2) .nil) (.one 7) zcl) (.seq (.set 8 (.lst .nil)) (.seq (.«for» .seq (.var 4) (.one 9) zbq) (.seq (.set 10 (.op .add (.op .mul (.var 6) (.var 1)) (.var 0))) (.seq (.ite (.cmp .isn (.var 5) (.cst .non)) (.seq (.ret (.tup (.cons (.bi .tuple (.cons (.slc (.var 8) true (.var 10) false (.cst .non)) .nil)) (.cons (.tup .nil) .nil)))) .skip) .skip) (.seq (.set 11 (.op .mul (.var 6) (.bi .len (.cons (.var 4) .nil)))) (.seq (.«for» .rng2 (.cons (.cst (.int (1))) (.cons (.bi .len (.cons (.var 4) .nil)) .nil)) (.one 12) zbr) (.seq (.ite (.cmp .eq (.lc .seq (.var 8) (.one 0) 1 [3] zbb zbc) (.lst .nil)) (.seq (.set 11 (.cst (.int (1)))) .skip) .skip) (.seq (.set 13 (.op .add (.slc (.var 8) true (.var 10) false (.cst .non)) (.slc (.var 8) false (.cst .non) true (.var 10)))) (.seq (.ret (.tup (.cons (.tup .nil) (.cons (.bi .tuple (.cons (.slc (.var 13) false (.cst .non) true (.var 11)) .nil)) .nil)))) .skip)))))))))))⟩
noncomputable def zcm:E:=(.call 5 (.cons (.var 1) (.cons (.cst (.int (2))) .nil)))
noncomputable def ze2:S:=(.seq (.set 12 (.op .add (.op .mul (.cst (.int (2))) (.var 12)) (.var 13))) .skip)
noncomputable def zea:Fn:=⟨1,16,(.seq (.set 1 (.call 3 (.cons (.var 0) .nil))) (.seq (.set 2 (.idx (.lst (.cons (.call 5 (.cons (.var 1) (.cons (.cst (.int (9))) .nil))) (.cons (.cst (.int (8))) (.cons (.call 5 (.cons (.var 1) (.cons (.cst (.int (4))) .nil))) .nil)))) (.call 5 (.cons (.var 1) (.cons (.cst (.int (3))) .nil))))) (.seq (.set 3 (.op .add (.cst (.int (1))) (.call 5 (.cons (.var 1) (.cons (.cst (.int (4))) .nil))))) (.seq (.set 4 (.call 5 (.cons (.var 1) (.cons (.cst (.int (100))) .nil)))) (.seq (.set 5 (.call 5 (.cons (.var 1) (.cons (.cst (.int (100))) .nil)))) (.seq (.set 6 (.call 5 (.cons (.var 1) (.cons (.cst (.int (100))) .nil)))) (.seq (.set 7 (.lst (.cons (.op .mul (.lst (.cons (.var 5) .nil)) (.cst (.int (4)))) (.cons (.op .mul (.lst (.cons (.var 5) (.cons (.var 6) .nil))) (.cst (.int (2)))) (.cons (.op .mul (.lst (.cons (.var 4) .nil)) (.cst (.int (4)))) (.cons (.lst (.cons (.var 5) (.cons (.var 5) (.cons (.var 5) (.cons (.var 6) .nil))))) (.cons (.lst (.cons (.var 5) (.cons (.var 6) (.cons (.var 5) (.cons (.var 5) .nil))))) .nil))))))) (.seq (.set 8 (.slc (.idx (.var 7) (.call 5 (.cons (.var 1) (.cons (.cst (.int (5))) .nil)))) false (.cst .non) true (.var 3))) (.seq (.set 9 (.idx (.lst (.cons (.cst (.int (0))) (.cons (.cst .non) .nil))) (.op .fdiv (.call 5 (.cons (.var 1) (.cons (.cst (.int (4))) .nil))) (.cst (.int (3)))))) (.seq (.set 10 (.call 130 (.cons (.var 2) (.cons (.var 3) (.cons (.op .add (.lst (.cons (.var 4) .nil)) (.var 8)) (.cons (.var 9) .nil)))))) (.seq (.set 11 (.bi .tuple (.cons (.lc .rng1 (.cons (.var 2) .nil) (.one 0) 1 [1] (.cst (.bl true)) zcm) .nil))) (.seq (.set 12 (.cst (.int (0)))) (.seq (.«for» .rev (.var 11) (.one 13) ze2) (.seq (.set 14 (.tup (.cons (.var 11) (.cons (.call 5 (.cons (.var 1) (.cons (.var 3) .nil))) .nil)))) (.seq (.set 15 (.call 700 (.cons (.var 12) (.cons (.idx (.var 14) (.cst (.int (1)))) (.cons (.var 2) (.cons (.var 4) (.cons (.var 8) (.cons (.var 9) .nil)))))))) (.seq (.ite (.not (.tru (.call 92 (.cons (.call 203 (.cons (.var 10) (.cons (.var 14) .nil))) (.cons (.var 15) .nil))))) (.seq (.ret (.cst (.bl false))) .skip) .skip) (.seq (.ret (.cmp .isn (.call 269 (.cons (.var 10) (.cons (.var 14) (.cons (.call 184 (.cons (.var 10) (.cons (.var 14) .nil))) (.cons (.var 15) .nil))))) (.cst (.bl true)))) .skip)))))))))))))))))⟩
noncomputable def Pl(w:W):Prop:=∀n,W.lt n w=true
theorem Pl.tup{ws:List W}(h:∀w∈ws,Pl w):Pl (.tup ws):=λn=>by
 rw[lt_tup]
 induction ws with
 |nil=>rfl
 |cons a r ih=>
  rw[lts_cons,h a (van ..),ih λw hw=>h w (vag _ hw)]
  rfl
theorem Pl.int{i:Int}:Pl (.int i):=λ_=>lt_int
theorem Pl.str{i:Str}:Pl (.str i):=λ_=>lt_str
theorem Pl.non:Pl .non:=λ_=>lt_non
structure Up(b:Nat)(h h':VH):Prop where
 le:h.n<=h'.n
 lo:∀x,x<=b->x<=h.lo->x<=h'.lo
 get:∀i o,i<b->h.get i=some o->h'.get i=some o
theorem Up.refl{b:Nat}{h:VH}:Up b h h:=⟨vae _,λ_ _ e=>e,λ_ _ _ e=>e⟩
theorem Up.trans{b:Nat}{h h1 h2:VH}(a:Up b h h1)(c:Up b h1 h2):Up b h h2:=⟨vbs a.le c.le,λx y z=>c.lo x y (a.lo x y z),λi o hi e=>c.get i o hi (a.get i o hi e)⟩
theorem Up.low{b c:Nat}{h h1:VH}(a:Up c h h1)(hb:b<=c):Up b h h1:=⟨a.le,λx y z=>a.lo x (vbs y hb) z,λi o hi e=>a.get i o (vak hi hb) e⟩
theorem Up.new{b:Nat}{h h':VH}{o:VO}(a:Up b h h'):Up b h (h'.new o):=⟨Nat.le_succ_of_le a.le,a.lo,λi o' hi e=>by
 have:=a.get i o' hi e
 rw[zab (zam this)];exact this⟩
theorem Up.set{b l:Nat}{h h':VH}{o o0:VO}(a:Up b h h')(g:h'.get l=some o0)(hl:b<=l):Up b h (h'.set l o):=by
 refine⟨a.le,λx y z=>?_,λi o' hi e=>by rw[zas g (by omega)];exact a.get i o' hi e⟩
 have:=a.lo x y z
 show x<=if Nat.blt l h'.lo then l else h'.lo
 split<;>omega
theorem zoh{h h':VH}{w:W}(u:Up h.n ⟨h.n,h.n,h.os⟩ h')(hw:Pl w):fin h (.ok (.rt w) h')=.ok w h:=zai (u.lo _ (vae _) (vae _)) (hw _)
theorem putL{cl:Call}{o i v:E}{ρ:En}{h h1 h2 h3:VH}{a j:Nat}{w:W}{ws:List W}(e1:ev cl v ρ h=.ok w h1)(e2:ev cl o ρ h1=.ok (.ref a) h2)(e3:ev cl i ρ h2=.ok (.int (j:Int)) h3)(g:h3.get a=some (.lst ws))(hj:j<ws.length):exs cl (.put o i v) ρ h=.ok (.nx ρ) (h3.set a (.lst (ws.set j w))):=by
 rw[exs,e1,bindok,e2,bindok,e3,bindok]
 simp only[g,znt hj]
theorem addI{h:VH}{i j:Int}:opW .add (.int i) (.int j) h=.ok (.int (i+j)) h:=rfl
theorem subI{h:VH}{i j:Int}:opW .sub (.int i) (.int j) h=.ok (.int (i-j)) h:=rfl
theorem mulI{h:VH}{i j:Int}(hs:za7 i=true):opW .mul (.int i) (.int j) h=.ok (.int (i*j)) h:=by
 simp only[opW,opI,hs,Bool.true_or,vbe,vaj,ofsome]
theorem sml{n:Nat}(h:n<=5000):za7 (n:Int)=true:=zd4 (by omega) (by omega)
theorem modI{h:VH}{i j:Int}(h1:0<j):opW .mod (.int i) (.int j) h=.ok (.int (i % j)) h:=by
 simp only[opW,opI,vb5 h1,vbe,vaj,ofsome]
theorem repO{o:Op}{h:VH}{l:Nat}{k:Int}{xs zs:List W}(g:h.get l=some (.lst xs))(e:repW o xs k=some zs):opW o (.ref l) (.int k) h=.ok (.ref h.n) (h.new (.lst zs)):=by
 simp only[opW,g,e]
theorem repL{h:VH}{l n:Nat}{xs:List W}(g:h.get l=some (.lst xs))(hn:n<=5000)(hx:xs.length*n<=1000000):opW .mul (.ref l) (.int (n:Int)) h=.ok (.ref h.n) (h.new (.lst (List.replicate n xs).flatten)):=by
 refine repO g ?_
 have hb:Nat.ble (xs.length*n) big=true:=zb1 hx
 have hf:=zft hn
 unfold repW
 simp only[hf,vbn,hb,veo,vbe]
theorem catO{o:Op}{h:VH}{l m:Nat}{xs ys zs:List W}(g:h.get l=some (.lst xs))(g2:h.get m=some (.lst ys))(e:opL o xs ys=some zs):opW o (.ref l) (.ref m) h=.ok (.ref h.n) (h.new (.lst zs)):=by
 simp only[opW,g,g2,e]
theorem catL{h:VH}{l m:Nat}{xs ys:List W}(g:h.get l=some (.lst xs))(g2:h.get m=some (.lst ys))(hx:xs.length+ys.length<=1000000):opW .add (.ref l) (.ref m) h=.ok (.ref h.n) (h.new (.lst (xs++ys))):=by
 refine catO g g2 ?_
 have hb:Nat.ble (xs.length+ys.length) big=true:=zb1 hx
 show(if Nat.ble (xs.length+ys.length) big then some (xs++ys)else none)=_
 rw[if_pos hb]
theorem lst1E{cl:Call}{a:E}{ρ:En}{h h1:VH}{x:W}(ea:ev cl a ρ h=.ok x h1):ev cl (.lst (.cons a .nil)) ρ h=.ok (.ref h1.n) (h1.new (.lst [x])):=by
 rw[ev,ev,ea,bindok,ev]
 rfl
theorem zeb{cl:Call}{a:E}{t:Tg}{b:S}{ρ:En}{h:VH}{n:Nat}(ea:ev cl a ρ h=.ok (.int (n:Int)) h)(hn:n<1000000):exs cl (.«for» .rng1 (.cons a .nil) t b) ρ h=forL (tgW t) (exs cl b) (zaj 0 n) ρ h:=by
 have e:ev cl (.cons a .nil) ρ h=.ok (.tup [.int (n:Int)]) h:=by rw[ev,ea,bindok,ev];rfl
 rw[exs,e,bindok,ztx hn]
theorem zbn{cl:Call}{i:Nat}{b:S}{w:W}{r:List W}{ρ ρ':En}{h h':VH}(e:exs cl b (ρ.set i (some w)) h=.ok (.nx ρ') h'):forL (tgW (.one i)) (exs cl b) (w::r) ρ h=forL (tgW (.one i)) (exs cl b) r ρ' h':=by
 simp only[forL,tgW,e,bindok]
noncomputable def zbu(g b k i:Nat):List W:=(List.range ((g+2)*b)).map λc=>if c % (g+2)=1+k/\c/ (g+2)<i then rkW k else .str sDot
theorem zgt{g b k i:Nat}:(zbu g b k i).length=(g+2)*b:=by simp[zbu]
theorem zoi{g b k:Nat}:zbu g b k 0=(List.replicate ((g+2)*b) [W.str sDot]).flatten:=by
 rw[vbf]
 refine List.eq_replicate_iff.mpr ⟨zgt,λw hw=>?_⟩
 obtain⟨c,_,rfl⟩:=va6.mp hw
 rw[if_neg (λz=>absurd z.2 (vfa _))]
theorem zqu{g b k:Nat}:zbu g b k b=chRow g b k:=by
 refine List.map_congr_left λc hc=>?_
 have:c/ (g+2)<b:=vdj (vca.mp hc)
 by_cases z:c % (g+2)=1+k
 .rw[if_pos ⟨z,this⟩,if_pos z]
 .rw[if_neg (λy=>z y.1),if_neg z]
theorem zkp{g b k i:Nat}(hi:i<b)(hk:k<g):(zbu g b k i).set ((g+2)*i+1+k) (rkW k)=zbu g b k (i+1):=by
 have hc:=zfx (g:=g) (o:=1+k) (by omega) hi
 obtain⟨m1,m2⟩:=zdi (g:=g) (i:=i) (o:=1+k) (by omega)
 rw[<-vdo]at hc m1 m2
 refine vea λc=>?_
 rw[List.getElem?_set,zgt]
 by_cases z:(g+2)*i+1+k=c
 .subst z
  rw[if_pos rfl,if_pos hc]
  unfold zbu
  rw[vat,vbx hc,vaj,m1,m2,if_pos ⟨rfl,by omega⟩]
 .rw[if_neg z]
  unfold zbu
  rw[vat,vat]
  by_cases y:c< (g+2)*b
  .rw[vbx y,vaj,vaj]
   congr 1
   have:(c % (g+2)=1+k/\c/ (g+2)<i)↔(c % (g+2)=1+k/\c/ (g+2)<i+1):=by
    constructor
    .intro h;exact⟨h.1,by omega⟩
    .intro h
     refine⟨h.1,?_⟩
     rcases vcp (c/ (g+2)) i with q|q
     .exact q
     .have e:c/ (g+2)=i:=by omega
      have:=vdm c (g+2)
      rw[e,h.1]at this
      omega
   by_cases q:c % (g+2)=1+k/\c/ (g+2)<i
   .rw[if_pos q,if_pos (this.mp q)]
   .rw[if_neg q,if_neg (λr=>q (this.mpr r))]
  .rw[vbi (by simpa using ve2 y)];rfl
noncomputable def rowsT(g b k:Nat):List W:=(List.range' 0 k).map λj=>.tup (chRow g b j)
theorem zoj{g b k:Nat}:(rowsT g b k).length=k:=by simp[rowsT]
noncomputable abbrev E130(g b l:Nat)(la:W)(r5:Nat)(x6 x7 x8 x9 x10 x11:Option W):En:=[some (.int (g:Int)),some (.int (b:Int)),some (.ref l),some la,some (.int ((g:Int)+2)),some (.ref r5),x6,x7,x8,x9,x10,x11]
theorem zr3{cl:Call}{g b k l r5 r7:Nat}{la:W}(hg:g<=8)(hk:k<g)(hb4:b<=4):∀(m i:Nat) (x8:Option W) (h:VH),i+m=b->h.get r7=some (.lst (zbu g b k i))->
 ∃x8' h',forL (tgW (.one 8)) (exs cl zkm) (zaj (i:Int) m) (E130 g b l la r5 (some (.int (k:Int))) (some (.ref r7)) x8 none none none) h=.ok (.nx (E130 g b l la r5 (some (.int (k:Int))) (some (.ref r7)) x8' none none none)) h'/\h'.get r7=some (.lst (chRow g b k))/\Up r7 h h'
 |0,i,x8,h,hi,gr=>⟨x8,h,rfl,by rw[gr,show i=b by omega,zqu],.refl⟩
 |m+1,i,x8,h,hi,gr=>by
  have hib:i<b:=by omega
  have gr':=zay (o:=.lst ((zbu g b k i).set ((g+2)*i+1+k) (rkW k))) gr
  rw[zkp hib hk]at gr'
  obtain⟨x8',h',e,g',u⟩:=zr3 hg hk hb4 (cl:=cl) (l:=l) (r5:=r5) (la:=la) m (i+1) (some (.int (i:Int))) (h.set r7 (.lst ((zbu g b k i).set ((g+2)*i+1+k) (rkW k)))) (by omega) (by rw[zkp hib hk];exact gr')
  refine⟨x8',h',?_,g',(Up.set .refl gr (vae _)).trans u⟩
  rw[zav]
  refine(zbn (ρ':=E130 g b l la r5 (some (.int (k:Int))) (some (.ref r7)) (some (.int (i:Int))) none none none) (h':=h.set r7 (.lst ((zbu g b k i).set ((g+2)*i+1+k) (rkW k)))) ?_).trans e
  have hc:=zfx (g:=g) (o:=1+k) (by omega) hib
  refine(zaa (putL (j:=(g+2)*i+1+k) (w:=rkW k) (tup2E (varE rfl) rfl) (varE rfl) ?_ gr (by rw[zgt];omega))).trans rfl
  refine opE (opE (opE (varE rfl) (varE rfl) (mulI (show za7 ((g:Int)+2)=true from sml (n:=g+2) (by omega)))) rfl addI) (varE rfl) ?_
  rw[addI]
  congr 2
theorem zok{cl:Call}{g b l r5:Nat}{la:W}(hg:g<=8)(hb4:b<=4):∀(m k:Nat) (x6 x7 x8:Option W) (h:VH),k+m=g->h.get r5=some (.lst (rowsT g b k))->
 ∃x6' x7' x8' h',forL (tgW (.one 6)) (exs cl zkn) (zaj (k:Int) m) (E130 g b l la r5 x6 x7 x8 none none none) h=.ok (.nx (E130 g b l la r5 x6' x7' x8' none none none)) h'/\h'.get r5=some (.lst (rowsT g b g))/\Up r5 h h'
 |0,k,x6,x7,x8,h,hi,gr=>⟨x6,x7,x8,h,rfl,by rw[gr,show k=g by omega],.refl⟩
 |m+1,k,x6,x7,x8,h,hi,gr=>by
  have hr5:=zam gr
  have hkg:k<g:=by omega
  have hw:(g+2)*b<=10*4:=vdg (by omega) hb4
  obtain⟨y8,h3,e3,g3,u3⟩:=zr3 (cl:=cl) (l:=l) (r5:=r5) (r7:=h.n+1) (la:=la) hg hkg hb4 b 0 x8 ((h.new (.lst [.str sDot])).new (.lst (List.replicate ((g+2)*b) [.str sDot]).flatten)) (by omega) (by rw[zoi];exact zad (h:=h.new _))
  have g5:h3.get r5=some (.lst (rowsT g b k)):=u3.get _ _ (by omega) ((zab (show r5<h.n+1 by omega)).trans ((zab hr5).trans gr))
  have ga:=zay (o:=.lst (rowsT g b k++[W.tup (chRow g b k)])) g5
  have hsnoc:rowsT g b k++[W.tup (chRow g b k)]=rowsT g b (k+1):=by
   unfold rowsT
   rw[List.range'_concat,vbm]
   simp
  rw[hsnoc]at ga
  obtain⟨x6',x7',x8',h',e,g',u⟩:=zok (cl:=cl) (l:=l) (la:=la) hg hb4 m (k+1) (some (.int (k:Int))) (some (.ref (h.n+1))) y8 (h3.set r5 (.lst (rowsT g b k++[W.tup (chRow g b k)]))) (by omega) (by rw[hsnoc];exact ga)
  refine⟨x6',x7',x8',h',?_,g',?_⟩
  .rw[zav]
   refine(zbn (ρ':=E130 g b l la r5 (some (.int (k:Int))) (some (.ref (h.n+1))) y8 none none none) (h':=h3.set r5 (.lst (rowsT g b k++[W.tup (chRow g b k)]))) ?_).trans e
   have e7:ev cl (.op .mul (.lst (.cons (.cst (.str (PySem.Str.ofString "."))) .nil)) (.op .mul (.var 4) (.var 1))) (E130 g b l la r5 (some (.int (k:Int))) x7 x8 none none none) h=.ok (.ref (h.n+1)) ((h.new (.lst [.str sDot])).new (.lst (List.replicate ((g+2)*b) [.str sDot]).flatten)):=by
    refine opE (lst1E rfl) (opE (varE rfl) (varE rfl) (mulI (show za7 ((g:Int)+2)=true from sml (n:=g+2) (by omega)))) ?_
    rw[show((g:Int)+2)* (b:Int)=(((g+2)*b:Nat):Int) by push_cast;rfl]
    exact repL zad (by omega) (by simp;omega)
   refine(zaa (setE e7)).trans ?_
   refine(zaa ((zeb (n:=b) (varE rfl) (by omega)).trans e3)).trans ?_
   exact(zaa (exprE (zcx rfl g5 (zdg rfl g3) g5 (by rw[zoj];omega)))).trans rfl
  .have u1:Up r5 h h3:=(Up.new (Up.new .refl)).trans (u3.low (by omega))
   exact(u1.set g5 (vae _)).trans u
noncomputable def drT(g b:Nat)(nm:Int)(es:List Int)(la:Option Nat)(i:Nat):List W:=(List.range ((g+2)*i)).map (zdv g b nm es la)
theorem zol{g b i:Nat}{nm:Int}{es:List Int}{la:Option Nat}:(drT g b nm es la i).length=(g+2)*i:=by simp[drT]
theorem zqv{g b i:Nat}{nm:Int}{es:List Int}{la:Option Nat}:drT g b nm es la i++(List.replicate (g+1) [W.tup [.int nm,.int (i:Int)]]).flatten++[.tup [.int (es.getD i 0),optW (if i+1=b then la else some (i+1))]]=drT g b nm es la (i+1):=by
 unfold drT
 rw[vbf,show(g+2)* (i+1)=(g+2)*i+ (g+1)+1 by rw[vcs];omega,List.range_succ,vbm,List.range_add,vbm]
 congr 1
 .congr 1
  refine(List.eq_replicate_iff.mpr ⟨by simp,λw hw=>?_⟩).symm
  rw[vei]at hw
  obtain⟨o,ho,rfl⟩:=va6.mp hw
  have ho:=vca.mp ho
  obtain⟨m1,m2⟩:=zdi (g:=g) (i:=i) (o:=o) (by omega)
  show zdv g b nm es la ((g+2)*i+o)=_
  unfold zdv
  rw[m1,m2,if_neg (by omega)]
 .obtain⟨m1,m2⟩:=zdi (g:=g) (i:=i) (o:=g+1) (by omega)
  rw[vam,vda]
  unfold zdv
  rw[m1,m2,if_pos rfl]
theorem zkq{cl:Call}{g b l r5 bs:Nat}{nm:Int}{es:List Int}{la:Option Nat}{x6 x7:Option W}(hg:g<=8)(hb4:b<=4)(hes:es.length=b)(hl:l<bs):∀(m i r9:Nat) (x8 x10:Option W) (h:VH),i+m=b->bs<=r9->h.get r9=some (.lst (drT g b nm es la i))->h.get l=some (.lst (.int nm::es.map .int))->
 ∃r9' x8' x10' h',forL (tgW (.one 8)) (exs cl zko) (zaj (i:Int) m) (E130 g b l (optW la) r5 x6 x7 x8 (some (.ref r9)) x10 none) h=.ok (.nx (E130 g b l (optW la) r5 x6 x7 x8' (some (.ref r9')) x10' none)) h'/\h'.get r9'=some (.lst (drT g b nm es la b))/\Up bs h h'
 |0,i,r9,x8,x10,h,hi,hr,gr,gl=>⟨r9,x8,x10,h,rfl,by rw[gr,show i=b by omega],.refl⟩
 |m+1,i,r9,x8,x10,h,hi,hr,gr,gl=>by
  have hib:i<b:=by omega
  have hr9:=zam gr
  have hln:=zam gl
  have hw:(g+2)*i<=10*4:=vdg (by omega) (by omega)
  have e9:ev cl (.op .add (.var 9) (.op .mul (.lst (.cons (.tup (.cons (.idx (.var 2) (.cst (.int (0)))) (.cons (.var 8) .nil))) .nil)) (.op .add (.var 0) (.cst (.int (1)))))) (E130 g b l (optW la) r5 x6 x7 (some (.int (i:Int))) (some (.ref r9)) x10 none) h =
   .ok (.ref (h.n+2)) (((h.new (.lst [.tup [.int nm,.int (i:Int)]])).new (.lst (List.replicate (g+1) [W.tup [.int nm,.int (i:Int)]]).flatten)).new (.lst (drT g b nm es la i++(List.replicate (g+1) [W.tup [.int nm,.int (i:Int)]]).flatten))):=by
   refine opE (y:=.ref (h.n+1)) (h2:=(h.new (.lst [.tup [.int nm,.int (i:Int)]])).new (.lst (List.replicate (g+1) [W.tup [.int nm,.int (i:Int)]]).flatten)) (varE rfl) (opE (lst1E (tup2E (idxE (varE rfl) rfl (zhz (j:=0) gl rfl)) (varE rfl))) (opE (varE rfl) rfl addI) ?_) ?_
   .exact repL (n:=g+1) zad (by omega) (by simp;omega)
   .exact catL ((zab (show r9<h.n+1 by omega)).trans ((zab hr9).trans gr)) (zad (h:=h.new _)) (by rw[zol,vbf,vb7];omega)
  generalize hh3:((h.new (.lst [.tup [.int nm,.int (i:Int)]])).new (.lst (List.replicate (g+1) [W.tup [.int nm,.int (i:Int)]]).flatten)).new (.lst (drT g b nm es la i++(List.replicate (g+1) [W.tup [.int nm,.int (i:Int)]]).flatten))=h3 at e9
  have g3:h3.get (h.n+2)=some (.lst (drT g b nm es la i++(List.replicate (g+1) [W.tup [.int nm,.int (i:Int)]]).flatten)):=by rw[<-hh3];exact zad (h:=(h.new _).new _)
  have u3:Up bs h h3:=by rw[<-hh3];exact Up.new (Up.new (Up.new .refl))
  have gl3:h3.get l=some (.lst (.int nm::es.map .int)):=u3.get _ _ hl gl
  have hev:(es.map W.int)[i]?=some (.int (es.getD i 0)):=by
   rw[vat,vaq (by omega),vay,vaq (by omega)];rfl
  have ga:=zay (o:=.lst (drT g b nm es la (i+1))) g3
  obtain⟨r9',x8',x10',h',e,g',u⟩:=zkq (cl:=cl) (r5:=r5) (x6:=x6) (x7:=x7) hg hb4 hes hl m (i+1) (h.n+2) (some (.int (i:Int))) (some (optW (if i+1=b then la else some (i+1)))) (h3.set (h.n+2) (.lst (drT g b nm es la (i+1)))) (by omega) (by omega) ga (by rw[zas g3 (by omega)];exact gl3)
  refine⟨r9',x8',x10',h',?_,g',(u3.set g3 (by omega)).trans u⟩
  rw[zav]
  refine(zbn (ρ':=E130 g b l (optW la) r5 x6 x7 (some (.int (i:Int))) (some (.ref (h.n+2))) (some (optW (if i+1=b then la else some (i+1)))) none) (h':=h3.set (h.n+2) (.lst (drT g b nm es la (i+1)))) ?_).trans e
  refine(zaa (setE e9)).trans ?_
  refine(zaa (setE (opE (opE (varE rfl) rfl addI) (varE rfl) (modI (show(0:Int)< (b:Int) by omega))))).trans ?_
  have ec:∀y:Option W,ev cl (.cmp .eq (.var 8) (.op .sub (.var 1) (.cst (.int (1))))) (E130 g b l (optW la) r5 x6 x7 (some (.int (i:Int))) (some (.ref (h.n+2))) y none) h3=.ok (.bl (decide ((i:Int)=(b:Int)-1))) h3:=λy=>by
   rw[ev,varE rfl,bindok,opE (varE rfl) rfl subI,bindok]
   simp only[cmpW,za8,ofsome,vaj]
  have hcall:∀y:W,y=(if i+1=b then optW la else .int (((i:Int)+1) % (b:Int)))->y=optW (if i+1=b then la else some (i+1)):=λy hy=>by
   rw[hy]
   split
   .rfl
   .show W.int _=.int ((i+1:Nat):Int)
    rw[Int.emod_eq_of_lt (by omega) (by omega)];rfl
  have last:∀y:W,y=optW (if i+1=b then la else some (i+1))->exs cl (.seq (.expr (.mt .append (.var 9) (.cons (.tup (.cons (.idx (.var 2) (.op .add (.cst (.int (1))) (.var 8))) (.cons (.var 10) .nil))) .nil))) .skip) (E130 g b l (optW la) r5 x6 x7 (some (.int (i:Int))) (some (.ref (h.n+2))) (some y) none) h3=.ok (.nx (E130 g b l (optW la) r5 x6 x7 (some (.int (i:Int))) (some (.ref (h.n+2))) (some (optW (if i+1=b then la else some (i+1)))) none)) (h3.set (h.n+2) (.lst (drT g b nm es la (i+1)))):=λy hy=>by
   subst hy
   have ei:ev cl (.idx (.var 2) (.op .add (.cst (.int (1))) (.var 8))) (E130 g b l (optW la) r5 x6 x7 (some (.int (i:Int))) (some (.ref (h.n+2))) (some (optW (if i+1=b then la else some (i+1)))) none) h3=.ok (.int (es.getD i 0)) h3:=by
    refine idxE (varE rfl) (opE rfl (varE rfl) addI) ?_
    rw[show(1:Int)+ (i:Int)=((i+1:Nat):Int) by omega]
    exact zhz gl3 (by rw[va0];exact hev)
   have:=zcx (cl:=cl) (i:=9) (l:=h.n+2) (ρ:=E130 g b l (optW la) r5 x6 x7 (some (.int (i:Int))) (some (.ref (h.n+2))) (some (optW (if i+1=b then la else some (i+1)))) none) rfl g3 (tup2E ei (varE (i:=10) rfl)) g3 (by rw[vao,zol,vbf,vb7];omega)
   rw[zqv]at this
   exact(zaa (exprE this)).trans rfl
  by_cases z:i+1=b
  .refine(zaa (ρ':=E130 g b l (optW la) r5 x6 x7 (some (.int (i:Int))) (some (.ref (h.n+2))) (some (optW la)) none) (h':=h3) ?_).trans (last _ (by rw[if_pos z]))
   refine(iteT ((ec _).trans (by rw[vb5 (by omega)]))).trans ?_
   exact(zaa (setE (varE rfl))).trans rfl
  .refine(zaa (ρ':=E130 g b l (optW la) r5 x6 x7 (some (.int (i:Int))) (some (.ref (h.n+2))) (some (.int (((i:Int)+1) % (b:Int)))) none) (h':=h3) ?_).trans (last _ (hcall _ (by rw[if_neg z])))
   exact(iteF ((ec _).trans (by rw[vax (by omega)]))).trans rfl
theorem zqw{g b:Nat}{nm:Int}{es:List Int}{la:Option Nat}:Pl (chain g b nm es la).w:=by
 have ho:∀o:Option Nat,Pl (optW o):=λo=>by cases o<;>first|exact Pl.non|exact Pl.int
 refine Pl.tup λw hw=>?_
 simp only[vaz,vcg,ve7]at hw
 rcases hw with rfl|rfl|rfl|rfl|rfl
 .exact Pl.int
 .exact Pl.int
 .refine Pl.tup λw hw=>?_
  obtain⟨r,hr,rfl⟩:=va6.mp hw
  obtain⟨k,_,rfl⟩:=va6.mp (show r∈(List.range' 0 g).map (chRow g b)from hr)
  refine Pl.tup λw hw=>?_
  obtain⟨c,_,rfl⟩:=va6.mp hw
  split
  .exact Pl.tup λw hw=>by
    simp only[vaz,vcg,ve7]at hw
    rcases hw with rfl|rfl<;>exact Pl.int
  .exact Pl.str
 .refine Pl.tup λw hw=>?_
  obtain⟨c,_,rfl⟩:=va6.mp (show w∈(List.range b).map _ from hw)
  exact Pl.int
 .refine Pl.tup λw hw=>?_
  obtain⟨c,_,rfl⟩:=va6.mp (show w∈(List.range _).map _ from hw)
  unfold zdv
  split<;>exact Pl.tup λw hw=>by
   simp only[vaz,vcg,ve7]at hw
   rcases hw with rfl|rfl<;>first|exact Pl.int|exact ho _
theorem zh0(f:Nat->W)(q:W->W):∀(n a:Nat),(∀i:Nat,q (.int (i:Int))=f i)->(zaj (a:Int) n).map q=(List.range' a n).map f
 |0,_,_=>rfl
 |n+1,a,h=>by
  rw[zav,List.range'_succ,vam,vam,h]
  congr 1
  exact zh0 f q n (a+1) h
theorem zom{F:Nat->Option Fn}(f130:F 130=some fn130){k g b l:Nat}{nm:Int}{es:List Int}{la:Option Nat}{h:VH}(hg:g<=8)(hb4:b<=4)(hes:es.length=b)(gl:h.get l=some (.lst (.int nm::es.map .int))) :
 run F (k+1) 130 [.int (g:Int),.int (b:Int),.ref l,optW la] h=.ok (chain g b nm es la).w h:=by
 rw[zak f130 rfl]
 have hln:=zam gl
 have hs:=sml (n:=g+2) (by omega)
 let h1:VH:=VH.new ⟨h.n,h.n,h.os⟩ (.lst [])
 have g1:h1.get h.n=some (.lst (rowsT g b 0)):=zad (h:=⟨h.n,h.n,h.os⟩)
 obtain⟨x6,x7,x8,h2,e2,g2,u2⟩:=zok (cl:=run F k) (l:=l) (la:=optW la) hg hb4 g 0 none none none h1 (by omega) g1
 have u12:Up h.n ⟨h.n,h.n,h.os⟩ h2:=(Up.new .refl).trans u2
 have hlt2:=zam g2
 have gl2:(h2.new (.lst [])).get l=some (.lst (.int nm::es.map .int)):=by
  have:=u12.get l _ hln (by rw[get_lo];exact gl)
  rw[zab (zam this)];exact this
 obtain⟨r9,y8,y10,h3,e3,g3,u3⟩:=zkq (cl:=run F k) (r5:=h.n) (x6:=x6) (x7:=x7) (nm:=nm) (es:=es) (la:=la) (bs:=h.n+1) hg hb4 hes (by omega) b 0 h2.n x8 none (h2.new (.lst [])) (by omega) (by omega) (zad (h:=h2)) gl2
 have u13:Up h.n ⟨h.n,h.n,h.os⟩ h3:=(u12.new).trans (u3.low (by omega))
 have g5:h3.get h.n=some (.lst (rowsT g b g)):=u3.get _ _ (by omega) ((zab hlt2).trans g2)
 obtain⟨h4,e4,G4⟩:=znk (cl:=run F k) (e:=zgs) (tl:=[some (.int ((g:Int)+2))]) (f:=λw=>match w with|.int i=>.int (((g:Int)+2)*i+1)|w=>w) (zaj 0 b) none h3 (λw hw h=>by
  obtain⟨j,hj⟩:=List.mem_iff_getElem?.mp hw
  rw[zbh]at hj
  split at hj
  .cases hj
   exact⟨h,opE (opE (varE rfl) (varE rfl) (mulI hs)) rfl addI,.refl⟩
  .cases hj)
 have hf:(zaj 0 b).map (λw=>match w with|.int i=>W.int (((g:Int)+2)*i+1)|w=>w)=(List.range b).map λ(i:Nat)=>.int (((g+2)*i+1:Nat):Int):=by
  rw[List.range_eq_range']
  exact zh0 _ _ b 0 λi=>by show W.int _=.int _;congr 1
 rw[hf]at e4
 have e11:=zrx (cl:=run F k) (a:=.cons (.var 1) .nil) (ρ:=E130 g b l (optW la) h.n x6 x7 y8 (some (.ref r9)) y10 none) (h:=h3) (h1:=h3) (n:=b) (ow:=1) (ix:=[4]) (e:=zgs) (by rw[ev,varE rfl,bindok,ev];rfl) (by omega) e4 (by simp;omega)
 have hlt9:=zam g3
 have g5':(h4.new (.lst ((List.range b).map λ(i:Nat)=>W.int (((g+2)*i+1:Nat):Int)))).get h.n=some (.lst (rowsT g b g)):=by
  have:=G4.get _ _ g5
  rw[zab (zam this)];exact this
 have g9':(h4.new (.lst ((List.range b).map λ(i:Nat)=>W.int (((g+2)*i+1:Nat):Int)))).get r9=some (.lst (drT g b nm es la b)):=by
  have:=G4.get _ _ g3
  rw[zab (zam this)];exact this
 have u14:Up h.n ⟨h.n,h.n,h.os⟩ (h4.new (.lst ((List.range b).map λ(i:Nat)=>W.int (((g+2)*i+1:Nat):Int)))):=by
  refine Up.new (u13.trans ⟨G4.le,λx _ z=>by rw[G4.lo];exact z,λi o _ e=>G4.get i o e⟩)
 have eb:exs (run F k) fn130.body [some (.int (g:Int)),some (.int (b:Int)),some (.ref l),some (optW la),none,none,none,none,none,none,none,none] ⟨h.n,h.n,h.os⟩=.ok (.rt (chain g b nm es la).w) (h4.new (.lst ((List.range b).map λ(i:Nat)=>W.int (((g+2)*i+1:Nat):Int)))):=by
  refine(zaa (setE (opE (varE rfl) rfl addI))).trans ?_
  refine(zaa (setE (h1:=h1) (x:=.ref h.n) rfl)).trans ?_
  refine(zaa ((zeb (n:=g) (varE rfl) (by omega)).trans e2)).trans ?_
  refine(zaa (setE (h1:=h2.new (.lst [])) (x:=.ref h2.n) rfl)).trans ?_
  refine(zaa ((zeb (n:=b) (varE rfl) (by omega)).trans e3)).trans ?_
  refine(zaa (setE e11)).trans ?_
  refine zae (retE ?_)
  have er:(rowsT g b g)=(chain g b nm es la).rows.map .tup:=by unfold rowsT chain;rw[vei];rfl
  have:=tup5E (cl:=run F k) (ρ:=E130 g b l (optW la) h.n x6 x7 y8 (some (.ref r9)) y10 (some (.tup ((List.range b).map λ(i:Nat)=>W.int (((g+2)*i+1:Nat):Int))))) (opE (varE (i:=4) rfl) (varE (i:=1) rfl) (mulI hs)) (varE (i:=0) rfl) (zdg (i:=5) rfl g5') (varE (i:=11) rfl) (zdg (i:=9) rfl g9')
  rw[er]at this
  exact this
 show fin h (exs (run F k) fn130.body [some (.int (g:Int)),some (.int (b:Int)),some (.ref l),some (optW la),none,none,none,none,none,none,none,none] ⟨h.n,h.n,h.os⟩)=_
 rw[eb]
 exact zoh u14 zqw
theorem zon{h:VH}{a:Nat}{xs:List Int}(g:h.get a=some (.lst (xs.map .int))):toD h 24 (.ref a)=some (.list (xs.map .int)):=by
 have e:toD h 24 (iW xs)=some (.tuple (xs.map .int)):=zkg
 have e2:(mapO (toD h 23) (xs.map .int)).map PyData.tuple=some (.tuple (xs.map .int)):=e
 cases z:mapO (toD h 23) (xs.map .int)with
 |none=>rw[z]at e2;cases e2
 |some ds=>
  rw[z]at e2
  cases e2
  rw[toD]
  simp only[g,z,vaj]
theorem zkr{h:VH}{a c:Nat}{xs ys:List Int}(g1:h.get a=some (.lst (xs.map .int)))(g2:h.get c=some (.lst (ys.map .int))):eqW h (.ref a) (.ref c)=some (decide (xs=ys)):=by
 have s:∀zs:List Int,SeqAt.shaped (.list (zs.map .int))=true:=λzs=>by
  have q:SeqAt.shaped (.tuple (zs.map .int))=true:=zex (h:=h) (w:=iW zs) zgj zkg
  exact q
 unfold eqW
 rw[zon g1,zon g2]
 simp only[s,veo,vbe,PyData.eqv,zgp]
noncomputable def okP(b:Nat)(es:List Int)(p:Nat):Prop:=b % p=0/\es=((List.replicate b (es.take p)).flatten).take b
instance{b:Nat}{es:List Int}{p:Nat}:Decidable (okP b es p):=by unfold okP;infer_instance
theorem zgu{p:Nat}{xs:List Int}(h:xs.length=p):∀n,((List.replicate n xs).flatten).length=n*p
 |0=>by simp
 |n+1=>by rw[vbd,vcj,vao,zgu h n,h,Nat.add_mul];omega
theorem zr4{b p:Nat}{es:List Int}(hl:es.length=b)(p1:1<=p)(hd:p ∣ b)(b1:1<=b):es=((List.replicate b (es.take p)).flatten).take b↔∀i,es.getD ((i+p) % b) 0=es.getD (i % b) 0:=by
 have hR:Prd (λj=>es.getD (j % b) 0) b:=λj=>by show es.getD ((j+b) % b) 0=_;rw[vc5]
 have hs:seg (λj=>es.getD (j % b) 0) 0 b=es:=by
  refine vea λj=>?_
  rcases vcp j b with h|h
  .rw[zi3 _ _ _ _ h,vb9,va2 h,vay,vaq (by omega)];rfl
  .rw[vbi (by rw[zbf];exact h),vbi (by omega)]
 have hp:p<=b:=Nat.le_of_dvd b1 hd
 have ht:es.take p=seg (λj=>es.getD (j % b) 0) 0 p:=by
  have:=zc4 (λj=>es.getD (j % b) 0) (a:=0) hp
  rw[hs]at this;exact this
 have hm:b/p*p=b:=Nat.div_mul_cancel hd
 have hle:b/p<=b:=Nat.div_le_self ..
 have hcut:((List.replicate b (es.take p)).flatten).take b=(List.replicate (b/p) (es.take p)).flatten:=by
  have hb:List.replicate b (es.take p)=List.replicate (b/p) (es.take p)++List.replicate (b-b/p) (es.take p):=by rw[List.replicate_append_replicate];congr 1;omega
  have hl2:((List.replicate (b/p) (es.take p)).flatten).length=b:=by rw[zgu (p:=p) (by rw[vcf];omega),hm]
  rw[hb,List.flatten_append,ven hl2]
 have k:=zn8 hR b1 hd p1
 rw[hcut,ht]
 constructor
 .intro h
  exact k.mp (by rw[<-h,hs])
 .intro h
  rw[k.mpr h,hs]
section
variable{g b:Nat}{nm:Int}{es:List Int}{t:Nat}
theorem zqx{p0:Nat}(b1:1<=b)(hl:es.length=b)(hne:∃e∈es,e≠nm)(p1:1<=p0)(pb:p0=b\/(p0<b/\okP b es p0))(hmin:∀p,1<=p->p<b->okP b es p->p0<=p):Least (rnd g b nm es t) (2 ^ g*b) (2 ^ g*p0):=by
 have M0:=vb0 g
 have N0:1<=2 ^ g*b:=vd6 M0 b1
 obtain⟨q,L⟩:=zqo (zx9 (g:=g) (b:=b) (nm:=nm) (es:=es) (t:=t)) N0
 have hp0b:p0<=b:=by rcases pb with rfl|h<;>omega
 have hper:∀i,es.getD ((i+p0) % b) 0=es.getD (i % b) 0:=by
  rcases pb with rfl|⟨_,h1,h2⟩
  .intro i;rw[vc5]
  .exact(zr4 hl p1 (Nat.dvd_of_mod_eq_zero h1) b1).mp h2
 have hP:Prd (rnd g b nm es t) (2 ^ g*p0):=zoe b1 hper
 have hle:q<=2 ^ g*p0:=by
  rcases vcp (2 ^ g*p0) q with h|h
  .exact absurd hP (L.no _ (vd6 M0 p1) h)
  .exact h
 obtain⟨p,hq,hpp⟩:=zi9 b1 hl hne L.pr
 have q0:=L.q0
 have p1':1<=p:=by
  rcases Nat.eq_zero_or_pos p with z|z
  .rw[z,Nat.mul_zero]at hq;omega
  .exact z
 have hdv:p ∣ b:=by
  have:=L.dv
  rw[hq]at this
  exact Nat.dvd_of_mul_dvd_mul_left M0 this
 have hge:p0<=p:=by
  rcases vcp p b with h|h
  .exact hmin p p1' h ⟨Nat.mod_eq_zero_of_dvd hdv,(zr4 hl p1' hdv b1).mpr hpp⟩
  .omega
 have:2 ^ g*p0<=q:=by rw[hq];exact vby _ hge
 rw[show 2 ^ g*p0=q by omega]
 exact L
theorem zoo(b1:1<=b)(hl:es.length=b)(h:∀e∈es,e=nm):Least (rnd g b nm es t) (2 ^ g*b) 1:=by
 have M0:=vb0 g
 exact⟨vae _,vd6 M0 b1,zqt h hl b1,λs h1 h2=>by omega,Nat.one_dvd _⟩
noncomputable def fndL(g:Nat)(nm:Int)(es:List Int)(i:Nat):List Int:=(List.range (2 ^ g*i)).map (fnd g nm es)
theorem zc6{i:Nat}:(fndL g nm es i).length=2 ^ g*i:=by simp[fndL]
theorem zop{i:Nat}:fndL g nm es i++List.replicate (2 ^ g-1) nm++[es.getD i 0]=fndL g nm es (i+1):=by
 have M0:=vb0 g
 unfold fndL
 rw[show 2 ^ g* (i+1)=2 ^ g*i+ (2 ^ g-1)+1 by rw[vcs];omega,List.range_succ,vbm,List.range_add,vbm]
 congr 1
 .congr 1
  refine(List.eq_replicate_iff.mpr ⟨by simp,λw hw=>?_⟩).symm
  rw[vei]at hw
  obtain⟨o,ho,rfl⟩:=va6.mp hw
  have ho:=vca.mp ho
  show fnd g nm es (2 ^ g*i+o)=_
  unfold fnd
  rw[vcm,va2 (by omega),if_neg (by omega)]
 .rw[vam,vda,ze0]
theorem zoq(hl:es.length=b):((fndL g nm es b).filter λx=>!decide (x=nm))=[]↔∀e∈es,e=nm:=by
 have M0:=vb0 g
 rw[vdw]
 constructor
 .intro h e he
  obtain⟨i,hi⟩:=List.mem_iff_getElem?.mp he
  have hib:i<b:=by rw[<-hl];exact(vau.mp hi).1
  have hlt:2 ^ g*i+ (2 ^ g-1)<2 ^ g*b:=by
   have:=vby (2 ^ g) (show i+1<=b from hib)
   rw[vcs]at this;omega
  have:=h (fnd g nm es (2 ^ g*i+ (2 ^ g-1))) (va6.mpr ⟨_,vca.mpr hlt,rfl⟩)
  rw[ze0,vay,hi]at this
  simpa using this
 .intro h x hx
  obtain⟨t,ht,rfl⟩:=va6.mp hx
  have ht:=vca.mp ht
  have:fnd g nm es t=nm:=by
   unfold fnd
   split
   .have hq:t/2 ^ g<es.length:=by rw[hl];exact vdj ht
    rw[vay,vaq hq]
    exact h _ (vdr hq)
   .rfl
  simp[this]
theorem zor(ht:t<2 ^ g*b):(fndL g nm es b).drop t++(fndL g nm es b).take t=turned g b nm es t:=by
 refine vea λj=>?_
 unfold turned
 have hlen:=zc6 (g:=g) (nm:=nm) (es:=es) (i:=b)
 rcases vcp j (2 ^ g*b-t)with h|h
 .rw[vce (by rw[vcz,hlen];exact h),List.getElem?_drop]
  unfold fndL
  rw[vat,vat,vbx (by omega),vbx (by omega),vaj,vaj,va2 (by omega)]
 .rw[va1 (by rw[vcz,hlen];exact h),vcz,hlen]
  rcases vcp j (2 ^ g*b)with h2|h2
  .rw[List.getElem?_take_of_lt (by omega)]
   unfold fndL
   rw[vat,vat,vbx (by omega),vbx (by omega),vaj,vaj,ver (by omega),va2 (by omega)]
   congr 2
   omega
  .rw[vbi (by rw[vcf,hlen];omega),vbi (by simp;exact h2)]
end
theorem min2E{cl:Call}{a b:E}{ρ:En}{h h1 h2:VH}{i j:Int}(ea:ev cl a ρ h=.ok (.int i) h1)(eb:ev cl b ρ h1=.ok (.int j) h2):ev cl (.bi .min (.cons a (.cons b .nil))) ρ h=.ok (.int (if j<i then j else i)) h2:=by
 rw[ev,ev,ea,bindok,ev,eb,bindok,ev]
 rfl
theorem andT{cl:Call}{a b:E}{ρ:En}{h h1:VH}(ea:ev cl a ρ h=.ok (.bl true) h1):ev cl (.and a b) ρ h=ev cl b ρ h1:=by rw[ev,ea,bindok]
theorem andF{cl:Call}{a b:E}{ρ:En}{h h1:VH}(ea:ev cl a ρ h=.ok (.bl false) h1):ev cl (.and a b) ρ h=.ok (.bl false) h1:=by rw[ev,ea,bindok]
theorem eqE{cl:Call}{a b:E}{ρ:En}{h h1 h2:VH}{x y:W}{r:Bool}(ea:ev cl a ρ h=.ok x h1)(eb:ev cl b ρ h1=.ok y h2)(e:eqW h2 x y=some r):ev cl (.cmp .eq a b) ρ h=.ok (.bl r) h2:=by
 rw[ev,ea,bindok,eb,bindok]
 simp only[cmpW,e,vaj,ofsome]
theorem neE{cl:Call}{a b:E}{ρ:En}{h h1 h2:VH}{x y:W}{r:Bool}(ea:ev cl a ρ h=.ok x h1)(eb:ev cl b ρ h1=.ok y h2)(e:eqW h2 x y=some r):ev cl (.cmp .ne a b) ρ h=.ok (.bl (!r)) h2:=by
 rw[ev,ea,bindok,eb,bindok]
 simp only[cmpW,e,vaj,ofsome]
theorem zks{r:Nat}{ws:List W}{tg:W->VH->En->Option En}{bd:FS}(P:Nat->En->VH->Prop)(hP:∀i ρ h,P i ρ h->h.get r=some (.lst ws))(step:∀i w ρ h,ws[i]?=some w->P i ρ h->∃ρ1 ρ' h',tg w h ρ=some ρ1/\bd ρ1 h=.ok (.nx ρ') h'/\P (i+1) ρ' h') :
 ∀(n i fu:Nat)(ρ:En)(h:VH),i+n=ws.length->n<fu->P i ρ h->∃ρ' h',forG (nxt .seq (.ref r)) tg bd fu i ρ h=.ok (.nx ρ') h'/\P ws.length ρ' h'
 |0,i,fu+1,ρ,h,hi,hf,p=>by
  have hn:nxt .seq (.ref r) i h=some none:=by
   simp only[nxt,seqW,hP _ _ _ p,vaj]
   rw[vbi (by omega)]
  refine⟨ρ,h,by simp only[forG,hn],?_⟩
  rw[<-show i=ws.length by omega];exact p
 |n+1,i,fu+1,ρ,h,hi,hf,p=>by
  have hw:ws[i]?=some (ws[i]'(by omega)):=vaq (by omega)
  have hn:nxt .seq (.ref r) i h=some (some (ws[i]'(by omega))):=by
   simp only[nxt,seqW,hP _ _ _ p,vaj,hw]
  obtain⟨ρ1,ρ2,h2,e1,e2,p2⟩:=step i _ ρ h hw p
  obtain⟨ρ3,h3,e3,p3⟩:=zks P hP step n (i+1) fu ρ2 h2 (by omega) (by omega) p2
  exact⟨ρ3,h3,by simp only[forG,hn,e1,e2,bindok,e3],p3⟩
noncomputable abbrev E700(v i g:Nat)(nm:Int)(r4:Nat)(la:W)(x6 x7 x8 x9 x10 x11 x12 x13:Option W):En:=[some (.int (v:Int)),some (.int (i:Int)),some (.int (g:Int)),some (.int nm),some (.ref r4),some la,x6,x7,x8,x9,x10,x11,x12,x13]
section
variable{cl:Call}{v i g b r4:Nat}{nm:Int}{es:List Int}{la:W}
theorem zkt{h:VH}:∀(m j:Nat) (x7:Option W),j+m=g->∃x7',forL (tgW (.one 7)) (exs cl zcl) (zaj (j:Int) m) (E700 v i g nm r4 la (some (.int ((2 ^ j:Nat):Int))) x7 none none none none none none) h=.ok (.nx (E700 v i g nm r4 la (some (.int ((2 ^ g:Nat):Int))) x7' none none none none none none)) h
 |0,j,x7,hj=>⟨x7,by rw[show j=g by omega];rfl⟩
 |m+1,j,x7,hj=>by
  obtain⟨x7',e⟩:=zkt (h:=h) m (j+1) (some (.int (j:Int))) (by omega)
  refine⟨x7',?_⟩
  rw[zav]
  refine(zbn (ρ':=E700 v i g nm r4 la (some (.int ((2 ^ (j+1):Nat):Int))) (some (.int (j:Int))) none none none none none none) (h':=h) ?_).trans e
  refine(zaa (setE (x:=.int ((2 ^ (j+1):Nat):Int)) (opE (varE rfl) (varE rfl) ?_))).trans rfl
  rw[addI]
  congr 2
  rw[Nat.pow_succ];push_cast;omega
theorem zos{h0:VH}{x7:Option W}(hg:g<=8)(hb4:b<=4)(hes:es.length=b)(g4:h0.get r4=some (.lst (es.map .int)))(r8 bs:Nat)(h4:r4<bs)(hr8:bs<=r8)(g8:h0.get r8=some (.lst ((fndL g nm es 0).map .int))) :
 ∃r8' x9 h',forG (nxt .seq (.ref r4)) (tgW (.one 9)) (exs cl zbq) fuel 0 (E700 v i g nm r4 la (some (.int ((2 ^ g:Nat):Int))) x7 (some (.ref r8)) none none none none none) h0=.ok (.nx (E700 v i g nm r4 la (some (.int ((2 ^ g:Nat):Int))) x7 (some (.ref r8')) x9 none none none none)) h'/\h'.get r8'=some (.lst ((fndL g nm es b).map .int))/\bs<=r8'/\Up bs h0 h':=by
 have M0:=vb0 g
 have hM:2 ^ g<=256:=vc1 (n:=2) (by omega) hg
 obtain⟨ρ',h',e,⟨r8',x9,rfl,p1,p2,p3⟩⟩:=zks (r:=r4) (ws:=es.map .int) (tg:=tgW (.one 9)) (bd:=exs cl zbq)
  (λj ρ h=>∃r8' x9,ρ=E700 v i g nm r4 la (some (.int ((2 ^ g:Nat):Int))) x7 (some (.ref r8')) x9 none none none none/\h.get r8'=some (.lst ((fndL g nm es j).map .int))/\bs<=r8'/\Up bs h0 h)
  (λj ρ h ⟨_,_,_,_,_,u⟩=>u.get _ _ h4 g4)
  (λj w ρ h hw hq0=>by
    obtain⟨r,x9,hρ,p1,p2,p3⟩:=hq0
    subst hρ
    have hj:j<b:=by have:=(vau.mp hw).1;rw[vad]at this;omega
    have hw':w=.int (es.getD j 0):=by
     rw[vat,vaq (by omega)]at hw
     rw[vay,vaq (by omega)]
     cases hw;rfl
    subst hw'
    have hn:2 ^ g*j<=256*4:=vdg hM (by omega)
    have hr:=zam p1
    have hlen:=zc6 (g:=g) (nm:=nm) (es:=es) (i:=j)
    refine⟨E700 v i g nm r4 la (some (.int ((2 ^ g:Nat):Int))) x7 (some (.ref r)) (some (.int (es.getD j 0))) none none none none,E700 v i g nm r4 la (some (.int ((2 ^ g:Nat):Int))) x7 (some (.ref (h.n+4))) (some (.int (es.getD j 0))) none none none none,
     ((((h.new (.lst [.int nm])).new (.lst (List.replicate (2 ^ g-1) [W.int nm]).flatten)).new (.lst ((fndL g nm es j).map .int++(List.replicate (2 ^ g-1) [W.int nm]).flatten))).new (.lst [.int (es.getD j 0)])).new (.lst (((fndL g nm es j).map .int++(List.replicate (2 ^ g-1) [W.int nm]).flatten)++[.int (es.getD j 0)])),rfl,?_,h.n+4,_,rfl,?_,by have:=p3.le;omega,Up.new (Up.new (Up.new (Up.new (Up.new p3))))⟩
    .refine(zaa (setE (x:=.ref (h.n+4)) (opE (x:=.ref (h.n+2)) (h1:=((h.new (.lst [.int nm])).new (.lst (List.replicate (2 ^ g-1) [W.int nm]).flatten)).new (.lst ((fndL g nm es j).map .int++(List.replicate (2 ^ g-1) [W.int nm]).flatten))) (opE (y:=.ref (h.n+1)) (h2:=(h.new (.lst [.int nm])).new (.lst (List.replicate (2 ^ g-1) [W.int nm]).flatten)) (varE rfl) (opE (lst1E (varE rfl)) (opE (varE rfl) rfl subI) ?_) ?_) (lst1E (varE rfl)) ?_))).trans rfl
     .rw[show((2 ^ g:Nat):Int)-1=((2 ^ g-1:Nat):Int) by omega]
      exact repL zad (by omega) (by simp;omega)
     .exact catL ((zab (show r<h.n+1 by omega)).trans ((zab hr).trans p1)) (zad (h:=h.new _)) (by rw[vad,hlen,vbf,vb7];omega)
     .exact catL ((zab (show h.n+2<h.n+3 by omega)).trans (zad (h:=(h.new _).new _))) (zad (h:=((h.new _).new _).new _)) (by rw[vao,vad,hlen,vbf,vb7];simp;omega)
    .have:((fndL g nm es j).map W.int++(List.replicate (2 ^ g-1) [W.int nm]).flatten)++[.int (es.getD j 0)]=(fndL g nm es (j+1)).map .int:=by
      rw[<-zop,vbm,vbm,List.map_replicate,vbf];rfl
     rw[this]
     exact zad (h:=(((h.new _).new _).new _).new _))
  b 0 fuel (E700 v i g nm r4 la (some (.int ((2 ^ g:Nat):Int))) x7 (some (.ref r8)) none none none none none) h0 (by rw[vad];omega) (by unfold fuel;omega) ⟨r8,none,rfl,g8,hr8,.refl⟩
 rw[vad,hes]at p1
 exact⟨r8',x9,h',e,p1,p2,p3⟩
end
theorem zot{cl:Call}{a c:E}{t:Tg}{bd:S}{ρ:En}{h:VH}{lo n:Nat}(ea:ev cl a ρ h=.ok (.int (lo:Int)) h)(ec:ev cl c ρ h=.ok (.int ((lo+n:Nat):Int)) h)(hn:lo+n<1000000):exs cl (.«for» .rng2 (.cons a (.cons c .nil)) t bd) ρ h=forL (tgW t) (exs cl bd) (zaj (lo:Int) n) ρ h:=by
 have e:ev cl (.cons a (.cons c .nil)) ρ h=.ok (.tup [.int (lo:Int),.int ((lo+n:Nat):Int)]) h:=by rw[ev,ea,bindok,ev,ec,bindok,ev];rfl
 have f1:fits (lo:Int)=true:=by simp[fits];omega
 have f2:fits ((lo+n:Nat):Int)=true:=by unfold fits;rw[vab,vaw,vaw];omega
 have:=zbg (nx:=nxt .rng2 (.tup [.int (lo:Int),.int ((lo+n:Nat):Int)])) (tg:=tgW t) (b:=exs cl bd) (ws:=zaj (lo:Int) n) (λi h=>by
  rw[zbh]
  simp only[nxt,f1,f2,veo,vbe]
  by_cases z:i<n
  .rw[if_pos z,vb5 (by omega),if_pos rfl]
  .rw[if_neg z,vax (by omega),if_neg vbb]) fuel 0 ρ h (vbw _) (by rw[zb7];unfold fuel;omega)
 rw[exs,e,bindok,this,vcv]
section
variable{cl:Call}{v i g b r4:Nat}{nm:Int}{es:List Int}{la:W}
noncomputable def Low(b:Nat)(es:List Int)(n q:Nat):Prop:=1<=q/\(q=b\/(q<b/\okP b es q))/\∀p,1<=p->p<n->okP b es p->q<=p
theorem zqy{x7 x8 x9 x10:Option W}{p q:Nat}{h:VH}(hg:g<=8)(hb4:b<=4)(hes:es.length=b)(p1:1<=p)(pb:p<b)(qb:q<=b)(g4:h.get r4=some (.lst (es.map .int))) :
 ∃h',exs cl zbr (E700 v i g nm r4 la (some (.int ((2 ^ g:Nat):Int))) x7 x8 x9 x10 (some (.int ((2 ^ g*q:Nat):Int))) (some (.int (p:Int))) none) h=.ok (.nx (E700 v i g nm r4 la (some (.int ((2 ^ g:Nat):Int))) x7 x8 x9 x10 (some (.int ((2 ^ g* (if okP b es p/\p<q then p else q):Nat):Int))) (some (.int (p:Int))) none)) h'/\Up h.n h h':=by
 have M0:=vb0 g
 have hM:2 ^ g<=256:=vc1 (n:=2) (by omega) hg
 have r4n:=zam g4
 have hlen:∀{h1:VH}{y:Option W},h1.get r4=some (.lst (es.map .int))->ev cl (.bi .len (.cons (.var 4) .nil)) (E700 v i g nm r4 la (some (.int ((2 ^ g:Nat):Int))) x7 x8 x9 x10 (some (.int ((2 ^ g*q:Nat):Int))) (some (.int (p:Int))) none) h1=.ok (.int (b:Int)) h1:=λ{h1 y} gg=>by
  have:=lenE (cl:=cl) (a:=.var 4) (ρ:=E700 v i g nm r4 la (some (.int ((2 ^ g:Nat):Int))) x7 x8 x9 x10 (some (.int ((2 ^ g*q:Nat):Int))) (some (.int (p:Int))) none) (h:=h1) (h1:=h1) (x:=.ref r4) (ws:=es.map .int) (varE rfl) (by simp only[seqW,gg])
  rw[vad,hes]at this
  exact this
 have c1:ev cl (.cmp .eq (.op .mod (.bi .len (.cons (.var 4) .nil)) (.var 12)) (.cst (.int (0)))) (E700 v i g nm r4 la (some (.int ((2 ^ g:Nat):Int))) x7 x8 x9 x10 (some (.int ((2 ^ g*q:Nat):Int))) (some (.int (p:Int))) none) h=.ok (.bl (decide ((b:Int) % (p:Int)=0))) h:=
  eqE (opE (hlen (y:=none) g4) (varE rfl) (modI (by omega))) rfl za8
 have hskip:∀{h1:VH},ev cl (.and (.cmp .eq (.op .mod (.bi .len (.cons (.var 4) .nil)) (.var 12)) (.cst (.int (0)))) (.cmp .eq (.var 4) (.slc (.op .mul (.slc (.var 4) false (.cst .non) true (.var 12)) (.bi .len (.cons (.var 4) .nil))) false (.cst .non) true (.bi .len (.cons (.var 4) .nil))))) (E700 v i g nm r4 la (some (.int ((2 ^ g:Nat):Int))) x7 x8 x9 x10 (some (.int ((2 ^ g*q:Nat):Int))) (some (.int (p:Int))) none) h=.ok (.bl false) h1->¬okP b es p->
  exs cl zbr (E700 v i g nm r4 la (some (.int ((2 ^ g:Nat):Int))) x7 x8 x9 x10 (some (.int ((2 ^ g*q:Nat):Int))) (some (.int (p:Int))) none) h=.ok (.nx (E700 v i g nm r4 la (some (.int ((2 ^ g:Nat):Int))) x7 x8 x9 x10 (some (.int ((2 ^ g* (if okP b es p/\p<q then p else q):Nat):Int))) (some (.int (p:Int))) none)) h1:=λ{h1} ec hno=>by
  rw[if_neg (λz=>hno z.1)]
  exact(zaa ((iteF ec).trans rfl)).trans rfl
 by_cases z:b % p=0
 .rw[vb5 (by omega)]at c1
  let h1:=h.new (.lst ((es.take p).map .int))
  let h2:=h1.new (.lst ((List.replicate b (es.take p)).flatten.map .int))
  let h3:=h2.new (.lst (((List.replicate b (es.take p)).flatten.take b).map .int))
  have g41:h1.get r4=some (.lst (es.map .int)):=(zab r4n).trans g4
  have g42:h2.get r4=some (.lst (es.map .int)):=(zab (show r4<h.n+1 by omega)).trans g41
  have g43:h3.get r4=some (.lst (es.map .int)):=(zab (show r4<h.n+2 by omega)).trans g42
  have hfl:((List.replicate b (es.take p)).flatten).length=b*p:=zgu (by rw[vcf];omega) b
  have hbp:b*p<=4*4:=vdg hb4 (by omega)
  have hbb:b<=b*p:=Nat.le_mul_of_pos_right b p1
  have s1:ev cl (.slc (.var 4) false (.cst .non) true (.var 12)) (E700 v i g nm r4 la (some (.int ((2 ^ g:Nat):Int))) x7 x8 x9 x10 (some (.int ((2 ^ g*q:Nat):Int))) (some (.int (p:Int))) none) h=.ok (.ref h.n) h1:=
   slcE (varE rfl) rfl (varE rfl) rfl rfl (by rw[zck g4,zb4 (by rw[vad];omega),<-vdq])
  have s2:ev cl (.op .mul (.slc (.var 4) false (.cst .non) true (.var 12)) (.bi .len (.cons (.var 4) .nil))) (E700 v i g nm r4 la (some (.int ((2 ^ g:Nat):Int))) x7 x8 x9 x10 (some (.int ((2 ^ g*q:Nat):Int))) (some (.int (p:Int))) none) h=.ok (.ref (h.n+1)) h2:=by
   refine opE s1 (hlen (y:=none) g41) ?_
   have:=repL (h:=h1) (l:=h.n) (n:=b) (xs:=(es.take p).map .int) (zad (h:=h)) (by omega) (by rw[vad,vcf,vfk];exact vbs (vdg hb4 (Nat.min_le_left p _)) (by omega))
   rw[show(List.replicate b ((es.take p).map W.int)).flatten=((List.replicate b (es.take p)).flatten).map .int by rw[List.map_flatten,List.map_replicate]]at this
   exact this
  have s3:ev cl (.slc (.op .mul (.slc (.var 4) false (.cst .non) true (.var 12)) (.bi .len (.cons (.var 4) .nil))) false (.cst .non) true (.bi .len (.cons (.var 4) .nil))) (E700 v i g nm r4 la (some (.int ((2 ^ g:Nat):Int))) x7 x8 x9 x10 (some (.int ((2 ^ g*q:Nat):Int))) (some (.int (p:Int))) none) h=.ok (.ref (h.n+2)) h3:=
   slcE s2 rfl (hlen (y:=none) g42) rfl rfl (by
    have gg:h2.get (h.n+1)=some (.lst ((List.replicate b (es.take p)).flatten.map .int)):=zad (h:=h1)
    rw[zck gg,zb4 (by rw[vad,hfl];exact hbb),<-vdq];rfl)
  have ec:=(andT c1).trans (eqE (varE (i:=4) rfl) s3 (zkr g43 (zad (h:=h2))))
  have u:Up h.n h h3:=Up.new (Up.new (Up.new .refl))
  refine⟨h3,?_,u⟩
  by_cases y:es=((List.replicate b (es.take p)).flatten).take b
  .rw[vb5 y]at ec
   have ok:okP b es p:=⟨z,y⟩
   refine(zaa (ρ':=E700 v i g nm r4 la (some (.int ((2 ^ g:Nat):Int))) x7 x8 x9 x10 (some (.int ((2 ^ g* (if okP b es p/\p<q then p else q):Nat):Int))) (some (.int (p:Int))) none) (h':=h3) ?_).trans rfl
   refine(iteT ec).trans ?_
   refine(zaa (setE (x:=.int ((2 ^ g* (if okP b es p/\p<q then p else q):Nat):Int)) (h1:=h3) ?_)).trans rfl
   have hm:=min2E (cl:=cl) (ρ:=E700 v i g nm r4 la (some (.int ((2 ^ g:Nat):Int))) x7 x8 x9 x10 (some (.int ((2 ^ g*q:Nat):Int))) (some (.int (p:Int))) none) (h:=h3) (varE (i:=11) rfl) (opE (varE (i:=6) rfl) (varE (i:=12) rfl) (mulI (j:=(p:Int)) (sml (n:=2 ^ g) (by omega))))
   have e:((2 ^ g:Nat):Int)* (p:Int)=((2 ^ g*p:Nat):Int):=by rw[vfb]
   have key:(if((2 ^ g:Nat):Int)* (p:Int)< ((2 ^ g*q:Nat):Int)then((2 ^ g:Nat):Int)* (p:Int)else((2 ^ g*q:Nat):Int))=((2 ^ g* (if okP b es p/\p<q then p else q):Nat):Int):=by
    rw[e]
    by_cases w:p<q
    .have:=Nat.mul_lt_mul_of_pos_left w M0
     rw[if_pos (show okP b es p/\p<q from⟨ok,w⟩),if_pos (Int.ofNat_lt.mpr this)]
    .have:=vby (2 ^ g) (ve2 w)
     rw[if_neg (show ¬(okP b es p/\p<q)from λh=>w h.2),if_neg (λh=>absurd (Int.ofNat_lt.mp h) (vco.mpr this))]
   rw[key]at hm
   exact hm
  .rw[vax y]at ec
   exact hskip ec λh=>y h.2
 .rw[vax (by omega)]at c1
  exact⟨h,hskip (andF c1) (λh=>z h.1),.refl⟩
theorem zh6{x7 x8 x9 x10:Option W}{bs:Nat}(hg:g<=8)(hb4:b<=4)(hes:es.length=b)(h4:r4<bs):∀(m p q:Nat) (x12:Option W) (h:VH),1<=p->p+m=b->bs<=h.n->h.get r4=some (.lst (es.map .int))->Low b es p q->
 ∃q' x12' h',forL (tgW (.one 12)) (exs cl zbr) (zaj (p:Int) m) (E700 v i g nm r4 la (some (.int ((2 ^ g:Nat):Int))) x7 x8 x9 x10 (some (.int ((2 ^ g*q:Nat):Int))) x12 none) h=.ok (.nx (E700 v i g nm r4 la (some (.int ((2 ^ g:Nat):Int))) x7 x8 x9 x10 (some (.int ((2 ^ g*q':Nat):Int))) x12' none)) h'/\Low b es b q'/\Up bs h h'
 |0,p,q,x12,h,_,hp,_,_,L=>⟨q,x12,h,rfl,by rw[show p=b by omega]at L;exact L,.refl⟩
 |m+1,p,q,x12,h,p1,hp,hn,g4,L=>by
  obtain⟨l1,l2,l3⟩:=L
  have qb:q<=b:=by rcases l2 with rfl|h<;>omega
  obtain⟨h1,e1,u1⟩:=zqy (cl:=cl) (v:=v) (i:=i) (nm:=nm) (la:=la) (x7:=x7) (x8:=x8) (x9:=x9) (x10:=x10) (p:=p) (q:=q) hg hb4 hes p1 (by omega) qb g4
  have u1':Up bs h h1:=u1.low hn
  obtain⟨q',x12',h',e,L',u⟩:=zh6 (x7:=x7) (x8:=x8) (x9:=x9) (x10:=x10) hg hb4 hes h4 m (p+1) (if okP b es p/\p<q then p else q) (some (.int (p:Int))) h1 (by omega) (by omega) (vbs hn u1.le) (u1'.get _ _ h4 g4) (by
   by_cases z:okP b es p/\p<q
   .rw[if_pos z]
    refine⟨p1,.inr ⟨by omega,z.1⟩,λp' a c d=>?_⟩
    rcases vcp p' p with y|y
    .have:=l3 p' a y d;omega
    .exact y
   .rw[if_neg z]
    refine⟨l1,l2,λp' a c d=>?_⟩
    rcases vcp p' p with y|y
    .exact l3 p' a y d
    .have e:p'=p:=by omega
     subst e
     exact ve2 λw=>z ⟨d,w⟩)
  refine⟨q',x12',h',?_,L',u1'.trans u⟩
  rw[zav]
  exact(zbn e1).trans e
end
section
variable{F:Nat->Option Fn}(f700:F 700=some zbs){v i g b r4:Nat}{nm:Int}{es:List Int}
include f700
theorem plI{xs:List Int}:Pl (.tup (xs.map .int)):=Pl.tup λw hw=>by
 obtain⟨x,_,rfl⟩:=va6.mp hw
 exact Pl.int
omit f700 in
theorem zh7{cl:Call}{la:W}{h:VH}(hg:g<=8)(hb4:b<=4)(hes:es.length=b)(g4:h.get r4=some (.lst (es.map .int))) :
 ∃x7 r8 x9 h',h'.get r8=some (.lst ((fndL g nm es b).map .int))/\Up h.n ⟨h.n,h.n,h.os⟩ h'/\h.n<=r8/\∀rest:S,exs cl (.seq (.set 6 (.cst (.int (1)))) (.seq (.«for» .rng1 (.cons (.var 2) .nil) (.one 7) zcl) (.seq (.set 8 (.lst .nil)) (.seq (.«for» .seq (.var 4) (.one 9) zbq) (.seq (.set 10 (.op .add (.op .mul (.var 6) (.var 1)) (.var 0))) rest))))) (E700 v i g nm r4 la none none none none none none none none) ⟨h.n,h.n,h.os⟩ =
  exs cl rest (E700 v i g nm r4 la (some (.int ((2 ^ g:Nat):Int))) x7 (some (.ref r8)) x9 (some (.int ((2 ^ g*i+v:Nat):Int))) none none none) h':=by
 have hM:2 ^ g<=256:=vc1 (n:=2) (by omega) hg
 have r4n:=zam g4
 obtain⟨x7,e1⟩:=zkt (cl:=cl) (v:=v) (i:=i) (g:=g) (nm:=nm) (r4:=r4) (la:=la) (h:=⟨h.n,h.n,h.os⟩) g 0 none (by omega)
 have g40:(VH.new ⟨h.n,h.n,h.os⟩ (.lst [])).get r4=some (.lst (es.map .int)):=(zab (h:=⟨h.n,h.n,h.os⟩) r4n).trans (by rw[get_lo];exact g4)
 obtain⟨r8,x9,h',e2,p1,p2,p3⟩:=zos (cl:=cl) (v:=v) (i:=i) (nm:=nm) (la:=la) (x7:=x7) hg hb4 hes g40 h.n h.n r4n (vae _) (zad (h:=⟨h.n,h.n,h.os⟩))
 refine⟨x7,r8,x9,h',p1,(Up.new .refl).trans p3,p2,λrest=>?_⟩
 refine(zaa (setE (x:=.int ((2 ^ 0:Nat):Int)) rfl)).trans ?_
 refine(zaa ((zeb (n:=g) (varE rfl) (by omega)).trans e1)).trans ?_
 refine(zaa (setE (h1:=VH.new ⟨h.n,h.n,h.os⟩ (.lst [])) (x:=.ref h.n) rfl)).trans ?_
 refine(zaa (ρ':=E700 v i g nm r4 la (some (.int ((2 ^ g:Nat):Int))) x7 (some (.ref r8)) x9 none none none none) (h':=h') ?_).trans ?_
 .rw[exs,varE rfl,bindok]
  exact e2
 .refine zaa (setE (opE (opE (varE rfl) (varE rfl) (mulI (sml (n:=2 ^ g) (by omega)))) (varE rfl) ?_))
  rw[addI]
  rw[show((2 ^ g:Nat):Int)* (i:Int)+ (v:Int)=((2 ^ g*i+v:Nat):Int) by rw[Int.natCast_add,vfb]]
theorem zqz{k:Nat}{h:VH}(hg:g<=8)(hb4:b<=4)(hes:es.length=b)(g4:h.get r4=some (.lst (es.map .int)))(ht:2 ^ g*i+v<2 ^ g*b) :
 run F (k+1) 700 [.int (v:Int),.int (i:Int),.int (g:Int),.int nm,.ref r4,.non] h=.ok (.tup [iW ((fndL g nm es b).drop (2 ^ g*i+v)),.tup []]) h:=by
 rw[zak f700 rfl]
 obtain⟨x7,r8,x9,h',p1,p2,p3,e⟩:=zh7 (cl:=run F k) (v:=v) (i:=i) (nm:=nm) (la:=.non) hg hb4 hes g4
 have hlen:=zc6 (g:=g) (nm:=nm) (es:=es) (i:=b)
 have eb:exs (run F k) zbs.body (E700 v i g nm r4 .non none none none none none none none none) ⟨h.n,h.n,h.os⟩=.ok (.rt (.tup [iW ((fndL g nm es b).drop (2 ^ g*i+v)),.tup []])) (h'.new (.lst (((fndL g nm es b).drop (2 ^ g*i+v)).map .int))):=by
  refine(e _).trans ?_
  refine zae ?_
  refine(iteT (h1:=h') rfl).trans ?_
  refine zae (retE ?_)
  refine tup2E (zj8 (i:=h'.n) (slcE (varE rfl) (varE rfl) rfl rfl rfl ?_) (zad (h:=h'))) rfl
  rw[zck p1,zi5 (by rw[vad,hlen];omega),<-vfs]
 show fin h (exs (run F k) zbs.body (E700 v i g nm r4 .non none none none none none none none none) ⟨h.n,h.n,h.os⟩)=_
 rw[eb]
 refine zoh p2.new (Pl.tup λw hw=>?_)
 simp only[vaz,vcg,ve7]at hw
 rcases hw with rfl|rfl
 .exact plI f700
 .exact Pl.tup λw h=>nomatch h
theorem zou{k:Nat}{h:VH}(hg:g<=8)(b1:1<=b)(hb4:b<=4)(hes:es.length=b)(g4:h.get r4=some (.lst (es.map .int)))(ht:2 ^ g*i+v<2 ^ g*b) :
 ∃q,Least (rnd g b nm es (2 ^ g*i+v)) (2 ^ g*b) q/\run F (k+1) 700 [.int (v:Int),.int (i:Int),.int (g:Int),.int nm,.ref r4,.int 0] h=.ok (.tup [.tup [],iW ((turned g b nm es (2 ^ g*i+v)).take q)]) h:=by
 rw[zak f700 rfl]
 have M0:=vb0 g
 have hM:2 ^ g<=256:=vc1 (n:=2) (by omega) hg
 have hN:2 ^ g*b<=256*4:=vdg hM hb4
 have r4n:=zam g4
 obtain⟨x7,r8,x9,h1,p1,p2,p3,e⟩:=zh7 (cl:=run F k) (v:=v) (i:=i) (nm:=nm) (la:=.int 0) hg hb4 hes g4
 have hlen:=zc6 (g:=g) (nm:=nm) (es:=es) (i:=b)
 have g41:h1.get r4=some (.lst (es.map .int)):=p2.get _ _ r4n (by rw[get_lo];exact g4)
 have r8n:=zam p1
 obtain⟨q,x12,h2,e2,L,u2⟩:=zh6 (cl:=run F k) (v:=v) (i:=i) (nm:=nm) (la:=.int 0) (x7:=x7) (x8:=some (.ref r8)) (x9:=x9) (x10:=some (.int ((2 ^ g*i+v:Nat):Int))) (bs:=r8+1) hg hb4 hes (by omega) (b-1) 1 b none h1 (vae _) (by omega) r8n g41 ⟨b1,.inl rfl,λp a c d=>by omega⟩
 have p12:h2.get r8=some (.lst ((fndL g nm es b).map .int)):=u2.get _ _ (by omega) p1
 have ub:Up h.n ⟨h.n,h.n,h.os⟩ h2:=p2.trans (u2.low (by omega))
 have elen:ev (run F k) (.bi .len (.cons (.var 4) .nil)) (E700 v i g nm r4 (.int 0) (some (.int ((2 ^ g:Nat):Int))) x7 (some (.ref r8)) x9 (some (.int ((2 ^ g*i+v:Nat):Int))) none none none) h1=.ok (.int (b:Int)) h1:=by
  have:=lenE (cl:=run F k) (a:=.var 4) (ρ:=E700 v i g nm r4 (.int 0) (some (.int ((2 ^ g:Nat):Int))) x7 (some (.ref r8)) x9 (some (.int ((2 ^ g*i+v:Nat):Int))) none none none) (h:=h1) (h1:=h1) (x:=.ref r4) (ws:=es.map .int) (varE rfl) (by simp only[seqW,g41])
  rw[vad,hes]at this
  exact this
 have elen2:ev (run F k) (.bi .len (.cons (.var 4) .nil)) (E700 v i g nm r4 (.int 0) (some (.int ((2 ^ g:Nat):Int))) x7 (some (.ref r8)) x9 (some (.int ((2 ^ g*i+v:Nat):Int))) (some (.int ((2 ^ g*b:Nat):Int))) none none) h1=.ok (.int ((1+ (b-1):Nat):Int)) h1:=by
  have:=lenE (cl:=run F k) (a:=.var 4) (ρ:=E700 v i g nm r4 (.int 0) (some (.int ((2 ^ g:Nat):Int))) x7 (some (.ref r8)) x9 (some (.int ((2 ^ g*i+v:Nat):Int))) (some (.int ((2 ^ g*b:Nat):Int))) none none) (h:=h1) (h1:=h1) (x:=.ref r4) (ws:=es.map .int) (varE rfl) (by simp only[seqW,g41])
  rw[vad,hes]at this
  rw[show 1+ (b-1)=b by omega]
  exact this
 have elc:ev (run F k) (.lc .seq (.var 8) (.one 0) 1 [3] zbb zbc) (E700 v i g nm r4 (.int 0) (some (.int ((2 ^ g:Nat):Int))) x7 (some (.ref r8)) x9 (some (.int ((2 ^ g*i+v:Nat):Int))) (some (.int ((2 ^ g*q:Nat):Int))) x12 none) h2=.ok (.ref h2.n) (h2.new (.lst (((fndL g nm es b).filter λx=>!decide (x=nm)).map .int))):=by
  have l:=zoa (nx:=nxt .seq (.ref r8)) (c:=ev (run F k) zbb) (e:=ev (run F k) zbc) (h:=h2) (ws:=(fndL g nm es b).map .int) (tl:=[some (.int nm)]) (p:=λw=>match w with|.int x=>!decide (x=nm)|_=>false) (f:=λw=>w)
   (λj=>by simp only[nxt,seqW,p12,vaj])
   (λw hw=>by obtain⟨x,_,rfl⟩:=va6.mp hw;exact neE (varE rfl) (varE rfl) za8)
   (λw hw=>varE rfl) fuel 0 none [] (vbw _) (by rw[vad,hlen];unfold fuel;omega)
  have hfm:∀l:List Int,((l.map W.int).filter (λw=>match w with|.int x=>!decide (x=nm)|_=>false)).map (λw=>w)=(l.filter λx=>!decide (x=nm)).map .int:=λl=>by
   induction l with
   |nil=>rfl
   |cons x r ih=>
    rw[vam,vcq,vcq]
    by_cases z:x=nm
    .simp[z]at ih ⊢;exact ih
    .simp[z]at ih ⊢;exact ih
  rw[vcv,vee,vb8,hfm]at l
  have hle:=vd7 (λx=>!decide (x=nm)) (fndL g nm es b)
  exact zja (varE rfl) l (by rw[vad];omega)
 let h3:=h2.new (.lst (((fndL g nm es b).filter λx=>!decide (x=nm)).map .int))
 let h4:=h3.new (.lst [])
 have ec:ev (run F k) (.cmp .eq (.lc .seq (.var 8) (.one 0) 1 [3] zbb zbc) (.lst .nil)) (E700 v i g nm r4 (.int 0) (some (.int ((2 ^ g:Nat):Int))) x7 (some (.ref r8)) x9 (some (.int ((2 ^ g*i+v:Nat):Int))) (some (.int ((2 ^ g*q:Nat):Int))) x12 none) h2=.ok (.bl (decide (((fndL g nm es b).filter λx=>!decide (x=nm))=[]))) h4:=by
  refine eqE (x:=.ref h2.n) (y:=.ref h3.n) (h1:=h3) elc rfl (zkr (ys:=[]) ?_ (zad (h:=h3)))
  exact(zab (show h2.n<h3.n from vbq _)).trans (zad (h:=h2))
 have p14:h4.get r8=some (.lst ((fndL g nm es b).map .int)):=(zab (show r8<h2.n+1 from vet (zam p12))).trans ((zab (zam p12)).trans p12)
 have uq:Up h.n ⟨h.n,h.n,h.os⟩ h4:=Up.new (Up.new ub)
 have tail:∀Q:Nat,Q<=2 ^ g*b->∃h5,exs (run F k) (.seq (.set 13 (.op .add (.slc (.var 8) true (.var 10) false (.cst .non)) (.slc (.var 8) false (.cst .non) true (.var 10)))) (.seq (.ret (.tup (.cons (.tup .nil) (.cons (.bi .tuple (.cons (.slc (.var 13) false (.cst .non) true (.var 11)) .nil)) .nil)))) .skip)) (E700 v i g nm r4 (.int 0) (some (.int ((2 ^ g:Nat):Int))) x7 (some (.ref r8)) x9 (some (.int ((2 ^ g*i+v:Nat):Int))) (some (.int (Q:Int))) x12 none) h4=.ok (.rt (.tup [.tup [],iW ((turned g b nm es (2 ^ g*i+v)).take Q)])) h5/\Up h.n ⟨h.n,h.n,h.os⟩ h5:=by
  intro Q hQ
  let h5:=h4.new (.lst (((fndL g nm es b).drop (2 ^ g*i+v)).map .int))
  let h6:=h5.new (.lst (((fndL g nm es b).take (2 ^ g*i+v)).map .int))
  let h7:=h6.new (.lst ((turned g b nm es (2 ^ g*i+v)).map .int))
  have p15:h5.get r8=some (.lst ((fndL g nm es b).map .int)):=(zab (zam p14)).trans p14
  have s1:∀y:Option W,ev (run F k) (.slc (.var 8) true (.var 10) false (.cst .non)) (E700 v i g nm r4 (.int 0) (some (.int ((2 ^ g:Nat):Int))) x7 (some (.ref r8)) x9 (some (.int ((2 ^ g*i+v:Nat):Int))) (some (.int (Q:Int))) x12 y) h4=.ok (.ref h4.n) h5:=λy=>
   slcE (varE rfl) (varE rfl) rfl rfl rfl (by rw[zck p14,zi5 (by rw[vad,hlen];omega),<-vfs])
  have s2:∀y:Option W,ev (run F k) (.slc (.var 8) false (.cst .non) true (.var 10)) (E700 v i g nm r4 (.int 0) (some (.int ((2 ^ g:Nat):Int))) x7 (some (.ref r8)) x9 (some (.int ((2 ^ g*i+v:Nat):Int))) (some (.int (Q:Int))) x12 y) h5=.ok (.ref h5.n) h6:=λy=>
   slcE (varE rfl) rfl (varE rfl) rfl rfl (by rw[zck p15,zb4 (by rw[vad,hlen];omega),<-vdq])
  have s3:opW .add (.ref h4.n) (.ref h5.n) h6=.ok (.ref h6.n) h7:=by
   have:=catL (h:=h6) (l:=h4.n) (m:=h5.n) ((zab (show h4.n<h5.n from vbq _)).trans (zad (h:=h4))) (zad (h:=h5)) (by rw[vad,vad,vcz,vcf,hlen];omega)
   rw[<-vbm,zor ht]at this
   exact this
  refine⟨h7.new (.lst (((turned g b nm es (2 ^ g*i+v)).take Q).map .int)),?_,Up.new (Up.new (Up.new (Up.new uq)))⟩
  refine(zaa (setE (opE (s1 none) (s2 none) s3))).trans ?_
  refine zae (retE (tup2E rfl (zj8 (i:=h7.n) (slcE (varE rfl) rfl (varE rfl) rfl rfl ?_) (zad (h:=h7)))))
  rw[zck (zad (h:=h6)),zb4 (by rw[vad,zdj];exact hQ),<-vdq]
 have plr:∀Q:Nat,Pl (.tup [.tup [],iW ((turned g b nm es (2 ^ g*i+v)).take Q)]):=λQ=>Pl.tup λw hw=>by
  simp only[vaz,vcg,ve7]at hw
  rcases hw with rfl|rfl
  .exact Pl.tup λw h=>nomatch h
  .exact plI f700
 have whole:∀Q:Nat,Q<=2 ^ g*b->exs (run F k) (.ite (.cmp .eq (.lc .seq (.var 8) (.one 0) 1 [3] zbb zbc) (.lst .nil)) (.seq (.set 11 (.cst (.int (1)))) .skip) .skip) (E700 v i g nm r4 (.int 0) (some (.int ((2 ^ g:Nat):Int))) x7 (some (.ref r8)) x9 (some (.int ((2 ^ g*i+v:Nat):Int))) (some (.int ((2 ^ g*q:Nat):Int))) x12 none) h2=.ok (.nx (E700 v i g nm r4 (.int 0) (some (.int ((2 ^ g:Nat):Int))) x7 (some (.ref r8)) x9 (some (.int ((2 ^ g*i+v:Nat):Int))) (some (.int (Q:Int))) x12 none)) h4->
  fin h (exs (run F k) zbs.body (E700 v i g nm r4 (.int 0) none none none none none none none none) ⟨h.n,h.n,h.os⟩)=.ok (.tup [.tup [],iW ((turned g b nm es (2 ^ g*i+v)).take Q)]) h:=by
  intro Q hQ hc
  obtain⟨h5,e5,u5⟩:=tail Q hQ
  have eb:exs (run F k) zbs.body (E700 v i g nm r4 (.int 0) none none none none none none none none) ⟨h.n,h.n,h.os⟩=.ok (.rt (.tup [.tup [],iW ((turned g b nm es (2 ^ g*i+v)).take Q)])) h5:=by
   refine(e _).trans ?_
   refine(zaa (ρ':=E700 v i g nm r4 (.int 0) (some (.int ((2 ^ g:Nat):Int))) x7 (some (.ref r8)) x9 (some (.int ((2 ^ g*i+v:Nat):Int))) none none none) (h':=h1) ((iteF (h1:=h1) rfl).trans rfl)).trans ?_
   refine(zaa (setE (x:=.int ((2 ^ g*b:Nat):Int)) (h1:=h1) (opE (varE rfl) elen ?_))).trans ?_
   .rw[mulI (sml (n:=2 ^ g) (by omega)),vfb]
   refine(zaa ((zot (lo:=1) (n:=b-1) rfl elen2 (by omega)).trans e2)).trans ?_
   exact(zaa hc).trans e5
  rw[eb]
  exact zoh u5 (plr Q)
 obtain⟨l1,l2,l3⟩:=L
 have qb:q<=b:=by rcases l2 with rfl|h<;>omega
 by_cases z:((fndL g nm es b).filter λx=>!decide (x=nm))=[]
 .refine⟨1,zoo b1 hes ((zoq hes).mp z),whole 1 (vd6 M0 b1) ?_⟩
  rw[vb5 z]at ec
  exact(iteT ec).trans ((zaa (setE rfl)).trans rfl)
 .have hne:∃e∈es,e≠nm:=by
   rcases Classical.em (∃e∈es,e≠nm)with h|h
   .exact h
   .exact absurd ((zoq hes).mpr λe he=>Classical.byContradiction λn=>h ⟨e,he,n⟩) z
  refine⟨2 ^ g*q,zqx b1 hes hne l1 l2 l3,whole (2 ^ g*q) (vby _ qb) ?_⟩
  rw[vax z]at ec
  exact(iteF ec).trans rfl
end
structure C23(F:Nat->Option Fn):Prop where
 o:CoreO F
 m:CoreM F
 d:CoreD F
 b:CoreB F
 f130:F 130=some fn130
 f700:F 700=some zbs
 f701:F 701=some zea
section
variable{g b t q:Nat}{nm:Int}{es:List Int}{la:Option Nat}{s:Stn}
theorem At.good(h:At g b s t):GoodS (chain g b nm es la) s:=by
 obtain⟨ls,i,rfl,a1,a2,a3,a4⟩:=h
 refine⟨by show(ls.length:Int)=(g:Int);omega,a2,λf e=>?_⟩
 cases e
 show i< ((List.range b).map _).length
 rw[vad,List.length_range];exact a3
theorem zh8{n:Nat}{xs:List Int}(h:xs.length<=5000):nestN (n+1) (iW xs)=true:=by
 unfold iW nestN
 rw[vab,vbp]
 refine⟨ve8.mpr (by rw[vad];exact h),λw hw=>?_⟩
 obtain⟨j,_,rfl⟩:=va6.mp hw
 cases n<;>rfl
theorem zh9{xs ys:List Int}(hx:xs.length<=5000)(hy:ys.length<=5000):nestN 2 (.tup [iW xs,iW ys])=true:=by
 show(Nat.ble 2 5000 && [iW xs,iW ys].all (nestN 1))=true
 simp[zh8 hx,zh8 hy]
end
section
variable{F:Nat->Option Fn}(C:C23 F){g b t q:Nat}{nm:Int}{es:List Int}{s:Stn}
include C
theorem zuf{k:Nat}{h:VH}{B:Bd}{ww:W}(b:B.Ok)(g:GoodS B s)(hw:Pl ww)(e:∀(k:Nat) (h:VH),run F (k+5) 200 [B.w,papW (everP B 1280 [s] (nextS B s))] h=.ok ww h):run F (k+11) 203 [B.w,stW s] h=.ok ww h:=by
 rw[zak C.o.f203 rfl]
 have e2:=zkd C.o.toCoreE C.b (k:=k) (h:=⟨h.n,h.n,h.os⟩) b g
 rw[zbm 1280]at e2
 have eb:exs (run F (k+10)) fn203.body [some B.w,some (stW s)] ⟨h.n,h.n,h.os⟩=.ok (.rt ww) ⟨h.n,h.n,h.os⟩:=zae (retE (za3 (varE rfl) (za3 (varE rfl) (varE rfl) e2) (e (k+5) _)))
 show fin h (exs (run F (k+10)) fn203.body [some B.w,some (stW s)] ⟨h.n,h.n,h.os⟩)=_
 rw[eb]
 exact zai (vae _) (hw _)
theorem zug{k:Nat}{h:VH}{B:Bd}{ww:W}(b:B.Ok)(g:GoodS B s)(hn:nestN 2 ww=true)(e:∀(k:Nat) (h:VH),run F (k+5) 200 [B.w,papW (everP B 1280 [s] (nextS B s))] h=.ok ww h):run F (k+11) 269 [B.w,stW s,papW (everP B 1280 [s] (nextS B s)),ww] h=.ok (.bl true) h:=by
 rw[zak C.o.f269 rfl]
 have e2:=zlh C.o.toCoreH C.b.toCoreA C.o.toCoreE C.b (k:=k) (h:=⟨h.n,h.n,h.os⟩) b g
 rw[zbm 1280]at e2
 have e3:=zi6 C.o.toCoreH C.b.toCoreA 2 (k:=k+6) (h:=⟨h.n,h.n,h.os⟩) hn
 have eb:exs (run F (k+10)) fn269.body [some B.w,some (stW s),some (papW (everP B 1280 [s] (nextS B s))),some ww] ⟨h.n,h.n,h.os⟩=.ok (.rt (.bl true)) ⟨h.n,h.n,h.os⟩:=by
  refine zae (retE ?_)
  rw[ev,znx (varE rfl) (varE rfl) (varE rfl) e2,bindok]
  exact za3 (varE rfl) (za3 (varE rfl) (varE rfl) (e (k+5) _)) e3
 show fin h (exs (run F (k+10)) fn269.body [some B.w,some (stW s),some (papW (everP B 1280 [s] (nextS B s))),some ww] ⟨h.n,h.n,h.os⟩)=_
 rw[eb]
 exact zai (vae _) (by simp)
theorem zlj(bo:(chain g b nm es (some 0)).Ok)(b1:1<=b)(hN:2 ^ g*b<=1024)(hs:At g b s t)(L:Least (rnd g b nm es t) (2 ^ g*b) q)(k:Nat)(h:VH) :
 run F (k+5) 200 [(chain g b nm es (some 0)).w,papW (everP (chain g b nm es (some 0)) 1280 [s] (nextS (chain g b nm es (some 0)) s))] h=.ok (.tup [.tup [],iW ((turned g b nm es t).take q)]) h:=by
 have gs:GoodS (chain g b nm es (some 0)) s:=hs.good
 obtain⟨nd,gd⟩:=zgo bo 1280 [s] (nextS (chain g b nm es (some 0)) s) (by simp) (λt ht=>by rw[vbu.mp ht];exact gs) (λt ht=>zb2 bo gs ht)
 have hfew:=few bo nd gd
 have N0:0<2 ^ g*b:=vd6 (vb0 g) b1
 have er:=zli (nm:=nm) (es:=es) b1 (by omega) hs
 rw[zbm 1280]at er
 rw[er]at gd hfew ⊢
 have hvl:(turned g b nm es t).length=2 ^ g*b:=zdj
 have hv:((List.range (2 ^ g*b)).map (orb (chain g b nm es (some 0)) s)).map (nmS (chain g b nm es (some 0)))=(turned g b nm es t).map .int:=by
  unfold turned
  rw[vei,vei]
  refine List.map_congr_left λj _=>?_
  exact((zhw (nm:=nm) (es:=es) b1 hs j).1).name
 have w:=zog C.o (k:=k) (h:=h) (E:=((List.range (2 ^ g*b)).map (orb (chain g b nm es (some 0)) s),some 0)) (v:=turned g b nm es t) (i:=0) (q:=q) bo gd hfew rfl hv (by omega) (by
  rw[Nat.sub_zero,hvl,zgr N0];exact L)
 rw[w]
 have q1:=L.q1
 have e1:seg (zaq (turned g b nm es t) 0 ((turned g b nm es t).length-0)) 0 q=(turned g b nm es t).take q:=by
  have a:=zfs (v:=turned g b nm es t) (i:=0) (R:=(turned g b nm es t).length-0) (by omega)
  have c:=zc4 (zaq (turned g b nm es t) 0 ((turned g b nm es t).length-0)) (a:=0) (m:=q) (n:=0+ ((turned g b nm es t).length-0)) (by omega)
  rw[a]at c
  exact c.symm
 show Res.ok (W.tup [iW (seg (zaq (turned g b nm es t) 0 ((turned g b nm es t).length-0)) 0 0),iW (seg (zaq (turned g b nm es t) 0 ((turned g b nm es t).length-0)) 0 q)]) h=_
 rw[e1]
 rfl
theorem zq0(bo:(chain g b nm es none).Ok)(hN:2 ^ g*b<=1024)(hs:At g b s t)(k:Nat)(h:VH) :
 run F (k+5) 200 [(chain g b nm es none).w,papW (everP (chain g b nm es none) 1280 [s] (nextS (chain g b nm es none) s))] h=.ok (.tup [iW ((fndL g nm es b).drop t),.tup []]) h:=by
 have gs:GoodS (chain g b nm es none) s:=hs.good
 obtain⟨nd,gd⟩:=zgo bo 1280 [s] (nextS (chain g b nm es none) s) (by simp) (λt ht=>by rw[vbu.mp ht];exact gs) (λt ht=>zb2 bo gs ht)
 have hfew:=few bo nd gd
 have ht:=hs.lt
 obtain⟨ls,er⟩:=zqs (nm:=nm) (es:=es) (by omega) hs
 rw[zbm 1280]at er
 rw[er]at gd hfew ⊢
 have hv:((((List.range (2 ^ g*b-t)).map (orb (chain g b nm es none) s)++[(ls,none)]).map (nmS (chain g b nm es none))).filter nnW)=((fndL g nm es b).drop t).map .int:=by
  rw[vbm,List.filter_append]
  have h1:((List.range (2 ^ g*b-t)).map (orb (chain g b nm es none) s)).map (nmS (chain g b nm es none))=((fndL g nm es b).drop t).map .int:=by
   unfold fndL
   rw[vei,<-vfs,vei,List.range_eq_range',List.range_eq_range',List.drop_range',vb9]
   refine vea λj=>?_
   rw[vat,vat]
   rcases vcp j (2 ^ g*b-t)with z|z
   .rw[List.getElem?_range' z,List.getElem?_range' (by omega),vaj,vaj]
    congr 1
    have:=(zi8 (nm:=nm) (es:=es) hs j (by omega)).name (nm:=nm) (es:=es) (la:=none)
    show nmS (chain g b nm es none) (orb (chain g b nm es none) s (0+1*j))=.int (fnd g nm es (t*1+1*j))
    rw[Nat.mul_one,Nat.one_mul,vb9]
    exact this
   .rw[vbi (by rw[List.length_range'];exact z),vbi (by rw[List.length_range'];exact z)];rfl
  rw[h1,zfw]
  show _++([W.non].filter nnW)=_
  rw[show [W.non].filter nnW=[]from rfl,vcd]
 have w:=zof C.o (k:=k) (h:=h) (E:=((List.range (2 ^ g*b-t)).map (orb (chain g b nm es none) s)++[(ls,none)],none)) bo gd hfew rfl (λn=>by
  rw[hv,<-lt_tup];exact plI C.f700 n)
 rw[w,hv]
 rfl
end
theorem lst3E{cl:Call}{a b c:E}{ρ:En}{h h1 h2 h3:VH}{x y z:W}(ea:ev cl a ρ h=.ok x h1)(eb:ev cl b ρ h1=.ok y h2)(ec:ev cl c ρ h2=.ok z h3):ev cl (.lst (.cons a (.cons b (.cons c .nil)))) ρ h=.ok (.ref h3.n) (h3.new (.lst [x,y,z])):=by
 rw[ev,ev,ea,bindok,ev,eb,bindok,ev,ec,bindok,ev]
 rfl
theorem lst4E{cl:Call}{a b c d:E}{ρ:En}{h h1 h2 h3 h4:VH}{x y z u:W}(ea:ev cl a ρ h=.ok x h1)(eb:ev cl b ρ h1=.ok y h2)(ec:ev cl c ρ h2=.ok z h3)(ed:ev cl d ρ h3=.ok u h4):ev cl (.lst (.cons a (.cons b (.cons c (.cons d .nil))))) ρ h=.ok (.ref h4.n) (h4.new (.lst [x,y,z,u])):=by
 rw[ev,ev,ea,bindok,ev,eb,bindok,ev,ec,bindok,ev,ed,bindok,ev]
 rfl
theorem lst5E{cl:Call}{a b c d e:E}{ρ:En}{h h1 h2 h3 h4 h5:VH}{x y z u v:W}(ea:ev cl a ρ h=.ok x h1)(eb:ev cl b ρ h1=.ok y h2)(ec:ev cl c ρ h2=.ok z h3)(ed:ev cl d ρ h3=.ok u h4)(ee:ev cl e ρ h4=.ok v h5):ev cl (.lst (.cons a (.cons b (.cons c (.cons d (.cons e .nil)))))) ρ h=.ok (.ref h5.n) (h5.new (.lst [x,y,z,u,v])):=by
 rw[ev,ev,ea,bindok,ev,eb,bindok,ev,ec,bindok,ev,ed,bindok,ev,ee,bindok,ev]
 rfl
theorem zya{cl:Call}{ρ:En}{h h':VH}{n:Nat}{a b c d e f:E}{x y z u v s w:W}(ea:ev cl a ρ h=.ok x h)(eb:ev cl b ρ h=.ok y h)(ec:ev cl c ρ h=.ok z h)(ed:ev cl d ρ h=.ok u h)(ee:ev cl e ρ h=.ok v h)(ef:ev cl f ρ h=.ok s h)(q:cl n [x,y,z,u,v,s] h=.ok w h'):ev cl (.call n (.cons a (.cons b (.cons c (.cons d (.cons e (.cons f .nil))))))) ρ h=.ok w h':=by
 have t:ev cl (.cons a (.cons b (.cons c (.cons d (.cons e (.cons f .nil)))))) ρ h=.ok (.tup [x,y,z,u,v,s]) h:=by
  rw[ev,ea,bindok,ev,eb,bindok,ev,ec,bindok,ev,ed,bindok,ev,ee,bindok,ev,ef,bindok,ev]
  rfl
 rw[ev,t,bindok]
 exact q
theorem zku{cl:Call}{h:VH}{pre post:En}(hpre:pre.length=12):∀(rs:List Int) (a:Nat) (x13:Option W),Bits rs->∃x13',forL (tgW (.one 13)) (exs cl ze2) (rs.map .int) (pre++some (.int (a:Int))::x13::post) h=.ok (.nx (pre++some (.int ((rs.foldl (λa x=>2*a+x.toNat) a:Nat):Int))::x13'::post)) h
 |[],a,x13,_=>⟨x13,rfl⟩
 |r::rs,a,x13,hb=>by
  have hr:=hb r van
  obtain⟨x13',e⟩:=zku (cl:=cl) (h:=h) (post:=post) hpre rs (2*a+r.toNat) (some (.int r)) λy hy=>hb y (vag _ hy)
  refine⟨x13',?_⟩
  rw[vam]
  refine(zbn (ρ':=pre++some (.int ((2*a+r.toNat:Nat):Int))::some (.int r)::post) (h':=h) ?_).trans e
  have hset:(pre++some (.int (a:Int))::x13::post).set 13 (some (.int r))=pre++some (.int (a:Int))::some (.int r)::post:=by
   rw[vdd _ _ (by omega),hpre];rfl
  have h12:(pre++some (.int (a:Int))::some (.int r)::post)[12]?=some (some (.int (a:Int))):=by
   rw[va1 (by omega),hpre];rfl
  have h13:(pre++some (.int (a:Int))::some (.int r)::post)[13]?=some (some (.int r)):=by
   rw[va1 (by omega),hpre];rfl
  have hset2:(pre++some (.int (a:Int))::some (.int r)::post).set 12 (some (.int ((2*a+r.toNat:Nat):Int)))=pre++some (.int ((2*a+r.toNat:Nat):Int))::some (.int r)::post:=by
   rw[vdd _ _ (by omega),hpre];rfl
  rw[hset]
  refine(zaa (setE (x:=.int ((2*a+r.toNat:Nat):Int)) (h1:=h) (opE (opE rfl (varE h12) (mulI rfl)) (varE h13) ?_))).trans ?_
  .rw[addI]
   have:(2:Int)* (a:Int)+r=((2*a+r.toNat:Nat):Int):=by rcases hr with rfl|rfl<;>simp
   rw[this]
  .rw[hset2];rfl
theorem zkv:∀ls:List Int,ls.reverse.foldl (λa x=>2*a+x.toNat) 0=val ls
 |[]=>rfl
 |x::r=>by
  rw[List.reverse_cons,List.foldl_append,zkv r]
  show 2*val r+x.toNat=x.toNat+2*val r
  omega
theorem zq1{cl:Call}{a:E}{t:Tg}{bd:S}{ρ:En}{h:VH}{ws:List W}(ea:ev cl a ρ h=.ok (.tup ws) h)(hn:ws.length<1000000):exs cl (.«for» .rev a t bd) ρ h=forL (tgW t) (exs cl bd) ws.reverse ρ h:=by
 have:=zbg (nx:=nxt .rev (.tup ws)) (tg:=tgW t) (b:=exs cl bd) (ws:=ws.reverse) (λi h=>rfl) fuel 0 ρ h (vbw _) (by rw[vdp];unfold fuel;omega)
 rw[exs,ea,bindok,this,vcv]
theorem isE{cl:Call}{a:E}{ρ:En}{h h1:VH}{b:Bool}(ea:ev cl a ρ h=.ok (.bl b) h1):ev cl (.cmp .isn a (.cst (.bl true))) ρ h=.ok (.bl b) h1:=by
 rw[ev,ea,bindok]
 cases b<;>rfl
section
variable{F:Nat->Option Fn}(C:C23 F){g b:Nat}{nm:Int}{es:List Int}{la:Option Nat}
include C
theorem zyb{h:VH}{ls:List Int}{i r8:Nat}{x0 x1 x5 x6 x7 x13:Option W}(hg:g<=8)(b1:1<=b)(hb4:b<=4)(hes:es.length=b)(bo:(chain g b nm es la).Ok)(hla:la=none\/la=some 0)(hl:ls.length=g)(hb:Bits ls)(hi:i<b)(g8:h.get r8=some (.lst (es.map .int))) :
 exs (run F 29) (.seq (.set 15 (.call 700 (.cons (.var 12) (.cons (.idx (.var 14) (.cst (.int (1)))) (.cons (.var 2) (.cons (.var 4) (.cons (.var 8) (.cons (.var 9) .nil)))))))) (.seq (.ite (.not (.tru (.call 92 (.cons (.call 203 (.cons (.var 10) (.cons (.var 14) .nil))) (.cons (.var 15) .nil))))) (.seq (.ret (.cst (.bl false))) .skip) .skip) (.seq (.ret (.cmp .isn (.call 269 (.cons (.var 10) (.cons (.var 14) (.cons (.call 184 (.cons (.var 10) (.cons (.var 14) .nil))) (.cons (.var 15) .nil))))) (.cst (.bl true)))) .skip)))
  [x0,x1,some (.int (g:Int)),some (.int (b:Int)),some (.int nm),x5,x6,x7,some (.ref r8),some (optW la),some (chain g b nm es la).w,some (iW ls),some (.int (val ls:Int)),x13,some (stW (ls,some i)),none] h=.ok (.rt (.bl true)) h:=by
 have hM:2 ^ g<=256:=vc1 (n:=2) (by omega) hg
 have hN:2 ^ g*b<=256*4:=vdg hM hb4
 have hs:At g b (ls,some i) (2 ^ g*i+val ls):=⟨ls,i,rfl,hl,hb,hi,rfl⟩
 have ht:=hs.lt
 have gs:GoodS (chain g b nm es la) (ls,some i):=hs.good
 have key:∃ww,nestN 2 ww=true/\Pl ww/\(∀(k:Nat)(h:VH),run F (k+5) 200 [(chain g b nm es la).w,papW (everP (chain g b nm es la) 1280 [(ls,some i)] (nextS (chain g b nm es la) (ls,some i)))] h=.ok ww h)/\run F 29 700 [.int (val ls:Int),.int (i:Int),.int (g:Int),.int nm,.ref r8,optW la] h=.ok ww h:=by
  have pn:Pl (.tup ([]:List W)):=Pl.tup λw h=>nomatch h
  have pair:∀{x y:W},Pl x->Pl y->Pl (.tup [x,y]):=λhx hy=>Pl.tup λw hw=>by
   simp only[vaz,vcg,ve7]at hw
   rcases hw with rfl|rfl
   .exact hx
   .exact hy
  rcases hla with rfl|rfl
  .refine⟨_,?_,?_,zq0 C bo (by omega) hs,zqz C.f700 (k:=28) hg hb4 hes g8 ht⟩
   .exact zh9 (ys:=[]) (by rw[vcz,zc6];omega) (by simp)
   .exact pair (plI C.f700) pn
  .obtain⟨q,L,e⟩:=zou C.f700 (k:=28) (nm:=nm) hg b1 hb4 hes g8 ht
   refine⟨_,?_,?_,zlj C bo b1 (by omega) hs L,e⟩
   .exact zh9 (xs:=[]) (by simp) (by rw[vcf,zdj];omega)
   .exact pair pn (plI C.f700)
 obtain⟨ww,w1,w2,w3,e15⟩:=key
 have e3:=zuf C (k:=18) (h:=h) bo gs w2 w3
 have e4:=zug C (k:=18) (h:=h) bo gs w1 w3
 have e5:=zqm C.m 2 (k:=25) (h:=h) w1
 have e6:=zkd C.o.toCoreE C.b (k:=19) (h:=h) bo gs
 rw[zbm 1280]at e6
 refine(zaa (setE (zya (varE rfl) (idxE (varE rfl) rfl rfl) (varE rfl) (varE rfl) (varE rfl) (varE rfl) e15))).trans ?_
 refine(zaa (ρ':=[x0,x1,some (.int (g:Int)),some (.int (b:Int)),some (.int nm),x5,x6,x7,some (.ref r8),some (optW la),some (chain g b nm es la).w,some (iW ls),some (.int (val ls:Int)),x13,some (stW (ls,some i)),some ww]) (h':=h) ?_).trans ?_
 .refine(iteF ?_).trans rfl
  rw[ev,truE (za3 (za3 (varE rfl) (varE rfl) e3) (varE rfl) e5)];rfl
 .exact zae (retE (isE (zny (varE rfl) (varE rfl) (za3 (varE rfl) (varE rfl) e6) (varE rfl) e4)))
end
section
variable{F:Nat->Option Fn}(C:C23 F)
include C
theorem tk{h:VH}{d c bb:Nat}{m:Int}{ρ:En}{y:E}(D:Dk h d c bb)(hb:bb<100000)(hm:0<m)(hm2:m<1000)(hx:ρ[1]?=some (some (.ref d)))(hy:ev (run F 29) y ρ h=.ok (.int m) h):∃(r:Nat) (h':VH),ev (run F 29) (.call 5 (.cons (.var 1) (.cons y .nil))) ρ h=.ok (.int (r:Int)) h'/\(r:Int)<m/\Dk h' d c (bb+1)/\Keep h h' d c:=by
 obtain⟨r,h',e,r0,r1,D',K⟩:=take C.d (k:=26) (m:=m) D (by omega) hm (by omega)
 obtain⟨r,rfl⟩:=vb2 r0
 exact⟨r,h',za3 (varE hx) hy e,r1,D',K⟩
theorem zuh{h:VH}{d c:Nat}{x0:Option W}(D:Dk h d c 0):∃(g b:Nat) (nm one oth:Nat) (h':VH),g<=8/\1<=b/\b<=4/\nm<=99/\one<=99/\oth<=99/\Dk h' d c 7/\∀rest:S,
 exs (run F 29) (.seq (.set 2 (.idx (.lst (.cons (.call 5 (.cons (.var 1) (.cons (.cst (.int (9))) .nil))) (.cons (.cst (.int (8))) (.cons (.call 5 (.cons (.var 1) (.cons (.cst (.int (4))) .nil))) .nil)))) (.call 5 (.cons (.var 1) (.cons (.cst (.int (3))) .nil))))) (.seq (.set 3 (.op .add (.cst (.int (1))) (.call 5 (.cons (.var 1) (.cons (.cst (.int (4))) .nil))))) (.seq (.set 4 (.call 5 (.cons (.var 1) (.cons (.cst (.int (100))) .nil)))) (.seq (.set 5 (.call 5 (.cons (.var 1) (.cons (.cst (.int (100))) .nil)))) (.seq (.set 6 (.call 5 (.cons (.var 1) (.cons (.cst (.int (100))) .nil)))) rest))))) [x0,some (.ref d),none,none,none,none,none,none,none,none,none,none,none,none,none,none] h =
 exs (run F 29) rest [x0,some (.ref d),some (.int (g:Int)),some (.int (b:Int)),some (.int (nm:Int)),some (.int (one:Int)),some (.int (oth:Int)),none,none,none,none,none,none,none,none,none] h':=by
 obtain⟨r1,h1,e1,b1,D1,K1⟩:=tk C (ρ:=[x0,some (.ref d),none,none,none,none,none,none,none,none,none,none,none,none,none,none]) (y:=.cst (.int (9))) D (by omega) (by decide) (by decide) rfl rfl
 obtain⟨r2,h2,e2,b2,D2,K2⟩:=tk C (ρ:=[x0,some (.ref d),none,none,none,none,none,none,none,none,none,none,none,none,none,none]) (y:=.cst (.int (4))) D1 (by omega) (by decide) (by decide) rfl rfl
 obtain⟨r3,h3,e3,b3,D3,K3⟩:=tk C (ρ:=[x0,some (.ref d),none,none,none,none,none,none,none,none,none,none,none,none,none,none]) (y:=.cst (.int (3))) (D2.new (o:=.lst [.int (r1:Int),.int 8,.int (r2:Int)])) (by omega) (by decide) (by decide) rfl rfl
 obtain⟨hd2,hc2⟩:=D2.lt
 have gl:h3.get h2.n=some (.lst [.int (r1:Int),.int ((8:Nat):Int),.int (r2:Int)]):=K3.get _ _ (by omega) (by omega) zad
 obtain⟨g,hg,hg8⟩:∃g:Nat,[W.int (r1:Int),.int ((8:Nat):Int),.int (r2:Int)][r3]?=some (.int (g:Int))/\g<=8:=by
  have:r3=0\/r3=1\/r3=2:=by omega
  rcases this with rfl|rfl|rfl
  .exact⟨r1,rfl,by omega⟩
  .exact⟨8,rfl,by omega⟩
  .exact⟨r2,rfl,by omega⟩
 obtain⟨r4,h4,e4,b4,D4,K4⟩:=tk C (ρ:=[x0,some (.ref d),some (.int (g:Int)),none,none,none,none,none,none,none,none,none,none,none,none,none]) (y:=.cst (.int (4))) D3 (by omega) (by decide) (by decide) rfl rfl
 obtain⟨nm,h5,e5,b5,D5,K5⟩:=tk C (ρ:=[x0,some (.ref d),some (.int (g:Int)),some (.int ((1+r4:Nat):Int)),none,none,none,none,none,none,none,none,none,none,none,none]) (y:=.cst (.int (100))) D4 (by omega) (by decide) (by decide) rfl rfl
 obtain⟨one,h6,e6,b6,D6,K6⟩:=tk C (ρ:=[x0,some (.ref d),some (.int (g:Int)),some (.int ((1+r4:Nat):Int)),some (.int (nm:Int)),none,none,none,none,none,none,none,none,none,none,none]) (y:=.cst (.int (100))) D5 (by omega) (by decide) (by decide) rfl rfl
 obtain⟨oth,h7,e7,b7,D7,K7⟩:=tk C (ρ:=[x0,some (.ref d),some (.int (g:Int)),some (.int ((1+r4:Nat):Int)),some (.int (nm:Int)),some (.int (one:Int)),none,none,none,none,none,none,none,none,none,none]) (y:=.cst (.int (100))) D6 (by omega) (by decide) (by decide) rfl rfl
 refine⟨g,1+r4,nm,one,oth,h7,hg8,by omega,by omega,by omega,by omega,by omega,D7.mono (by omega),λrest=>?_⟩
 refine(zaa (setE (idxE (lst3E e1 rfl e2) e3 (zhz gl hg)))).trans ?_
 refine(zaa (setE (x:=.int ((1+r4:Nat):Int)) (h1:=h4) (opE rfl e4 ?_))).trans ?_
 .rw[addI,Int.natCast_add];rfl
 refine(zaa (setE e5)).trans ?_
 refine(zaa (setE e6)).trans ?_
 exact zaa (setE e7)
theorem zyc{h:VH}{d c g b nm one oth:Nat}{x0:Option W}(D:Dk h d c 7)(b1:1<=b)(hb4:b<=4)(h1n:nm<=99)(h2n:one<=99)(h3n:oth<=99):∃(es:List Int) (la:Option Nat) (r7 r8:Nat) (h':VH),es.length=b/\(∀e∈es,0<=e/\e<=99)/\(la=none\/la=some 0)/\h'.get r8=some (.lst (es.map .int))/\r8≠d/\r8≠c/\Dk h' d c 9/\∀rest:S,
 exs (run F 29) (.seq (.set 7 (.lst (.cons (.op .mul (.lst (.cons (.var 5) .nil)) (.cst (.int (4)))) (.cons (.op .mul (.lst (.cons (.var 5) (.cons (.var 6) .nil))) (.cst (.int (2)))) (.cons (.op .mul (.lst (.cons (.var 4) .nil)) (.cst (.int (4)))) (.cons (.lst (.cons (.var 5) (.cons (.var 5) (.cons (.var 5) (.cons (.var 6) .nil))))) (.cons (.lst (.cons (.var 5) (.cons (.var 6) (.cons (.var 5) (.cons (.var 5) .nil))))) .nil))))))) (.seq (.set 8 (.slc (.idx (.var 7) (.call 5 (.cons (.var 1) (.cons (.cst (.int (5))) .nil)))) false (.cst .non) true (.var 3))) (.seq (.set 9 (.idx (.lst (.cons (.cst (.int (0))) (.cons (.cst .non) .nil))) (.op .fdiv (.call 5 (.cons (.var 1) (.cons (.cst (.int (4))) .nil))) (.cst (.int (3)))))) rest))) [x0,some (.ref d),some (.int (g:Int)),some (.int (b:Int)),some (.int (nm:Int)),some (.int (one:Int)),some (.int (oth:Int)),none,none,none,none,none,none,none,none,none] h =
 exs (run F 29) rest [x0,some (.ref d),some (.int (g:Int)),some (.int (b:Int)),some (.int (nm:Int)),some (.int (one:Int)),some (.int (oth:Int)),some (.ref r7),some (.ref r8),some (optW la),none,none,none,none,none,none] h':=by
 let A0:List Int:=[(one:Int),one,one,one]
 let A1:List Int:=[(one:Int),oth,one,oth]
 let A2:List Int:=[(nm:Int),nm,nm,nm]
 let A3:List Int:=[(one:Int),one,one,oth]
 let A4:List Int:=[(one:Int),oth,one,one]
 let k1:=h.new (.lst [.int (one:Int)])
 let k2:=k1.new (.lst (A0.map .int))
 let k3:=k2.new (.lst [.int (one:Int),.int (oth:Int)])
 let k4:=k3.new (.lst (A1.map .int))
 let k5:=k4.new (.lst [.int (nm:Int)])
 let k6:=k5.new (.lst (A2.map .int))
 let k7:=k6.new (.lst (A3.map .int))
 let k8:=k7.new (.lst (A4.map .int))
 let k9:=k8.new (.lst [.ref (h.n+1),.ref (h.n+3),.ref (h.n+5),.ref (h.n+6),.ref (h.n+7)])
 have e7:ev (run F 29) (.lst (.cons (.op .mul (.lst (.cons (.var 5) .nil)) (.cst (.int (4)))) (.cons (.op .mul (.lst (.cons (.var 5) (.cons (.var 6) .nil))) (.cst (.int (2)))) (.cons (.op .mul (.lst (.cons (.var 4) .nil)) (.cst (.int (4)))) (.cons (.lst (.cons (.var 5) (.cons (.var 5) (.cons (.var 5) (.cons (.var 6) .nil))))) (.cons (.lst (.cons (.var 5) (.cons (.var 6) (.cons (.var 5) (.cons (.var 5) .nil))))) .nil)))))) [x0,some (.ref d),some (.int (g:Int)),some (.int (b:Int)),some (.int (nm:Int)),some (.int (one:Int)),some (.int (oth:Int)),none,none,none,none,none,none,none,none,none] h=.ok (.ref (h.n+8)) k9:=by
  refine lst5E (h1:=k2) (h2:=k4) (h3:=k6) (h4:=k7) (h5:=k8) (x:=.ref (h.n+1)) (y:=.ref (h.n+3)) (z:=.ref (h.n+5)) (u:=.ref (h.n+6)) (v:=.ref (h.n+7)) (opE (lst1E (varE rfl)) rfl ?_) (opE (lst2E (varE rfl) (varE rfl)) rfl ?_) (opE (lst1E (varE rfl)) rfl ?_) (lst4E (varE rfl) (varE rfl) (varE rfl) (varE rfl)) (lst4E (varE rfl) (varE rfl) (varE rfl) (varE rfl))
  .exact repL (n:=4) (zad (h:=h)) (by decide) (show 1*4<=1000000 by decide)
  .exact repL (n:=2) (zad (h:=k2)) (by decide) (show 2*2<=1000000 by decide)
  .exact repL (n:=4) (zad (h:=k4)) (by decide) (show 1*4<=1000000 by decide)
 obtain⟨r,h9,e9,b9,D9,K9⟩:=tk C (h:=k9) (ρ:=[x0,some (.ref d),some (.int (g:Int)),some (.int (b:Int)),some (.int (nm:Int)),some (.int (one:Int)),some (.int (oth:Int)),some (.ref (h.n+8)),none,none,none,none,none,none,none,none]) (y:=.cst (.int (5))) (D.new.new.new.new.new.new.new.new.new) (by omega) (by decide) (by decide) rfl rfl
 obtain⟨hdn,hcn⟩:=D.lt
 have go:∀{j:Nat}{o:VO},h.n<=j->k9.get j=some o->h9.get j=some o:=λhj e=>K9.get _ _ (by omega) (by omega) e
 have c0:k9.get (h.n+1)=some (.lst (A0.map .int)):=by
  refine(zab (h:=k8) (show h.n+1<h.n+8 by omega)).trans ((zab (h:=k7) (show h.n+1<h.n+7 by omega)).trans ((zab (h:=k6) (show h.n+1<h.n+6 by omega)).trans ((zab (h:=k5) (show h.n+1<h.n+5 by omega)).trans ((zab (h:=k4) (show h.n+1<h.n+4 by omega)).trans ((zab (h:=k3) (show h.n+1<h.n+3 by omega)).trans ((zab (h:=k2) (show h.n+1<h.n+2 by omega)).trans (zad (h:=k1))))))))
 have c1:k9.get (h.n+3)=some (.lst (A1.map .int)):=by
  refine(zab (h:=k8) (show h.n+3<h.n+8 by omega)).trans ((zab (h:=k7) (show h.n+3<h.n+7 by omega)).trans ((zab (h:=k6) (show h.n+3<h.n+6 by omega)).trans ((zab (h:=k5) (show h.n+3<h.n+5 by omega)).trans ((zab (h:=k4) (show h.n+3<h.n+4 by omega)).trans (zad (h:=k3))))))
 have c2:k9.get (h.n+5)=some (.lst (A2.map .int)):=by
  refine(zab (h:=k8) (show h.n+5<h.n+8 by omega)).trans ((zab (h:=k7) (show h.n+5<h.n+7 by omega)).trans ((zab (h:=k6) (show h.n+5<h.n+6 by omega)).trans (zad (h:=k5))))
 have c3:k9.get (h.n+6)=some (.lst (A3.map .int)):=by
  refine(zab (h:=k8) (show h.n+6<h.n+8 by omega)).trans ((zab (h:=k7) (show h.n+6<h.n+7 by omega)).trans (zad (h:=k6)))
 have c4:k9.get (h.n+7)=some (.lst (A4.map .int)):=by
  refine(zab (h:=k8) (show h.n+7<h.n+8 by omega)).trans (zad (h:=k7))
 have g9:h9.get (h.n+8)=some (.lst [.ref (h.n+1),.ref (h.n+3),.ref (h.n+5),.ref (h.n+6),.ref (h.n+7)]):=go (by omega) (zad (h:=k8))
 obtain⟨j,A,hj,gA,hlA,hA⟩:∃(j:Nat) (A:List Int),[W.ref (h.n+1),.ref (h.n+3),.ref (h.n+5),.ref (h.n+6),.ref (h.n+7)][r]?=some (.ref j)/\h9.get j=some (.lst (A.map .int))/\A.length=4/\∀e∈A,0<=e/\e<=99:=by
  have:r=0\/r=1\/r=2\/r=3\/r=4:=by omega
  have four:∀{x y z u:Nat},x<=99->y<=99->z<=99->u<=99->∀e∈[(x:Int),y,z,u],0<=e/\e<=99:=λhx hy hz hu e he=>by
   simp only[vaz,vcg,ve7]at he
   rcases he with rfl|rfl|rfl|rfl<;>omega
  rcases this with rfl|rfl|rfl|rfl|rfl
  .exact⟨_,A0,rfl,go (by omega) c0,rfl,four h2n h2n h2n h2n⟩
  .exact⟨_,A1,rfl,go (by omega) c1,rfl,four h2n h3n h2n h3n⟩
  .exact⟨_,A2,rfl,go (by omega) c2,rfl,four h1n h1n h1n h1n⟩
  .exact⟨_,A3,rfl,go (by omega) c3,rfl,four h2n h2n h2n h3n⟩
  .exact⟨_,A4,rfl,go (by omega) c4,rfl,four h2n h3n h2n h2n⟩
 let m1:=h9.new (.lst ((A.take b).map .int))
 let m2:=m1.new (.lst [.int 0,.non])
 have e8:ev (run F 29) (.slc (.idx (.var 7) (.call 5 (.cons (.var 1) (.cons (.cst (.int (5))) .nil)))) false (.cst .non) true (.var 3)) [x0,some (.ref d),some (.int (g:Int)),some (.int (b:Int)),some (.int (nm:Int)),some (.int (one:Int)),some (.int (oth:Int)),some (.ref (h.n+8)),none,none,none,none,none,none,none,none] k9=.ok (.ref h9.n) m1:=
  slcE (idxE (varE rfl) e9 (zhz g9 hj)) rfl (varE rfl) rfl rfl (by rw[zck gA,zb4 (by rw[vad,hlA];exact hb4),<-vdq])
 obtain⟨r',h10,e10,b10,D10,K10⟩:=tk C (h:=m2) (ρ:=[x0,some (.ref d),some (.int (g:Int)),some (.int (b:Int)),some (.int (nm:Int)),some (.int (one:Int)),some (.int (oth:Int)),some (.ref (h.n+8)),some (.ref h9.n),none,none,none,none,none,none,none]) (y:=.cst (.int (4))) (D9.new.new) (by omega) (by decide) (by decide) rfl rfl
 obtain⟨hd9,hc9⟩:=D9.lt
 have gm:h10.get (h9.n+1)=some (.lst [.int 0,.non]):=K10.get _ _ (by omega) (by omega) (zad (h:=m1))
 have g8:h10.get h9.n=some (.lst ((A.take b).map .int)):=K10.get _ _ (by omega) (by omega) ((zab (h:=m1) (vbq _)).trans (zad (h:=h9)))
 have ef:opW .fdiv (.int (r':Int)) (.int 3) h10=.ok (.int ((r'/3:Nat):Int)) h10:=by
  have:r'=0\/r'=1\/r'=2\/r'=3:=by omega
  rcases this with rfl|rfl|rfl|rfl<;>rfl
 refine⟨A.take b,if r'/3=0 then some 0 else none,h.n+8,h9.n,h10,by rw[vcf];omega,λe he=>hA e (List.mem_of_mem_take he),by split<;>simp,g8,by omega,by omega,D10.mono (by omega),λrest=>?_⟩
 refine(zaa (setE e7)).trans ?_
 refine(zaa (setE e8)).trans ?_
 refine zaa (setE (idxE (y:=.int ((r'/3:Nat):Int)) (h2:=h10) (lst2E rfl rfl) (opE e10 rfl ef) (zhz gm ?_)))
 have:r'/3=0\/r'/3=1:=by omega
 rcases this with z|z<;>rw[z]<;>rfl
end
section
variable{F:Nat->Option Fn}(C:C23 F)
include C
theorem law23{ns:List Int}(hl:ns.length<=63):zb6 (run F 30 701 [.fz (ns.map .int)] ⟨0,0,[]⟩)=true:=by
 rw[show(30:Nat)=29+1 from rfl,zak C.f701 rfl]
 obtain⟨h1,e1,D1⟩:=deck C.d (k:=28) (h:=⟨0,0,[]⟩) hl
 obtain⟨g,b,nm,one,oth,h2,hg,b1,hb4,hn,ho,hp,D2,E2⟩:=zuh C (x0:=some (.fz (ns.map .int))) D1
 obtain⟨es,la,r7,r8,h3,hes,hee,hla,g8,n8,m8,D3,E3⟩:=zyc C (g:=g) (x0:=some (.fz (ns.map .int))) D2 b1 hb4 hn ho hp
 have bo:(chain g b (nm:Int) es la).Ok:=ch_ok hg b1 hb4 ⟨by omega,by omega⟩ hee hla
 let k1:=h3.new (.lst [.int (nm:Int)])
 let k2:=k1.new (.lst (.int (nm:Int)::es.map .int))
 have r8n:=zam g8
 have e10:ev (run F 29) (.call 130 (.cons (.var 2) (.cons (.var 3) (.cons (.op .add (.lst (.cons (.var 4) .nil)) (.var 8)) (.cons (.var 9) .nil))))) [some (.fz (ns.map .int)),some (.ref (0+1)),some (.int (g:Int)),some (.int (b:Int)),some (.int (nm:Int)),some (.int (one:Int)),some (.int (oth:Int)),some (.ref r7),some (.ref r8),some (optW la),none,none,none,none,none,none] h3=.ok (chain g b (nm:Int) es la).w k2:=by
  refine zny (x:=.int (g:Int)) (y:=.int (b:Int)) (z:=.ref (h3.n+1)) (u:=optW la) (h3:=k2) (varE rfl) (varE rfl) (opE (lst1E (varE rfl)) (varE rfl) ?_) (varE rfl) (zom C.f130 (k:=28) hg hb4 hes (zad (h:=k1)))
  exact catL (zad (h:=h3)) ((zab r8n).trans g8) (by simp;omega)
 obtain⟨ws,h4,e4,p4,l4,D4,K4⟩:=zni (cl:=run F 29) (P:=λ_ w=>∃x:Int,w=.int x/\(x=0\/x=1)) (e:=zcm) (tl:=[some (.ref (0+1))]) (m:=1) (lim:=g) (d:=0+1) (c:=0) (λi h bb h0 hl D hb=>by
  obtain⟨r,h',e,r0,r1,D',K'⟩:=take C.d (k:=26) (m:=2) D (by omega) (by decide) (by decide)
  exact⟨.int r,h',za3 (varE rfl) rfl e,⟨r,rfl,by omega⟩,D',K'⟩) g 0 none k2 9 (by omega) (by omega) D3.new.new (by omega)
 obtain⟨ls,rfl,hbits⟩:=zn0 (zj7 p4)
 rw[vad]at l4
 have e11:=zrx (cl:=run F 29) (a:=.cons (.var 2) .nil) (ρ:=[some (.fz (ns.map .int)),some (.ref (0+1)),some (.int (g:Int)),some (.int (b:Int)),some (.int (nm:Int)),some (.int (one:Int)),some (.int (oth:Int)),some (.ref r7),some (.ref r8),some (optW la),some (chain g b (nm:Int) es la).w,none,none,none,none,none]) (h:=k2) (h1:=k2) (n:=g) (ow:=1) (ix:=[1]) (e:=zcm) (by rw[ev,varE rfl,bindok,ev];rfl) (by omega) e4 (by rw[vad,l4];omega)
 obtain⟨x13,e13⟩:=zku (cl:=run F 29) (h:=h4.new (.lst (ls.map .int))) (pre:=[some (.fz (ns.map .int)),some (.ref (0+1)),some (.int (g:Int)),some (.int (b:Int)),some (.int (nm:Int)),some (.int (one:Int)),some (.int (oth:Int)),some (.ref r7),some (.ref r8),some (optW la),some (chain g b (nm:Int) es la).w,some (iW ls)]) (post:=[none,none]) rfl ls.reverse 0 none (λy hy=>hbits y (List.mem_reverse.mp hy))
 rw[zkv]at e13
 obtain⟨i,h5,e5,i5,D5,K5⟩:=tk C (h:=h4.new (.lst (ls.map .int))) (m:=(b:Int)) (ρ:=[some (.fz (ns.map .int)),some (.ref (0+1)),some (.int (g:Int)),some (.int (b:Int)),some (.int (nm:Int)),some (.int (one:Int)),some (.int (oth:Int)),some (.ref r7),some (.ref r8),some (optW la),some (chain g b (nm:Int) es la).w,some (iW ls),some (.int (val ls:Int)),x13,none,none]) (y:=.var 3) D4.new (by omega) (by omega) (by omega) rfl (varE rfl)
 have g85:h5.get r8=some (.lst (es.map .int)):=by
  have a1:k2.get r8=some (.lst (es.map .int)):=(zab (h:=k1) (show r8<h3.n+1 by omega)).trans ((zab r8n).trans g8)
  have a2:=K4.get _ _ n8 m8 a1
  exact K5.get _ _ n8 m8 ((zab (zam a2)).trans a2)
 have eb:exs (run F 29) zea.body [some (.fz (ns.map .int)),none,none,none,none,none,none,none,none,none,none,none,none,none,none,none] ⟨0,0,[]⟩=.ok (.rt (.bl true)) h5:=by
  refine(zaa (setE (h1:=h1) (x:=.ref (0+1)) (zrz (varE rfl) e1))).trans ?_
  refine(E2 _).trans ?_
  refine(E3 _).trans ?_
  refine(zaa (setE e10)).trans ?_
  refine(zaa (setE e11)).trans ?_
  refine(zaa (setE rfl)).trans ?_
  refine(zaa (ρ':=[some (.fz (ns.map .int)),some (.ref (0+1)),some (.int (g:Int)),some (.int (b:Int)),some (.int (nm:Int)),some (.int (one:Int)),some (.int (oth:Int)),some (.ref r7),some (.ref r8),some (optW la),some (chain g b (nm:Int) es la).w,some (iW ls),some (.int (val ls:Int)),x13,none,none]) (h':=h4.new (.lst (ls.map .int))) ?_).trans ?_
  .refine(zq1 (ws:=ls.map .int) (varE rfl) (by rw[vad,l4];omega)).trans ?_
   rw[<-List.map_reverse]
   exact e13
  refine(zaa (setE (tup2E (varE rfl) e5))).trans ?_
  exact zyb C hg b1 hb4 hes bo hla l4 hbits (by omega) g85
 show zb6 (fin ⟨0,0,[]⟩ (exs (run F 29) zea.body [some (.fz (ns.map .int)),none,none,none,none,none,none,none,none,none,none,none,none,none,none,none] ⟨0,0,[]⟩))=true
 rw[eb]
 obtain⟨h11,e11,_⟩:=zhp (h:=⟨0,0,[]⟩) (w:=.bl true) (zjr (zjs F 29) _ _ ⟨0,0,[]⟩ _ _ eb)
 show zb6 (leave ⟨0,0,[]⟩ (.bl true) h5)=true
 rw[e11]
 rfl
end
end RF
namespace HD
open PySem PySem.W PySem.Calls PyProof.Rows
noncomputable section
noncomputable def p:Program:=PySem.Challenge.pw_ballrockers_k23_long_words
noncomputable abbrev S(x:String):Str:=Str.ofString x
noncomputable abbrev U(x:String)(t:Tok):Value:=Value.str (S x) t
noncomputable abbrev R(a:Addr):Value:=Value.ref a
noncomputable abbrev I(i:Int)(t:Tok):Value:=Value.int i t
noncomputable abbrev E(P:Params)(x:String)(t:Tok)(v:Value):DictEntry:=DictEntry.mk (PyData.keyHash P (S x)) (Value.str (S x) t) v
noncomputable abbrev N(o:Obj)(l r:BT):BT:=BT.node o l r
noncomputable abbrev Z:BT:=BT.nil
noncomputable abbrev L(o:Obj):BT:=BT.node o Z Z
noncomputable abbrev Y(c:String)(d:Data):Obj:=Obj.mk (Value.type c) none d #[]
noncomputable abbrev X(d:Data):Obj:=Obj.mk Value.none none d #[]
noncomputable def atN(l:List Stmt)(i:Nat):Stmt:=l.getD i (Stmt.Pass ⟨0,0,0,0⟩)
noncomputable def fbS:Stmt->List Stmt
 |.FunctionDef _ _ b _ _ _ _ _ _ _=>b
 |.ClassDef _ _ _ b _ _ _ _ _ _ _=>b
 |_=>[]
noncomputable def faS:Stmt->Arguments
 |.FunctionDef _ a _ _ _ _ _ _ _ _=>a
 |_=>⟨[],[],none,[],[],none,[]⟩
noncomputable def fsS:Stmt->Scope
 |.FunctionDef _ _ _ _ _ _ s _ _ _=>s
 |_=>p.main.scope
noncomputable def fb(i:Nat):List Stmt:=fbS (atN p.main.body i)
noncomputable def fa(i:Nat):Arguments:=faS (atN p.main.body i)
noncomputable def fs(i:Nat):Scope:=fsS (atN p.main.body i)
noncomputable def cb(i j:Nat):List Stmt:=fbS (atN (fb i) j)
noncomputable def ca(i j:Nat):Arguments:=faS (atN (fb i) j)
noncomputable def cs(i j:Nat):Scope:=fsS (atN (fb i) j)
noncomputable abbrev O:Value:=Value.none
noncomputable abbrev J(i:Int):Value:=Value.int i 0
noncomputable abbrev V(t:Tok):Value:=Value.str (S "/claim/cut.py") t
noncomputable abbrev A(l:Array Value):Data:=Data.fields l
noncomputable abbrev B(f:FuncData):Data:=Data.func f
noncomputable abbrev G(x:String)(i:Nat)(g:Addr)(c:List (Str×Addr))(d k o m:Value)(n:Option Addr)(cd ct:Value)(b:Addr):FuncData:=FuncData.mk (S x) (S x) (fa i) (FuncBody.stmts (fb i)) (fs i) g c d k o m n cd ct b
section
variable(P:Params)
noncomputable def N0:Nat:=4454
noncomputable def lo:List Str:=[S "fallen",S "heading_behind",S "come_down",S "come_out"]
noncomputable def keep:List Nat:=[1,2,3,4,6,7,8,9,10,12,13,14,15,16,17,18,19,20,21,22,23,24,25,26,27,29,30,31,32,38,39,40,42,43,44,45,46,48,49,50,51,52,53,54,55,56]
noncomputable def life:Life:=(Life.mk [] [] [] 0 [] [] false #[] [] 0 false false false 0 [2000,10,10] false 0 true [] [] 0 false)
noncomputable def m0:Nat:=11
noncomputable def ann:Option Value:=(some (R 6))
noncomputable def env:Env:={scope:=p.main.scope,locals:=mainNs,globals:=mainNs,cells:=[],code:=(R 13),frame:=some 14}
noncomputable def bd:List Stmt:=behindTheImports p
noncomputable def cd:Code:=Code.body bd env
noncomputable def fr:List Frame:=[topFrame (Pos.mk 0 0 0 0)]
noncomputable abbrev qC(n:String)(t:Nat)(l k:Int)(r m:Nat):Obj:=Y "code" (A #[U n t,U n (t+1),V (t+2),J l,J k,J 0,J 0,J 3,R r,Value.bool true,J 181,R (r+1),O,R (r+2),R (r+3),R (r+4),J (Int.ofNat m),J l,V (m+1)])
noncomputable abbrev qD(n:String)(t:Nat)(l k:Int)(r m:Nat):Obj:=Y "code" (A #[U n t,U n (t+1),V (t+2),J l,J k,J 0,J 0,J 3,R r,Value.bool true,J 181,R (r+1),O,O,O,R (r+2),J (Int.ofNat m),J l,V (m+1)])
noncomputable def qU:Nat->List String->List Value
 |_,[]=>[]
 |t,x::r=>U x t::qU (t+1) r
noncomputable abbrev qT(t:Nat)(l:List String):Obj:=Y "tuple" (Data.seq (qU t l).toArray 0)
noncomputable abbrev qF(n:String)(i:Nat)(u:Value)(r:Addr):Obj:=Y "function" (B (G n i 3 [] O O O u none (R r) O 0))
noncomputable abbrev qG(n:String)(i:Nat):Obj:=X (B (G n i 0 [] O O O O none O O 0))
noncomputable def qJ:List (Int×Nat)->List Value
 |[]=>[]
 |(a,b)::r=>J a::J 0::R b::qJ r
noncomputable def qO:List Obj->List Obj
 |x::_::r=>x::qO r
 |x=>x
noncomputable def qE:List Obj->List Obj
 |_::y::r=>y::qE r
 |_=>[]
noncomputable def qB:Nat->List Obj->BT
 |f+1,x::r=>N x (qB f (qO r)) (qB f (qE r))
 |_,_=>Z
 def a0:=(Y "tuple" (Data.seq #[] 0))
 def a1:=(X (A #[]))
 abbrev qN(n:String)(i t:Nat)(l k:Int)(r:Nat)(u:Value):List Obj:=[a0,a1,qG n i,qD n t l k r (t+3),qF n i u (r+3)]
 abbrev qM(n:String)(i t:Nat)(s:List String)(l k:Int)(r:Nat)(u:Value):List Obj:=[a0,a1,qT (t+3) s,a0,qG n i,qC n t l k r (t+3+s.length),qF n i u (r+5)]
 def a2:=(Y "code" (A #[(U "<module>" 182),(U "<module>" 183),(V 184),(J 1),(J 0),(J 0),(J 0),(J 0),(R 11),(Value.bool false),(J 181),(R 12),O,O,O,O,(J 185),(J 1),(V 186)]))
 def a3:=(Obj.mk (Value.type "frame") none Data.plain #[(some (R 13)),(some (R 3)),(some (R 3)),none,(some (U "__main__" 164)),none,(some (R 0))])
 def ha:Heap:=Heap.mk (Array.mk [(boot_o_0 P),(boot_o_1 P),(boot_o_2 P),(boot_o_3 P),(boot_o_4 P),(boot_o_5 P),(boot_o_6 P),(boot_o_7 P),(boot_o_8 P),(boot_o_9 P),(boot_o_10 P),a0,a1,a2,a3]) (Life.mk [] [] [] 0 [] [] false #[] [] 0 false false false 0 [2000,10,10] false 0 true [] [] 0 false)
noncomputable def sa(w:World)(os:OsState):Shared:=⟨ha w.params,(Array.mk []),(Drawn.mk 0 0 0 0),187,os⟩
theorem seg_q{w:World}{n:Nat}{s s':SharedT}{l:List Stmt}{pos pos':Pos}(h:PySem.W.Fast.tw10110043849684766642 PySem.W.Fast.tw14364793385576792824 p w m0 ann 1 n s (piecesOf l env cd pos fr)=some (.next,s',cd,pos')) :
 segRun treeTable p w m0 ann 1 n s.abs (piecesOf l env cd pos fr)=some (.next,s'.abs,cd,pos'):=
 segRun_of (by rw[PySem.W.Fast.te10110043849684766642,vci];exact h)
theorem pre_q{w:World}{n:Nat}{s s':Shared}{pos:Pos}(h:PySem.W.Fast.tw15667345088766844465 PySem.W.Fast.tw14364793385576792824 p w m0 ann n s (topStub p)=some (s',⟨PySem.W.Fast.tw11892475500146522536 PySem.W.Fast.tw14364793385576792824 cd,cd,pos,fr⟩)) :
 topGo treeTable p w m0 ann n s (topStub p)=some (s',⟨denote treeTable cd,cd,pos,fr⟩):=by
 rw[PySem.W.Fast.te15667345088766844465,vci,PySem.W.Fast.te11892475500146522536];exact h
theorem zui{w:World}{n:Nat}{s s':Shared}{pos pos':Pos}(h:PySem.W.Fast.tw14374325043358763698 PySem.W.Fast.tw14364793385576792824 p w m0 ann 1 n s (blockOf bd env cd pos fr)=some (.next,s',cd,pos')) :
 segRun treeTable p w m0 ann 1 n s (blockOf bd env cd pos fr)=some (.next,s',cd,pos'):=by
 rw[PySem.W.Fast.te14374325043358763698,vci];exact h
theorem fin_q{w:World}{n:Nat}{s s':Shared}{pos:Pos}(h:PySem.W.Fast.tw14082659384304107361 PySem.W.Fast.tw14364793385576792824 p w m0 ann n s ⟨doneF .next,cd,pos,fr⟩=some s') :
 topRun treeTable p w m0 ann n s ⟨doneF .next,cd,pos,fr⟩=some s':=by
 rw[PySem.W.Fast.te14082659384304107361,vci];exact h
set_option maxHeartbeats 0 in
theorem pre(w:World)(os:OsState):topGo treeTable p w m0 ann 12 ⟨boot_heap w.params,Array.mk [],boot_drawn,boot_toks,os⟩ (topStub p)=some (sa w os,⟨denote treeTable cd,cd,(Pos.mk 0 0 0 0),fr⟩):=pre_q (by kernel_rfl)
 def vtb:List Obj:=[(boot_o_0 P),(boot_o_1 P),(boot_o_2 P),(boot_o_3 P),(boot_o_4 P),(boot_o_5 P),(boot_o_6 P),(boot_o_7 P),(boot_o_8 P),(boot_o_9 P),(boot_o_10 P),a0,a1,a2,a3]
 def tb:=qB 20 (vtb P)
noncomputable def sb(w:World)(os:OsState):SharedT:=⟨tb w.params,15,life,(Array.mk []),(Drawn.mk 0 0 0 0),187,os⟩
set_option maxHeartbeats 0 in
theorem block(w:World)(os:OsState):segRun treeTable p w m0 ann 1 1 (sa w os) (blockOf bd env cd (Pos.mk 0 0 0 0) fr)=some (.next,(sb w os).abs,cd,(Pos.mk 0 0 0 0)):=zui (by kernel_rfl)
 def ea4:=[(E P "__doc__" 166 O),(E P "__package__" 167 O),(E P "__loader__" 168 (Value.builtin "__main__.__loader__#opaque")),(E P "__spec__" 169 O),(E P "__annotations__" 170 (R 6)),(E P "__builtins__" 171 (R 4)),(E P "__file__" 173 (V 172)),(E P "__cached__" 174 O),(E P "BoardError" 206 (R 24)),(E P "NoBoard" 222 (R 37)),(E P "Fault" 249 (R 56)),(E P "NoStand" 265 (R 68)),(E P "is_whole" 274 (R 77)),(E P "is_whole_within" 283 (R 84)),(E P "is_tuple_within" 292 (R 91)),(E P "are_wholes_within" 304 (R 98)),(E P "is_just" 310 (R 103)),(E P "MOST_COLUMNS" 314 (I 40 313)),(E P "MOST_ROWS" 316 (I 60 315)),(E P "MOST_GROUPS" 318 (I 8 317)),(E P "MOST_FEEDERS" 320 (I 4 319)),(E P "MOST_NAME" 322 (I 99 321)),(E P "look_at_board" 336 (R 110)),(E P "is_stand" 346 (R 117)),(E P "look_at_stand" 354 (R 124)),(E P "is_board_but_for_places" 366 (R 131)),(E P "are_rows" 375 (R 138)),(E P "are_doors" 385 (R 145)),(E P "is_door" 395 (R 152)),(E P "is_feeder_or_none" 403 (R 159)),(E P "may_stand" 413 (R 166)),(E P "is_rocker" 423 (R 173)),(E P "are_leans" 431 (R 180)),(E P "LEFT" 436 (I (-1) 435)),(E P "STRAIGHT" 438 (I 0 437)),(E P "RIGHT" 440 (I 1 439)),(E P "NO_DOOR" 441 (R 181))]
 def a4:=Y "dict" (Data.dict ((E P "__name__" 165 (U "ballrockers.ways" 432))::ea4 P).toArray 38)
 def ja5:List (Int×Nat):=[(2,20),(4,33),(6,45),(11,64),(14,76),(16,83),(18,90),(20,97),(27,102),(39,109),(47,116),(53,123),(56,130),(65,137),(72,144),(79,151),(84,158),(86,165),(94,172),(99,179)]
 def a5:=X (A (qJ ja5).toArray)
 def a6:=(Y "tuple" (Data.seq #[(Value.type "ValueError")] 0))
 def a7:=(Y "builtin_function_or_method" (A #[(Value.builtin "type.__prepare__"),(Value.type "type")]))
 def a8:=(Y "dict" (Data.dict #[(E P "__module__" 196 (U "ballrockers.errors" 187)),(E P "__qualname__" 198 (U "BoardError" 197)),(E P "__firstlineno__" 200 (I 2 199)),(E P "__static_attributes__" 201 (R 22))] 4))
 def a9:=(Y "code" (A #[(U "BoardError" 191),(U "BoardError" 192),(V 193),(J 2),(J 0),(J 0),(J 0),(J 0),(R 18),(Value.bool false),(J 181),(R 19),O,O,O,O,(J 194),(J 2),(V 195)]))
 def a10:=(Obj.mk (Value.type "frame") none Data.plain #[(some (R 20)),(some (R 3)),(some (R 17)),none,(some (U "ballrockers.errors" 187)),none,(some (R 0))])
 def a11:=(Y "dict" (Data.dict #[(E P "__module__" 196 (U "ballrockers.errors" 187)),(E P "__firstlineno__" 200 (I 2 199)),(E P "__static_attributes__" 201 (R 22)),(E P "__weakref__" 203 (R 25)),(E P "__doc__" 204 O)] 3))
 def qR(l:List Nat):Obj:=(Obj.mk (Value.type "type") none (Data.cls (ClassData.mk (S "BoardError") [(Value.type "ValueError")] [(R 24),(Value.type "ValueError"),(Value.type "Exception"),(Value.type "BaseException"),(Value.type "object")] 23 (S "BoardError") true [] (l.map λi=>R i) false none false)) #[(some (R 15)),none,(some (U "BoardError" 189)),(some (U "BoardError" 197)),(some (Value.builtin "ValueError.__new__")),(some (Value.bool true))])
 def a12:=qR [37,56,68]
 def a13:=(Y "getset_descriptor" (A #[(U "__weakref__" 202),(R 24),(Value.builtin "ExceptionGroup.__weakref__"),O]))
 def a14:=(Y "super" (A #[(R 24),(R 24),(R 24)]))
 def a15:=(Y "builtin_function_or_method" (A #[(Value.builtin "object.__init_subclass__"),(R 24)]))
 def a16:=(Y "tuple" (Data.seq #[(R 24)] 0))
 def a24:=(Y "dict" (Data.dict #[(E P "__module__" 230 (U "ballrockers.errors" 187)),(E P "__qualname__" 232 (U "Fault" 231)),(E P "__firstlineno__" 234 (I 6 233)),(E P "__init__" 243 (R 53)),(E P "__static_attributes__" 246 (R 54))] 5))
 def a25:=(X (A #[(J 8),(J 4),(R 52)]))
 def a26:=(Y "code" (A #[(U "Fault" 225),(U "Fault" 226),(V 227),(J 6),(J 0),(J 0),(J 0),(J 0),(R 43),(Value.bool false),(J 181),(R 44),O,O,O,O,(J 228),(J 6),(V 229)]))
 def a27:=(Obj.mk (Value.type "frame") none Data.plain #[(some (R 45)),(some (R 3)),(some (R 42)),none,(some (U "ballrockers.errors" 187)),none,(some (R 0))])
 def a28:=qT 238 ["self","row","column"]
 def a29:=(X (B (FuncData.mk (S "__init__") (S "Fault.__init__") (ca 3 0) (FuncBody.stmts (cb 3 0)) (cs 3 0) 0 [] O O O O none O O 0)))
 def a30:=(Y "code" (A #[(U "__init__" 235),(U "Fault.__init__" 236),(V 237),(J 8),(J 3),(J 0),(J 0),(J 3),(R 47),(Value.bool true),(J 181),(R 48),O,(R 49),(R 50),(R 51),(J 241),(J 8),(V 242)]))
 def a31:=(Y "function" (B (FuncData.mk (S "__init__") (S "Fault.__init__") (ca 3 0) (FuncBody.stmts (cb 3 0)) (cs 3 0) 3 [] O O O (U "ballrockers.errors" 187) none (R 52) O 0)))
 def a32:=qT 244 ["column","row"]
 def a33:=(Y "dict" (Data.dict #[(E P "__module__" 230 (U "ballrockers.errors" 187)),(E P "__firstlineno__" 234 (I 6 233)),(E P "__init__" 243 (R 53)),(E P "__static_attributes__" 246 (R 54)),(E P "__doc__" 247 O)] 2))
 def a34:=(Obj.mk (Value.type "type") none (Data.cls (ClassData.mk (S "Fault") [(R 24)] [(R 56),(R 24),(Value.type "ValueError"),(Value.type "Exception"),(Value.type "BaseException"),(Value.type "object")] 55 (S "Fault") true [] [] false none false)) #[(some (R 40)),none,(some (U "Fault" 223)),(some (U "Fault" 231)),(some (Value.builtin "ValueError.__new__")),(some (Value.bool true))])
 def a35:=(Y "super" (A #[(R 56),(R 56),(R 56)]))
 def a36:=(Y "builtin_function_or_method" (A #[(Value.builtin "object.__init_subclass__"),(R 56)]))
 def u266:=U "ballrockers.whole" 266
 def u311:=U "ballrockers.boards" 311
 def a107:=(Y "tuple" (Data.seq #[O,O] 0))
 def qK(n:String)(t:Nat)(l:Int)(b:Nat):List Obj:=[a16,a7,Y "dict" (Data.dict #[E P "__module__" (t+7) (U "ballrockers.errors" 187),E P "__qualname__" (t+9) (U n (t+8)),E P "__firstlineno__" (t+11) (I l (t+10)),E P "__static_attributes__" (t+12) (R (b+7))] 4),a0,a1,Y "code" (A #[U n (t+2),U n (t+3),V (t+4),J l,J 0,J 0,J 0,J 0,R (b+3),Value.bool false,J 181,R (b+4),O,O,O,O,J (Int.ofNat (t+5)),J l,V (t+6)]),Obj.mk (Value.type "frame") none Data.plain #[some (R (b+5)),some (R 3),some (R (b+2)),none,some (U "ballrockers.errors" 187),none,some (R 0)],a0,Y "dict" (Data.dict #[E P "__module__" (t+7) (U "ballrockers.errors" 187),E P "__firstlineno__" (t+11) (I l (t+10)),E P "__static_attributes__" (t+12) (R (b+7)),E P "__doc__" (t+13) O] 2),Obj.mk (Value.type "type") none (Data.cls (ClassData.mk (S n) [R 24] [R (b+9),R 24,Value.type "ValueError",Value.type "Exception",Value.type "BaseException",Value.type "object"] (b+8) (S n) true [] [] false none false)) #[some (R b),none,some (U n t),some (U n (t+8)),some (Value.builtin "ValueError.__new__"),some (Value.bool true)],Y "super" (A #[R (b+9),R (b+9),R (b+9)]),Y "builtin_function_or_method" (A #[Value.builtin "object.__init_subclass__",R (b+9)])]
 def vt0:List Obj:=((vtb P).set 3 (a4 P)).set 12 a5++([a6,a7,(a8 P),a0,a1,a9,a10,a0,(a11 P),a12,a13,a14,a15]++(qK P "NoBoard" 207 4 28++([a16,a7,(a24 P),a0,a25,a26,a27,a0,a1,a28,a0,a29,a30,a31,a32,(a33 P),a34,a35,a36]++(qK P "NoStand" 250 11 59++(qM "is_whole" 6 268 ["thing"] 14 1 71 u266++(qM "is_whole_within" 7 275 ["thing","low","high"] 16 3 78 u266++(qM "is_tuple_within" 8 284 ["thing","fewest","most"] 18 3 85 u266++(qM "are_wholes_within" 9 293 ["thing","fewest","most","low","high","number"] 20 5 92 u266++(qN "is_just" 10 305 27 2 99 u266++(qM "look_at_board" 17 323 ["board","width","groups","rows","row","places","column","piece"] 39 1 104 u311++(qM "is_stand" 18 337 ["board","thing","leans","feeder"] 47 2 111 u311++(qM "look_at_stand" 19 347 ["board","thing"] 53 2 118 u311++(qM "is_board_but_for_places" 20 355 ["board","width","groups","rows","feeders","doors"] 56 1 125 u311++(qM "are_rows" 21 367 ["thing","width","places"] 65 2 132 u311++(qM "are_doors" 22 376 ["thing","width","feeders","door"] 72 3 139 u311++(qM "is_door" 23 386 ["thing","feeders","name","call"] 79 2 146 u311++(qM "is_feeder_or_none" 24 396 ["thing","feeders"] 84 2 153 u311++(qM "may_stand" 25 404 ["piece","column","width","groups"] 86 4 160 u311++(qM "is_rocker" 26 414 ["thing","groups","group","side"] 94 2 167 u311++(qM "are_leans" 27 424 ["thing","groups"] 99 2 174 u311++([a107])))))))))))))))))))))
 def t0:=qB 20 (vt0 P)
noncomputable def s0(w:World)(os:OsState):SharedT:=⟨t0 w.params,182,life,(Array.mk []),(Drawn.mk 0 0 0 0),442,os⟩
noncomputable def st0:List Stmt:=(bd.drop 0).take 33
set_option maxHeartbeats 0 in
theorem seg0(w:World)(os:OsState):segRun treeTable p w m0 ann 1 1485 (sb w os).abs (piecesOf st0 env cd (Pos.mk 0 0 0 0) fr)=some (.next,(s0 w os).abs,cd,(Pos.mk 105 0 105 7)):=seg_q (by kernel_rfl)
 def ea108 := (ea4 P ++ [(E P "fallen" 458 (R 189)), (E P "heading_behind" 471 (R 197)), (E P "come_down" 485 (R 205)), (E P "come_out" 498 (R 213)), (E P "for_ever" 511 (R 220)), (E P "for_ever_holds" 525 (R 227)), (E P "stand_behind" 537 (R 234)), (E P "doors_word" 547 (R 241)), (E P "word_holds" 557 (R 248)), (E P "word_of" 563 (R 253)), (E P "shortest_turn" 571 (R 260)), (E P "drawn_in" 579 (R 267)), (E P "_law_cell" 589 (R 274)), (E P "_law_mixed" 599 (R 281)), (E P "_law_deck" 605 (R 286)), (E P "_law_take" 614 (R 293)), (E P "_law_number" 622 (R 300)), (E P "_law_same" 628 (R 305)), (E P "_law_chain" 634 (R 310)), (E P "_law_due" 640 (R 315)), (E P "law" 646 (R 320))])
 def a108:=Y "dict" (Data.dict ((E P "__name__" 165 (U "law_ballrockers_k23_long_words" 580))::ea108 P).toArray 59)
 def ja109:List (Int×Nat):=ja5++[(106,188),(122,196),(136,204),(140,212),(145,219),(154,226),(169,233),(176,240),(178,247),(180,252),(187,259),(192,266),(198,273),(202,280),(205,285),(207,292),(216,299),(218,304),(226,309),(243,314),(261,319)]
 def a109:=X (A (qJ ja109).toArray)
 def a110:=(Y "tuple" (Data.seq #[O] 0))
 def a111:=qT 445 ["board","leans","feeder","fault","column","columns","turned","leaning","heading","places","piece"]
 def a112:=qG "fallen" 33
 def a113:=qC "fallen" 442 106 4 183 456
 def a114:=(Y "function" (B (G "fallen" 33 3 [] (R 182) O O (U "ballrockers.ways" 432) none (R 188) O 0)))
 def a115:=qT 462 ["piece","heading","leaning","fault","group","side","lean"]
 def a116:=qG "heading_behind" 34
 def a117:=qC "heading_behind" 459 122 4 191 469
 def a118:=(Y "function" (B (G "heading_behind" 34 3 [] (R 190) O O (U "ballrockers.ways" 432) none (R 196) O 0)))
 def a119:=qT 475 ["board","leans","feeder","fault","columns","turned","behind","column"]
 def a120:=qG "come_down" 35
 def a121:=qC "come_down" 472 136 4 199 483
 def a122:=(Y "function" (B (G "come_down" 35 3 [] (R 198) O O (U "ballrockers.ways" 432) none (R 204) O 0)))
 def a123:=qT 489 ["board","leans","feeder","fault","column","behind","door"]
 def a124:=qG "come_out" 36
 def a125:=qC "come_out" 486 140 4 207 496
 def a126:=(Y "function" (B (G "come_out" 36 3 [] (R 206) O O (U "ballrockers.ways" 432) none (R 212) O 0)))
 def u499:=U "ballrockers.ever" 499
 def u538:=U "ballrockers.words" 538
 def u580:=U "law_ballrockers_k23_long_words" 580
 def vt1 : List Obj := ((vt0 P).set 3 (a108 P)).set 12 a109 ++ ([a110, a0, a1, a111, a0, a112, a113, a114, a110, a0, a1, a115, a0, a116, a117, a118, a110, a0, a1, a119, a0, a120, a121, a122, a110, a0, a1, a123, a0, a124, a125, a126] ++ (qM "for_ever" 38 501 ["board", "stand", "numbers", "coming", "back"] 145 2 214 u499 ++ (qM "for_ever_holds" 39 512 ["board", "stand", "paper", "stands", "back", "numbers", "coming", "thing"] 154 3 221 u499 ++ (qM "stand_behind" 40 526 ["board", "stand", "leans", "feeder", "door", "behind"] 169 2 228 u499 ++ (qM "doors_word" 42 540 ["board", "stand"] 176 2 235 u538 ++ (qM "word_holds" 43 548 ["board", "stand", "paper", "word"] 178 4 242 u538 ++ (qN "word_of" 44 558 180 2 249 u538 ++ (qM "shortest_turn" 45 564 ["names", "size"] 187 1 254 u538 ++ (qM "drawn_in" 46 572 ["lead", "turn"] 192 2 261 u538 ++ (qM "_law_cell" 48 582 ["_law_script", "_law_k"] 198 2 268 u580 ++ (qM "_law_mixed" 49 590 ["_law_script", "_law_k", "_law_many", "_law_number_here"] 202 3 275 u580 ++ (qN "_law_deck" 50 600 205 1 282 u580 ++ (qM "_law_take" 51 606 ["_law_deck_here", "_law_many", "_law_cell_here"] 207 2 287 u580 ++ (qM "_law_number" 52 615 ["_law_found", "_law_due_here"] 216 2 294 u580 ++ (qN "_law_same" 53 623 218 2 301 u580 ++ (qN "_law_chain" 54 629 226 4 306 u580 ++ (qN "_law_due" 55 635 243 6 311 u580 ++ (qN "law" 56 641 261 1 316 u580))))))))))))))))))
 def t1:=qB 20 (vt1 P)
noncomputable def s1(w:World)(os:OsState):SharedT:=⟨t1 w.params,321,life,(Array.mk []),(Drawn.mk 0 0 0 0),647,os⟩
noncomputable def st1:List Stmt:=(bd.drop 33).take 24
set_option maxHeartbeats 0 in
theorem seg1(w:World)(os:OsState):segRun treeTable p w m0 ann 1 681 (s0 w os).abs (piecesOf st1 env cd (Pos.mk 105 0 105 7) fr)=some (.next,(s1 w os).abs,cd,(Pos.mk 261 0 280 102)):=seg_q (by kernel_rfl)
 def hz:Heap:=Heap.mk (Array.mk (vt1 P)) (Life.mk [] [] [] 0 [] [] false #[] [] 0 false false false 0 [2000,10,10] false 0 true [] [] 0 false)
noncomputable def sz(w:World)(os:OsState):Shared:=⟨hz w.params,(Array.mk []),(Drawn.mk 0 0 0 0),647,os⟩
set_option maxHeartbeats 0 in
theorem fin(w:World)(os:OsState):topRun treeTable p w m0 ann 2 (s1 w os).abs ⟨doneF .next,cd,(Pos.mk 261 0 280 102),fr⟩=some (sz w os):=fin_q (by kernel_rfl)
 def as:List Addr:=[2,3,15,22,23,24,25,28,35,36,37,40,47,49,50,52,53,54,55,56,59,66,67,68,71,73,74,76,77,78,80,81,83,84,85,87,88,90,91,92,94,95,97,98,99,102,103,104,106,107,109,110,111,113,114,116,117,118,120,121,123,124,125,127,128,130,131,132,134,135,137,138,139,141,142,144,145,146,148,149,151,152,153,155,156,158,159,160,162,163,165,166,167,169,170,172,173,174,176,177,179,180,181,182,183,185,186,188,189,190,191,193,194,196,197,198,199,201,202,204,205,206,207,209,210,212,213,214,216,217,219,220,221,223,224,226,227,228,230,231,233,234,235,237,238,240,241,242,244,245,247,248,249,252,253,254,256,257,259,260,261,263,264,266,267,268,270,271,273,274,275,277,278,280,281,282,285,286,287,289,290,292,293,294,296,297,299,300,301,304,305,306,309,310,311,314,315,316,319,320]
 def K:Frag:=as.map λi=>(i,(vt1 P).getD i a0)
noncomputable def M0:Nat:=(12+ (1+ (1485+ (681+2))))
theorem bd_is:bd=st0++(st1++([])):=by kernel_rfl
theorem rest(w:World)(os:OsState):topRun treeTable p w m0 ann (1485+ (681+ (2))) (sb w os).abs (restOf bd env cd (Pos.mk 0 0 0 0) fr)=some (sz w os):=by
 rw[show restOf bd env cd (Pos.mk 0 0 0 0) fr=restOf (st0++(st1++([]))) env cd (Pos.mk 0 0 0 0) fr from vey (λb=>restOf b env cd (Pos.mk 0 0 0 0) fr) bd_is]
 exact(piece_app (seg0 w os) (piece_app (seg1 w os) (piece_nil (fin w os))))
theorem run(w:World)(os:OsState):topRun treeTable p w m0 ann M0 ⟨boot_heap w.params,Array.mk [],boot_drawn,boot_toks,os⟩ (topStub p)=some (sz w os):=
 go_top (pre w os) (piece_block (block w os) (rest w os))
noncomputable def lawAt:Nat:=56
noncomputable def zyd:Pos:=(Pos.mk 261 0 280 102)
noncomputable def q:Program:={p with main:={p.main with body:=keep.map (atN p.main.body)}}
theorem as_is:∀P,as=(K P).map (·.1):=λ_=>by kernel_rfl
noncomputable def H:Hook:=kHook K as as_is
noncomputable def Xt(s:Shared):Bool:=xlAt q [] s&&recOk [] s
theorem zye(w:World)(os:OsState):(staticsOk (importedModules p.main.body) (boot_heap w.params) (hz w.params)&&namesBound p (hz w.params)&&gensDone (sz w os)&&laidKept (boot_heap w.params) (hz w.params))=true:=by
 rw[PySem.W.Fast.te5923862056798008813];kernel_rfl
theorem zyf(w:World)(os:OsState):seen ((recsOf q).map (·.name)) (ownsOf q) [] {sz w os with gens:=#[]}=expectedOf q:=by
 rw[PySem.W.Fast.te5160383126252970620,PySem.W.R.mapR_eq,PySem.W.Fast.te3399658132070893891,PySem.W.Fast.te5991557255702980513];kernel_rfl
theorem l_blt(w:World)(os:OsState):(sz w os).heap.bltView=bltViewBooted:=by kernel_rfl
theorem zyg(w:World)(os:OsState):((sz w os).heap.keysOk (looseW q lo) ((recsOf q).map (·.name)) ((litsOf q).map (·.1)) ((clssOf q (looseW q lo)).map (·.name))&& (sz w os).heap.accountedOkI (importedModules p.main.body)&& (sz w os).heap.isNs mainGlobals&& (sz w os).heap.isNs builtinsNs&&tablesOk q (sz w os).heap&&Xt (sz w os)&& (if true=true then(sz w os).gens.size==0 else !leftWithCleanup (sz w os).gens))=true:=by
 rw[PySem.W.Fast.te10880121769531294198,PySem.W.Fast.te821141287760084731,PySem.W.R.mapR_eq,PySem.W.Fast.te3399658132070893891,PySem.W.Fast.te7409074990110511671,PySem.W.Fast.te13664370479719496447,PySem.W.Fast.te14722251495701143533,PySem.W.Fast.te10994771534591457954,PySem.W.Fast.te5923862056798008813];kernel_rfl
theorem zyh(w:World)(os:OsState):tabsOk q (sz w os)=true:=by rw[PySem.W.Fast.te479339242167458305];kernel_rfl
theorem l_pin(w:World)(os:OsState):pinSeenD q (drecsOf q) (sz w os)=pinGoodD (drecsOf q):=by rw[PySem.W.Fast.te16090120013241838585,PySem.W.Fast.te3247288618530077131];kernel_rfl
theorem l_plE(w:World)(os:OsState):plainSeenE q (looseW q lo) (sz w os)=plainGoodE q (looseW q lo):=by rw[PySem.W.Fast.te2386780881361962483,PySem.W.Fast.te821141287760084731];kernel_rfl
theorem l_plD(w:World)(os:OsState):plainSeenD q lo (sz w os)=plainGoodD q lo:=by rw[PySem.W.Fast.te11698064438423848299];kernel_rfl
theorem zyi(w:World)(os:OsState):wideSeen q (sz w os)=wideGood q:=by rw[PySem.W.Fast.te7317090234206586261];kernel_rfl
theorem l_cls(w:World)(os:OsState):clsSeenW q lo (sz w os)=clsGoodW q lo:=by rw[PySem.W.Fast.te7369524293546568484];kernel_rfl
theorem zyj(w:World)(os:OsState):as.map (sz w os).heap.get?=(K w.params).map λp=>some p.2:=by kernel_rfl
theorem left:LeftO p q lo Xt (Hook.obs H) (Hook.val H) N0 true:=
 LeftO.of_pieces (H₀:=boot_heap) (H₁:=hz) (boot_open (by kernel_rfl) (by kernel_rfl) (λs=>by kernel_rfl)) (λw=>by kernel_rfl) run (by kernel_rfl)
  (λw=>funext λos=>looks_pair (zye w os) (looks_pair
    (looks_pair (zyf w os) (looks_pair (l_blt w os) (looks_pair (zyg w os) (looks_pair (zyh w os) (looks_pair (l_pin w os) (looks_pair (l_plE w os) (looks_pair (l_plD w os) (looks_pair (zyi w os) (l_cls w os)))))))))
    (zyj w os)))
noncomputable def df:DefRec:=⟨S "law",fa lawAt,fb lawAt,fs lawAt,zyd⟩
theorem df_is:defOf q (S "law")=some (df,[]):=by kernel_rfl
theorem holds(l:OpenLaw)(hp:l.prog=p)(hn:l.name=S "law")(ok:l.wellSaid=true)(hch:(chainsOk q&&opensWell p&& (frees l.row.toRowW&&l.row.within.isEmpty))=true)(hb:l.row.toRowW.prog.bare)(hw:l.row.toRowW.promised)
 (hwr:(!l.row.writes||l.row.records.isEmpty)=true) (hk:p.theDef (S "law")=some (df.params,df.body,df.scope)) (hkw:kwWritten? df.params.kwonlyargs df.params.kw_defaults=some [])
 (call:WalkO q lo (XL q []) (Hook.says H) l.row.toRowW df [] λf vs=>PySem.call f vs):l.Holds:=
 holds_law ok λsaid=>PySem.W.holds_open (q:=q) (loose:=lo) (Xt:=Xt) (XP:=XL q []) (Yf:=Hook.obs H) (Ya:=Hook.val H) (YP:=Hook.says H) (N:=N0) (r:=l.row) (by have h:l.row.toRowW.prog=p:=hp;show LeftO l.row.toRowW.prog q lo Xt (Hook.obs H) (Hook.val H) N0 true;rw[h];exact left) (Hook.of H) (Hook.keeps H) (λs e=>xl_of s (Bool.and_eq_true_iff.mp e).1) XL.keeps
  (by show defOf q l.name=_;rw[hn];exact df_is) (by show l.prog.theDef l.name=_;rw[hp,hn];exact hk) hkw (λs e=>recFacts_of (Bool.and_eq_true_iff.mp e).2) hwr said (by have h:l.row.toRowW.prog=p:=hp;rw[h];exact hch) hb hw call
end
end
end HD
namespace RF
noncomputable def T23 : List PySem.Str := (["is_whole", "is_whole_within", "_law_cell", "_law_deck", "_law_mixed", "_law_take", "is_tuple_within", "are_wholes_within", "are_doors", "are_rows", "is_board_but_for_places", "is_door", "is_feeder_or_none", "is_rocker", "look_at_board", "may_stand"] ++ List.replicate 1 "" ++ ["are_leans"] ++ List.replicate 9 "" ++ ["is_stand"] ++ List.replicate 1 "" ++ ["look_at_stand"] ++ List.replicate 9 "" ++ ["_law_number"] ++ List.replicate 19 "" ++ ["is_just"] ++ List.replicate 32 "" ++ ["_law_same"] ++ List.replicate 37 "" ++ ["_law_chain"] ++ List.replicate 42 "" ++ ["heading_behind", "fallen", "come_down", "come_out"] ++ List.replicate 5 "" ++ ["stand_behind"] ++ List.replicate 1 "" ++ ["for_ever"] ++ List.replicate 9 "" ++ ["drawn_in"] ++ List.replicate 2 "" ++ ["shortest_turn"] ++ List.replicate 2 "" ++ ["word_of"] ++ List.replicate 2 "" ++ ["doors_word", "for_ever_holds"] ++ List.replicate 64 "" ++ ["word_holds"] ++ List.replicate 430 "" ++ ["_law_due", "law"]).map PySem.Str.ofString
noncomputable def fnNo:Fn:=⟨0,0,.no⟩
noncomputable def zr5:List Fn:=[fn0,fn1,fn2,fn3,fn4,fn5,fn6,fn7,fn8,fn9,fn10,fn11,fn12,fn13,fn14,fn15]++List.replicate 1 fnNo++[fn17]++List.replicate 9 fnNo++[fn27]++List.replicate 1 fnNo++[fn29]++List.replicate 9 fnNo++[fn39]++List.replicate 19 fnNo++[fn59]++List.replicate 32 fnNo++[fn92]++List.replicate 37 fnNo++[fn130]++List.replicate 42 fnNo++[fn173,fn174,fn175,fn176]++List.replicate 5 fnNo++[fn182]++List.replicate 1 fnNo++[fn184]++List.replicate 9 fnNo++[fn194]++List.replicate 2 fnNo++[fn197]++List.replicate 2 fnNo++[fn200]++List.replicate 2 fnNo++[fn203,fn204]++List.replicate 64 fnNo++[fn269]++List.replicate 430 fnNo++[zbs,zea]
theorem c23:C23 λi=>zr5[i]?:=by repeat' (first|rfl|constructor)
end RF
set_option maxHeartbeats 0 in
theorem RF.pb23(P:PySem.Params):RF.cProg (HD.K P) RF.T23 60 60=some RF.zr5:=by kernel_rfl
open PySem PySem.W PyProof.Rows
set_option maxRecDepth 100000 in
set_option maxHeartbeats 0 in
theorem PySem.Challenge.cw_ballrockers_k23_long_words_holds : PySem.Challenge.rw_ballrockers_k23_long_words.Holds := by
 refine HD.holds _ rfl rfl RF.pa23 (by kernel_rfl) ⟨rfl,rfl,rfl,rfl,rfl,by decide +kernel⟩ ?hw rfl (by kernel_rfl) (by kernel_rfl) ?call
 (case hw=>w_witness2)
 refine RF.zqd RF.T23 60 60 30 701 rfl (by kernel_rfl) ⟨rfl,by decide,by decide⟩ (λw h Y=>PySem.W.kIn_of Y) (by kernel_rfl) (by decide +kernel) ?b ?c
 (case c=>intro w;kernel_rfl)
 (case b=>
   intro w ns hl
   exact RF.ztw (RF.pb23 _) (RF.law23 RF.c23 hl))
