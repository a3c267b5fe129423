import PyProof.Rows.All
import Wide.All
import OpenK.AllK
import Wide.FinOn
import Lean
import PyProof.EqAt
import PyProof.EqKinds
import PyProof.TupleCall
import KE.KUnpack
import KE.KSortTup
import PySem.Challenge.RW_ballrockers_k20_after_great
set_option Elab.async false
set_option linter.all false
set_option genSizeOf false
set_option maxRecDepth 100000
set_option maxHeartbeats 0 in
theorem RF.pa20:PySem.Challenge.rw_ballrockers_k20_after_great.wellSaid=true:=by kernel_rfl
def vav:=@decide_eq_true_eq
def vay:=@decide_eq_false
def va1:=@decide_eq_true
def va7:=@if_false
def va8:=@if_true
def vba:=@of_decide_eq_true
def vdr:=@congrArg
def vd8:=@or_false
open PySem renaming wpAny_bind->vaa,wpAny_pure->vae,wpAny_callSpecial?_slot->vbf,wpAny_newObj_type->vbi,wpAny_call_entry->vbj,wpAny_field->vbs,wpAny_truthy_bool->vb2,wpAny_holding->vck,wpAny_seqItems->vcl,wpAny_specialOf->vcp,wpAny_pyIter_tuple->vcq,wpAny_isInstance->vcz,wpAny_setField_rec->vc4,sizeLine_eq->vc7,wpAny_passesOwn->vde,wpAny_pyIter_list->vdf,mem_of_lookup->vdl,wpAny_mono->vdn,wpAny_setField->vdo,wpAny_of_eq->vdu,builtinLookup_eq_fast->vdy,wpAny_Call_Name_kw->vec,wpAny_attempt->veh,wpAny_eqBool_int->vev,wpAny_forIn_list->vex,wpAny_rule->ve1,typeLookup_type->ve8,isSubtype_type->vfe,wpAny_standAt->vff,wpAny_onRaise->vfg,wpAny_typeOf->vfh,callType_new->vfi,seqIndex_of->vfm,wpAny_letGo->vfn
open PySem.W renaming Frag->vga
open PySem.Str renaming ofString->vgb
open List renaming replicate->vgc
open Bool renaming and_eq_true->vab,false_eq_true->vak,false_ne_true->vbr,not_true->vcm,or_eq_true->vdv,and_self->vd3,false_and->vd6,not_false->ver
open PySem.Heap renaming get?_push_of_some->vac,get?_push_size->vao,lt_size->vap,size_push->vcs,get?_update_self->vc3
open Nat renaming le_refl->vad,lt_of_lt_of_le->vah,ne_of_lt->vaz,zero_le->vbb,lt_succ_self->vbc,mod_eq_of_lt->vbe,le_of_ble_eq_true->vbh,le_trans->vbo,not_lt->vb9,lt_irrefl->vca,lt_succ_of_lt->vch,le_succ->vci,mul_le_mul_left->vcj,div_eq_of_lt->vc2,mul_add->vc9,div_lt_of_lt_mul->vdc,le_of_lt->vdh,ne_of_gt->vdi,eq_of_beq_eq_true->vdw,mul_add_div->vd0,two_pow_pos->vd1,pow_le_pow_right->vd5,lt_of_le_of_lt->vee,add_assoc->vei,mul_add_mod->vem,div_add_mod->ven,ble_eq->veq,mul_le_mul->ves,lt_or_ge->vet,add_zero->veu,le_add_right->vey,min_eq_right->ve0,mod_lt->ve2,not_lt_zero->ve3,mul_pos->ve9,min_eq_left->vfa,zero_add->vfb,pow_succ->vfk
open List renaming length_map->vaf,mem_cons_of_mem->vag,mem_cons_self->vai,length_cons->vaj,size_toArray->vam,map_cons->van,getElem?_eq_some_iff->vaq,getElem?_map->vas,getElem?_eq_getElem->vat,mem_cons->vau,length_append->vax,getElem?_append_right->va0,getElem?_cons_succ->va2,mem_map->va3,getD_eq_getElem?_getD->va4,lookup_cons->va5,getElem?_eq_none_iff->va6,mem_append_right->va9,getElem?_range->vbd,getElem?_cons_zero->vbg,find?_cons->vbk,set_cons_zero->vbm,replicate_succ->vbn,not_mem_nil->vbp,map_append->vbv,getElem?_append_left->vbx,set_cons_succ->vbz,flatten_replicate_singleton->vb0,all_eq_true->vb1,mem_of_getElem?->vb3,zip_cons_cons->vb4,mem_range->vb5,nil_append->vcc,mem_singleton->vce,getElem?_set_self->vcg,length_replicate->vcn,length_singleton->vco,getElem?_replicate->vcr,map_map->vct,filterMap_cons->vcv,append_nil->vcw,nodup_cons->vcx,getElem_mem->vc0,cons_append->vc1,all_cons->vc5,set_append_right->vc6,drop_eq_getElem_cons->vc8,mem_append_left->vda,getElem?_set_ne->vdb,mem_append->vdd,flatten_cons->vdg,map_nil->vdj,length_reverse->vdm,forIn_nil->vdp,drop_eq_nil_of_le->vdq,getElem?_toArray->vdx,getElem?_reverse->vdz,append_assoc->vd2,drop_zero->vd7,map_congr_left->vd9,length_nil->veb,length_set->ved,forIn_cons->vef,any_cons->veg,mem_replicate->vel,reverse_nil->vez,nodup_nil->vfc
open Option renaming map_some->vaw,join_some->vbw,getD_some->vew
open Option.some renaming inj->vbl,injEq->vcu
open PyProof.Rows renaming slot_tuple_getitem->vbq,callWith_type1->vcb,mirror_perm->ve7
open Int renaming eq_ofNat_of_zero_le->vbt,toNat_natCast->vby,natCast_add->vcf,emod_lt_of_pos->vds,emod_nonneg->vek,natCast_mul->veo,le_refl->ve6
open PySem.W renaming kia_one->vbu
open Ne renaming symm->vb6
open PySem.Heap.SameBut renaming update->vb7
open PySem.W.Fast renaming te14364793385576792824->vb8
open PySem.Obj renaming data_mapFields->vcd,isFreed_of_fields->vdt
open PySem.F renaming slot_tuple_iterator_next->vcy,slot_NoneType_hash->vd4,slot_tuple_hash->vep,slot_zip_next->ve4,slot_tuple_eq->ve5
open Array renaming length_toList->vdk
open PySem.Paired renaming length->vea
open Array.Perm renaming refl->vej
open List.Perm renaming refl->vfd
open LawfulMonad renaming pure_bind->vfj
open Sum.inl renaming inj->vfl
namespace L2
open PySem PySem.Spec PyProof.Rows
noncomputable abbrev Key:=Sum Int Str
noncomputable def keyIs:Key->Value->Bool
 |.inl k,v=>Value.isInt k v
 |.inr x,v=>Value.isStrOf x v
noncomputable def keyH(w:World):Key->Int
 |.inl k=>hashInt k
 |.inr x=>hashStr w x
theorem zat:∀{k:Key} {v:Value},keyIs k v=true->(∃i t,k=Sum.inl i/\v=Value.int i t)\/(∃x t,k=Sum.inr x/\v=Value.str x t)
 |.inl i,v,h=>by
  obtain⟨t,e⟩:=Value.isInt_shape (k:=i) (v:=v) h
  exact .inl ⟨i,t,rfl,e⟩
 |.inr x,v,h=>by
  obtain⟨t,e⟩:=Value.isStrOf_shape (x:=x) (v:=v) h
  exact .inr ⟨x,t,rfl,e⟩
theorem zk9(i:Int)(t:Tok):keyIs (.inl i) (.int i t)=true:=by simp[keyIs,Value.isInt]
theorem zla(x:Str)(t:Tok):keyIs (.inr x) (.str x t)=true:=by simp[keyIs,Value.isStrOf]
theorem zuf(a b:Int):decide ((Sum.inl a:Key)=Sum.inl b)=(a==b):=by
 by_cases e:a=b
 .subst e;simp
 .have h:¬(Sum.inl a:Key)=Sum.inl b:=λq=>e (vfl q)
  rw[vay h]
  exact(beq_eq_false_iff_ne.mpr e).symm
theorem zug(a b:Str):decide ((Sum.inr a:Key)=Sum.inr b)=decide (a=b):=by
 by_cases e:a=b
 .subst e;simp
 .have h:¬(Sum.inr a:Key)=Sum.inr b:=λq=>e (Sum.inr.inj q)
  rw[vay h,vay e]
theorem zuh(a:Int)(b:Str):decide ((Sum.inl a:Key)=Sum.inr b)=false:=vay (λq=>nomatch q)
theorem zui(a:Str)(b:Int):decide ((Sum.inr a:Key)=Sum.inl b)=false:=vay (λq=>nomatch q)
noncomputable def zau(prog:Program)(w:World):PySem.KeyKind prog w Key where
 is:=keyIs
 hash:=keyH w
 inj:=λv a b ha hb=>by
  rcases zat ha with⟨i,t,rfl,rfl⟩|⟨x,t,rfl,rfl⟩
  .rcases zat hb with⟨j,u,rfl,e⟩|⟨y,u,rfl,e⟩
   .injection e with e1 _;rw[e1]
   .exact nomatch e
  .rcases zat hb with⟨j,u,rfl,e⟩|⟨y,u,rfl,e⟩
   .exact nomatch e
   .injection e with e1 _;rw[e1]
 byValue:=λk v h=>by
  rcases zat h with⟨i,t,rfl,rfl⟩|⟨x,t,rfl,rfl⟩<;>rfl
 pyHash:=λhv h=>by
  rcases zat hv with⟨i,t,rfl,rfl⟩|⟨x,t,rfl,rfl⟩
  .exact wpAny_pyHash_int h
  .exact wpAny_pyHash_str h
 eqBool:=λhu hv h=>by
  rcases zat hu with⟨i,t,rfl,rfl⟩|⟨x,t,rfl,rfl⟩
  .rcases zat hv with⟨j,u,rfl,rfl⟩|⟨y,u,rfl,rfl⟩
   .rw[zuf]at h;exact vev h
   .rw[zuh]at h;exact SeqAt.EqAt.int_str i t y u _ _ _ _ h
  .rcases zat hv with⟨j,u,rfl,rfl⟩|⟨y,u,rfl,rfl⟩
   .rw[zui]at h;exact SeqAt.EqAt.str_int x t j u _ _ _ _ h
   .rw[zug]at h;exact wpAny_eqBool_str h
 «strs»:=λk x t v h=>by
  rcases zat h with⟨i,u,rfl,e⟩|⟨y,u,rfl,e⟩
  .exact nomatch e
  .injection e with e1 _
   subst e1
   cases v<;>rfl
theorem zhl(prog:Program)(w:World)(i:Int)(t:Tok):(zau prog w).is (.inl i) (.int i t)=true:=zk9 i t
theorem zhm(prog:Program)(w:World)(x:Str)(t:Tok):(zau prog w).is (.inr x) (.str x t)=true:=zla x t
inductive V where
 |non|bl (b:Bool)|int (i:Int)|str (x:Str)|byt (b:Array UInt8)|flt (b:UInt64)|ref (a:Addr)|ty (n:String)
 deriving DecidableEq
noncomputable def RelV:V->Value->Prop
 |.non,u=>u=Value.none
 |.bl b,u=>u=Value.bool b
 |.int i,u=>∃t,u=Value.int i t
 |.str x,u=>∃t,u=Value.str x t
 |.byt b,u=>∃t,u=Value.bytes b t
 |.flt b,u=>∃t,u=Value.float b t
 |.ref a,u=>u=Value.ref a
 |.ty n,u=>u=Value.type n
noncomputable abbrev Vals:List V->List Value->Prop:=Paired RelV
theorem Vals.length{xs:List V}{us:List Value}(r:Vals xs us):xs.length=us.length:=vea r
theorem Vals.get:∀{xs:List V} {us:List Value} {i:Nat} {x:V},Vals xs us->xs[i]?=some x->∃u,us[i]?=some u/\RelV x u
 |_,_,_,_,.nil,e=>by simp at e
 |_,_,0,_,.cons r _,e=>by simp at e;subst e;exact⟨_,rfl,r⟩
 |_,_,i+1,x,.cons _ t,e=>by
  obtain⟨u,h1,h2⟩:=Vals.get (i:=i) (x:=x) t (by simpa using e)
  exact⟨u,by simpa using h1,h2⟩
theorem Vals.set{x:V}{u:Value}(r:RelV x u):∀{xs:List V} {us:List Value} (i:Nat),Vals xs us->Vals (xs.set i x) (us.set i u)
 |_,_,_,.nil=>.nil
 |_,_,0,.cons _ t=>.cons r t
 |_,_,i+1,.cons q t=>.cons q (Vals.set r i t)
theorem Vals.append:∀{xs ys:List V} {us ws:List Value},Vals xs us->Vals ys ws->Vals (xs++ys) (us++ws)
 |_,_,_,_,.nil,s=>s
 |_,_,_,_,.cons r t,s=>.cons r (Vals.append t s)
theorem Vals.take:∀{xs:List V} {us:List Value} (n:Nat),Vals xs us->Vals (xs.take n) (us.take n)
 |_,_,0,_=>.nil
 |_,_,_+1,.nil=>.nil
 |_,_,n+1,.cons r t=>.cons r (Vals.take n t)
theorem Vals.drop:∀{xs:List V} {us:List Value} (n:Nat),Vals xs us->Vals (xs.drop n) (us.drop n)
 |_,_,0,r=>r
 |_,_,_+1,.nil=>.nil
 |_,_,n+1,.cons _ t=>Vals.drop n t
noncomputable def RelO:Option V->Option Value->Prop
 |some v,some u=>RelV v u
 |none,none=>True
 |_,_=>False
noncomputable def KV{κ:Type}:List (κ×V)->List (κ×Value)->Prop:=Paired λ(p:κ×V) (q:κ×Value)=>p.1=q.1/\RelV p.2 q.2
noncomputable def kV:Key->V
 |.inl i=>.int i
 |.inr x=>.str x
inductive HO where
 /-- a list -/
 |lst (xs:List V)
 /-- a tuple (never changes) -/
 |tup (xs:List V)
 /-- a dict whose keys are ints and texts;one whose keys are tuples of ints and texts (the empty one is both) -/
 |dK (kvs:List (Key×V))|dT (kvs:List (List Key×V))
 /-- a set of ints: its members,its size -/
 |set (S:Int->Bool) (n:Nat)
 /-- an instance of the class at C,its dict at dx,its attributes -/
 |ins (C dx:Addr) (fs:List (Str×V))
 /-- the dict of the instance at x -/
 |own (x:Addr)
 /-- the dict of an exception -/
 |xd (fs:List (Str×V))
 /-- a bound method,f of x -/
 |met (f x:Addr)
 /-- a range object lo,lo+1,.. below hi -/
 |rng (lo hi:Int)
 /-- a thing that is known to the object (the script;a dict while a loop walks it): read,never written while it is so -/
 |frz (o:Obj) (u:HO)
 /-- a code object's table -/
 |tbl (ps:Array Value)
 /-- any other thing,by what is true of its one object (a def of one's own: SetO a S n:=HO.ext λh=>..) -/
 |ext (φ:Heap->Prop)
noncomputable abbrev Hp:=Addr->Option HO
noncomputable def upd(H:Hp)(a:Addr)(o:HO):Hp:=λb=>if b=a then some o else H b
theorem zan{H:Hp}{a:Addr}{o:HO}:upd H a o a=some o:=by unfold upd;rw[if_pos rfl]
theorem zae{H:Hp}{a b:Addr}{o:HO}(h:b≠a):upd H a o b=H b:=by unfold upd;rw[if_neg h]
theorem ne_of{H:Hp}{a b:Addr}{o u:HO}(h:H a=some o)(h':H b=some u)(d:o≠u):a≠b:=by
 intro e;subst e;rw[h]at h';exact d (vbl h')
theorem zad{H:Hp}{a b:Addr}{o:HO}(h:H a=some o)(h':H b=none):a≠b:=by
 intro e;subst e;rw[h]at h';cases h'
noncomputable def zbl(h:Heap)(a:Addr)(items:Array Value):Prop:=∃o,h.get? a=some o/\o.cls=.type "tuple"/\(∃n,o.data=.seq items n)/\o.dict=none
theorem zbl.tup{h:Heap}{a:Addr}{items:Array Value}(x:zbl h a items):IsTup h a items:=let⟨o,e,c,d,_⟩:=x;⟨o,e,c,d⟩
theorem zbl.lt{h:Heap}{a:Addr}{items:Array Value}(x:zbl h a items):a<h.objs.size:=x.tup.lt
theorem zbl.new(h:Heap)(items:Array Value):zbl (h.push {cls:=.type "tuple",data:=.seq items}) h.objs.size items:=⟨_,vao _ rfl,rfl,⟨_,rfl⟩,rfl⟩
section
variable(P:Program)(w:World)
noncomputable def ObjOk(H:Hp)(h:Heap)(a:Addr):HO->Prop
 |.lst xs=>xs.length<=sizeLine/\∃(its:List Value) (n:Nat),Vals xs its/\h.get? a=some {cls:=.type "list",data:=.seq its.toArray n}
 |.tup xs=>xs.length<=sizeLine/\∃its:List Value,Vals xs its/\zbl h a its.toArray
 |.dK kvs=>kvs.length<=sizeLine/\(a==sysModules)=false/\∃vs,KV kvs vs/\h.DictOf (zau P w) a vs
 |.dT kvs=>kvs.length<=sizeLine/\(a==sysModules)=false/\∃xs:List (List Key×Addr×Value),
  Paired (λ(p:List Key×V)(q:List Key×Addr×Value)=>p.1=q.1/\H q.2.1=some (.tup (p.1.map kV))/\RelV p.2 q.2.2) kvs xs/\
  ∃o es ep,h.get? a=some o/\o.ExactDict/\o.data=.dict es ep/\es.toList=xs.map (entryOfKey (tupleKind (zau P w)))/\(xs.map (·.1)).Nodup
 |.set S n=>h.SetOf (intKind P w) a S n
 |.ins C dx fs=>H dx=some (.own a)/\fs.length<=1000/\dx≠a/\h.get? a=some (PySem.W.instObj C dx)/\
  ∃mA,h.Ns1 dx mA/\(∀f,RelO (fs.lookup f) (mA f))/\PySem.Within mA (fs.map (·.1))
 |.own _=>∃o,h.get? a=some o
 |.xd fs=>∃mA,h.Ns1 a mA/\∀f,RelO (fs.lookup f) (mA f)
 |.rng lo hi=>∃t u v,h.get? a=some {cls:=.type "range",data:=.fields #[.int lo t,.int hi u,.int 1 v]}
 |.frz o u=>h.get? a=some o/\ObjOk H h a u
 |.tbl ps=>h.get? a=some {cls:=.none,data:=.fields ps}
 |.met f x=>h.get? a=some (PySem.W.methodObj (.ref f) (.ref x))
 |.ext φ=>φ h/\(∃o,h.get? a=some o)/\∀h1 h2:Heap,φ h1->(∀o,h1.get? a=some o->h2.get? a=some o)->φ h2
noncomputable def HOk(H:Hp)(h:Heap):Prop:=∀a o,H a=some o->ObjOk P w H h a o
end
section
variable{P:Program}{w:World}{H H':Hp}{h h':Heap}{a:Addr}{o:HO}
theorem ObjOk.lt(x:ObjOk P w H h a o):a<h.objs.size:=by
 cases o with
 |lst xs=>obtain⟨_,_,_,_,e⟩:=x;exact vap e
 |tup xs=>obtain⟨_,_,_,p⟩:=x;exact p.lt
 |dK kvs=>obtain⟨_,_,_,_,o,_,_,e,_⟩:=x;exact vap e
 |dT kvs=>obtain⟨_,_,_,_,o,_,_,e,_⟩:=x;exact vap e
 |set S n=>obtain⟨o,_,_,_,e,_⟩:=x;exact vap e
 |ins C dx fs=>obtain⟨_,_,_,e,_⟩:=x;exact vap e
 |own y=>obtain⟨_,e⟩:=x;exact vap e
 |xd fs=>obtain⟨_,⟨_,_,_,e,_⟩,_⟩:=x;exact vap e
 |rng lo hi=>obtain⟨_,_,_,e⟩:=x;exact vap e
 |frz ob u=>obtain⟨e,_⟩:=x;exact vap e
 |tbl ps=>exact vap (show h.get? a=some _ from x)
 |met f y=>exact vap (show h.get? a=some _ from x)
 |ext φ=>obtain⟨_,⟨_,e⟩,_⟩:=x;exact vap e
theorem Paired.mapP{α β:Type}{F G:α->β->Prop}:∀{l₁:List α} {l₂:List β},Paired F l₁ l₂->(∀a b,F a b->G a b)->Paired G l₁ l₂
 |_,_,.nil,_=>.nil
 |_,_,.cons r t,f=>.cons (f _ _ r) (Paired.mapP t f)
theorem ObjOk.stay(x:ObjOk P w H h a o)(k:∀b u,(b=a\/H b=some (.own a))->h.get? b=some u->h'.get? b=some u)
 (ho:∀b,H b=some (.own a)->H' b=some (.own a)) (ht:∀b xs,H b=some (.tup xs)->H' b=some (.tup xs)):ObjOk P w H' h' a o:=by
 induction o with
 |lst xs=>obtain⟨z,its,n,r,e⟩:=x;exact⟨z,its,n,r,k _ _ (.inl rfl) e⟩
 |tup xs=>obtain⟨z,its,r,ob,e,c⟩:=x;exact⟨z,its,r,ob,k _ _ (.inl rfl) e,c⟩
 |dK kvs=>obtain⟨z,y,vs,r,ob,es,ep,e,c⟩:=x;exact⟨z,y,vs,r,ob,es,ep,k _ _ (.inl rfl) e,c⟩
 |dT kvs=>
  obtain⟨z,y,xs,r,ob,es,ep,e,c⟩:=x
  exact⟨z,y,xs,Paired.mapP r λp q z=>⟨z.1,ht _ _ z.2.1,z.2.2⟩,ob,es,ep,k _ _ (.inl rfl) e,c⟩
 |set S n=>obtain⟨ob,es,ep,t,e,c⟩:=x;exact⟨ob,es,ep,t,k _ _ (.inl rfl) e,c⟩
 |ins C dx fs=>
  obtain⟨d,z,ne,e,mA,⟨od,es,ep,e2,c⟩,r⟩:=x
  exact⟨ho _ d,z,ne,k _ _ (.inl rfl) e,mA,⟨od,es,ep,k _ _ (.inr d) e2,c⟩,r⟩
 |own y=>obtain⟨ob,e⟩:=x;exact⟨ob,k _ _ (.inl rfl) e⟩
 |xd fs=>obtain⟨mA,⟨od,es,ep,e,c⟩,r⟩:=x;exact⟨mA,⟨od,es,ep,k _ _ (.inl rfl) e,c⟩,r⟩
 |rng lo hi=>obtain⟨t,u,v,e⟩:=x;exact⟨t,u,v,k _ _ (.inl rfl) e⟩
 |frz ob u ih=>obtain⟨e,q⟩:=x;exact⟨k _ _ (.inl rfl) e,ih q⟩
 |tbl ps=>
  have e:h.get? a=some {cls:=.none,data:=.fields ps}:=x
  show h'.get? a=some {cls:=.none,data:=.fields ps}
  exact k a _ (.inl rfl) e
 |met f y=>
  have e:h.get? a=some (PySem.W.methodObj (.ref f) (.ref y)):=x
  show h'.get? a=some (PySem.W.methodObj (.ref f) (.ref y))
  exact k a _ (.inl rfl) e
 |ext φ=>obtain⟨p,⟨o,e⟩,st⟩:=x;exact⟨st _ _ p λo q=>k _ _ (.inl rfl) q,⟨o,k _ _ (.inl rfl) e⟩,st⟩
theorem HOk.lt(x:HOk P w H h)(e:H a=some o):a<h.objs.size:=(x a o e).lt
theorem HOk.fresh(x:HOk P w H h)(e:h.objs.size<=a):H a=none:=by
 cases q:H a with
 |none=>rfl
 |some u=>exact absurd (vah (x.lt q) e) (vca _)
theorem HOk.kept(x:HOk P w H h)(k:∀b u,h.get? b=some u->h'.get? b=some u):HOk P w H h':=λa o e=>
 (x a o e).stay (λb u _ q=>k b u q) (λ_ q=>q) λ_ _ q=>q
theorem HOk.laid(x:HOk P w H h)(k:∀b u,h.get? b=some u->h'.get? b=some u)(hp:h.objs.size<=a)(new:ObjOk P w (upd H a o) h' a o):HOk P w (upd H a o) h':=λb u e=>by
 have hn:=x.fresh hp
 by_cases hb:b=a
 .subst hb;rw[zan]at e;cases e;exact new
 .rw[zae hb]at e
  exact(x b u e).stay (λc v _ q=>k c v q) (λc q=>by rw[zae (zad q hn)];exact q) λc xs q=>by rw[zae (zad q hn)];exact q
end
noncomputable def Rd(H:Hp)(a:Addr)(u:HO):Prop:=H a=some u\/∃o,H a=some (.frz o u)
theorem Rd.ok{P:Program}{w:World}{H:Hp}{h:Heap}{a:Addr}{u:HO}(r:Rd H a u)(x:HOk P w H h):ObjOk P w H h a u:=by
 rcases r with r|⟨o,r⟩
 .exact x a u r
 .obtain⟨_,q⟩:=x a _ r
  exact q
noncomputable def Mut:Option HO->Prop
 |some (.lst _)=>True
 |some (.dK _)=>True
 |some (.dT _)=>True
 |some (.set _ _)=>True
 |some (.ins _ _ _)=>True
 |some (.ext _)=>True
 |_=>False
section
variable{P:Program}{w:World}{H:Hp}{h h':Heap}{x e:Addr}{o':HO}
theorem HOk.write(ok:HOk P w H h)(mu:Mut (H x))(he:e=x\/H e=some (.own x))(k:∀b u,b≠e->h.get? b=some u->h'.get? b=some u)(heo:∃u,h'.get? e=some u)
 (new:ObjOk P w (upd H x o') h' x o'):HOk P w (upd H x o') h':=λb u q=>by
 have nown:∀c y,H c=some (.own y)->c≠x:=λc y r z=>by subst z;rw[r]at mu;exact mu
 have ntup:∀c xs,H c=some (.tup xs)->c≠x:=λc xs r z=>by subst z;rw[r]at mu;exact mu
 by_cases hb:b=x
 .subst hb;rw[zan]at q;cases q;exact new
 .rw[zae hb]at q
  by_cases hbe:b=e
  .have q':H b=some (.own x):=by
    rcases he with z|z
    .exact absurd (hbe.trans z) hb
    .rw[hbe];exact z
   rw[q]at q';cases q'
   obtain⟨v,hv⟩:=heo
   exact⟨v,by rw[hbe];exact hv⟩
  .refine(ok b u q).stay (λc v hc r=>k c v ?_ r) (λc r=>by rw[zae (nown c b r)];exact r) λc xs r=>by rw[zae (ntup c xs r)];exact r
   rcases hc with rfl|hc
   .exact hbe
   .rintro rfl
    rcases he with z|z
    .exact nown c b hc z
    .rw[hc]at z;cases z;exact hb rfl
end
structure Un(fs ex:List Addr)(H H':Hp)(h h':Heap):Prop where
 keep:∀b o,h.get? b=some o->H b=none->b∉fs->b∉ex->h'.get? b=some o
 slot:∀b o,h.get? b=some o->H b=none->b∈fs->b∉ex->∃sl,h'.get? b=some {o with slots:=sl}
 free:∀b o,h.get? b=some o->H b=none->b∉ex->H' b=none
 there:∀b o,h.get? b=some o->b∉ex->∃o',h'.get? b=some o'
 tups:∀b xs,H b=some (.tup xs)->H' b=some (.tup xs)
 frzs:∀b o u,H b=some (.frz o u)->H' b=some (.frz o u)
 tbls:∀b ps,H b=some (.tbl ps)->∃more,H' b=some (.tbl (ps++more))
section
variable{fs fs' ex ex':List Addr}{H H1 H2:Hp}{h h1 h2 h':Heap}{a x e:Addr}{o:HO}
theorem Un.any(u:Un fs ex H H1 h h1){b:Addr}{ob:Obj}(q:h.get? b=some ob)(n:H b=none)(hx:b∉ex):∃sl,h1.get? b=some {ob with slots:=sl}:=by
 by_cases hb:b∈fs
 .exact u.slot b ob q n hb hx
 .exact⟨ob.slots,u.keep b ob q n hb hx⟩
theorem Un.kept(k:∀b u,h.get? b=some u->h'.get? b=some u):Un fs ex H H h h':=
 ⟨λb ob q _ _ _=>k b ob q,λb ob q _ _ _=>⟨ob.slots,k b ob q⟩,λ_ _ _ n _=>n,λb ob q _=>⟨ob,k b ob q⟩,λ_ _ q=>q,λ_ _ _ q=>q,λ_ ps q=>⟨#[],by rw[q];simp⟩⟩
theorem Un.refl:Un fs ex H H h h:=Un.kept λ_ _ q=>q
theorem Un.laid(k:∀b u,h.get? b=some u->h'.get? b=some u)(hp:h.objs.size<=a)(hn:H a=none):Un fs ex H (upd H a o) h h' where
 keep:=λb u q _ _ _=>k b u q
 slot:=λb u q _ _ _=>⟨u.slots,k b u q⟩
 free:=λb u q n _=>by rw[zae (vaz (vah (vap q) hp))];exact n
 there:=λb u q _=>⟨u,k b u q⟩
 tups:=λb xs q=>by rw[zae (zad q hn)];exact q
 frzs:=λb u xs q=>by rw[zae (zad q hn)];exact q
 tbls:=λb ps q=>⟨#[],by rw[zae (zad q hn),q];simp⟩
theorem Un.write(mu:Mut (H x))(he:e=x\/H e=some (.own x))(k:∀b u,b≠e->h.get? b=some u->h'.get? b=some u)(heo:∃u,h'.get? e=some u):Un fs ex H (upd H x o) h h':=by
 have hx:∀b,H b=none->b≠x:=λb n z=>by subst z;rw[n]at mu;exact mu
 have hb:∀b,H b=none->b≠e:=λb n z=>by
  subst z
  rcases he with r|r
  .exact hx b n r
  .rw[n]at r;cases r
 have hm:∀b u,H b=some u->¬Mut (some u)->b≠x:=λb u q nm z=>by subst z;rw[q]at mu;exact nm mu
 refine⟨λb u q n _ _=>k b u (hb b n) q,λb u q n _ _=>⟨u.slots,k b u (hb b n) q⟩,λb u q n _=>by rw[zae (hx b n)];exact n,λb u q _=>?_,
  λb xs q=>by rw[zae (hm b _ q λz=>z)];exact q,λb u xs q=>by rw[zae (hm b _ q λz=>z)];exact q,λb ps q=>⟨#[],by rw[zae (hm b _ q λz=>z),q];simp⟩⟩
 by_cases hbe:b=e
 .subst hbe;exact heo
 .exact⟨u,k b u hbe q⟩
end
noncomputable def trk(h:Heap)(H:Hp):List Addr:=(List.range h.objs.size).filter λa=>(H a).isSome
noncomputable def hidT(h:Heap)(H:Hp):Heap:=PySem.W.hideAll h (trk h H)
theorem zlb(h:Heap)(H:Hp):(hidT h H).objs.size=h.objs.size:=PySem.W.hideAll_size _ _
theorem zon{h:Heap}{H:Hp}{b:Addr}{o:Obj}(e:h.get? b=some o)(n:H b=none):(hidT h H).get? b=some o:=
 PySem.W.hideAll_get _ e λhm=>by
  have q:(H b).isSome=true:=(List.mem_filter.mp hm).2
  rw[n]at q;simp at q
theorem zrx{h:Heap}{H:Hp}{b:Addr}{o:Obj}(e:(hidT h H).get? b=some o):h.get? b=some o/\H b=none:=by
 have e':h.get? b=some o:=PySem.W.of_hideAll (trk h H) e
 refine⟨e',?_⟩
 cases q:H b with
 |none=>rfl
 |some x=>
  have hm:b∈trk h H:=List.mem_filter.mpr ⟨vb5.mpr (vap e'),by simp[q]⟩
  have z:(hidT h H).get? b=none:=PySem.W.hideAll_none (trk h H) hm
  rw[z]at e;cases e
structure Mod(K:vga)(mg:Str->Option Value)(base:Heap):Prop where
 kin:K.In base
 glob:base.Ns mainGlobals mg
 blt:∃mb,base.Ns builtinsNs mb/\∀x:Str,x≠"__name__"->mb x=bootBuiltins x
 nolimit:base.NoLimit
set_option genInjectivity false in
structure Cx where
 prog:Program
 w:World
 K:vga
 mg:Str->Option Value
 base:Heap
 A:Around
 N:List Str
 s₀:Shared
 H₀:Hp
 env:Env
 outer:List Env
 stack:List Env
 ex:List Addr
 fn:Str->Bool
 calm:Bool
 pn:List (Addr×Obj)
 xe:Value->Shared->Prop
noncomputable def frs(l:List Env):List Addr:=l.filterMap (·.frame)
noncomputable abbrev Cx.fs(X:Cx):List Addr:=frs X.outer
noncomputable def Vis(sc:Scope)(x:Str):Prop:=sc.names.lookup x=some .local\/sc.names.lookup x=some .cell\/sc.names.lookup x=some .free
noncomputable def Loc(sc:Scope)(x:Str):Prop:=sc.names.lookup x=some .local\/sc.names.lookup x=some .cell
noncomputable def Look(env:Env)(h:Heap)(m:Str->Option Value)(x:Str)(u:Value):Prop:=
 (env.kindOf x=some .local/\m x=some u)\/((env.kindOf x=some .cell\/env.kindOf x=some .free)/\∃c,env.cells.lookup x=some c/\h.IsCell c (some u))
structure Cx.Ok(X:Cx):Prop where
 mod:Mod X.K X.mg X.base
 kind:X.env.scope.kind=.function
 glob:X.env.globals=mainGlobals
 blt:X.env.builtins=builtinsNs
 above:X.s₀.heap.objs.size<=X.env.locals
 inj:∀x y c,X.env.cells.lookup x=some c->X.env.cells.lookup y=some c->x=y
 has:∀x,(X.env.kindOf x=some .cell\/X.env.kindOf x=some .free)->∃c,X.env.cells.lookup x=some c
 cab:∀x c,X.fn x=true->X.env.cells.lookup x=some c->X.s₀.heap.objs.size<=c
 hd:X.calm=true->X.A.handled=none
 frames:X.A.frames=some X.stack
 stk:X.stack=X.outer\/(X.stack=X.env::X.outer/\X.env.frame=some X.env.locals)
 exf:∀b∈X.ex,b≠X.env.locals/\∀x c,X.env.cells.lookup x=some c->c≠b
 bs:∀b o,X.base.get? b=some o->X.s₀.heap.get? b=some o/\X.H₀ b=none
 bsz:X.base.objs.size<=X.s₀.heap.objs.size
 noex:∀b o,X.base.get? b=some o->b∉X.ex
 exfs:∀b∈X.ex,b∉X.fs
 funs:X.s₀.heap.FunFrames X.base X.outer
 frf:∀b∈X.fs,X.H₀ b=none
structure Inv(X:Cx)(pins:List (Addr×Obj))(σ:List (Option V))(H:Hp)(s:Shared):Prop where
 ok:X.Ok
 os:s.os=X.s₀.os
 bare:AllBare s.gens
 base:Un X.fs X.ex X.H₀ H X.s₀.heap s.heap
 loc:∃m,s.heap.Ns X.env.locals m/\∀(i:Nat)(x:Str)(v:V),X.N[i]?=some x->σ[i]?=some (some v)->Vis X.env.scope x->∃u,RelV v u/\Look X.env s.heap m x u
 cell:∀x c,X.env.cells.lookup x=some c->∃v,s.heap.IsCell c v
 free:H X.env.locals=none
 freeC:∀x c,X.env.cells.lookup x=some c->H c=none
 pin:∀p∈X.pn++pins,s.heap.get? p.1=some p.2/\H p.1=none/\p.1≠X.env.locals/\p.1∉X.fs/\∀v,p.2.data≠.cell v
 hok:HOk X.prog X.w H s.heap
 len:σ.length=X.N.length
section
variable{X:Cx}{pins:List (Addr×Obj)}{σ:List (Option V)}{H H':Hp}{s:Shared}{h':Heap}
theorem Cx.Ok.nofr(ok:X.Ok){b:Addr}{o:Obj}(e:X.base.get? b=some o):b∉X.fs:=λhb=>by
 have:=(ok.funs.mem hb).1
 rw[e]at this;cases this
theorem Inv.bs(I:Inv X pins σ H s):∀b o,X.base.get? b=some o->s.heap.get? b=some o/\H b=none:=λb o e=>
 ⟨I.base.keep b o (I.ok.bs b o e).1 (I.ok.bs b o e).2 (I.ok.nofr e) (I.ok.noex b o e),I.base.free b o (I.ok.bs b o e).1 (I.ok.bs b o e).2 (I.ok.noex b o e)⟩
theorem Inv.bk(I:Inv X pins σ H s):∀b o,X.base.get? b=some o->s.heap.get? b=some o:=λb o e=>(I.bs b o e).1
theorem Inv.mod(I:Inv X pins σ H s):Mod X.K X.mg X.base:=I.ok.mod
theorem Inv.kIn(I:Inv X pins σ H s):X.K.In s.heap:=I.ok.mod.kin.keeps I.bk
theorem Inv.lt(I:Inv X pins σ H s):X.env.locals<s.heap.objs.size:=let⟨_,hn,_⟩:=I.loc;hn.lt
theorem Inv.sz(I:Inv X pins σ H s):X.s₀.heap.objs.size<=s.heap.objs.size:=vbo I.ok.above (vdh I.lt)
theorem Inv.nofs(I:Inv X pins σ H s){a:Addr}(h:s.heap.objs.size<=a):a∉X.fs:=λhb=>by
 obtain⟨_,o,ho,_⟩:=I.ok.funs.mem hb
 exact absurd (vah (vap ho) (vbo I.sz h)) (vca _)
theorem Inv.cne(I:Inv X pins σ H s):∀x c,X.env.cells.lookup x=some c->c≠X.env.locals:=λx c e z=>by
 obtain⟨v,o,ho,hd⟩:=I.cell x c e
 obtain⟨m,⟨o',es,ep,ho',hd',_⟩,_⟩:=I.loc
 rw[z,ho']at ho;cases ho;rw[hd']at hd;cases hd
theorem Inv.funs(I:Inv X pins σ H s):s.heap.FunFrames X.base X.outer:=by
 have all:∀(l:List Env),(∀b∈frs l,b∈X.fs)->X.s₀.heap.FunFrames X.base l->s.heap.FunFrames X.base l:=by
  intro l
  induction l with
  |nil=>intro _ _;trivial
  |cons env r ih=>
   intro hs hl
   obtain⟨hk,⟨L,o,hf,hn,ho,hd⟩,hr⟩:=hl
   have hL:L∈X.fs:=hs L (by unfold frs;rw[vcv,hf];exact vai)
   obtain⟨sl,e⟩:=I.base.slot L o ho (I.ok.frf L hL) hL λz=>I.ok.exfs L z hL
   exact⟨hk,⟨L,_,hf,hn,e,hd⟩,ih (λb hb=>hs b (by unfold frs;rw[vcv,hf];exact vag _ hb)) hr⟩
 exact all X.outer (λ_ hb=>hb) I.ok.funs
theorem Inv.stack(I:Inv X pins σ H s):s.heap.FunFrames X.base X.stack:=by
 rcases I.ok.stk with e|⟨e,hf⟩
 .rw[e];exact I.funs
 .rw[e]
  obtain⟨m,hn,_⟩:=I.loc
  refine .cons (by rw[I.ok.kind];decide) hf hn ?_ I.funs
  exact Heap.get?_none_of_le (vbo I.ok.bsz I.ok.above)
theorem Inv.stkSub(I:Inv X pins σ H s):∀b∈frs X.stack,b∈X.env.locals::X.fs:=λb hb=>by
 rcases I.ok.stk with e|⟨e,hf⟩
 .rw[e]at hb;exact vag _ hb
 .rw[e]at hb
  unfold frs at hb
  rw[vcv,hf]at hb
  exact hb
theorem Inv.stkFree(I:Inv X pins σ H s):∀b∈frs X.stack,H b=none:=λb hb=>by
 rcases vau.mp (I.stkSub b hb)with e|hb
 .rw[e];exact I.free
 .obtain⟨_,o,ho,_⟩:=I.ok.funs.mem hb
  exact I.base.free b o ho (I.ok.frf b hb) λz=>I.ok.exfs b z hb
theorem Inv.step{g':Array GenState}{t':Nat}{d':Drawn}{ch:List Addr}(I:Inv X pins σ H s)
 (hch:∀b∈ch,(b∈X.ex\/X.s₀.heap.objs.size<=b)/\b≠X.env.locals/\(∀x c,X.env.cells.lookup x=some c->c≠b)/\∀p∈X.pn++pins,p.1≠b)
 (keep:∀b o,b≠X.env.locals->b∉X.fs->b∉ch->s.heap.get? b=some o->H b=none->h'.get? b=some o)
 (slot:∀b o,b≠X.env.locals->b∈X.fs->b∉ch->s.heap.get? b=some o->H b=none->∃sl,h'.get? b=some {o with slots:=sl}) (free:∀b o,b∉ch->s.heap.get? b=some o->H b=none->H' b=none)
 (there:∀b o,b∉ch->s.heap.get? b=some o->∃o',h'.get? b=some o')
 (tups:∀b xs,H b=some (.tup xs)->H' b=some (.tup xs)) (frzs:∀b o u,H b=some (.frz o u)->H' b=some (.frz o u)) (tbls:∀b ps,H b=some (.tbl ps)->∃more,H' b=some (.tbl (ps++more)))
 (ns:∀m,s.heap.Ns X.env.locals m->h'.Ns X.env.locals m) (hok:HOk X.prog X.w H' h') (hg:AllBare g') :
 Inv X pins σ H' {s with heap:=h',gens:=g',drawn:=d',toks:=t'}:=by
 have neL:∀b o,X.s₀.heap.get? b=some o->b≠X.env.locals:=λb o e=>vaz (vah (vap e) I.ok.above)
 have neC:∀b o,X.s₀.heap.get? b=some o->b∉X.ex->b∉ch:=λb o e hx hb=>by
  rcases(hch b hb).1 with z|z
  .exact hx z
  .exact absurd (vah (vap e) z) (vca _)
 have cellK:∀x c,X.env.cells.lookup x=some c->∀v,s.heap.IsCell c v->h'.IsCell c v:=λx c e v hq0=>by
  obtain⟨o,ho,hd⟩:=hq0
  have nch:c∉ch:=λz=>(hch c z).2.2.1 x c e rfl
  by_cases hc:c∈X.fs
  .obtain⟨sl,q⟩:=slot c o (I.cne x c e) hc nch ho (I.freeC x c e)
   exact⟨_,q,hd⟩
  .exact⟨o,keep c o (I.cne x c e) hc nch ho (I.freeC x c e),hd⟩
 refine⟨I.ok,I.os,hg,⟨λb o e n hb hx=>?_,λb o e n hb hx=>?_,λb o e n hx=>?_,λb o e hx=>?_,λb xs e=>tups b xs (I.base.tups b xs e),λb o xs e=>frzs b o xs (I.base.frzs b o xs e),λb ps e=>?_⟩,?_,λx c e=>?_,?_,λx c e=>?_,λp hp=>?_,hok,I.len⟩
 .exact keep b o (neL b o e) hb (neC b o e hx) (I.base.keep b o e n hb hx) (I.base.free b o e n hx)
 .obtain⟨sl,e1⟩:=I.base.slot b o e n hb hx
  obtain⟨sl',e2⟩:=slot b _ (neL b o e) hb (neC b o e hx) e1 (I.base.free b o e n hx)
  exact⟨sl',e2⟩
 .obtain⟨o',e1⟩:=I.base.there b o e hx
  exact free b o' (neC b o e hx) e1 (I.base.free b o e n hx)
 .obtain⟨o',e1⟩:=I.base.there b o e hx
  exact there b o' (neC b o e hx) e1
 .obtain⟨m1,e1⟩:=I.base.tbls b ps e
  obtain⟨m2,e2⟩:=tbls b _ e1
  exact⟨m1++m2,by rw[e2,Array.append_assoc]⟩
 .obtain⟨m,hn,hl⟩:=I.loc
  refine⟨m,ns m hn,λi x v e1 e2 e3=>?_⟩
  obtain⟨u,r,l⟩:=hl i x v e1 e2 e3
  refine⟨u,r,?_⟩
  rcases l with l|⟨k,c,e,z⟩
  .exact .inl l
  .exact .inr ⟨k,c,e,cellK x c e _ z⟩
 .obtain⟨v,z⟩:=I.cell x c e
  exact⟨v,cellK x c e v z⟩
 .obtain⟨m,⟨o,_,_,ho,_⟩,_⟩:=I.loc
  exact free _ o (λz=>(hch _ z).2.1 rfl) ho I.free
 .obtain⟨v,o,ho,hd⟩:=I.cell x c e
  exact free c o (λz=>(hch c z).2.2.1 x c e rfl) ho (I.freeC x c e)
 .obtain⟨e,n,ne,nf,d⟩:=I.pin p hp
  have nch:p.1∉ch:=λz=>(hch p.1 z).2.2.2 p hp rfl
  exact⟨keep p.1 p.2 ne nf nch e n,free p.1 p.2 nch e n,ne,nf,d⟩
theorem Inv.un{t':Nat}(I:Inv X pins σ H s)(u:Un X.fs [] H H' s.heap h')(hok:HOk X.prog X.w H' h'):Inv X pins σ H' {s with heap:=h',toks:=t'}:=by
 obtain⟨m,⟨o,es,ep,ho,r⟩,_⟩:=id I.loc
 obtain⟨sl,hL⟩:=u.any ho I.free (by simp)
 exact I.step (g':=s.gens) (d':=s.drawn) (ch:=[]) (λ_ z=>nomatch z) (λb o _ hb _ e n=>u.keep b o e n hb (by simp)) (λb o _ hb _ e n=>u.slot b o e n hb (by simp)) (λb o _ e n=>u.free b o e n (by simp)) (λb o _ e=>u.there b o e (by simp)) u.tups u.frzs u.tbls (λm' hm=>by
  obtain⟨o',es',ep',ho',r'⟩:=hm
  rw[ho]at ho';cases ho'
  exact⟨_,es',ep',hL,r'⟩) hok I.bare
theorem Inv.call{g':Array GenState}{t':Nat}{d':Drawn}{ch:List Addr}(I:Inv X pins σ H s)(u:Un (frs X.stack) ch H H' s.heap h')(hok:HOk X.prog X.w H' h')(hg:AllBare g')
 (hch:∀b∈ch,(b∈X.ex\/X.s₀.heap.objs.size<=b)/\b≠X.env.locals/\(∀x c,X.env.cells.lookup x=some c->c≠b)/\∀p∈X.pn++pins,p.1≠b) :
 Inv X pins σ H' {s with heap:=h',gens:=g',drawn:=d',toks:=t'}:=by
 obtain⟨m,⟨o,es,ep,ho,r⟩,_⟩:=id I.loc
 obtain⟨sl,hL⟩:=u.any ho I.free λz=>(hch _ z).2.1 rfl
 exact I.step (ch:=ch) hch (λb o hL hb hc e n=>u.keep b o e n (λz=>(vau.mp (I.stkSub b z)).elim hL hb) hc) (λb o _ _ hc e n=>u.any e n hc) (λb o hc e n=>u.free b o e n hc) (λb o hc e=>u.there b o e hc) u.tups u.frzs u.tbls (λm' hm=>by
  obtain⟨o',es',ep',ho',r'⟩:=hm
  rw[ho]at ho';cases ho'
  exact⟨_,es',ep',hL,r'⟩) hok hg
theorem Inv.turned{t':Nat}{it:Addr}(I:Inv X pins σ H s)(k:∀b o,b≠it->s.heap.get? b=some o->h'.get? b=some o)(hn:H it=none)(hL:it≠X.env.locals)
 (h1:it∈X.ex\/X.s₀.heap.objs.size<=it) (h2:∀x c,X.env.cells.lookup x=some c->c≠it) (h3:∀p∈X.pn++pins,p.1≠it):Inv X pins σ H {s with heap:=h',toks:=t'}:=by
 have nit:∀b u,H b=some u->b≠it:=λb u e z=>by rw[z,hn]at e;cases e
 refine I.step (g':=s.gens) (d':=s.drawn) (ch:=[it]) (λb hb=>?_) (λb o _ _ hc e _=>k b o (λz=>hc (by simp[z])) e) (λb o _ _ hc e _=>⟨o.slots,k b o (λz=>hc (by simp[z])) e⟩) (λ_ _ _ _ n=>n)
  (λb o hc e=>⟨o,k b o (λz=>hc (by simp[z])) e⟩) (λ_ _ e=>e) (λ_ _ _ e=>e) (λb ps e=>⟨#[],by rw[e];simp⟩) (λm hm=>?_) (λb u e=>?_) I.bare
 .have e:b=it:=by simpa using hb
  subst e
  exact⟨h1,hL,h2,h3⟩
 .obtain⟨o,es,ep,ho,r⟩:=hm
  exact⟨o,es,ep,k _ o (vb6 hL) ho,r⟩
 .refine(I.hok b u e).stay (λc v hc q=>k c v ?_ q) (λ_ q=>q) λ_ _ q=>q
  rcases hc with z|z
  .rw[z];exact nit b u e
  .exact nit c _ z
theorem Inv.tok(I:Inv X pins σ H s)(t:Nat):Inv X pins σ H {s with toks:=t}:=I.un (h':=s.heap) (t':=t) Un.refl I.hok
theorem Inv.kept{t':Nat}(I:Inv X pins σ H s)(k:∀b u,s.heap.get? b=some u->h'.get? b=some u):Inv X pins σ H {s with heap:=h',toks:=t'}:=I.un (Un.kept k) (I.hok.kept k)
theorem Inv.laid{a:Addr}{o:HO}{t':Nat}(I:Inv X pins σ H s)(k:∀b u,s.heap.get? b=some u->h'.get? b=some u)(hp:s.heap.objs.size<=a)(new:ObjOk X.prog X.w (upd H a o) h' a o) :
 Inv X pins σ (upd H a o) {s with heap:=h',toks:=t'}:=I.un (Un.laid k hp (I.hok.fresh hp)) (I.hok.laid k hp new)
theorem Inv.write{x e:Addr}{o:HO}{t':Nat}(I:Inv X pins σ H s)(mu:Mut (H x))(he:e=x\/H e=some (.own x))(k:∀b u,b≠e->s.heap.get? b=some u->h'.get? b=some u)(heo:∃u,h'.get? e=some u)
 (new:ObjOk X.prog X.w (upd H x o) h' x o):Inv X pins σ (upd H x o) {s with heap:=h',toks:=t'}:=I.un (Un.write mu he k heo) (I.hok.write mu he k heo new)
theorem Inv.pins_of{pins':List (Addr×Obj)}(I:Inv X pins σ H s)(h:∀p∈pins',s.heap.get? p.1=some p.2/\H p.1=none/\p.1≠X.env.locals/\p.1∉X.fs/\∀v,p.2.data≠.cell v):Inv X pins' σ H s:=
 ⟨I.ok,I.os,I.bare,I.base,I.loc,I.cell,I.free,I.freeC,λp hp=>(vdd.mp hp).elim (λz=>I.pin p (vda _ z)) (h p),I.hok,I.len⟩
theorem ziv{N:List Str}(hN:N.Nodup){i j:Nat}{x:Str}(a:N[i]?=some x)(b:N[j]?=some x):i=j:=by
 obtain⟨h1,e1⟩:=vaq.mp a
 obtain⟨h2,e2⟩:=vaq.mp b
 exact(List.getElem_inj hN).mp (e1.trans e2.symm)
theorem zgb{M:Model}{A:Around}{E:Value->Shared->Prop}{i:Nat}{x:Str}{v:V}{u:Value}{Q:Unit->Shared->Prop}(I:Inv X pins σ H s)(hN:X.N.Nodup)(hi:X.N[i]?=some x)(hx:Loc X.env.scope x)(r:RelV v u)
 (h:∀s',Inv X pins (σ.set i (some v)) H s'->(∃a,Heap.SameBut a s.heap s'.heap/\(a=X.env.locals\/X.env.cells.lookup x=some a))->Q () s') (hf:X.fn x=true\/X.env.scope.names.lookup x=some .local:=by first|exact .inl rfl|exact .inr rfl|assumption):wpAny M A (storeName X.env x u) Q E s:=by
 obtain⟨m,hn,hl⟩:=id I.loc
 have hcls:(X.env.scope.kind == .class|| (X.env.scope.kind == .module&&X.env.locals != X.env.globals))=false:=by rw[I.ok.kind];rfl
 have hiσ:i<σ.length:=by rw[I.len];exact(vaq.mp hi).1
 have cne:=I.cne
 have tracked:∀{a:Addr}{h':Heap},(∃o,s.heap.get? a=some o/\H a=none)->Heap.SameBut a s.heap h'->HOk X.prog X.w H h':=λ{a h'} ha hs b ob e=>by
  obtain⟨_,_,hfree⟩:=ha
  refine(I.hok b ob e).stay (λc w' hc q=>(hs.2 c ?_).trans q) (λ_ q=>q) λ_ _ q=>q
  rintro rfl
  rcases hc with rfl|hc
  .rw[hfree]at e;cases e
  .rw[hfree]at hc;cases hc
 rcases hx with hk|hk
 .refine wpAny_storeName_local hk hn (λh' hn' hs=>?_) hcls
  obtain⟨oL,_,_,hoL,_⟩:=id hn
  refine h _ ⟨I.ok,I.os,I.bare,⟨λb o e n hb hx=>?_,λb o e n hb hx=>?_,I.base.free,λb o e hx=>?_,I.base.tups,I.base.frzs,I.base.tbls⟩,⟨_,hn',λj y v' e1 e2 e3=>?_⟩,λy c e=>?_,I.free,I.freeC,λp hp=>?_,tracked ⟨oL,hoL,I.free⟩ hs,by simpa using I.len⟩ ⟨_,hs,.inl rfl⟩
  .exact(hs.2 b (vaz (vah (vap e) I.ok.above))).trans (I.base.keep b o e n hb hx)
  .obtain⟨sl,e1⟩:=I.base.slot b o e n hb hx
   exact⟨sl,(hs.2 b (vaz (vah (vap e) I.ok.above))).trans e1⟩
  .obtain⟨o',e1⟩:=I.base.there b o e hx
   exact⟨o',(hs.2 b (vaz (vah (vap e) I.ok.above))).trans e1⟩
  .by_cases hj:j=i
   .subst hj
    rw[hi]at e1;cases e1
    rw[vcg hiσ]at e2
    cases e2
    exact⟨u,r,.inl ⟨hk,by simp⟩⟩
   .rw[vdb (vb6 hj)]at e2
    obtain⟨u',r',q⟩:=hl j y v' e1 e2 e3
    refine⟨u',r',?_⟩
    rcases q with⟨k,e⟩|⟨k,c,e,z⟩
    .refine .inl ⟨k,?_⟩
     have:y≠x:=λe=>hj (ziv hN e1 (e▸hi))
     simp[this,e]
    .exact .inr ⟨k,c,e,z.sameBut hs (cne y c e)⟩
  .obtain⟨w',z⟩:=I.cell y c e
   exact⟨w',z.sameBut hs (cne y c e)⟩
  .obtain⟨e,n,ne,nf,d⟩:=I.pin p hp
   exact⟨(hs.2 p.1 ne).trans e,n,ne,nf,d⟩
 .have hfn:X.fn x=true:=by
   rcases hf with z|z
   .exact z
   .rw[z]at hk;cases hk
  obtain⟨c,hc⟩:=I.ok.has x (.inl hk)
  obtain⟨w',z⟩:=I.cell x c hc
  refine wpAny_storeName_cell I.ok.kind hk hc z (λh' hc' hs=>?_)
  obtain⟨oc,hoc,hocd⟩:=id z
  refine h {s with heap:=h'} ⟨I.ok,I.os,I.bare,⟨λb o e n hb hx=>?_,λb o e n hb hx=>?_,I.base.free,λb o e hx=>?_,I.base.tups,I.base.frzs,I.base.tbls⟩,⟨m,hn.sameBut hs (vb6 (cne x c hc)),λj y v' e1 e2 e3=>?_⟩,λy c' e=>?_,I.free,I.freeC,λp hp=>?_,tracked ⟨oc,hoc,I.freeC x c hc⟩ hs,by simpa using I.len⟩ ⟨c,hs,.inr hc⟩
  .exact(hs.2 b (vaz (vah (vap e) (I.ok.cab x c hfn hc)))).trans (I.base.keep b o e n hb hx)
  .obtain⟨sl,e1⟩:=I.base.slot b o e n hb hx
   exact⟨sl,(hs.2 b (vaz (vah (vap e) (I.ok.cab x c hfn hc)))).trans e1⟩
  .obtain⟨o',e1⟩:=I.base.there b o e hx
   exact⟨o',(hs.2 b (vaz (vah (vap e) (I.ok.cab x c hfn hc)))).trans e1⟩
  .by_cases hj:j=i
   .subst hj
    rw[hi]at e1;cases e1
    rw[vcg hiσ]at e2
    cases e2
    exact⟨u,r,.inr ⟨.inl hk,c,hc,hc'⟩⟩
   .rw[vdb (vb6 hj)]at e2
    obtain⟨u',r',q⟩:=hl j y v' e1 e2 e3
    refine⟨u',r',?_⟩
    rcases q with q|⟨k,c',e,z'⟩
    .exact .inl q
    .refine .inr ⟨k,c',e,z'.sameBut hs ?_⟩
     rintro rfl
     exact hj (ziv hN e1 (I.ok.inj _ _ _ e hc▸hi))
  .by_cases hcc:c'=c
   .subst hcc;exact⟨_,hc'⟩
   .obtain⟨w2,z2⟩:=I.cell y c' e
    exact⟨w2,z2.sameBut hs hcc⟩
  .obtain⟨e,n,ne,nf,d⟩:=I.pin p hp
   refine⟨(hs.2 p.1 ?_).trans e,n,ne,nf,d⟩
   intro q
   rw[q,hoc]at e
   have q':oc=p.2:=vbl e
   exact d w' (by rw[<-q'];exact hocd)
theorem zfc{M:Model}{A:Around}{E:Value->Shared->Prop}{i:Nat}{x:Str}{v:V}{u:Value}{Q:Unit->Shared->Prop}(I:Inv X pins σ H s)(hN:X.N.Nodup)(hi:X.N[i]?=some x)(hx:Loc X.env.scope x)(r:RelV v u)
 (h:∀s',Inv X pins (σ.set i (some v)) H s'->Q () s') (hf:X.fn x=true\/X.env.scope.names.lookup x=some .local:=by first|exact .inl rfl|exact .inr rfl|assumption):wpAny M A (storeName X.env x u) Q E s:=
 zgb I hN hi hx r (λs' I' _=>h s' I') hf
theorem Inv.call'{s':Shared}{ch:List Addr}(I:Inv X pins σ H s)(ho:s'.os=s.os)(u:Un (frs X.stack) ch H H' s.heap s'.heap)(hok:HOk X.prog X.w H' s'.heap)(hg:AllBare s'.gens)
 (hch:∀b∈ch,(b∈X.ex\/X.s₀.heap.objs.size<=b)/\b≠X.env.locals/\(∀x c,X.env.cells.lookup x=some c->c≠b)/\∀p∈X.pn++pins,p.1≠b):Inv X pins σ H' s':=by
 obtain⟨h',g',d',t',o'⟩:=s'
 have e:o'=s.os:=ho
 subst e
 exact I.call (g':=g') (t':=t') (d':=d') u hok hg hch
end
noncomputable abbrev XK:=Value->Option Addr->Hp->Prop
noncomputable abbrev St:=List (Option V)
noncomputable abbrev VK:=V->Hp->Prop
noncomputable abbrev TE:=St->Hp->VK->Prop
noncomputable abbrev TT:=St->Hp->(Bool->Hp->Prop)->Prop
noncomputable abbrev TA:=St->Hp->(List V->Hp->Prop)->Prop
set_option genInjectivity false in
structure Ends where
 nx:St->Hp->Prop
 rt:VK
 bk:St->Hp->Prop:=λ_ _=>False
 ct:St->Hp->Prop:=λ_ _=>False
noncomputable abbrev TS:=Ends->St->Hp->Prop
noncomputable def EP(X:Cx)(pins:List (Addr×Obj))(σ:St)(Q:VK)(u:Value)(s':Shared):Prop:=∃v H',Inv X pins σ H' s'/\RelV v u/\Q v H'
noncomputable def TP(X:Cx)(pins:List (Addr×Obj))(σ:St)(Q:Bool->Hp->Prop)(b:Bool)(s':Shared):Prop:=∃H',Inv X pins σ H' s'/\Q b H'
noncomputable def AP(X:Cx)(pins:List (Addr×Obj))(σ:St)(Q:List V->Hp->Prop)(us:List Value)(s':Shared):Prop:=∃vs H',Inv X pins σ H' s'/\Vals vs us/\Q vs H'
theorem EP.el{X:Cx}{pins:List (Addr×Obj)}{σ:St}{Q:VK}{u:Value}{s':Shared}{P:Prop}(q:EP X pins σ Q u s')(k:∀v H',Inv X pins σ H' s'->RelV v u->Q v H'->P):P:=by
 obtain⟨v,H',a,b,c⟩:=q
 exact k v H' a b c
theorem TP.el{X:Cx}{pins:List (Addr×Obj)}{σ:St}{Q:Bool->Hp->Prop}{b:Bool}{s':Shared}{P:Prop}(q:TP X pins σ Q b s')(k:∀H',Inv X pins σ H' s'->Q b H'->P):P:=by
 obtain⟨H',a,c⟩:=q
 exact k H' a c
theorem AP.el{X:Cx}{pins:List (Addr×Obj)}{σ:St}{Q:List V->Hp->Prop}{us:List Value}{s':Shared}{P:Prop}(q:AP X pins σ Q us s')(k:∀vs H',Inv X pins σ H' s'->Vals vs us->Q vs H'->P):P:=by
 obtain⟨v,H',a,b,c⟩:=q
 exact k v H' a b c
noncomputable def SP(X:Cx)(pins:List (Addr×Obj))(D:Ends)(f:Flow)(s':Shared):Prop:=
 match f with
 |.next=>∃σ' H',Inv X pins σ' H' s'/\D.nx σ' H'
 |.brk=>∃σ' H',Inv X pins σ' H' s'/\D.bk σ' H'
 |.cont=>∃σ' H',Inv X pins σ' H' s'/\D.ct σ' H'
 |.ret u=>∃v σ' H',Inv X pins σ' H' s'/\RelV v u/\D.rt v H'
noncomputable def PE(X:Cx)(e:Expr)(t:TE):Prop:=
 ∀(pins:List (Addr×Obj))(s:Shared)(σ:St)(H:Hp)(Q:VK),Inv X pins σ H s->t σ H Q->wpAny (model X.prog X.w) X.A (eval e X.env) (EP X pins σ Q) X.xe s
noncomputable def PT(X:Cx)(e:Expr)(t:TT):Prop:=
 ∀(pins:List (Addr×Obj))(s:Shared)(σ:St)(H:Hp)(Q:Bool->Hp->Prop),Inv X pins σ H s->t σ H Q->wpAny (model X.prog X.w) X.A (isTrue e X.env (eval e X.env)) (TP X pins σ Q) X.xe s
noncomputable def PW(X:Cx)(e:Expr)(t:TT):Prop:=
 ∀(whole:Sem Value)(pins:List (Addr×Obj))(s:Shared)(σ:St)(H:Hp)(Q:Bool->Hp->Prop),Inv X pins σ H s->t σ H Q->wpAny (model X.prog X.w) X.A (isTrue e X.env whole) (TP X pins σ Q) X.xe s
theorem PW.pt{X:Cx}{e:Expr}{t:TT}(h:PW X e t):PT X e t:=h _
noncomputable def PA(X:Cx)(es:List Expr)(t:TA):Prop:=
 ∀(pos:Pos)(pins:List (Addr×Obj))(s:Shared)(σ:St)(H:Hp)(Q:List V->Hp->Prop),Inv X pins σ H s->t σ H Q->wpAny (model X.prog X.w) X.A (spliced (backTo pos (starEach es X.env))) (AP X pins σ Q) X.xe s
noncomputable def PS(X:Cx)(st:Stmt)(t:TS):Prop:=
 ∀(pins:List (Addr×Obj))(s:Shared)(σ:St)(H:Hp)(D:Ends),Inv X pins σ H s->t D σ H->wpAny (model X.prog X.w) X.A (exec st X.env) (SP X pins D) X.xe s
noncomputable def PSs(X:Cx)(st:List Stmt)(t:TS):Prop:=
 ∀(pins:List (Addr×Obj))(s:Shared)(σ:St)(H:Hp)(D:Ends),Inv X pins σ H s->t D σ H->wpAny (model X.prog X.w) X.A (execs st X.env) (SP X pins D) X.xe s
theorem thn{α:Type}{t:Sem α}{Q Q':α->Shared->Prop}{M:Model}{A:Around}{E:Value->Shared->Prop}{s:Shared}(h:wpAny M A t Q E s)(hQ:∀a s,Q a s->Q' a s):wpAny M A t Q' E s:=vdn h hQ λ_ _ x=>x
section
variable{X:Cx}
noncomputable def tVar(i:Nat):TE:=λσ H Q=>∃v,σ[i]?=some (some v)/\Q v H
noncomputable def tC(v:V):TE:=λ_ H Q=>Q v H
theorem zuj{i:Nat}{x:Str}{pos:Pos}(hN:X.N[i]?=some x)(hv:Vis X.env.scope x)(hd:(x==("__debug__" : Str))=false:=by decide)(hcd:(x==("__classdict__" : Str))=false:=by decide):PE X (.Name x pos) (tVar i):=by
 intro pins s σ H Q I h
 obtain⟨v,e,h⟩:=h
 obtain⟨m,hn,hl⟩:=I.loc
 obtain⟨u,r,l⟩:=hl i x v hN e hv
 have fin:EP X pins σ Q u s:=⟨v,H,I,r,h⟩
 rcases l with⟨hk,hm⟩|⟨hk,c,hc,hcell⟩
 .exact wpAny_Name (wpAny_loadName_local I.ok.kind hk hn hm fin) hd
 .rcases hk with hk|hk
  .exact wpAny_Name (wpAny_loadName_cell I.ok.kind hk hc hcell fin) hd
  .exact wpAny_Name (wpAny_loadName_free I.ok.kind hk hc hcell fin hcd) hd
theorem zuk{i j pos}:PE X (.Constant (.int i) j pos) (tC (.int i)):=λ_ _ _ H _ I h=>wpAny_Constant_int ⟨.int i,H,I.tok _,⟨_,rfl⟩,h⟩
theorem pe_bl{b j pos}:PE X (.Constant (.bool b) j pos) (tC (.bl b)):=λ_ _ _ H _ I h=>Constant_bool ⟨.bl b,H,I,rfl,h⟩
theorem zul{j pos}:PE X (.Constant .none j pos) (tC .non):=λ_ _ _ H _ I h=>Constant_none ⟨.non,H,I,rfl,h⟩
theorem zum{x j pos}:PE X (.Constant (.str x) j pos) (tC (.str x)):=λ_ _ _ H _ I h=>Calls.Constant_str ⟨.str x,H,I.tok _,⟨_,rfl⟩,h⟩
noncomputable def Gl(X:Cx)(x:Str):Prop:=X.env.kindOf x=some .globalImplicit
theorem zhn{E:Value->Shared->Prop}{pins:List (Addr×Obj)}{s:Shared}{σ:St}{H:Hp}{x:Str}{u:Value}{pos:Pos}{Q:Value->Shared->Prop}(I:Inv X pins σ H s)(hg:Gl X x)(hm:X.mg x=some u)(h:Q u s)
 (hd:(x==("__debug__" : Str))=false:=by decide):wpAny (model X.prog X.w) X.A (eval (.Name x pos) X.env) Q E s:=
 Calls.Name_function_global I.ok.kind hg (Calls.loadGlobal_global (by rw[I.ok.glob];exact I.mod.glob.keeps I.bk) hm h) hd
theorem zdm{E:Value->Shared->Prop}{pins:List (Addr×Obj)}{s:Shared}{σ:St}{H:Hp}{x:Str}{u:Value}{pos:Pos}{Q:Value->Shared->Prop}(I:Inv X pins σ H s)(hg:Gl X x)(hm:X.mg x=none)(hv:bootBuiltins x=some u)(h:Q u s)
 (hn:x≠"__name__":=by decide) (hd:(x==("__debug__" : Str))=false:=by decide):wpAny (model X.prog X.w) X.A (eval (.Name x pos) X.env) Q E s:=by
 obtain⟨mb,h1,h2⟩:=I.mod.blt
 exact Calls.Name_function_global I.ok.kind hg (Calls.loadGlobal_builtin (by rw[I.ok.glob];exact I.mod.glob.keeps I.bk) hm (by rw[I.ok.blt];exact h1.keeps I.bk) ((h2 x hn).trans hv) h) hd
theorem zry{x:Str}{v:V}{u:Value}{pos:Pos}(hg:Gl X x)(hm:X.mg x=some u)(r:RelV v u)(hd:(x==("__debug__" : Str))=false:=by decide):PE X (.Name x pos) (tC v):=
 λ_ _ _ H _ I h=>zhn I hg hm ⟨v,H,I,r,h⟩ hd
theorem zrz{x:Str}{v:V}{u:Value}{pos:Pos}(hg:Gl X x)(hm:X.mg x=none)(hv:bootBuiltins x=some u)(r:RelV v u)(hn:x≠"__name__":=by decide)(hd:(x==("__debug__" : Str))=false:=by decide):PE X (.Name x pos) (tC v):=
 λ_ _ _ H _ I h=>zdm I hg hm hv ⟨v,H,I,r,h⟩ hn hd
variable{a b:Expr}{ta tb:TE}{pos:Pos}
variable{tA tB':TT}{rest:List Expr}
noncomputable def tAnd(t u:TT):TT:=λσ H Q=>t σ H λc H1=>if c=true then u σ H1 Q else Q false H1
noncomputable def tOr(t u:TT):TT:=λσ H Q=>t σ H λc H1=>if c=true then Q true H1 else u σ H1 Q
noncomputable def tNot(t:TT):TT:=λσ H Q=>t σ H λc H1=>Q (!c) H1
theorem zr0(ha:PT X a tA):PW X (.BoolOp .And [a] pos) tA:=by
 intro wh pins s σ H Q I h
 refine isTrue_and (thn (ha pins s σ H Q I h) λc s1 e=>?_)
 cases c with
 |true=>exact isTrue_and_nil e
 |false=>exact e
theorem zun(ha:PT X a tA):PW X (.BoolOp .Or [a] pos) tA:=by
 intro wh pins s σ H Q I h
 refine isTrue_or (thn (ha pins s σ H Q I h) λc s1 e=>?_)
 cases c with
 |false=>exact isTrue_or_nil e
 |true=>exact e
theorem zuo(ha:PT X a tA)(hb:PW X (.BoolOp .And (b::rest) pos) tB'):PW X (.BoolOp .And (a::b::rest) pos) (tAnd tA tB'):=by
 intro wh pins s σ H Q I h
 refine isTrue_and (thn (ha pins s σ H _ I h) λc s1 z9=>z9.el λH1 I1 q1=>?_)
 cases c with
 |true=>exact hb wh pins s1 σ H1 Q I1 q1
 |false=>exact⟨H1,I1,q1⟩
theorem pw_or(ha:PT X a tA)(hb:PW X (.BoolOp .Or (b::rest) pos) tB'):PW X (.BoolOp .Or (a::b::rest) pos) (tOr tA tB'):=by
 intro wh pins s σ H Q I h
 refine isTrue_or (thn (ha pins s σ H _ I h) λc s1 z9=>z9.el λH1 I1 q1=>?_)
 cases c with
 |true=>exact⟨H1,I1,q1⟩
 |false=>exact hb wh pins s1 σ H1 Q I1 q1
theorem zup(ha:PT X a tA):PT X (.UnaryOp .Not a pos) (tNot tA):=by
 intro pins s σ H Q I h
 exact isTrue_not (ha pins s σ H (λc H1=>Q (!c) H1) I h)
noncomputable def tAndV(ta tb:TE):TE:=λσ H Q=>ta σ H λx H1=>∃c,x=.bl c/\if c=true then tb σ H1 Q else Q (.bl false) H1
noncomputable def tOrV(ta tb:TE):TE:=λσ H Q=>ta σ H λx H1=>∃c,x=.bl c/\if c=true then Q (.bl true) H1 else tb σ H1 Q
noncomputable def tNotV(ta:TE):TE:=λσ H Q=>ta σ H λx H1=>∃c,x=.bl c/\Q (.bl (!c)) H1
theorem zuq{op}{t:TE}(h:PE X a t):PE X (.BoolOp op [a] pos) t:=λpins s σ H Q I hw=>BoolOp_one (h pins s σ H Q I hw)
theorem zur(ha:PE X a ta)(hb:PE X (.BoolOp .And (b::rest) pos) tb):PE X (.BoolOp .And (a::b::rest) pos) (tAndV ta tb):=by
 intro pins s σ H Q I h
 refine BoolOp_and (thn (ha pins s σ H _ I h) λv s1 z9=>z9.el λx H1 I1 r1 q1=>?_)
 obtain⟨c,rfl,q1⟩:=q1
 cases r1
 refine vb2 ?_
 cases c with
 |true=>exact hb pins s1 σ H1 Q I1 q1
 |false=>exact⟨.bl false,H1,I1,rfl,q1⟩
theorem pe_or(ha:PE X a ta)(hb:PE X (.BoolOp .Or (b::rest) pos) tb):PE X (.BoolOp .Or (a::b::rest) pos) (tOrV ta tb):=by
 intro pins s σ H Q I h
 refine BoolOp_or (thn (ha pins s σ H _ I h) λv s1 z9=>z9.el λx H1 I1 r1 q1=>?_)
 obtain⟨c,rfl,q1⟩:=q1
 cases r1
 refine vb2 ?_
 cases c with
 |false=>exact hb pins s1 σ H1 Q I1 q1
 |true=>exact⟨.bl true,H1,I1,rfl,q1⟩
theorem zus(ha:PE X a ta):PE X (.UnaryOp .Not a pos) (tNotV ta):=by
 intro pins s σ H Q I h
 refine UnaryOp_ (thn (ha pins s σ H _ I h) λv s1 z9=>z9.el λx H1 I1 r1 q1=>?_)
 obtain⟨c,rfl,q1⟩:=q1
 cases r1
 exact not_of (vb2 ⟨.bl (!c),H1,I1,rfl,q1⟩)
noncomputable def tIf(t:TT)(ta tb:TE):TE:=λσ H Q=>t σ H λc H1=>if c=true then ta σ H1 Q else tb σ H1 Q
theorem zoo{c:Expr}(hc:PT X c tA)(ha:PE X a ta)(hb:PE X b tb):PE X (.IfExp c a b pos) (tIf tA ta tb):=by
 intro pins s σ H Q I h
 refine wpAny_IfExp (thn (hc pins s σ H _ I h) λd s1 z9=>z9.el λH1 I1 q1=>?_)
 cases d with
 |true=>exact ha pins s1 σ H1 Q I1 q1
 |false=>exact hb pins s1 σ H1 Q I1 q1
end
noncomputable def SqL(K:vga)(H:Hp)(a:Addr)(xs:List V):Prop:=
 Rd H a (.lst xs)\/
  ∃(o:Obj) (its:Array Value) (n:Nat),K.lookup a=some o/\o.cls=.type "list"/\o.dict=none/\o.data=.seq its n/\its.size<=sizeLine/\Vals xs its.toList
noncomputable def SqT(K:vga)(H:Hp)(a:Addr)(xs:List V):Prop:=
 Rd H a (.tup xs)\/
  ∃(o:Obj) (its:Array Value) (n:Nat),K.lookup a=some o/\o.cls=.type "tuple"/\o.dict=none/\o.data=.seq its n/\its.size<=sizeLine/\Vals xs its.toList
noncomputable def absV:Value->Option V
 |.none=>some .non
 |.bool b=>some (.bl b)
 |.int i _=>some (.int i)
 |.str x _=>some (.str x)
 |.bytes b _=>some (.byt b)
 |.float b _=>some (.flt b)
 |.ref a=>some (.ref a)
 |.type n=>some (.ty n)
 |_=>none
theorem RelV.abs{x:V}{u:Value}(r:RelV x u):absV u=some x:=by
 cases x with
 |non=>cases r;rfl
 |bl _=>cases r;rfl
 |int _=>obtain⟨t,rfl⟩:=r;rfl
 |str _=>obtain⟨t,rfl⟩:=r;rfl
 |byt _=>obtain⟨t,rfl⟩:=r;rfl
 |flt _=>obtain⟨t,rfl⟩:=r;rfl
 |ref _=>cases r;rfl
 |ty _=>cases r;rfl
theorem RelV.inj{x y:V}{u:Value}(r:RelV x u)(q:RelV y u):x=y:=vbl (r.abs.symm.trans q.abs)
theorem Vals.inj:∀{xs ys:List V} {us:List Value},Vals xs us->Vals ys us->xs=ys
 |_,_,_,.nil,.nil=>rfl
 |_,_,_,.cons r t,.cons r' t'=>by rw[r.inj r',Vals.inj t t']
section
variable{X:Cx}{pins:List (Addr×Obj)}{σ:St}{H:Hp}{s:Shared}{a:Addr}{xs ys:List V}
theorem SqL.of{K:vga}(h:H a=some (.lst xs)):SqL K H a xs:=.inl (.inl h)
theorem SqT.of{K:vga}(h:H a=some (.tup xs)):SqT K H a xs:=.inl (.inl h)
theorem Inv.list(I:Inv X pins σ H s)(h:SqL X.K H a xs):∃its:List Value,Vals xs its/\PlainL s.heap a its.toArray/\xs.length<=sizeLine:=by
 rcases h with h|⟨o,its,n,hk,hc,hd,hs,hz,r⟩
 .obtain⟨z,its,n,r,e⟩:=h.ok I.hok
  exact⟨its,r,⟨_,n,e,rfl,rfl,rfl⟩,z⟩
 .refine⟨its.toList,r,⟨o,n,I.kIn a o hk,hc,hd,by simpa using hs⟩,?_⟩
  have e:=r.length
  simp only[vdk]at e
  omega
theorem Inv.tupleD(I:Inv X pins σ H s)(h:SqT X.K H a xs):∃its:List Value,Vals xs its/\zbl s.heap a its.toArray/\xs.length<=sizeLine:=by
 rcases h with h|⟨o,its,n,hk,hc,hd,hs,hz,r⟩
 .obtain⟨z,its,r,p⟩:=h.ok I.hok
  exact⟨its,r,p,z⟩
 .refine⟨its.toList,r,⟨o,I.kIn a o hk,hc,⟨n,by simpa using hs⟩,hd⟩,?_⟩
  have e:=r.length
  simp only[vdk]at e
  omega
theorem Inv.tuple(I:Inv X pins σ H s)(h:SqT X.K H a xs):∃its:List Value,Vals xs its/\IsTup s.heap a its.toArray/\xs.length<=sizeLine:=by
 obtain⟨its,r,p,z⟩:=I.tupleD h
 exact⟨its,r,p.tup,z⟩
theorem Inv.list_inj(I:Inv X pins σ H s)(h:SqL X.K H a xs)(h':SqL X.K H a ys):xs=ys:=by
 obtain⟨its,r,⟨o,n,e,_,_,d⟩,_⟩:=I.list h
 obtain⟨its',r',⟨o',n',e',_,_,d'⟩,_⟩:=I.list h'
 rw[e]at e';cases e'
 rw[d]at d'
 injection d' with d1 _
 have:its=its':=by simpa using vdr Array.toList d1
 subst this
 exact r.inj r'
theorem Inv.tuple_inj(I:Inv X pins σ H s)(h:SqT X.K H a xs)(h':SqT X.K H a ys):xs=ys:=by
 obtain⟨its,r,⟨o,e,_,n,d⟩,_⟩:=I.tuple h
 obtain⟨its',r',⟨o',e',_,n',d'⟩,_⟩:=I.tuple h'
 rw[e]at e';cases e'
 rw[d]at d'
 injection d' with d1 _
 have:its=its':=by simpa using vdr Array.toList d1
 subst this
 exact r.inj r'
end
noncomputable abbrev Cx.wish(X:Cx)(E:Value->Shared->Prop):Cx:={X with xe:=E}
noncomputable abbrev Cx.nox(X:Cx):Cx:=X.wish λ_ _=>False
theorem Cx.Ok.wish{X:Cx}(ok:X.Ok)(E:Value->Shared->Prop):(X.wish E).Ok:=
 ⟨ok.mod,ok.kind,ok.glob,ok.blt,ok.above,ok.inj,ok.has,ok.cab,ok.hd,ok.frames,ok.stk,ok.exf,ok.bs,ok.bsz,ok.noex,ok.exfs,ok.funs,ok.frf⟩
theorem Cx.Ok.unwish{X:Cx}{E:Value->Shared->Prop}(ok:(X.wish E).Ok):X.Ok:=
 ⟨ok.mod,ok.kind,ok.glob,ok.blt,ok.above,ok.inj,ok.has,ok.cab,ok.hd,ok.frames,ok.stk,ok.exf,ok.bs,ok.bsz,ok.noex,ok.exfs,ok.funs,ok.frf⟩
section
variable{X:Cx}{pins:List (Addr×Obj)}{σ:St}{H:Hp}{s:Shared}{E:Value->Shared->Prop}
theorem Inv.wish(I:Inv X pins σ H s)(E:Value->Shared->Prop):Inv (X.wish E) pins σ H s:=⟨I.ok.wish E,I.os,I.bare,I.base,I.loc,I.cell,I.free,I.freeC,I.pin,I.hok,I.len⟩
theorem Inv.unwish(I:Inv (X.wish E) pins σ H s):Inv X pins σ H s:=⟨I.ok.unwish,I.os,I.bare,I.base,I.loc,I.cell,I.free,I.freeC,I.pin,I.hok,I.len⟩
theorem SP.unwish{D:Ends}{f:Flow}{s':Shared}(h:SP (X.wish E) pins D f s'):SP X pins D f s':=by
 cases f with
 |next=>obtain⟨σ',H',I,q⟩:=h;exact⟨σ',H',I.unwish,q⟩
 |brk=>obtain⟨σ',H',I,q⟩:=h;exact⟨σ',H',I.unwish,q⟩
 |cont=>obtain⟨σ',H',I,q⟩:=h;exact⟨σ',H',I.unwish,q⟩
 |ret u=>obtain⟨v,σ',H',I,r,q⟩:=h;exact⟨v,σ',H',I.unwish,r,q⟩
theorem PSs.nox{st:List Stmt}{t:TS}(h:PSs X.nox st t):PSs X st t:=λpins s σ H D I hw=>
 vdn (h pins s σ H D (I.wish _) hw) (λ_ _ q=>q.unwish) λ_ _ z=>False.elim z
end
section
variable{X:Cx}{st:Stmt}{rest:List Stmt}{t u:TS}{e:Expr}{te:TE}{pos:Pos}
noncomputable def tNext:TS:=λD σ H=>D.nx σ H
noncomputable def tSeq(t u:TS):TS:=λD σ H=>t {D with nx:=u D} σ H
theorem zr1:PSs X [] tNext:=λ_ _ σ H _ I h=>wpAny_execs_nil ⟨σ,H,I,h⟩
theorem zop(h1:PS X st t)(h2:PSs X rest u):PSs X (st::rest) (tSeq t u):=by
 intro pins s σ H D I h
 refine wpAny_execs_cons (thn (h1 pins s σ H {D with nx:=u D} I h) λf s1 q=>?_)
 cases f with
 |next=>
  obtain⟨σ',H',I',q⟩:=q
  exact h2 pins s1 σ' H' D I' q
 |ret v=>exact q
 |brk=>exact q
 |cont=>exact q
noncomputable def zut:TS:=λD σ H=>D.bk σ H
noncomputable def tCont:TS:=λD σ H=>D.ct σ H
theorem zr2:PS X (.Pass pos) tNext:=λ_ _ σ H _ I h=>wpAny_Pass ⟨σ,H,I,h⟩
theorem zoq:PS X (.Break pos) zut:=λ_ _ σ H _ I h=>wpAny_Break ⟨σ,H,I,h⟩
theorem zho:PS X (.Continue pos) tCont:=λ_ _ σ H _ I h=>wpAny_Continue ⟨σ,H,I,h⟩
theorem Inv.quiet{pins:List (Addr×Obj)}{σ:St}{H:Hp}{s:Shared}(I:Inv X pins σ H s):interactive X.env=false:=by simp[interactive,I.ok.kind]
noncomputable def tDrop(te:TE):TS:=λD σ H=>te σ H λ_ H1=>D.nx σ H1
theorem zr3(he:PE X e te)(hs:swapsWith e none pos.line X.env=pure false:=by rfl):PS X (.Expr e pos) (tDrop te):=by
 intro pins s σ H D I h
 exact wpAny_Expr_any (thn (he pins s σ H _ I h) λv s1 z9=>z9.el λx H1 I1 r1 q1=>⟨σ,H1,I1,q1⟩) I.quiet hs
noncomputable def tRet(te:TE):TS:=λD σ H=>te σ H D.rt
theorem zuu(he:PE X e te):PS X (.Return (some e) pos) (tRet te):=by
 intro pins s σ H D I h
 exact wpAny_Return_some (thn (he pins s σ H _ I h) λv s1 z9=>z9.el λx H1 I1 r1 q1=>⟨x,σ,H1,I1,r1,q1⟩)
noncomputable def tRetN:TS:=λD _ H=>D.rt .non H
theorem zr4:PS X (.Return none pos) tRetN:=λ_ _ σ H _ I h=>wpAny_Return_none ⟨.non,σ,H,I,rfl,h⟩
noncomputable def tIfS(c:TT)(t u:TS):TS:=λD σ H=>c σ H λb H1=>if b=true then t D σ H1 else u D σ H1
theorem ps_if{c:Expr}{a b:List Stmt}{tc:TT}(hc:PT X c tc)(ha:PSs X a t)(hb:PSs X b u):PS X (.If c a b pos) (tIfS tc t u):=by
 intro pins s σ H D I h
 refine wpAny_If (thn (hc pins s σ H _ I h) λd s1 z9=>z9.el λH1 I1 q1=>?_)
 cases d with
 |true=>exact ha pins s1 σ H1 D I1 q1
 |false=>exact hb pins s1 σ H1 D I1 q1
noncomputable def zuv:TS:=λ_ _ _=>False
theorem zor:PS X st zuv:=λ_ _ _ _ _ _ h=>h.elim
end
noncomputable abbrev TG:=V->St->Hp->(St->Hp->Prop)->Prop
noncomputable abbrev TGs:=List V->St->Hp->(St->Hp->Prop)->Prop
noncomputable def PG(X:Cx)(target:Expr)(t:TG):Prop:=
 ∀(pins:List (Addr×Obj))(s:Shared)(σ:St)(H:Hp)(v:V)(u:Value)(Q:St->Hp->Prop),Inv X pins σ H s->RelV v u->t v σ H Q->
  wpAny (model X.prog X.w) X.A (assign target X.env u) (λ_ s'=>∃σ' H',Inv X pins σ' H' s'/\Q σ' H') X.xe s
noncomputable def PGs(X:Cx)(ts:List Expr)(t:TGs):Prop:=
 ∀(pins:List (Addr×Obj))(s:Shared)(σ:St)(H:Hp)(vs:List V)(us:List Value)(Q:St->Hp->Prop),Inv X pins σ H s->Vals vs us->t vs σ H Q->
  wpAny (model X.prog X.w) X.A (assignInOrder ((assignEach ts X.env).map (·.2)) us) (λ_ s'=>∃σ' H',Inv X pins σ' H' s'/\Q σ' H') X.xe s
noncomputable abbrev TSet:=V->V->V->Hp->(Hp->Prop)->Prop
noncomputable def PSet(X:Cx)(t:TSet):Prop:=
 ∀(pins:List (Addr×Obj))(s:Shared)(σ:St)(H:Hp)(o i v:V)(ov iv u:Value)(Q:Hp->Prop),Inv X pins σ H s->RelV o ov->RelV i iv->RelV v u->t o i v H Q->
  wpAny (model X.prog X.w) X.A (setItem ov iv u) (λ_ s'=>∃H',Inv X pins σ H' s'/\Q H') X.xe s
noncomputable abbrev TIp:=V->V->Hp->VK->Prop
noncomputable def PIp(X:Cx)(op:Operator)(t:TIp):Prop:=
 ∀(pins:List (Addr×Obj))(s:Shared)(σ:St)(H:Hp)(x y:V)(v u:Value)(Q:VK),Inv X pins σ H s->RelV x v->RelV y u->t x y H Q->
  wpAny (model X.prog X.w) X.A (inplaceOp op v u) (EP X pins σ Q) X.xe s
section
variable{X:Cx}{pos:Pos}
noncomputable def gName(i:Nat):TG:=λv σ H Q=>Q (σ.set i (some v)) H
theorem zlc{i:Nat}{x:Str}(hN:X.N.Nodup)(hi:X.N[i]?=some x)(hx:Loc X.env.scope x)(hf:X.fn x=true\/X.env.scope.names.lookup x=some .local:=by first|exact .inl rfl|exact .inr rfl|assumption):PG X (.Name x pos) (gName i):=by
 intro pins s σ H v u Q I r h
 exact wpAny_assign_Name (zfc I hN hi hx r (λs' I'=>⟨_,H,I',h⟩) hf)
noncomputable def gNil:TGs:=λvs σ H Q=>vs=[]/\Q σ H
noncomputable def gCons(t:TG)(u:TGs):TGs:=λvs σ H Q=>∃v r,vs=v::r/\t v σ H λσ' H'=>u r σ' H' Q
theorem zld:PGs X [] gNil:=by
 intro pins s σ H vs us Q I r h
 obtain⟨e,h⟩:=h
 subst e
 cases r
 exact assignInOrder_nil ⟨σ,H,I,h⟩
theorem zfd{e:Expr}{es:List Expr}{t:TG}{u:TGs}(h1:PG X e t)(h2:PGs X es u)
 (hs:(assignEach (e::es) X.env).map (·.2)=assign e X.env:: (assignEach es X.env).map (·.2):=by rfl):PGs X (e::es) (gCons t u):=by
 intro pins s σ H vs us Q I r h
 obtain⟨v,vr,e1,h⟩:=h
 subst e1
 cases r with
 |cons r rr=>
  rw[hs]
  refine assignInOrder_cons (thn (h1 pins s σ H _ _ _ I r h) λ_ s1 hq0=>?_)
  obtain⟨σ1,H1,I1,q1⟩:=hq0
  exact h2 pins s1 σ1 H1 _ _ Q I1 rr q1
noncomputable def gTup(K:vga)(n:Nat)(t:TGs):TG:=λv σ H Q=>∃a xs,v=.ref a/\SqT K H a xs/\xs.length=n/\t xs σ H Q
theorem zqs{es:List Expr}{k:Nat}{t:TGs}{n:Nat}(hc:X.calm=true)(h:PGs X es t)
 (hn:(assignEach es X.env).length=n:=by rfl) (hst:(assignEach es X.env).findIdx? (·.1)=none:=by rfl):PG X (.Tuple es k pos) (gTup X.K n t):=by
 intro pins s σ H v u Q I r hw
 obtain⟨a,xs,e1,hq,hl,hw⟩:=hw
 subst e1
 cases r
 obtain⟨its,rv,ht,hz⟩:=I.tuple hq
 refine assign_Tuple_tuple (I.ok.hd hc) ht (by simp[hn,<-hl,rv.length]) hst λh' hx=>?_
 have I1:Inv X pins σ H {s with heap:=h'}:=I.kept (t':=s.toks) λb o e=>hx b o (vaz (vap e)) e
 exact h pins _ σ H xs _ Q I1 (by simpa using rv) hw
noncomputable def gSub(to ti:TE)(t:TSet):TG:=λv σ H Q=>to σ H λo H1=>ti σ H1 λi H2=>t o i v H2 λH3=>Q σ H3
theorem zuw{o i:Expr}{to ti:TE}{t:TSet}(ho:PE X o to)(hi:PE X i ti)(hs:PSet X t)
 (ha:∀v,assign (.Subscript o i pos) X.env v=(do
   let ov <-holding [v] (eval o X.env)
   let iv <-holding [v,ov] (eval i X.env)
   standAt pos
   holding [v,ov,iv] (setItem ov iv v)
   release [v,ov,iv] []):=by intro _;rfl):PG X (.Subscript o i pos) (gSub to ti t):=by
 intro pins s σ H v u Q I r h
 rw[ha]
 refine vaa (vck (thn (ho pins s σ H _ I h) λov s1 z9=>z9.el λx H1 I1 r1 q1=>?_))
 refine vaa (vck (thn (hi pins s1 σ H1 _ I1 q1) λiv s2 z9=>z9.el λy H2 I2 r2 q2=>?_))
 refine vaa (vff (vaa (vck (thn (hs pins s2 σ H2 x y v ov iv u _ I2 r1 r2 r q2) λ_ s3 hq0=>?_))))
 obtain⟨H3,I3,q3⟩:=hq0
 exact wpAny_release ⟨σ,H3,I3,q3⟩
noncomputable def tAsg(te:TE)(g:TG):TS:=λD σ H=>te σ H λx H1=>g x σ H1 D.nx
theorem zqt{tg e:Expr}{te:TE}{g:TG}(he:PE X e te)(hg:PG X tg g)(hs:swapsWithSole [tg] e pos.line X.env=pure false:=by rfl)(hw:swappedStores [tg] e X.env=pure none:=by rfl)
 (h1:(assignEach [tg] X.env).map (·.2)=[assign tg X.env]:=by rfl):PS X (.Assign [tg] e pos) (tAsg te g):=by
 intro pins s σ H D I h
 refine wpAny_Assign_stores (thn (he pins s σ H _ I h) λv s1 z9=>z9.el λx H1 I1 r1 q1=>?_) hs hw
 rw[h1]
 exact thn (hg pins s1 σ H1 x v _ I1 r1 q1) λ_ s2 q=>q
theorem zux{i:Nat}{x:Str}{e:Expr}{te:TE}{pos':Pos}(hN:X.N.Nodup)(hi:X.N[i]?=some x)(hx:Loc X.env.scope x)(he:PE X e te)(hs:swapsWith e (some (.Name x pos')) pos.line X.env=pure false:=by rfl)(hf:X.fn x=true\/X.env.scope.names.lookup x=some .local:=by first|exact .inl rfl|exact .inr rfl|assumption) :
 PS X (.Assign [.Name x pos'] e pos) (tAsg te (gName i)):=by
 intro pins s σ H D I h
 refine wpAny_Assign_Name (thn (he pins s σ H _ I h) λv s1 z9=>z9.el λy H1 I1 r1 q1=>?_) hs
 exact zfc I1 hN hi hx r1 (λs2 I2=>⟨_,H1,I2,q1⟩) hf
noncomputable def tAug(i:Nat)(te:TE)(ti:TIp):TS:=λD σ H=>∃x,σ[i]?=some (some x)/\te σ H λy H1=>ti x y H1 λz H2=>D.nx (σ.set i (some z)) H2
theorem zuy{i:Nat}{x:Str}{e:Expr}{te:TE}{op:Operator}{ti:TIp}{pos':Pos}(hN:X.N.Nodup)(hi:X.N[i]?=some x)(hx:Loc X.env.scope x)(he:PE X e te)(ho:PIp X op ti)(hf:X.fn x=true\/X.env.scope.names.lookup x=some .local:=by first|exact .inl rfl|exact .inr rfl|assumption) :
 PS X (.AugAssign (.Name x pos') op e pos) (tAug i te ti):=by
 intro pins s σ H D I h
 obtain⟨v,e1,h⟩:=h
 obtain⟨m,hn,hl⟩:=I.loc
 have vis:Vis X.env.scope x:=by rcases hx with k|k;exact .inl k;exact .inr (.inl k)
 obtain⟨u,r,l⟩:=hl i x v hi e1 vis
 refine wpAny_AugAssign_Name ?_
 have go:wpAny (model X.prog X.w) X.A (eval e X.env) (λw s₂=>wpAny (model X.prog X.w) X.A (inplaceOp op u w) (λr s₃=>wpAny (model X.prog X.w) X.A (storeName X.env x r) (λ_=>SP X pins D .next) X.xe s₃) X.xe s₂) X.xe s:=by
  refine thn (he pins s σ H _ I h) λw s1 z9=>z9.el λy H1 I1 r1 q1=>?_
  refine thn (ho pins s1 σ H1 v y u w _ I1 r r1 q1) λz s2 z9=>z9.el λzv H2 I2 r2 q2=>?_
  exact zfc I2 hN hi hx r2 (λs3 I3=>⟨_,H2,I3,q2⟩) hf
 rcases l with⟨hk,hm⟩|⟨hk,c,hc,hcell⟩
 .exact wpAny_loadName_local I.ok.kind hk hn hm go
 .rcases hk with hk|hk
  .exact wpAny_loadName_cell I.ok.kind hk hc hcell go
  .rcases hx with k|k
   .have:X.env.scope.names.lookup x=some .free:=hk
    rw[k]at this;cases this
   .have:X.env.scope.names.lookup x=some .free:=hk
    rw[k]at this;cases this
noncomputable def ipI(f:Int->Int->Int):TIp:=λx y H Q=>∃i j,x=.int i/\y=.int j/\Q (.int (f i j)) H
theorem zuz:PIp X .Add (ipI λi j=>i+j):=by
 intro pins s σ H x y v u Q I r1 r2 h
 obtain⟨i,j,e1,e2,q⟩:=h
 subst e1;subst e2
 obtain⟨t,rfl⟩:=r1
 obtain⟨t',rfl⟩:=r2
 exact iadd_int ⟨.int _,H,I.tok _,⟨_,rfl⟩,q⟩
end
section
variable{X:Cx}{pos:Pos}
noncomputable def zu0(c:TT)(tb:TS):TS:=λD σ H=>∃W:Nat->St->Hp->Prop,(∃m,W m σ H)/\∀m σ H,W m σ H->
 c σ H λb H1=>if b=true then ∃N:St->Hp->Prop,(∀σ' H',N σ' H'->∃m',m'<m/\W m' σ' H')/\tb {D with nx:=N,ct:=N,bk:=D.nx} σ H1 else D.nx σ H1
theorem zos{c:Expr}{body:List Stmt}{tc:TT}{tb:TS}(hp:PassesOwn (model X.prog X.w) X.A X.env X.xe)(hc:PT X c tc)(hb:PSs X body tb):PS X (.While c body [] pos) (zu0 tc tb):=by
 intro pins s σ H D I h
 obtain⟨W,⟨m0,w0⟩,turn⟩:=h
 refine wpAny_While (codeAny_whileLoop (λn s'=>∃σ' H',Inv X pins σ' H' s'/\W n σ' H') ?_ m0 ⟨σ,H,I,w0⟩)
 rintro n s1 ⟨σ1,H1,I1,w1⟩
 refine vde hp (thn (hc pins s1 σ1 H1 _ I1 (turn n σ1 H1 w1)) λb s2 z9=>z9.el λH2 I2 q2=>?_)
 cases b with
 |true=>
  obtain⟨N,hN,q2⟩:=q2
  rw[if_pos rfl]
  refine vde hp (thn (hb pins s2 σ1 H2 _ I2 q2) λf s3 q3=>?_)
  cases f with
  |next=>
   obtain⟨σ3,H3,I3,n3⟩:=q3
   obtain⟨m',hm,w3⟩:=hN σ3 H3 n3
   exact⟨m',hm,σ3,H3,I3,w3⟩
  |cont=>
   obtain⟨σ3,H3,I3,n3⟩:=q3
   obtain⟨m',hm,w3⟩:=hN σ3 H3 n3
   exact⟨m',hm,σ3,H3,I3,w3⟩
  |brk=>exact q3
  |ret v=>exact q3
 |false=>
  rw[if_neg vbr]
  exact wpAny_execs_nil ⟨σ1,H2,I2,q2⟩
end
set_option genInjectivity false in
structure It where
 go:Nat->Hp->Prop
 yld:Nat->Hp->V->Hp->Prop
 stop:Nat->Hp->Prop
noncomputable def FpOk(X:Cx)(pins:List (Addr×Obj))(H:Hp)(b:Addr):Prop:=
 H b=none/\b≠X.env.locals/\b∉X.fs/\(b∈X.ex\/X.s₀.heap.objs.size<=b)/\(∀x c,X.env.cells.lookup x=some c->c≠b)/\∀p∈X.pn++pins,p.1≠b
theorem Inv.fpOk{X:Cx}{pins:List (Addr×Obj)}{σ:St}{H H':Hp}{s:Shared}{b:Addr}(I:Inv X pins σ H s)(hb:s.heap.objs.size<=b)(hn:H' b=none):FpOk X pins H' b:=by
 refine⟨hn,vdi (vah I.lt hb),I.nofs hb,.inr (vbo I.sz hb),λx c e z=>?_,λp hp z=>?_⟩
 .obtain⟨v,q⟩:=I.cell x c e
  exact absurd (vah q.lt (by rw[z];exact hb)) (vca _)
 .exact absurd (vah (vap (I.pin p hp).1) (by rw[z];exact hb)) (vca _)
structure Turn(P:Program)(w:World)(K:vga)(tg:Expr)(J:It)(fp:List Addr)(it:Addr)(tn:Nat->Heap->Prop):Prop where
 mem:it∈fp
 obj:∀i h,tn i h->∀b∈fp,∃o,h.get? b=some o/\∀v,o.data≠.cell v
 keep:∀i h h',tn i h->(∀b∈fp,∀o,h.get? b=some o->h'.get? b=some o)->tn i h'
 item:∀(X:Cx),X.prog=P->X.w=w->X.K=K->X.calm=true->∀(i:Nat)(pins:List (Addr×Obj))(s:Shared)(σ:St)(H:Hp)(E:Value->Shared->Prop),Inv X pins σ H s->(∀b∈fp,FpOk X pins H b)->tn i s.heap->J.go i H->
  wpAny (model P w) X.A (pyNext (.ref it)) (λr s1=>∃u,r=some u/\
   wpAny (model P w) X.A (letOwnedTupleGo tg (.ref it) u) (λ_ s2=>∃x H',Inv X pins σ H' s2/\RelV x u/\J.yld i H x H'/\tn (i+1) s2.heap/\∀b∈fp,H' b=none) E s1) E s
 done:∀(X:Cx),X.prog=P->X.w=w->X.K=K->X.calm=true->∀(i:Nat)(pins:List (Addr×Obj))(s:Shared)(σ:St)(H:Hp)(E:Value->Shared->Prop),Inv X pins σ H s->(∀b∈fp,FpOk X pins H b)->tn i s.heap->J.stop i H->
  wpAny (model P w) X.A (pyNext (.ref it)) (λr s1=>r=none/\Inv X pins σ H s1) E s
 self:∀(A:Around)(i:Nat)(s:Shared)(Q:Value->Shared->Prop)(E:Value->Shared->Prop),tn i s.heap->Q (.ref it) s->wpAny (model P w) A (pyIter (.ref it)) Q E s
noncomputable abbrev TI:=St->Hp->(It->Hp->Prop)->Prop
noncomputable def PIE(X:Cx)(pins:List (Addr×Obj))(σ:St)(tg:Expr)(R:It->Hp->Prop)(itv:Value)(s2:Shared):Prop:=
 ∃(it:Addr) (fp:List Addr) (tn:Nat->Heap->Prop) (J:It) (H':Hp),itv=.ref it/\Inv X pins σ H' s2/\Turn X.prog X.w X.K tg J fp it tn/\tn 0 s2.heap/\(∀b∈fp,FpOk X pins H' b)/\R J H'
noncomputable def PI(X:Cx)(tg iter:Expr)(wi:TI):Prop:=
 ∀(pins:List (Addr×Obj))(s:Shared)(σ:St)(H:Hp)(R:It->Hp->Prop),Inv X pins σ H s->wi σ H R->
  wpAny (model X.prog X.w) X.A (eval iter X.env) (λv s1=>wpAny (model X.prog X.w) X.A (pyIter v) (PIE X pins σ tg R) X.xe s1) X.xe s
theorem go_of{M:Model}{A:Around}{E:Value->Shared->Prop}{s:Shared}{tg:Expr}{it:Addr}{u:Value}{o:Obj}{n:String}{vs:Array Value}{Q:Unit->Shared->Prop}(ho:s.heap.get? it=some o)(hc:o.cls=.type n)(hd:o.data=.fields vs)
 (hn:["enumerate","zip","dict_itemiterator","dict_reverseitemiterator","odict_iterator","itertools.zip_longest","itertools.pairwise"].contains n=false) (hQ:Q () s):wpAny M A (letOwnedTupleGo tg (.ref it) u) Q E s:=by
 unfold letOwnedTupleGo
 cases tg<;>first
  |exact vae hQ
  |(cases u<;>first
     |exact vae hQ
     |(refine vaa (wpAny_load ho ?_)
       rw[hc,hd]
       show wpAny M A (if(["enumerate","zip","dict_itemiterator","dict_reverseitemiterator","odict_iterator","itertools.zip_longest","itertools.pairwise"].contains n&&vs[0]? == some (rawInt _))=true then _ else _) Q E s
       rw[if_neg (by intro h;rw[hn,vd6]at h;cases h)]
       exact vae hQ))
noncomputable def Itl(K:vga)(a:Addr):It:=
 ⟨λi H=>∃xs x,SqL K H a xs/\xs[i]?=some x,λi H x H'=>H'=H/\∀xs,SqL K H a xs->xs[i]?=some x,λi H=>∃xs,SqL K H a xs/\xs.length<=i⟩
noncomputable def Itt(K:vga)(a:Addr):It:=
 ⟨λi H=>∃xs x,SqT K H a xs/\xs[i]?=some x,λi H x H'=>H'=H/\∀xs,SqT K H a xs->xs[i]?=some x,λi H=>∃xs,SqT K H a xs/\xs.length<=i⟩
noncomputable def Itr(lo:Int)(n:Nat):It:=⟨λi _=>i<n,λi H x H'=>H'=H/\x=.int (lo+i),λi _=>n<=i⟩
theorem zle{P:Program}{w:World}{K:vga}{tg:Expr}(a it:Addr):Turn P w K tg (Itl K a) [it] it (λi h=>h.IsListIter it a i)where
 mem:=by simp
 obj:=λi h st b hb=>by
  have e:b=it:=by simpa using hb
  subst e
  obtain⟨o,e,c,d⟩:=st
  exact⟨o,e,λv z=>by rw[d]at z;cases z⟩
 keep:=λi h h' st k=>st.at λo e=>k it (by simp) o e
 item:=by
  intro X hP hw hK hc i pins s σ H E I hf st hg
  subst hP hw hK
  obtain⟨xs,x,hq,hx⟩:=hg
  obtain⟨its,rv,p,hz⟩:=I.list hq
  obtain⟨u,hu,ru⟩:=rv.get hx
  obtain⟨f0,f1,f2,f3,f4,f5⟩:=hf it (by simp)
  refine wpAny_pyNext_list_item st p.isList (x:=u) (by simpa using hu) λh' st' sb=>?_
  have I1:Inv X pins σ H {s with heap:=h'}:=I.turned (t':=s.toks) (λb o hb e=>(sb.2 b hb).trans e) f0 f1 f3 f4 f5
  obtain⟨o,e,c,d⟩:=id st'
  exact⟨u,rfl,go_of (s:={s with heap:=h'}) e c d (by decide) ⟨x,H,I1,ru,⟨rfl,λys hy=>by rw[I.list_inj hy hq];exact hx⟩,st',λb hb=>(hf b hb).1⟩⟩
 done:=by
  intro X hP hw hK hc i pins s σ H E I hf st hg
  subst hP hw hK
  obtain⟨xs,hq,hx⟩:=hg
  obtain⟨its,rv,p,hz⟩:=I.list hq
  obtain⟨f0,f1,f2,f3,f4,f5⟩:=hf it (by simp)
  have hl:=rv.length
  exact wpAny_pyNext_list_end (I.ok.hd hc) st p.isList (by simp;omega) λh' eb=>⟨rfl,I.turned (t':=s.toks) (λb o hb e=>eb b o hb e) f0 f1 f3 f4 f5⟩
 self:=λ_ _ _ _ _ st h=>wpAny_pyIter_listiter st h
theorem zkg{P:Program}{w:World}{K:vga}{tg:Expr}(a it:Addr):Turn P w K tg (Itt K a) [it] it (λi h=>h.IsTupleIter it a i)where
 mem:=by simp
 obj:=λi h st b hb=>by
  have e:b=it:=by simpa using hb
  subst e
  obtain⟨o,e,c,d⟩:=st
  exact⟨o,e,λv z=>by rw[d]at z;cases z⟩
 keep:=λi h h' st k=>st.at λo e=>k it (by simp) o e
 item:=by
  intro X hP hw hK hc i pins s σ H E I hf st hg
  subst hP hw hK
  obtain⟨xs,x,hq,hx⟩:=hg
  obtain⟨its,rv,p,hz⟩:=I.tuple hq
  obtain⟨u,hu,ru⟩:=rv.get hx
  obtain⟨f0,f1,f2,f3,f4,f5⟩:=hf it (by simp)
  refine wpAny_pyNext_tuple_item st (show s.heap.IsTuple a its.toArray from p) (x:=u) (by simpa using hu) λh' st' sb=>?_
  have I1:Inv X pins σ H {s with heap:=h'}:=I.turned (t':=s.toks) (λb o hb e=>(sb.2 b hb).trans e) f0 f1 f3 f4 f5
  obtain⟨o,e,c,d⟩:=id st'
  exact⟨u,rfl,go_of (s:={s with heap:=h'}) e c d (by decide) ⟨x,H,I1,ru,⟨rfl,λys hy=>by rw[I.tuple_inj hy hq];exact hx⟩,st',λb hb=>(hf b hb).1⟩⟩
 done:=by
  intro X hP hw hK hc i pins s σ H E I hf st hg
  subst hP hw hK
  obtain⟨xs,hq,hx⟩:=hg
  obtain⟨its,rv,p,hz⟩:=I.tuple hq
  obtain⟨f0,f1,f2,f3,f4,f5⟩:=hf it (by simp)
  have hl:=rv.length
  exact wpAny_pyNext_tuple_end (I.ok.hd hc) st (show s.heap.IsTuple a its.toArray from p) (by simp;omega) λh' eb=>⟨rfl,I.turned (t':=s.toks) (λb o hb e=>eb b o hb e) f0 f1 f3 f4 f5⟩
 self:=λ_ _ _ _ _ st h=>wpAny_pyIter_tupleiter st h
theorem zkh{P:Program}{w:World}{K:vga}{tg:Expr}(it:Addr)(lo:Int)(n:Nat):Turn P w K tg (Itr lo n) [it] it (λi h=>IsRangeIter h it (lo+ (i:Nat)*1) ((n:Int)- (i:Nat)) 1)where
 mem:=by simp
 obj:=λi h st b hb=>by
  have e:b=it:=by simpa using hb
  subst e
  exact⟨_,st,λv z=>by
   have z':Data.fields _=Data.cell v:=z
   cases z'⟩
 keep:=λi h h' st k=>k it (by simp) _ st
 item:=by
  intro X hP hw hK hc i pins s σ H E I hf st hg
  subst hP hw hK
  obtain⟨f0,f1,f2,f3,f4,f5⟩:=hf it (by simp)
  have W:=Walks.range (prog:=X.prog) (w:=X.w) (I.ok.hd hc) it lo 1 n
  refine W.item i s _ _ hg st λv h' tk hv st' kk=>?_
  obtain⟨t,rfl⟩:=hv
  have I1:Inv X pins σ H {s with heap:=h',toks:=tk}:=I.turned (λb o hb e=>kk b o (by simpa using hb) e) f0 f1 f3 f4 f5
  refine⟨_,rfl,go_of (s:={s with heap:=h',toks:=tk}) (n:="range_iterator") st' rfl rfl (by decide) ⟨.int (lo+i),H,I1,⟨t,?_⟩,⟨rfl,rfl⟩,st',λb hb=>(hf b hb).1⟩⟩
  rw[Int.mul_one]
 done:=by
  intro X hP hw hK hc i pins s σ H E I hf st hg
  subst hP hw hK
  obtain⟨f0,f1,f2,f3,f4,f5⟩:=hf it (by simp)
  exact wpAny_pyNext_range_end (I.ok.hd hc) st (by have:n<=i:=hg;omega) λh' eb=>⟨rfl,I.turned (t':=s.toks) (λb o hb e=>eb b o hb e) f0 f1 f3 f4 f5⟩
 self:=λ_ _ _ _ _ st h=>wpAny_pyIter_rangeiter st h
section
variable{X:Cx}{tg:Expr}
noncomputable def iList(K:vga)(tl:TE):TI:=λσ H R=>tl σ H λx H1=>∃a,x=.ref a/\(∃xs,SqL K H1 a xs)/\R (Itl K a) H1
noncomputable def iTup(K:vga)(tl:TE):TI:=λσ H R=>tl σ H λx H1=>∃a,x=.ref a/\(∃xs,SqT K H1 a xs)/\R (Itt K a) H1
theorem zlf{l:Expr}{tl:TE}(hl:PE X l tl):PI X tg l (iList X.K tl):=by
 intro pins s σ H R I h
 refine thn (hl pins s σ H _ I h) λv s1 z9=>z9.el λx H1 I1 r1 q1=>?_
 obtain⟨a,e,⟨xs,hq⟩,q⟩:=q1
 subst e
 cases r1
 obtain⟨its,rv,p,hz⟩:=I1.list hq
 refine vdf p.isList ?_
 refine⟨s1.heap.objs.size,[s1.heap.objs.size],_,_,H1,rfl,I1.kept (t':=s1.toks) λb o e=>vac _ e,zle a _,⟨_,vao _ rfl,rfl,rfl⟩,λb hb=>?_,q⟩
 have e:b=s1.heap.objs.size:=by simpa using hb
 subst e
 exact I1.fpOk (vad _) (I1.hok.fresh (vad _))
theorem zu1{l:Expr}{tl:TE}(hl:PE X l tl):PI X tg l (iTup X.K tl):=by
 intro pins s σ H R I h
 refine thn (hl pins s σ H _ I h) λv s1 z9=>z9.el λx H1 I1 r1 q1=>?_
 obtain⟨a,e,⟨xs,hq⟩,q⟩:=q1
 subst e
 cases r1
 obtain⟨its,rv,p,hz⟩:=I1.tuple hq
 refine vcq (show s1.heap.IsTuple a its.toArray from p) ?_
 refine⟨s1.heap.objs.size,[s1.heap.objs.size],_,_,H1,rfl,I1.kept (t':=s1.toks) λb o e=>vac _ e,zkg a _,⟨_,vao _ rfl,rfl,rfl⟩,λb hb=>?_,q⟩
 have e:b=s1.heap.objs.size:=by simpa using hb
 subst e
 exact I1.fpOk (vad _) (I1.hok.fresh (vad _))
theorem zot{pins:List (Addr×Obj)}{σ:St}{H:Hp}{s:Shared}{R:It->Hp->Prop}{E:Value->Shared->Prop}{lo hi:Int}{t u v:Tok}{tk:Nat}(I:Inv X pins σ H s)(h1:-(2 ^ 62)<=lo)(h2:lo<2 ^ 62)(h3:-(2 ^ 62)<=hi)(h4:hi<2 ^ 62)
 (q:R (Itr lo (hi-lo).toNat) H):wpAny (model X.prog X.w) X.A (pyIter (.ref s.heap.objs.size)) (PIE X pins σ tg R) E {s with heap:=s.heap.push {cls:=.type "range",data:=.fields #[.int lo t,.int hi u,.int 1 v]},toks:=tk}:=by
 refine wpAny_pyIter_range (IsRange.new ..) (small_one h1 h2 h3 h4) ?_
 have I1:Inv X pins σ H {s with heap:=s.heap.push {cls:=.type "range",data:=.fields #[.int lo t,.int hi u,.int 1 v]},toks:=tk}:=I.kept λb o e=>vac _ e
 refine⟨(s.heap.push {cls:=.type "range",data:=.fields #[.int lo t,.int hi u,.int 1 v]}).objs.size,[(s.heap.push {cls:=.type "range",data:=.fields #[.int lo t,.int hi u,.int 1 v]}).objs.size],_,_,H,rfl,
  I1.kept (t':=tk) λb o e=>vac _ e,zkh _ lo (hi-lo).toNat,?_,λb hb=>?_,q⟩
 .have e1:lo+ ((0:Nat):Int)*1=lo:=by simp
  have e2:(((hi-lo).toNat:Nat):Int)- ((0:Nat):Int)=Builtin.Range.rangeSize lo hi 1:=by rw[rangeSize_one];split<;>omega
  show IsRangeIter _ _ (lo+ ((0:Nat):Int)*1) ((((hi-lo).toNat:Nat):Int)- ((0:Nat):Int)) 1
  rw[e1,e2]
  exact vao _ rfl
 .have e:b=(s.heap.push {cls:=.type "range",data:=.fields #[.int lo t,.int hi u,.int 1 v]}).objs.size:=by simpa using hb
  subst e
  exact I1.fpOk (vad _) (I1.hok.fresh (vad _))
noncomputable def iRng1(ta:TA):TI:=λσ H R=>ta σ H λvs H1=>∃j:Int,vs=[.int j]/\-(2 ^ 62)<=j/\j<2 ^ 62/\R (Itr 0 j.toNat) H1
theorem zlg{a:Expr}{ta:TA}{p pos:Pos}(hg:Gl X "range")(hm:X.mg "range" = none)(ha:PA X [a] ta)(hs:starEach [a] X.env=[(false,eval a X.env)]:=by rfl):PI X tg (.Call (.Name "range" p) [a] [] pos) (iRng1 ta):=by
 intro pins s σ H R I h
 refine Call_ (zdm I hg hm boot_range (vcb (thn (ha pos pins s σ H _ I h) λus s1 z9=>z9.el λvs H1 I1 r1 q1=>?_) hs rfl))
 obtain⟨j,e,q1,q2,q⟩:=q1
 subst e
 cases r1 with
 |cons r rr=>
  cases rr
  obtain⟨t,rfl⟩:=r
  exact call_range_1 (zot I1 (by omega) (by omega) q1 q2 (by simpa using q))
noncomputable def tFor(wi:TI)(g:TG)(tb:TS):TS:=λD σ H=>wi σ H λJ H1=>∃W:Nat->Nat->St->Hp->Prop,(∃m,W 0 m σ H1)/\∀i m σ H,W i m σ H->
 (J.stop i H/\D.nx σ H)\/(J.go i H/\∃N:St->Hp->Prop,(∀σ' H',N σ' H'->∃m',m'<m/\W (i+1) m' σ' H')/\∀x H',J.yld i H x H'->g x σ H' λσ2 H2=>tb {D with nx:=N,ct:=N,bk:=D.nx} σ2 H2)
noncomputable def zgc(fp:List Addr)(h:Heap):List (Addr×Obj):=fp.filterMap λb=>(h.get? b).map λo=>(b,o)
theorem zbu{fp:List Addr}{h:Heap}{b:Addr}{o:Obj}(hb:b∈fp)(e:h.get? b=some o):(b,o)∈zgc fp h:=List.mem_filterMap.mpr ⟨b,hb,by rw[e];rfl⟩
theorem zlh{fp:List Addr}{h:Heap}{p:Addr×Obj}(hp:p∈zgc fp h):p.1∈fp/\h.get? p.1=some p.2:=by
 obtain⟨b,hb,e⟩:=List.mem_filterMap.mp hp
 cases q:h.get? b with
 |none=>rw[q]at e;cases e
 |some o=>
  rw[q]at e
  have e':(b,o)=p:=vbl e
  subst e'
  exact⟨hb,q⟩
theorem Inv.pinned{pins:List (Addr×Obj)}{σ:St}{H:Hp}{s:Shared}{fp:List Addr}(I:Inv X pins σ H s)(hf:∀b∈fp,FpOk X pins H b)(ho:∀b∈fp,∃o,s.heap.get? b=some o/\∀v,o.data≠.cell v):Inv X (pins++zgc fp s.heap) σ H s:=
 I.pins_of λp hp=>(vdd.mp hp).elim (λz=>I.pin p (va9 _ z)) λz=>by
  obtain⟨hb,e⟩:=zlh z
  obtain⟨f0,f1,f2,_⟩:=hf p.1 hb
  obtain⟨o,e',d⟩:=ho p.1 hb
  rw[e]at e';cases e'
  exact⟨e,f0,f1,f2,d⟩
theorem Inv.unpinned{pins pl:List (Addr×Obj)}{σ:St}{H:Hp}{s:Shared}(I:Inv X (pins++pl) σ H s):Inv X pins σ H s:=I.pins_of λp hp=>I.pin p (va9 _ (vda _ hp))
theorem zu2{iter:Expr}{body:List Stmt}{wi:TI}{g:TG}{tb:TS}{pos:Pos}(hp:PassesOwn (model X.prog X.w) X.A X.env X.xe)(hc:X.calm=true)(hi:PI X tg iter wi)(hg:PG X tg g)(hb:PSs X body tb)
 (hs:∀x,foldedSetIterable iter X.env x=pure x:=by intro _;rfl):PS X (.For tg iter body [] pos) (tFor wi g tb):=by
 intro pins s σ H D I h
 refine wpAny_For (thn (hi pins s σ H _ I h) λv s1 h1=>thn h1 λitv s2 h2=>?_) hs
 obtain⟨it,fp,tn,J,H2,e,I2,T,st2,f2,W,⟨m0,w0⟩,turn⟩:=h2
 subst e
 have stat:∀{H':Hp},(∀b∈fp,H' b=none)->∀b∈fp,FpOk X pins H' b:=λhn b hb=>⟨hn b hb,(f2 b hb).2⟩
 refine codeAny_forLoop_any (λn s'=>∃i σ' H',Inv X pins σ' H' s'/\tn i s'.heap/\(∀b∈fp,H' b=none)/\W i n σ' H') ?_ m0 ⟨0,σ,H2,I2,st2,λb hb=>(f2 b hb).1,w0⟩
 rintro n s3 ⟨i,σ3,H3,I3,st3,fr3,w3⟩
 rcases turn i n σ3 H3 w3 with⟨stop,qn⟩|⟨go,N,hN,step⟩
 .refine vde hp (thn (T.done X rfl rfl rfl hc i pins s3 σ3 H3 X.xe I3 (stat fr3) st3 stop) λr s4 hq0=>?_)
  obtain⟨hr,I4⟩:=hq0
  subst hr
  exact wpAny_execs_nil ⟨σ3,H3,I4,qn⟩
 .refine vde hp (thn (T.item X rfl rfl rfl hc i pins s3 σ3 H3 X.xe I3 (stat fr3) st3 go) λr s4 hq0=>?_)
  obtain⟨u,hr,h4⟩:=hq0
  subst hr
  refine vde hp (thn h4 λ_ s5 hq0=>?_)
  obtain⟨x,H5,I5,r5,y5,st5,fr5⟩:=hq0
  have I5':=I5.pinned (stat fr5) (T.obj _ _ st5)
  refine vde hp (thn (hg _ s5 σ3 H5 x u _ I5' r5 (step x H5 y5)) λ_ s6 hq0=>?_)
  obtain⟨σ6,H6,I6,q6⟩:=hq0
  refine vde hp (thn (hb _ s6 σ6 H6 _ I6 q6) λf s7 q7=>?_)
  have again:∀{σ7:St}{H7:Hp},Inv X (pins++zgc fp s5.heap) σ7 H7 s7->N σ7 H7->∃m,m<n/\∃i σ' H',Inv X pins σ' H' s7/\tn i s7.heap/\(∀b∈fp,H' b=none)/\W i m σ' H':=λ{σ7 H7} I7 n7=>by
   obtain⟨m',hm,w7⟩:=hN σ7 H7 n7
   refine⟨m',hm,i+1,σ7,H7,I7.unpinned,T.keep _ _ _ st5 λb hb o e=>(I7.pin (b,o) (va9 _ (va9 _ (zbu hb e)))).1,λb hb=>?_,w7⟩
   obtain⟨o,e,d⟩:=T.obj _ _ st5 b hb
   exact(I7.pin (b,o) (va9 _ (va9 _ (zbu hb e)))).2.1
  cases f with
  |next=>obtain⟨σ7,H7,I7,n7⟩:=q7;exact again I7 n7
  |cont=>obtain⟨σ7,H7,I7,n7⟩:=q7;exact again I7 n7
  |brk=>obtain⟨σ7,H7,I7,q7⟩:=q7;exact⟨σ7,H7,I7.unpinned,q7⟩
  |ret v=>obtain⟨x7,σ7,H7,I7,r7,q7⟩:=q7;exact⟨x7,σ7,H7,I7.unpinned,r7,q7⟩
end
noncomputable abbrev R2:=V->V->Hp->VK->Prop
noncomputable def OpR(X:Cx)(f:Value->Value->Sem Value)(r:R2):Prop:=
 ∀(pins:List (Addr×Obj))(s:Shared)(σ:St)(H:Hp)(x y:V)(v u:Value)(Q:VK),Inv X pins σ H s->RelV x v->RelV y u->r x y H Q->
  wpAny (model X.prog X.w) X.A (f v u) (EP X pins σ Q) X.xe s
noncomputable def UnR(X:Cx)(f:Value->Sem Value)(r:V->Hp->VK->Prop):Prop:=
 ∀(pins:List (Addr×Obj))(s:Shared)(σ:St)(H:Hp)(x:V)(v:Value)(Q:VK),Inv X pins σ H s->RelV x v->r x H Q->
  wpAny (model X.prog X.w) X.A (f v) (EP X pins σ Q) X.xe s
noncomputable def CallR(X:Cx)(f:Value)(r:List V->Hp->VK->Prop):Prop:=
 ∀(pins:List (Addr×Obj))(s:Shared)(σ:St)(H:Hp)(xs:List V)(us:List Value)(Q:VK),Inv X pins σ H s->Vals xs us->r xs H Q->
  wpAny (model X.prog X.w) X.A (call f us) (EP X pins σ Q) X.xe s
noncomputable def TruR(X:Cx)(r:V->Hp->(Bool->Hp->Prop)->Prop):Prop:=
 ∀(pins:List (Addr×Obj))(s:Shared)(σ:St)(H:Hp)(x:V)(v:Value)(Q:Bool->Hp->Prop),Inv X pins σ H s->RelV x v->r x H Q->
  wpAny (model X.prog X.w) X.A (truthy v) (TP X pins σ Q) X.xe s
noncomputable def tOp(r:R2)(ta tb:TE):TE:=λσ H Q=>ta σ H λx H1=>tb σ H1 λy H2=>r x y H2 Q
noncomputable def tUn(r:V->Hp->VK->Prop)(ta:TE):TE:=λσ H Q=>ta σ H λx H1=>r x H1 Q
noncomputable def rI(C:Int->Int->Prop)(g:Int->Int->V):R2:=λx y H Q=>∃i j,x=.int i/\y=.int j/\C i j/\Q (g i j) H
noncomputable def rI0(g:Int->Int->V):R2:=λx y H Q=>∃i j,x=.int i/\y=.int j/\Q (g i j) H
noncomputable def rU(g:Int->V):V->Hp->VK->Prop:=λx H Q=>∃i,x=.int i/\Q (g i) H
section
variable{X:Cx}{a b c:Expr}{ta tb tc:TE}{pos:Pos}
theorem binT(ha:PE X a ta)(hb:PE X b tb){pins:List (Addr×Obj)}{s:Shared}{σ:St}{H:Hp}{R:V->V->Hp->Prop}(I:Inv X pins σ H s)
 (h:ta σ H λx H1=>tb σ H1 λy H2=>R x y H2) {Q:Value->Shared->Prop} {f:Value->Value->Sem Value}
 (hf:∀v u s2 x y H2,Inv X pins σ H2 s2->RelV x v->RelV y u->R x y H2->wpAny (model X.prog X.w) X.A (f v u) Q X.xe s2) :
 wpAny (model X.prog X.w) X.A (eval a X.env) (λv s₁=>wpAny (model X.prog X.w) X.A (eval b X.env) (λu s₂=>wpAny (model X.prog X.w) X.A (f v u) Q X.xe s₂) X.xe s₁) X.xe s:=by
 refine thn (ha pins s σ H _ I h) λv s1 z9=>z9.el λx H1 I1 r1 q1=>?_
 refine thn (hb pins s1 σ H1 _ I1 q1) λu s2 z9=>z9.el λy H2 I2 r2 q2=>?_
 exact hf v u s2 x y H2 I2 r1 r2 q2
theorem pe_op{op:Operator}{r:R2}(ho:OpR X (binaryOp op) r)(ha:PE X a ta)(hb:PE X b tb):PE X (.BinOp a op b pos) (tOp r ta tb):=by
 intro pins s σ H Q I h
 exact wpAny_BinOp (binT ha hb I h λv u s2 x y H2 I2 rx ry q=>ho pins s2 σ H2 x y v u Q I2 rx ry q)
theorem pe_un{op:UnaryOp}{r:V->Hp->VK->Prop}(ho:UnR X (unaryOp op) r)(ha:PE X a ta):PE X (.UnaryOp op a pos) (tUn r ta):=by
 intro pins s σ H Q I h
 exact UnaryOp_ (thn (ha pins s σ H _ I h) λv s1 z9=>z9.el λx H1 I1 r1 q1=>ho pins s1 σ H1 x v Q I1 r1 q1)
theorem opI{f:Value->Value->Sem Value}{C:Int->Int->Prop}{g:Int->Int->Int}
 (rule:∀(i j:Int)(t u:Tok)(s:Shared)(Q:Value->Shared->Prop)(E:Value->Shared->Prop),C i j->Q (.int (g i j) s.toks) {s with toks:=s.toks+1}->wpAny (model X.prog X.w) X.A (f (.int i t) (.int j u)) Q E s) :
 OpR X f (rI C λi j=>.int (g i j)):=by
 intro pins s σ H x y v u Q I rx ry h
 obtain⟨i,j,rfl,rfl,hc,q⟩:=h
 obtain⟨t,rfl⟩:=rx
 obtain⟨t',rfl⟩:=ry
 exact rule i j t t' s _ _ hc ⟨.int (g i j),H,I.tok _,⟨_,rfl⟩,q⟩
theorem opI0{f:Value->Value->Sem Value}{g:Int->Int->Int}
 (rule:∀(i j:Int)(t u:Tok)(s:Shared)(Q:Value->Shared->Prop)(E:Value->Shared->Prop),Q (.int (g i j) s.toks) {s with toks:=s.toks+1}->wpAny (model X.prog X.w) X.A (f (.int i t) (.int j u)) Q E s) :
 OpR X f (rI0 λi j=>.int (g i j)):=by
 intro pins s σ H x y v u Q I rx ry h
 obtain⟨i,j,rfl,rfl,q⟩:=h
 obtain⟨t,rfl⟩:=rx
 obtain⟨t',rfl⟩:=ry
 exact rule i j t t' s _ _ ⟨.int (g i j),H,I.tok _,⟨_,rfl⟩,q⟩
theorem opB0{f:Value->Value->Sem Value}{g:Int->Int->Bool}
 (rule:∀(i j:Int)(t u:Tok)(s:Shared)(Q:Value->Shared->Prop)(E:Value->Shared->Prop),Q (.bool (g i j)) s->wpAny (model X.prog X.w) X.A (f (.int i t) (.int j u)) Q E s) :
 OpR X f (rI0 λi j=>.bl (g i j)):=by
 intro pins s σ H x y v u Q I rx ry h
 obtain⟨i,j,rfl,rfl,q⟩:=h
 obtain⟨t,rfl⟩:=rx
 obtain⟨t',rfl⟩:=ry
 exact rule i j t t' s _ _ ⟨.bl (g i j),H,I,rfl,q⟩
noncomputable def CDiv(i j:Int):Prop:=0<j/\j<1073741824
noncomputable def CPow(i j:Int):Prop:=0<=j/\j<=1000000/\i.natAbs<2 ^ 64
noncomputable def CMul(i j:Int):Prop:=(-(2 ^ 64)<i/\i<2 ^ 64)\/(-(2 ^ 64)<j/\j<2 ^ 64)
theorem CMul.ok{i j:Int}(h:CMul i j):IntMulOk i j:=by
 rcases h with⟨h1,h2⟩|⟨h1,h2⟩
 .exact .of_left (intBits_le_64 h1 h2)
 .exact .of_right (intBits_le_64 h1 h2)
theorem zu3:OpR X (binaryOp .Add) (rI0 λi j=>.int (i+j)):=opI0 λ_ _ _ _ _ _ _ q=>add_int q
theorem zu4:OpR X (binaryOp .Sub) (rI0 λi j=>.int (i-j)):=opI0 λ_ _ _ _ _ _ _ q=>sub_int q
theorem zu5:OpR X (binaryOp .Mult) (rI CMul λi j=>.int (i*j)):=opI λ_ _ _ _ _ _ _ hc q=>mul_int q hc.ok
theorem zr5:OpR X (binaryOp .FloorDiv) (rI CDiv λi j=>.int (i/j)):=opI λi j _ _ _ _ _ hc q=>by
 have h1:(0:Int)<j:=hc.1
 have h2:j<1073741824:=hc.2
 exact floordiv_int (by omega) (by rw[Int.fdiv_eq_ediv_of_nonneg i (by omega)];exact q) (.inl (PyProof.noPylong_small (by omega)))
theorem zu6:OpR X (binaryOp .Mod) (rI (λ_ j=>0<j) λi j=>.int (i % j)):=opI λi j _ _ _ _ _ hc q=>by
 have h1:(0:Int)<j:=hc
 exact mod_int' (by omega) (by rw[Int.fmod_eq_emod_of_nonneg i (by omega)];exact q)
theorem zu7:OpR X (binaryOp .Pow) (rI CPow λi j=>.int (i ^ j.toNat)):=opI λ_ _ _ _ _ _ _ hc q=>pow_int_small hc.1 hc.2.1 hc.2.2 q
theorem unI{f:Value->Sem Value}{g:Int->Int}
 (rule:∀(i:Int)(t:Tok)(s:Shared)(Q:Value->Shared->Prop)(E:Value->Shared->Prop),Q (.int (g i) s.toks) {s with toks:=s.toks+1}->wpAny (model X.prog X.w) X.A (f (.int i t)) Q E s) :
 UnR X f (rU λi=>.int (g i)):=by
 intro pins s σ H x v Q I rx h
 obtain⟨i,rfl,q⟩:=h
 obtain⟨t,rfl⟩:=rx
 exact rule i t s _ _ ⟨.int (g i),H,I.tok _,⟨_,rfl⟩,q⟩
theorem zu8:UnR X (unaryOp .USub) (rU λi=>.int (-i)):=unI λ_ _ _ _ _ q=>neg_int q
end
section
variable{X:Cx}{a b c:Expr}{ta tb tc:TE}{pos:Pos}
theorem zqu{pins:List (Addr×Obj)}{σ:St}{H:Hp}{s:Shared}{Q:VK}{k k':Bool}(I:Inv X pins σ H s)(q:Q (.bl k) H)(e:k=k'):EP X pins σ Q (.bool k') s:=by
 subst e
 exact⟨.bl k,H,I,rfl,q⟩
theorem op_lt:OpR X (compareOp .Lt) (rI0 λi j=>.bl (decide (i<j))):=opB0 λ_ _ _ _ _ _ _ q=>lt_int q
theorem op_le:OpR X (compareOp .LtE) (rI0 λi j=>.bl (decide (i<=j))):=opB0 λ_ _ _ _ _ _ _ q=>le_int q
theorem op_gt:OpR X (compareOp .Gt) (rI0 λi j=>.bl (decide (j<i))):=opB0 λ_ _ _ _ _ _ _ q=>gt_int q
theorem op_ge:OpR X (compareOp .GtE) (rI0 λi j=>.bl (decide (j<=i))):=opB0 λ_ _ _ _ _ _ _ q=>ge_int q
theorem zu9:OpR X (compareOp .Is) (λx y H Q=>y=.non/\Q (.bl (decide (x=.non))) H):=by
 intro pins s σ H x y v u Q I rx ry h
 obtain⟨rfl,q⟩:=h
 cases ry
 refine is_none_gen (zqu I q ?_)
 cases x<;>first
  |(cases rx;rfl)
  |(obtain⟨t,rfl⟩:=rx;rfl)
theorem zr6:OpR X (compareOp .IsNot) (λx y H Q=>y=.non/\Q (.bl (!decide (x=.non))) H):=by
 intro pins s σ H x y v u Q I rx ry h
 obtain⟨rfl,q⟩:=h
 cases ry
 refine isnot_none_gen (zqu I q ?_)
 cases x<;>first
  |(cases rx;rfl)
  |(obtain⟨t,rfl⟩:=rx;rfl)
theorem OpR.or{f:Value->Value->Sem Value}{r r':R2}(h:OpR X f r)(h':OpR X f r'):OpR X f (λx y H Q=>r x y H Q\/r' x y H Q):=by
 intro pins s σ H x y v u Q I rx ry q
 rcases q with q|q
 .exact h pins s σ H x y v u Q I rx ry q
 .exact h' pins s σ H x y v u Q I rx ry q
theorem zr7{op:CmpOp}{r:R2}(ho:OpR X (compareOp op) r)(ha:PE X a ta)(hb:PE X b tb)(hm:behindInMarks op b=false):PE X (.Compare a [op] [b] pos) (tOp r ta tb):=by
 intro pins s σ H Q I h
 exact wpAny_Compare1 (binT ha hb I h λv u s2 x y H2 I2 rx ry q=>ho pins s2 σ H2 x y v u Q I2 rx ry q) hm
noncomputable def tTest(t:TE):TT:=λσ H Q=>t σ H λx H'=>∃k,x=.bl k/\Q k H'
theorem zr8{op:CmpOp}{r:R2}(ho:OpR X (compareOp op) r)(ha:PE X a ta)(hb:PE X b tb)(hm:behindInMarks op b=false):PT X (.Compare a [op] [b] pos) (tTest (tOp r ta tb)):=by
 intro pins s σ H Q I h
 refine wpAny_isTrue_Compare1 (thn (ha pins s σ H _ I h) λv s1 z9=>z9.el λx H1 I1 r1 q1=>thn (hb pins s1 σ H1 _ I1 q1) λu s2 z9=>z9.el λy H2 I2 r2 q2=>
  thn (ho pins s2 σ H2 x y v u _ I2 r1 r2 q2) λc s3 z9=>z9.el λz H3 I3 r3 ⟨k,e,q3⟩=>?_) hm
 subst e
 cases r3
 exact vb2 ⟨H3,I3,q3⟩
noncomputable def zli(r r':R2)(ta tb tc:TE):TE:=λσ H Q=>ta σ H λx H1=>tb σ H1 λy H2=>r x y H2 λz H3=>∃k,z=.bl k/\
 (if k=true then tc σ H3 λw' H4=>r' y w' H4 Q else Q (.bl false) H3)
theorem zou{op op':CmpOp}{r r':R2}(ho:OpR X (compareOp op) r)(ho':OpR X (compareOp op') r')(ha:PE X a ta)(hb:PE X b tb)(hc:PE X c tc)
 (hm:lastMarks [op,op'] [b,c]=false:=by with_unfolding_all rfl):PE X (.Compare a [op,op'] [b,c] pos) (zli r r' ta tb tc):=by
 intro pins s σ H Q I h
 refine Compare_chain (thn (ha pins s σ H _ I h) λv s1 z9=>z9.el λx H1 I1 r1 q1=>chain_link (thn (hb pins s1 σ H1 _ I1 q1) λu s2 z9=>z9.el λy H2 I2 r2 q2=>
  thn (ho pins s2 σ H2 x y v u _ I2 r1 r2 q2) λd s3 z9=>z9.el λz H3 I3 r3 ⟨k,e,q3⟩=>?_)) hm
 subst e
 cases r3
 refine vb2 ?_
 cases k with
 |false=>exact ite_ff ⟨.bl false,H3,I3,rfl,q3⟩
 |true=>exact ite_tt (chain_last (thn (hc pins s3 σ H3 _ I3 q3) λw' s4 z9=>z9.el λz' H4 I4 r4 q4=>ho' pins s4 σ H4 y z' u w' Q I4 r2 r4 q4))
theorem zov{op op':CmpOp}{r r':R2}(ho:OpR X (compareOp op) r)(ho':OpR X (compareOp op') r')(ha:PE X a ta)(hb:PE X b tb)(hc:PE X c tc)
 (hm:lastMarks [op,op'] [b,c]=false:=by with_unfolding_all rfl):PT X (.Compare a [op,op'] [b,c] pos) (tTest (zli r r' ta tb tc)):=by
 intro pins s σ H Q I h
 refine isTrue_chain (thn (ha pins s σ H _ I h) λv s1 z9=>z9.el λx H1 I1 r1 q1=>test_link (thn (hb pins s1 σ H1 _ I1 q1) λu s2 z9=>z9.el λy H2 I2 r2 q2=>
  thn (ho pins s2 σ H2 x y v u _ I2 r1 r2 q2) λd s3 z9=>z9.el λz H3 I3 r3 ⟨k,e,q3⟩=>?_)) hm
 subst e
 cases r3
 refine vb2 ?_
 cases k with
 |false=>
  obtain⟨k',e',q'⟩:=q3
  cases e'
  exact ite_ff ⟨H3,I3,q'⟩
 |true=>
  refine ite_tt (test_last (thn (hc pins s3 σ H3 _ I3 q3) λw' s4 z9=>z9.el λz' H4 I4 r4 q4=>thn (ho' pins s4 σ H4 y z' u w' _ I4 r2 r4 q4) λd' s5 z9=>z9.el λz2 H5 I5 r5 hq0=>?_))
  obtain⟨k2,e2,q5⟩:=hq0
  subst e2
  cases r5
  exact vb2 ⟨H5,I5,q5⟩
noncomputable def TruV(K:vga)(x:V)(H:Hp)(k:Bool):Prop:=
 match x with
 |.non=>k=false
 |.bl b=>k=b
 |.int i=>k=(i != 0)
 |.str y=>y.length<=sizeLine/\k=((y.length:Int) != 0)
 |.byt y=>y.size<=sizeLine/\k=((y.size:Int) != 0)
 |.ref p=>(∃xs,SqL K H p xs/\k=!xs.isEmpty)\/(∃xs,SqT K H p xs/\k=!xs.isEmpty)\/∃kvs,H p=some (.dK kvs)/\k=!kvs.isEmpty
 |_=>False
theorem zki{κ:Type}{kvs:List (κ×V)}{vs:List (κ×Value)}(r:KV kvs vs):(!vs.isEmpty)=!kvs.isEmpty:=by
 cases r<;>rfl
theorem zel{xs:List V}{its:List Value}(r:Vals xs its):(!its.toArray.isEmpty)=!xs.isEmpty:=by
 cases r<;>simp
theorem zgd:(sizeLine:Nat)<2 ^ 63:=by rw[vc7];decide
theorem zva:TruR X (λx H Q=>∃k,TruV X.K x H k/\Q k H):=by
 intro pins s σ H x v Q I rx h
 obtain⟨k,e,q⟩:=h
 have hl:=zgd
 have hs:sizeLine=16777216:=vc7
 cases x with
 |non=>
  cases rx
  have e':k=false:=e
  subst e'
  exact truthy_none ⟨H,I,q⟩
 |bl b=>
  cases rx
  have e':k=b:=e
  subst e'
  exact vb2 ⟨H,I,q⟩
 |int i=>
  obtain⟨t,rfl⟩:=rx
  have e':k=(i != 0):=e
  subst e'
  exact PySem.P.truthy_int ⟨H,I,q⟩
 |str y=>
  obtain⟨t,rfl⟩:=rx
  obtain⟨hy,e'⟩:y.length<=sizeLine/\k=((y.length:Int) != 0):=e
  subst e'
  exact PySem.P.truthy_str (by omega) ⟨H,I.tok _,q⟩
 |byt y=>
  obtain⟨t,rfl⟩:=rx
  obtain⟨hy,e'⟩:y.size<=sizeLine/\k=((y.size:Int) != 0):=e
  subst e'
  exact PySem.W.truthy_bytes (by omega) ⟨H,I.tok _,q⟩
 |ref p=>
  cases rx
  have e':(∃xs,SqL X.K H p xs/\k=!xs.isEmpty)\/(∃xs,SqT X.K H p xs/\k=!xs.isEmpty)\/∃kvs,H p=some (.dK kvs)/\k=!kvs.isEmpty:=e
  rcases e' with⟨xs,hx,e'⟩|⟨xs,hx,e'⟩|⟨kvs,hx,e'⟩
  .subst e'
   obtain⟨its,r,pl,hz⟩:=I.list hx
   have hlen:=r.length
   exact wpAny_truthy_list pl.isList (by simp only[vam];omega) ⟨H,I.tok _,by rw[zel r];exact q⟩
  .subst e'
   obtain⟨its,r,pl,hz⟩:=I.tuple hx
   have hlen:=r.length
   exact truthy_tuple pl (by simp only[vam];omega) ⟨H,I.tok _,by rw[zel r];exact q⟩
  .subst e'
   obtain⟨hz,hS,vs,r,m⟩:kvs.length<=sizeLine/\(p==sysModules)=false/\∃vs,KV kvs vs/\s.heap.DictOf (zau X.prog X.w) p vs:=I.hok p _ hx
   have hlen:kvs.length=vs.length:=vea r
   exact wpAny_truthy_dict hS m (by omega) ⟨H,I.tok _,by rw[zki r];exact q⟩
 |_=>exact(show False from e).elim
theorem zow(ha:PE X a ta)(he:∀whole,isTrue a X.env whole=(do let v <-whole;standAt a.pos;holding [v] (truthy v))) :
 PT X a (λσ H Q=>ta σ H λx H'=>∃k,TruV X.K x H' k/\Q k H'):=by
 intro pins s σ H Q I h
 exact isTrue_plain (thn (ha pins s σ H _ I h) λv s1 z9=>z9.el λx H1 I1 r1 q1=>zva pins s1 σ H1 x v Q I1 r1 q1) (he _)
theorem vals1{x:V}{us:List Value}(r:Vals [x] us):∃u,us=[u]/\RelV x u:=by
 cases r with
 |cons r1 r2=>cases r2;exact⟨_,rfl,r1⟩
theorem vals2{x y:V}{us:List Value}(r:Vals [x,y] us):∃u w',us=[u,w']/\RelV x u/\RelV y w':=by
 cases r with
 |cons r1 r2=>
  cases r2 with
  |cons r3 r4=>cases r4;exact⟨_,_,rfl,r1,r3⟩
theorem zox:CallR X (.builtin "abs") (λxs H Q=>∃i,xs=[.int i]/\Q (.int (if i<0 then -i else i)) H):=by
 intro pins s σ H xs us Q I r h
 obtain⟨i,rfl,q⟩:=h
 obtain⟨u,rfl,t,rfl⟩:=vals1 r
 exact call_abs_int λu tk=>⟨.int (if i<0 then -i else i),H,I.tok _,⟨_,rfl⟩,q⟩
theorem zlj(hc:X.calm=true):CallR X (.builtin "min") (λxs H Q=>∃i j,xs=[.int i,.int j]/\Q (.int (if j<i then j else i)) H):=by
 intro pins s σ H xs us Q I r h
 obtain⟨i,j,rfl,q⟩:=h
 obtain⟨u,w',rfl,⟨t,rfl⟩,⟨t',rfl⟩⟩:=vals2 r
 refine min_two_ints (I.ok.hd hc) λh' tk k=>⟨_,H,I.kept k,?_,q⟩
 by_cases hj:j<i
 .rw[if_pos hj,if_pos hj];exact⟨_,rfl⟩
 .rw[if_neg hj,if_neg hj];exact⟨_,rfl⟩
theorem zlk:CallR X (.type "int") (λxs H Q=>(∃i,xs=[.int i]/\Q (.int i) H)\/∃k,xs=[.bl k]/\Q (.int (if k then 1 else 0)) H):=by
 intro pins s σ H xs us Q I r h
 rcases h with⟨i,rfl,q⟩|⟨k,rfl,q⟩
 .obtain⟨u,rfl,t,rfl⟩:=vals1 r
  exact call_int_int ⟨.int i,H,I,⟨_,rfl⟩,q⟩
 .obtain⟨u,rfl,r1⟩:=vals1 r
  cases r1
  exact call_int_bool ⟨.int (if k then 1 else 0),H,I.tok _,⟨_,rfl⟩,q⟩
theorem zhp:CallR X (.builtin "divmod") (λxs H Q=>∃i j,xs=[.int i,.int j]/\CDiv i j/\∀p,H p=none->Q (.ref p) (upd H p (.tup [.int (i/j),.int (i % j)]))):=by
 intro pins s σ H xs us Q I r h
 obtain⟨i,j,rfl,⟨h1,h2⟩,q⟩:=h
 obtain⟨u,w',rfl,⟨t,rfl⟩,⟨t',rfl⟩⟩:=vals2 r
 refine divmod_int (by omega) ?_ (.inl (PyProof.noPylong_small (by omega)))
 rw[Int.fdiv_eq_ediv_of_nonneg i (by omega),Int.fmod_eq_emod_of_nonneg i (by omega)]
 have hn:H s.heap.objs.size=none:=I.hok.fresh (vad _)
 refine⟨.ref s.heap.objs.size,_,?_,rfl,q _ hn⟩
 refine I.laid (λb o e=>vac _ e) (vad _) ⟨by simp only[vaj,veb];rw[vc7];decide,[.int (i/j) s.toks,.int (i % j) (s.toks+1)],.cons ⟨_,rfl⟩ (.cons ⟨_,rfl⟩ .nil),?_⟩
 exact⟨_,vao s.heap rfl,rfl,⟨0,rfl⟩,rfl⟩
end
structure ObjM(h:Heap)(x dx C:Addr)(mA:Str->Option Value):Prop where
 obj:h.get? x=some (PySem.W.instObj C dx)
 ns:h.Ns1 dx mA
 ne:dx≠x
theorem zll{h:Heap}{dx:Addr}{mA:Str->Option Value}(n:h.Ns1 dx mA):∃od,h.get? dx=some od/\∀name,PySem.W.lookIn name od=some (mA name):=by
 obtain⟨o,es,ep,ho,hd,hk,_,hm⟩:=n
 refine⟨o,ho,λname=>?_⟩
 have e:=hm name
 unfold nsFind findBy at e
 rw[<-Array.find?_toList]at e
 unfold PySem.W.lookIn
 rw[hd]
 dsimp only
 split
 .rename_i y q
  rw[q]at e
  exact vdr some e
 .rename_i q
  rw[q]at e
  have a:es.toList.any (·.refKey)=false:=by
   rw[List.any_eq_false]
   intro y hy
   obtain⟨z,t,hkey⟩:=hk y (Array.mem_toList_iff.mp hy)
   simp[DictEntry.refKey,hkey]
  have a':¬es.toList.any (·.refKey)=true:=by rw[a];exact vbr
  rw[if_neg a']
  exact vdr some e
theorem ObjM.look{h:Heap}{x dx C:Addr}{mA:Str->Option Value}(I:ObjM h x dx C mA):∃od,PySem.W.InstAt h x (PySem.W.instObj C dx) C (some od)/\∀name,PySem.W.lookIn name od=some (mA name):=
 let⟨od,ho,hl⟩:=zll I.ns
 ⟨od,⟨I.obj,rfl,rfl,ho⟩,hl⟩
theorem RelO.some_of{v:V}{o:Option Value}(r:RelO (some v) o):∃u,o=some u/\RelV v u:=by
 cases o with
 |none=>exact(show False from r).elim
 |some u=>exact⟨u,rfl,r⟩
section
variable{P:Program}{w:World}{H H':Hp}{h h':Heap}{a C dx:Addr}{fs fs':List (Str×V)}
theorem zr9(hok:HOk P w H h)(e:H a=some (.ins C dx fs)):∃mA,ObjM h a dx C mA/\(∀f,RelO (fs.lookup f) (mA f))/\PySem.Within mA (fs.map (·.1))/\fs.length<=1000/\H dx=some (.own a):=by
 obtain⟨d,z,ne,ob,mA,n,r,q⟩:=(show ObjOk P w H h a (.ins C dx fs)from hok a _ e)
 exact⟨mA,⟨ob,n,ne⟩,r,q,z,d⟩
end
structure Cls(K:vga)(C:Addr):Prop where
 pg:PySem.W.plainGet K C Str.empty=true
 hd:PySem.W.hasDictIn K C=true
 po:PySem.W.plainOver K C=true
 sa:PySem.W.findIn K (.ref C) "__setattr__" = some (some (.builtin "object.__setattr__"))
theorem Cls.get{K:vga}{C:Addr}(c:Cls K C)(f:Str):PySem.W.plainGet K C f=true:=c.pg
section
variable{X:Cx}{pins:List (Addr×Obj)}{σ:St}{H:Hp}{s:Shared}{A:Around}{E:Value->Shared->Prop}{Q:Value->Shared->Prop}{c:Value}{b:Bool}
inductive TyOf(K:vga)(H:Hp):V->Value->Prop where
 |non:TyOf K H .non (.type "NoneType")
 |bl (x:Bool):TyOf K H (.bl x) (.type "bool")
 |int (i:Int):TyOf K H (.int i) (.type "int")
 |str (x:Str):TyOf K H (.str x) (.type "str")
 |flt (x:UInt64):TyOf K H (.flt x) (.type "float")
 |lst {a:Addr} {xs:List V} (e:H a=some (.lst xs)):TyOf K H (.ref a) (.type "list")
 |frz {a:Addr} {o:Obj} {xs:List V} (e:H a=some (.frz o (.lst xs))):TyOf K H (.ref a) (.type "list")
 |tup {a:Addr} {xs:List V} (e:H a=some (.tup xs)):TyOf K H (.ref a) (.type "tuple")
 |dK {a:Addr} {kvs:List (Key×V)} (e:H a=some (.dK kvs)):TyOf K H (.ref a) (.type "dict")
 |dT {a:Addr} {kvs:List (List Key×V)} (e:H a=some (.dT kvs)):TyOf K H (.ref a) (.type "dict")
 |ins {a C dx:Addr} {fs:List (Str×V)} (e:H a=some (.ins C dx fs)) (cl:Cls K C) (ha:PySem.W.findIn K (.ref C) "__class__" = some (some (.builtin "object.__class__")))
   (hn:PySem.W.specialIn K (.builtin "object.__class__") "__get__" = some (some (.builtin "getset_descriptor.__get__"))) (htk:PySem.W.takesIn K (.builtin "object.__class__")=some true)
   (hm:PySem.W.mroIn K C (.type "object")=some true):TyOf K H (.ref a) (.ref C)
theorem zlm{x:V}{u t:Value}(I:Inv X pins σ H s)(rx:RelV x u)(ty:TyOf X.K H x t)(e:PySem.W.kitOne X.K t c=some b)(h:∀tk,Q (.bool b) {s with toks:=tk}) :
 wpAny (model X.prog X.w) A (call (.builtin "isinstance") [u,c]) Q E s:=by
 cases ty with
 |non=>cases(show u=Value.none from rx);exact vbu PySem.W.kitx_none I.kIn True.intro e (λz=>nomatch z) h
 |bl y=>cases(show u=Value.bool y from rx);exact vbu PySem.W.kitx_bool I.kIn True.intro e (λz=>nomatch z) h
 |int i=>obtain⟨t,q⟩:=(show ∃t,u=Value.int i t from rx);cases q;exact vbu PySem.W.kitx_int I.kIn True.intro e (λz=>nomatch z) h
 |str y=>obtain⟨t,q⟩:=(show ∃t,u=Value.str y t from rx);cases q;exact vbu PySem.W.kitx_str I.kIn True.intro e (λz=>nomatch z) h
 |flt y=>obtain⟨t,q⟩:=(show ∃t,u=Value.float y t from rx);cases q;exact vbu PySem.W.kitx_float I.kIn True.intro e (λz=>nomatch z) h
 | @lst a xs ea=>
  cases(show u=Value.ref a from rx)
  obtain⟨_,_,n,_,h1⟩:=(show ObjOk X.prog X.w H s.heap a (.lst xs)from I.hok a _ ea)
  exact vbu PySem.W.kitx_list I.kIn ⟨_,h1,rfl⟩ e (λz=>nomatch z) h
 | @frz a ob xs ea=>
  cases(show u=Value.ref a from rx)
  obtain⟨_,_,_,n,_,h1⟩:=(show ObjOk X.prog X.w H s.heap a (.frz ob (.lst xs))from I.hok a _ ea)
  exact vbu PySem.W.kitx_list I.kIn ⟨_,h1,rfl⟩ e (λz=>nomatch z) h
 | @tup a xs ea=>
  cases(show u=Value.ref a from rx)
  obtain⟨_,_,_,p⟩:=(show ObjOk X.prog X.w H s.heap a (.tup xs)from I.hok a _ ea)
  obtain⟨o,h1,h2,_⟩:=p
  exact vbu PySem.W.kitx_tuple I.kIn ⟨o,h1,h2⟩ e (λz=>nomatch z) h
 | @dK a kvs ea=>
  cases(show u=Value.ref a from rx)
  obtain⟨_,_,vs,_,p⟩:=(show ObjOk X.prog X.w H s.heap a (.dK kvs)from I.hok a _ ea)
  obtain⟨o,es,ep,h1,h2,_⟩:=p
  exact vbu PySem.W.kitx_dict I.kIn ⟨o,h1,h2.1⟩ e (λz=>nomatch z) h
 | @dT a kvs ea=>
  cases(show u=Value.ref a from rx)
  obtain⟨_,_,xs,_,o,es,ep,h1,h2,_⟩:=(show ObjOk X.prog X.w H s.heap a (.dT kvs)from I.hok a _ ea)
  exact vbu PySem.W.kitx_dict I.kIn ⟨o,h1,h2.1⟩ e (λz=>nomatch z) h
 | @ins a C dx fs ea cl ha hn htk hm=>
  cases(show u=Value.ref a from rx)
  obtain⟨mA,O,_⟩:=zr9 I.hok ea
  obtain⟨od,J,_⟩:=O.look
  exact vbu (PySem.W.kitx_own (cl.get _) cl.hd ha hn htk hm) I.kIn J e (λz=>nomatch z) h
end
structure Room(k:Nat)(A:Around):Prop where
 hd:A.handled=none
 dp:A.depth+3*k+5<recursionLimit
 un:A.units+16*k+200<cLine
theorem Room.deeper{k:Nat}{A:Around}(r:Room (k+1) A)(env:Env):Room k (A.deeper env):=
 ⟨r.hd,by have:=r.dp;show A.depth+1+3*k+5<_;omega,by have:=r.un;show A.units+3+16*k+200<_;omega⟩
theorem Room.depth{k:Nat}{A:Around}(r:Room k A):A.depth<recursionLimit:=by have:=r.dp;omega
theorem Room.units{k:Nat}{A:Around}(r:Room k A):A.units+64<cLine:=by have:=r.un;omega
noncomputable def tNil:TA:=λ_ H Q=>Q [] H
noncomputable def tCons(ta:TE)(tr:TA):TA:=λσ H Q=>ta σ H λx H1=>tr σ H1 λxs H2=>Q (x::xs) H2
section
variable{X:Cx}{e:Expr}{es:List Expr}{te:TE}{t:TA}{pos:Pos}
theorem ziw:PA X [] tNil:=λ_ _ _ _ H Q I h=>Calls.spliced_nil ⟨[],H,I,.nil,h⟩
theorem zdn(ha:PE X e te)(hr:PA X es t)(hs:starEach (e::es) X.env=(false,eval e X.env)::starEach es X.env:=by rfl):PA X (e::es) (tCons te t):=by
 intro pos pins s σ H Q I h
 rw[hs]
 show wpAny _ _ (spliced ((false,eval e X.env)::backTo pos (starEach es X.env))) _ _ s
 refine Calls.spliced_cons (thn (ha pins s σ H _ I h) λu s1 z9=>z9.el λx H1 I1 r1 q1=>?_)
 exact thn (hr pos pins s1 σ H1 _ I1 q1) λus s2 z9=>z9.el λxs H2 I2 r2 q2=>⟨x::xs,H2,I2,.cons r1 r2,q2⟩
noncomputable def tTup(t:TA):TE:=λσ H Q=>t σ H λxs H1=>xs.length<=sizeLine/\∀p,H1 p=none->Q (.ref p) (upd H1 p (.tup xs))
noncomputable def tLst(t:TA):TE:=λσ H Q=>t σ H λxs H1=>xs.length<=sizeLine/\∀p,H1 p=none->Q (.ref p) (upd H1 p (.lst xs))
theorem zvb{x1}(h:PA X es t):PE X (.Tuple es x1 pos) (tTup t):=by
 intro pins s σ H Q I hq
 refine wpAny_Tuple_spliced (thn (h pos pins s σ H _ I hq) λus s1 z9=>z9.el λxs H1 I1 r ⟨z,q⟩=>⟨by rw[<-r.length];exact z,?_⟩)
 have hf:H1 s1.heap.objs.size=none:=I1.hok.fresh (vad _)
 refine⟨.ref s1.heap.objs.size,upd H1 s1.heap.objs.size (.tup xs),I1.laid (t':=s1.toks) (λb u e=>vac _ e) (vad _) ?_,rfl,q _ hf⟩
 exact⟨z,us,r,zbl.new _ _⟩
theorem zvc(h:PA X es t):PE X (.List es pos) (tLst t):=by
 intro pins s σ H Q I hq
 refine wpAny_List_spliced (thn (h pos pins s σ H _ I hq) λus s1 z9=>z9.el λxs H1 I1 r ⟨z,q⟩=>⟨by rw[<-r.length];exact z,?_⟩)
 have hf:H1 s1.heap.objs.size=none:=I1.hok.fresh (vad _)
 refine⟨.ref s1.heap.objs.size,upd H1 s1.heap.objs.size (.lst xs),I1.laid (t':=s1.toks) (λb u e=>vac _ e) (vad _) ?_,rfl,q _ hf⟩
 exact⟨z,us,0,r,vao _ rfl⟩
end
noncomputable abbrev Sp:=List V->Hp->VK->XK->Prop
noncomputable abbrev CXT:=List Env->Hp->Shared->XK->Value->Shared->Prop
structure Env0(P:Program)(w:World)(K:vga)(mg:Str->Option Value)(base:Heap)(A:Around)(outer:List Env)(s:Shared)(H:Hp):Prop where
 frames:A.frames=some outer
 mod:Mod K mg base
 bs:∀b o,base.get? b=some o->s.heap.get? b=some o/\H b=none
 bsz:base.objs.size<=s.heap.objs.size
 funs:s.heap.FunFrames base outer
 frf:∀b∈frs outer,H b=none
 hok:HOk P w H s.heap
 bare:AllBare s.gens
noncomputable def CE(outer:List Env)(P:Program)(w:World)(H:Hp)(s:Shared)(Q:VK)(u:Value)(s':Shared):Prop:=
 ∃v H',s'.os=s.os/\AllBare s'.gens/\Un (frs outer) [] H H' s.heap s'.heap/\HOk P w H' s'.heap/\RelV v u/\Q v H'
noncomputable def CR(CX:CXT)(outer:List Env)(P:Program)(w:World)(H:Hp)(s:Shared)(Q:VK)(E:XK)(r:Result)(s':Shared):Prop:=
 match r with
 |.ok (.ret u)=>CE outer P w H s Q u s'
 |.ok _=>False
 |.error e=>CX outer H s E e s'
structure FnOk(P:Program)(w:World)(K:vga)(mg:Str->Option Value)(base:Heap)(CX:CXT)(k:Nat)(f:Addr)(fd:FuncData)(ps:List Str)(sp:Sp):Prop where
 len:∀vs H Q E,sp vs H Q E->vs.length=ps.length
 run:∀(A:Around)(outer:List Env)(s:Shared)(H:Hp)(args:Args)(us:List Value)(vs:List V)(Q:VK)(E:XK),Room k A->Env0 P w K mg base A outer s H->BindsTo s fd args (ps.zip us)->Vals vs us->sp vs H Q E->
  codeAny (model P w) A (.call (.ref f) args) (CR CX outer P w H s Q E) s
section
variable{X:Cx}{pins:List (Addr×Obj)}{σ:St}{H:Hp}{s s':Shared}
theorem Inv.env0(I:Inv X pins σ H s):Env0 X.prog X.w X.K X.mg X.base X.A X.stack s H:=
 ⟨I.ok.frames,I.ok.mod,I.bs,vbo I.ok.bsz I.sz,I.stack,I.stkFree,I.hok,I.bare⟩
theorem Inv.after{Q:VK}{u:Value}(I:Inv X pins σ H s)(h:CE X.stack X.prog X.w H s Q u s'):EP X pins σ Q u s':=by
 obtain⟨v,H',os,bare,un,hok,r,q⟩:=h
 obtain⟨hh,g,d,t,os'⟩:=s'
 obtain rfl:os'=s.os:=os
 exact⟨v,H',I.call (h':=hh) (g':=g) (d':=d) (t':=t) (ch:=[]) un hok bare (λb z=>absurd z (by simp)),r,q⟩
end
noncomputable def tCall(sp:Sp)(dvs:List V)(E:XK)(t:TA):TE:=λσ H Q=>t σ H λvs H1=>sp (vs++dvs) H1 Q E
noncomputable def Binds(K:vga)(fd:FuncData)(ps:List Str)(ds:List Value):Prop:=
 ∀(s:Shared)(us:List Value),K.In s.heap->(us++ds).length=ps.length->BindsTo s fd ⟨us,[]⟩ (ps.zip (us++ds))
theorem Binds.all{K:vga}{fd:FuncData}{ps:List Str}(h:∀us:List Value,us.length=ps.length->bindArgs fd ⟨us,[]⟩=pure (ps.zip us)):Binds K fd ps []:=λs us _ hl=>by
 rw[vcw]at hl ⊢
 exact .of_eq (h us hl)
noncomputable def zix(CX:CXT)(X:Cx)(E:XK):Prop:=∀(pins:List (Addr×Obj)) (σ:St) (H:Hp) (s:Shared) (e:Value) (s':Shared),Inv X pins σ H s->CX X.stack H s E e s'->X.xe e s'
section
variable{X:Cx}{CX:CXT}{k:Nat}{f C:Addr}{fd:FuncData}{ps:List Str}{sp:Sp}{dvs:List V}{ds:List Value}{E:XK}{x m:Str}{p pos apos:Pos}{e o:Expr}{es:List Expr}{ta:TE}{t:TA}
theorem zqv{pins:List (Addr×Obj)}{σ:St}{H:Hp}{s:Shared}{Q:VK}{us:List Value}{vs:List V}(F:FnOk X.prog X.w X.K X.mg X.base CX k f fd ps sp)(hr:Room k X.A)(hb:Binds X.K fd ps ds)(hd:Vals dvs ds)(hx:zix CX X E)
 (I:Inv X pins σ H s) (r:Vals vs us) (h:sp (vs++dvs) H Q E):wpAny (model X.prog X.w) X.A (call (.ref f) us) (EP X pins σ Q) X.xe s:=by
 have r2:Vals (vs++dvs) (us++ds):=r.append hd
 have hl:(us++ds).length=ps.length:=by rw[<-r2.length];exact F.len _ _ _ _ h
 refine wpAny_call (codeAny_mono (F.run X.A X.stack s H ⟨us,[]⟩ (us++ds) (vs++dvs) Q E hr I.env0 (hb s us I.kIn hl) r2 h) λr s' hq=>?_)
 cases r with
 |error e=>exact hx pins σ H s e s' I hq
 |ok fl=>
  cases fl with
  |ret u=>exact I.after hq
  |next=>exact False.elim hq
  |brk=>exact False.elim hq
  |cont=>exact False.elim hq
theorem zln(F:FnOk X.prog X.w X.K X.mg X.base CX k f fd ps sp)(hr:Room k X.A)(hg:Gl X x)(hm:X.mg x=some (.ref f))(hk:PySem.W.keepIn X.K (.ref f)=true)(hb:Binds X.K fd ps ds)(hd:Vals dvs ds)(hx:zix CX X E)
 (ha:PA X (e::es) t) (hdb:(x==("__debug__" : Str))=false:=by decide) (he:starEach (e::es) X.env=(false,eval e X.env)::starEach es X.env:=by rfl) (hpl:(backTo pos (starEach es X.env)).any (·.1)=false:=by rfl) :
 PE X (.Call (.Name x p) (e::es) [] pos) (tCall sp dvs E t):=by
 intro pins s σ H Q I h
 refine vec (zhn I hg hm ?_ hdb)
 refine PySem.W.callWith_K (h₀:=X.base) I.ok.mod.kin hk (thn (ha pos pins s σ H _ I h) λus s1 z9=>z9.el λvs H1 I1 r q=>⟨I1.kIn,?_⟩) he hpl
 exact zqv F hr hb hd hx I1 r q
theorem zoy(F:FnOk X.prog X.w X.K X.mg X.base CX k f fd ps sp)(hr:Room k X.A)(hg:Gl X x)(hm:X.mg x=some (.ref f))(hk:PySem.W.keepIn X.K (.ref f)=true)(hb:Binds X.K fd ps ds)(hd:Vals dvs ds)(hx:zix CX X E)
 (hdb:(x==("__debug__" : Str))=false:=by decide):PE X (.Call (.Name x p) [] [] pos) (tCall sp dvs E tNil):=by
 intro pins s σ H Q I h
 refine vec (zhn I hg hm ?_ hdb)
 exact PySem.W.callWith_K0 I.kIn hk (zqv (us:=[]) F hr hb hd hx I .nil h)
end
structure FnScope(N P:List Str)(sc:Scope):Prop where
 kind:sc.kind=.function
 co:sc.isCoroutine=false
 gen:sc.isGenerator=false
 nd:N.Nodup
 pre:N.take P.length=P
 par:∀x∈P,sc.names.lookup x=some .local\/sc.names.lookup x=some .cell
 nofree:∀y∈sc.names,y.2≠.free
theorem zge{kindOf:Str->Option NameKind}{x:Str}:∀{binds:List (Str×Value)} {m:Str->Option Value},(∀v,(x,v)∉binds)->bindL kindOf binds m x=m x
 |[],_,_=>rfl
 |(n,v)::r,m,h=>by
  unfold bindL
  rw[zge λw hw=>h w (vag _ hw)]
  split
  .have:x≠n:=by rintro rfl;exact h v vai
   simp[this]
  .rfl
theorem zgf{kindOf:Str->Option NameKind}{x:Str}:∀{binds:List (Str×Value)} {m:Str->Option Value},(∀v,(x,v)∉binds)->bindC kindOf binds m x=m x
 |[],_,_=>rfl
 |(n,v)::r,m,h=>by
  unfold bindC
  rw[zgf λw hw=>h w (vag _ hw)]
  split
  .rfl
  .have:x≠n:=by rintro rfl;exact h v vai
   simp[this]
theorem zgg{kindOf:Str->Option NameKind}{x:Str}{v:Value}:∀{P:List Str} {vs:List Value} {i:Nat} {m:Str->Option Value},P.Nodup->P[i]?=some x->vs[i]?=some v->kindOf x=some .local->
 bindL kindOf (P.zip vs) m x=some v
 |[],_,_,_,_,h,_,_=>by simp at h
 |_::_,[],_,_,_,_,h,_=>by simp at h
 |p::P,w::vs,0,m,nd,h1,h2,hk=>by
  simp at h1 h2;subst h1;subst h2
  show bindL kindOf ((p,w)::P.zip vs) m p=_
  unfold bindL
  rw[zge λv hv=>(vcx.mp nd).1 (List.of_mem_zip hv).1,if_pos hk]
  simp
 |p::P,w::vs,i+1,m,nd,h1,h2,hk=>by
  show bindL kindOf ((p,w)::P.zip vs) m x=_
  unfold bindL
  exact zgg (i:=i) (vcx.mp nd).2 (by simpa using h1) (by simpa using h2) hk
theorem zgh{kindOf:Str->Option NameKind}{x:Str}{v:Value}:∀{P:List Str} {vs:List Value} {i:Nat} {m:Str->Option Value},P.Nodup->P[i]?=some x->vs[i]?=some v->kindOf x≠some .local->
 bindC kindOf (P.zip vs) m x=some v
 |[],_,_,_,_,h,_,_=>by simp at h
 |_::_,[],_,_,_,_,h,_=>by simp at h
 |p::P,w::vs,0,m,nd,h1,h2,hk=>by
  simp at h1 h2;subst h1;subst h2
  show bindC kindOf ((p,w)::P.zip vs) m p=_
  unfold bindC
  rw[zgf λv hv=>(vcx.mp nd).1 (List.of_mem_zip hv).1,if_neg hk]
  simp
 |p::P,w::vs,i+1,m,nd,h1,h2,hk=>by
  show bindC kindOf ((p,w)::P.zip vs) m x=_
  unfold bindC
  exact zgh (i:=i) (vcx.mp nd).2 (by simpa using h1) (by simpa using h2) hk
noncomputable def start(N:List Str)(vs:List V):St:=vs.map some++vgc (N.length-vs.length) none
noncomputable def cxOf(CX:CXT)(P:Program)(w:World)(K:vga)(mg:Str->Option Value)(base:Heap)(N:List Str)(qual:Str)(scope:Scope)(f:Addr)(cd:Value)(A:Around)(outer:List Env)(s:Shared)(H:Hp)(E:XK):Cx where
 prog:=P
 w:=w
 K:=K
 mg:=mg
 base:=base
 A:=A.deeper (envOfC qual scope s.heap.objs.size f cd)
 N:=N
 s₀:=s
 H₀:=H
 env:=envOfC qual scope s.heap.objs.size f cd
 outer:=outer
 stack:=envOfC qual scope s.heap.objs.size f cd::outer
 ex:=[]
 calm:=true
 fn:=λ_=>true
 pn:=[]
 xe:=λe s'=>wpAny (model P w) (A.deeper (envOfC qual scope s.heap.objs.size f cd)) (leaving (envOfC qual scope s.heap.objs.size f cd) e) (λ_ s''=>CX outer H s E e s'') (λe' s''=>CX outer H s E e' s'') s'
theorem ziy{sc:Scope}{n:Nat}{x:Str}(h:sc.names.lookup x=some .cell):∃c,(cellsFrom n sc.names []).lookup x=some c:=by
 have q:=PySem.W.cellsFrom_some sc.names n [] (.inl h)
 exact Option.isSome_iff_exists.mp q
theorem zlo{CX:CXT}{P:Program}{w:World}{K:vga}{mg:Str->Option Value}{base:Heap}{N ps:List Str}{qual:Str}{scope:Scope}{f:Addr}{cd:Value}{A:Around}{outer:List Env}{s s1:Shared}{H:Hp}{E:XK}{us:List Value}{vs:List V}
 (S:FnScope N ps scope) (hd:A.handled=none) (e0:Env0 P w K mg base A outer s H) (hl:vs.length=ps.length) (r:Vals vs us)
 (x:InCallC s s.heap.objs.size (bindL (envOfC qual scope s.heap.objs.size f cd).kindOf (ps.zip us) λ_=>none) (cellsFrom (s.heap.objs.size+1) scope.names []) (bindC (envOfC qual scope s.heap.objs.size f cd).kindOf (ps.zip us) λ_=>none) s1) :
 Inv (cxOf CX P w K mg base N qual scope f cd A outer s H E) [] (start N vs) H s1:=by
 have hpl:ps.length<=N.length:=by have:=vdr List.length S.pre;rw[List.length_take]at this;omega
 obtain⟨h1,tk,rfl,hk⟩:=x.done
 have noA:∀b:Addr,b∉(cxOf CX P w K mg base N qual scope f cd A outer s H E).ex:=λb z=>absurd (show b∈([]:List Addr)from z) (by simp)
 refine⟨⟨e0.mod,S.kind,rfl,rfl,vad _,λy z c h1 h2=>?_,λy hy=>?_,λy c _ h=>?_,λ_=>hd,Around.frames_deeper e0.frames,.inr ⟨rfl,rfl⟩,λb z=>absurd z (noA b),e0.bs,e0.bsz,λb _ _=>noA b,λb z=>absurd z (noA b),e0.funs,e0.frf⟩,
  rfl,e0.bare,Un.kept hk,⟨_,x.toInCall.ns,λi y v h1 h2 h3=>?_⟩,λy c h=>⟨_,x.cell y c h⟩,e0.hok.fresh (vad _),λy c h=>?_,λp hp=>absurd (show p∈([]:List (Addr×Obj))from hp) (by simp),e0.hok.kept hk,?_⟩
 .exact name_of_addr x.apart (vdl h1) (vdl h2)
 .have hy:scope.names.lookup y=some .cell\/scope.names.lookup y=some .free:=hy
  rcases hy with hy|hy
  .exact ziy hy
  .exact absurd rfl (S.nofree _ (vdl hy))
 .exact vdh (x.above y c (vdl h))
 .have hi:i<vs.length:=by
   unfold start at h2
   by_cases hi:i<vs.length
   .exact hi
   .rw[va0 (by simpa using hi)]at h2
    rw[vcr]at h2
    split at h2<;>cases h2
  have ha:vs[i]?=some v:=by
   unfold start at h2
   rw[vbx (by simpa using hi),vas]at h2
   cases e:vs[i]? with
   |none=>rw[e]at h2;cases h2
   |some a=>rw[e]at h2;cases h2;rfl
  obtain⟨u,hu,rv⟩:=r.get ha
  have hp:ps[i]?=some y:=by
   rw[<-S.pre,List.getElem?_take_of_lt (by omega)];exact h1
  have ndP:ps.Nodup:=by rw[<-S.pre];exact S.nd.sublist (List.take_sublist _ _)
  refine⟨u,rv,?_⟩
  rcases S.par y (vb3 hp)with k|k
  .exact .inl ⟨k,zgg ndP hp hu k⟩
  .obtain⟨c,e⟩:=ziy (n:=s.heap.objs.size+1) k
   refine .inr ⟨.inl k,c,e,?_⟩
   have q:=x.cell y c e
   rw[zgh ndP hp hu (by show scope.names.lookup y≠_;rw[k];decide)]at q
   exact q
 .exact e0.hok.fresh (vdh (x.above y c (vdl h)))
 .unfold start
  show _=N.length
  rw[vax,vaf,vcn]
  omega
theorem fn_of{CX:CXT}{P:Program}{w:World}{K:vga}{mg:Str->Option Value}{base:Heap}{k:Nat}{f:Addr}{name qual:Str}{params:Arguments}{body:List Stmt}{scope:Scope}{dV kV doc pm cdv ct oc:Value}{an od:Option Addr}
 {osl:Array (Option Value)} {N ps:List Str} {sp:Sp} (lk:K.lookup f=some ⟨oc,od,.func (PySem.W.fnOf name qual params body scope dV kV doc pm an cdv ct),osl⟩) (hcd:PySem.W.codeIn K cdv qual=true) (S:FnScope N ps scope)
 (len:∀vs H Q E,sp vs H Q E->vs.length=ps.length)
 (hbody:∀(A:Around)(outer:List Env)(s:Shared)(H:Hp)(vs:List V)(Q:VK)(E:XK),Room k (A.deeper (envOfC qual scope s.heap.objs.size f cdv))->sp vs H Q E->
   ∃t,PSs (cxOf CX P w K mg base N qual scope f cdv A outer s H E) body t/\t {nx:=λ_ H'=>Q .non H',rt:=Q} (start N vs) H) :
 FnOk P w K mg base CX (k+1) f (PySem.W.fnOf name qual params body scope dV kV doc pm an cdv ct) ps sp:=by
 refine⟨len,λA outer s H args us vs Q E hr e0 hb r hsp=>?_⟩
 have hl:=len _ _ _ _ hsp
 have KX:K.In s.heap:=e0.mod.kin.keeps λb o e=>(e0.bs b o e).1
 have lim:s.heap.NoLimit:=e0.mod.nolimit.keeps λb o e=>(e0.bs b o e).1
 have hkind:∀y∈ps.zip us,scope.names.lookup y.1=some .local\/(scope.names.lookup y.1=some .cell/\((cellsFrom (s.heap.objs.size+1) scope.names []).lookup y.1).isSome=true):=λhq0 hy=>by
  obtain⟨n,v⟩:=hq0
  rcases S.par n (List.of_mem_zip hy).1 with q|q
  .exact .inl q
  .exact .inr ⟨q,PySem.W.cellsFrom_some _ _ _ (.inl q)⟩
 refine codeAny_call_function hr.depth (KX _ _ lk) rfl S.co S.gen rfl (PySem.W.codeRec_of KX hcd) (hb _ _ _ _ ?_)
 refine wpAny_newFunctionEnv_cells S.kind hkind λenv he s1 x=>?_
 subst he
 refine⟨lim.keeps x.toInCall.keep,codeAny_func ?_⟩
 obtain⟨t,ht,hq⟩:=hbody A outer s H vs Q E (hr.deeper _) hsp
 have I:Inv (cxOf CX P w K mg base N qual scope f cdv A outer s H E) [] (start N vs) H s1:=zlo S hr.hd e0 hl r x
 refine vdn (ht [] s1 (start N vs) H _ I hq) (λfl s' hs=>?_) λe s' hs=>hs
 have fin:∀{σ':St}{H':Hp}{v:V}{u:Value},Inv (cxOf CX P w K mg base N qual scope f cdv A outer s H E) [] σ' H' s'->RelV v u->Q v H'->CE outer P w H s Q u s':=
  λ{σ' H' v u} J rv q=>⟨v,H',J.os,J.bare,J.base,J.hok,rv,q⟩
 cases fl with
 |ret u=>
  obtain⟨v,σ',H',J,rv,q⟩:=hs
  exact fin J rv q
 |next=>
  obtain⟨σ',H',J,q⟩:=hs
  exact fin (v:=V.non) (u:=Value.none) J rfl q
 |brk=>
  obtain⟨_,_,_,q⟩:=hs
  exact False.elim q
 |cont=>
  obtain⟨_,_,_,q⟩:=hs
  exact False.elim q
section
variable{X:Cx}{x:Str}{p pos:Pos}{e:Expr}{es:List Expr}{t:TA}{id T:String}{r:List V->Hp->VK->Prop}
noncomputable def tCB(r:List V->Hp->VK->Prop)(t:TA):TE:=λσ H Q=>t σ H λvs H1=>r vs H1 Q
theorem ziz(hc:CallR X (.builtin id) r)(hg:Gl X x)(hm:X.mg x=none)(hv:bootBuiltins x=some (.builtin id))(ha:PA X (e::es) t)(hn:x≠"__name__":=by decide)(hdb:(x==("__debug__" : Str))=false:=by decide)
 (he:starEach (e::es) X.env=(false,eval e X.env)::starEach es X.env:=by rfl) (hpl:(backTo pos (starEach es X.env)).any (·.1)=false:=by rfl):PE X (.Call (.Name x p) (e::es) [] pos) (tCB r t):=by
 intro pins s σ H Q I h
 refine vec (zdm I hg hm hv ?_ hn hdb)
 exact PyProof.Rows.callWith_builtin1 (thn (ha pos pins s σ H _ I h) λus s1 z9=>z9.el λvs H1 I1 r1 q1=>hc pins s1 σ H1 vs us Q I1 r1 q1) he hpl
theorem zlp(hc:CallR X (.type T) r)(hg:Gl X x)(hm:X.mg x=none)(hv:bootBuiltins x=some (.type T))(ha:PA X (e::es) t)(hn:x≠"__name__":=by decide)(hdb:(x==("__debug__" : Str))=false:=by decide)
 (he:starEach (e::es) X.env=(false,eval e X.env)::starEach es X.env:=by rfl) (hpl:(backTo pos (starEach es X.env)).any (·.1)=false:=by rfl):PE X (.Call (.Name x p) (e::es) [] pos) (tCB r t):=by
 intro pins s σ H Q I h
 refine vec (zdm I hg hm hv ?_ hn hdb)
 exact vcb (thn (ha pos pins s σ H _ I h) λus s1 z9=>z9.el λvs H1 I1 r1 q1=>hc pins s1 σ H1 vs us Q I1 r1 q1) he hpl
end
end L2
namespace HT
open PySem PyProof.Rows
section
variable{prog:Program}{w:World}{A:Around}{E:Value->Shared->Prop}{s:Shared}
noncomputable def sIx(n d:Nat):Option Int->Nat
 |none=>d
 |some v=>if v<0 then(v+ (n:Int)).toNat else min v.toNat n
theorem zvd(n d:Nat)(hd:d<=n)(o:Option Int):sIx n d o<=n:=by
 cases o with
 |none=>exact hd
 |some v=>
  show(if v<0 then(v+ (n:Int)).toNat else min v.toNat n)<=n
  by_cases hv:v<0
  .rw[if_pos hv];omega
  .rw[if_neg hv];exact Nat.min_le_right _ _
theorem zlq(v:Int)(n d:Nat):(if v<0 then max (v+ (n:Int)) 0 else min v (n:Int))=((sIx n d (some v):Nat):Int):=by
 show(if v<0 then max (v+ (n:Int)) 0 else min v (n:Int))=(((if v<0 then(v+ (n:Int)).toNat else min v.toNat n):Nat):Int)
 by_cases hv:v<0
 .simp only[if_pos hv];omega
 .simp only[if_neg hv];omega
theorem zkj(lo hi:Option Int)(n:Nat):Builtin.Slice.sliceAdjust lo hi 1 (n:Int)=(((sIx n 0 lo:Nat):Int),((sIx n n hi:Nat):Int)):=by
 have h1:¬((1:Int)<0):=by omega
 unfold Builtin.Slice.sliceAdjust
 simp only[h1,va7]
 refine Prod.ext ?_ ?_
 .cases lo with
  |none=>rfl
  |some v=>exact zlq v n 0
 .cases hi with
  |none=>rfl
  |some v=>exact zlq v n n
theorem zkk(i j:Nat):Builtin.Slice.slicePlaces (i:Int) (j:Int) 1=j-i:=by
 unfold Builtin.Slice.slicePlaces
 have h1:(1:Int)>0:=by omega
 simp only[h1,va8,Int.ediv_one]
 split<;>omega
theorem zem{v:Value}{o:Option Int}{Q:Option Int->Shared->Prop}(p:IsPart v o)(h:Q o s):wpAny (model prog w) A (Builtin.Slice.slicePartIndex v) Q E s:=by
 cases p with
 |none=>exact slicePart_none h
 |int i t=>exact slicePart_int h
theorem zbm{sl:Addr}{vl vu:Value}{lo hi:Option Int}{n:Nat}{Q:Int×Int×Nat->Shared->Prop}(hs:s.heap.IsSliceOf sl vl vu .none)(pl:IsPart vl lo)(pu:IsPart vu hi)
 (h:Q (((sIx n 0 lo:Nat):Int),1,sIx n n hi-sIx n 0 lo) s):wpAny (model prog w) A (Builtin.Slice.sliceApplied (.ref sl) (pure (n:Int))) Q E s:=by
 obtain⟨os,hos,hcs,hds⟩:=id hs
 unfold Builtin.Slice.sliceApplied Builtin.Slice.sliceFields
 refine vaa (vaa (vbs hos hds (x:=vl) rfl (vaa (vbs hos hds (x:=vu) rfl (vaa (vbs hos hds (x:=.none) rfl (vae ?_)))))))
 refine vaa (slicePart_none ?_)
 show wpAny _ _ (if((1:Int)==0)=true then _ else _) _ _ s
 rw[if_neg (by decide)]
 refine vaa (zem pl (vaa (zem pu (vaa (vae ?_)))))
 show wpAny _ _ (match Builtin.Slice.sliceAdjust lo hi 1 (n:Int)with|(lo,hi)=>pure (lo,(1:Int),Builtin.Slice.slicePlaces lo hi 1)) _ _ s
 rw[zkj lo hi n]
 show wpAny _ _ (pure (((sIx n 0 lo:Nat):Int),(1:Int),Builtin.Slice.slicePlaces ((sIx n 0 lo:Nat):Int) ((sIx n n hi:Nat):Int) 1)) _ _ s
 rw[zkk]
 exact vae h
theorem zoz(xs:Array Value)(i k:Nat):((List.range k).filterMap λ(m:Nat)=>xs[((i:Int)+ (m:Int)*1).toNat]?).toArray=((xs.toList.drop i).take k).toArray:=by
 have e:(λ(m:Nat)=>xs[((i:Int)+ (m:Int)*1).toNat]?)=λm=>xs[i+m]?:=by
  funext m
  have:((i:Int)+ (m:Int)*1).toNat=i+m:=by omega
  rw[this]
 rw[e]
 have:=pick_run xs i k
 rw[List.filterMap_map]at this
 have e2:((λx=>xs[x]?)∘λx=>i+x)=λm=>xs[i+m]?:=rfl
 rw[e2]at this
 rw[this]
theorem getItem_tuple_cut{t sl:Addr}{items:Array Value}{vl vu:Value}{lo hi:Option Int}{Q:Value->Shared->Prop}(ht:IsTup s.heap t items)(hs:s.heap.IsSliceOf sl vl vu .none)(pl:IsPart vl lo)(pu:IsPart vu hi)
 (hw:¬(sIx items.size 0 lo=0/\sIx items.size items.size hi=items.size))
 (h:Q (.ref s.heap.objs.size) {s with heap:=s.heap.push {cls:=.type "tuple",data:=.seq ((items.toList.drop (sIx items.size 0 lo)).take (sIx items.size items.size hi-sIx items.size 0 lo)).toArray}})
 (hsz:items.size<=sizeLine):wpAny (model prog w) A (getItem (.ref t) (.ref sl)) Q E s:=by
 have htake:sizeOk (.seq ((items.toList.drop (sIx items.size 0 lo)).take (sIx items.size items.size hi-sIx items.size 0 lo)).toArray):=by
  show((items.toList.drop (sIx items.size 0 lo)).take (sIx items.size items.size hi-sIx items.size 0 lo)).toArray.size<=sizeLine
  rw[vam,List.length_take,List.length_drop,vdk]
  omega
 have hj:sIx items.size items.size hi<=items.size:=zvd _ _ (vad _) hi
 obtain⟨os,hos,hcs,hds⟩:=id hs
 have hTs:s.TypeIs (.ref sl) "slice":=⟨os,hos,hcs⟩
 unfold getItem
 try with_reducible refine vck ?_
 first|refine vaa (vae ?_)|skip
 refine vaa (wpAny_sequenceKey ht.typeIs (by decide) ?_)
 refine vaa (vbf (name:=Str.ofString "__getitem__") ht.typeIs vbq
  (vbj vbq ht.typeIs entry_tuple_getitem ?_ (args_tuple_getitem _ _)))
 show wpAny _ _ (Builtin.Tuple.tupleItemsOf (.ref t) >>= _) _ _ s
 refine vaa (tupleItemsOf_ ht ?_)
 refine vaa (vfh hTs ?_)
 rw[if_pos (by decide)]
 refine vaa (zbm hs pl pu ?_)
 have hno:¬((((sIx items.size 0 lo:Nat):Int)==0&& (1:Int)==1&& (sIx items.size items.size hi-sIx items.size 0 lo)==items.size)=true):=by
  intro q
  rw[vab,vab]at q
  have q1:((sIx items.size 0 lo:Nat):Int)=0:=eq_of_beq q.1.1
  have q2:sIx items.size items.size hi-sIx items.size 0 lo=items.size:=eq_of_beq q.2
  exact hw ⟨by omega,by omega⟩
 show wpAny _ _ (if(((sIx items.size 0 lo:Nat):Int)==0&& (1:Int)==1&& (sIx items.size items.size hi-sIx items.size 0 lo)==items.size)=true then _ else _) _ _ s
 rw[if_neg hno,zoz]
 first
  |exact vaa (m:=Builtin.Tuple.tupleExact _) (vbi (vae ⟨_,rfl,vae h⟩) htake)
  |exact vaa (m:=Builtin.Tuple.tupleExact _) (vbi (vaa (vae (vae ⟨_,rfl,vae h⟩))) htake)
  |exact vaa (vaa (m:=Builtin.Tuple.tupleExact _) (vbi (vae (vae ⟨_,rfl,vae h⟩)) htake))
  |exact vaa (vaa (m:=Builtin.Tuple.tupleExact _) (vbi (vae ⟨_,rfl,vae h⟩) htake))
end
end HT
namespace L2
open PySem PySem.Spec PyProof.Rows
noncomputable abbrev TO:=St->Hp->(Option Int->Hp->Prop)->Prop
noncomputable def PO(X:Cx)(e:Option Expr)(t:TO):Prop:=
 ∀(pins:List (Addr×Obj))(s:Shared)(σ:St)(H:Hp)(Q:Option Int->Hp->Prop),Inv X pins σ H s->t σ H Q->
  wpAny (model X.prog X.w) X.A (evalPart e X.env) (λu s'=>∃o H',Inv X pins σ H' s'/\IsPart u o/\Q o H') X.xe s
noncomputable def zsa:TO:=λ_ H Q=>Q none H
noncomputable def tPart(t:TE):TO:=λσ H Q=>t σ H λx H1=>∃i,x=.int i/\Q (some i) H1
section
variable{X:Cx}{e:Expr}{te:TE}{lo hi:Option Expr}{tl th:TO}{pos p2:Pos}
theorem zsb:PO X none zsa:=by
 intro pins s σ H Q I h
 rw[evalPart_none]
 exact vae ⟨none,H,I,.none,h⟩
theorem zsc(h:PE X e te):PO X (some e) (tPart te):=by
 intro pins s σ H Q I hw
 rw[evalPart_some]
 refine thn (h pins s σ H _ I hw) λu s1 z9=>z9.el λx H1 I1 r1 q1=>?_
 obtain⟨i,rfl,q⟩:=q1
 obtain⟨t,rfl⟩:=r1
 exact⟨some i,H1,I1,.int i t,q⟩
noncomputable def SlR(X:Cx)(r:V->Option Int->Option Int->Hp->VK->Prop):Prop:=
 ∀(pins:List (Addr×Obj))(s:Shared)(σ:St)(H:Hp)(x:V)(v vl vu:Value)(lo hi:Option Int)(sl:Addr)(Q:VK),Inv X pins σ H s->RelV x v->s.heap.IsSliceOf sl vl vu .none->IsPart vl lo->IsPart vu hi->r x lo hi H Q->
  ∃T id,typeLookup (.type T) "__getitem__" = pure (some (.builtin id))/\s.TypeIs v T/\wpAny (model X.prog X.w) X.A (getItem v (.ref sl)) (EP X pins σ Q) X.xe s
theorem SlR.or{r r':V->Option Int->Option Int->Hp->VK->Prop}(h:SlR X r)(h':SlR X r'):SlR X (λx lo hi H Q=>r x lo hi H Q\/r' x lo hi H Q):=by
 intro pins s σ H x v vl vu lo hi sl Q I rx hs pl pu q
 rcases q with q|q
 .exact h pins s σ H x v vl vu lo hi sl Q I rx hs pl pu q
 .exact h' pins s σ H x v vl vu lo hi sl Q I rx hs pl pu q
noncomputable def tSl(r:V->Option Int->Option Int->Hp->VK->Prop)(te:TE)(tl th:TO):TE:=λσ H Q=>te σ H λx H1=>tl σ H1 λl H2=>th σ H2 λu H3=>r x l u H3 Q
theorem zo0{r:V->Option Int->Option Int->Hp->VK->Prop}(hr:SlR X r)(he:PE X e te)(hl:PO X lo tl)(hu:PO X hi th):PE X (.Subscript e (.Slice lo hi none p2) pos) (tSl r te tl th):=by
 intro pins s σ H Q I h
 refine Subscript_ (thn (he pins s σ H _ I h) λv s1 z9=>z9.el λx H1 I1 r1 q1=>?_)
 refine wpAny_Slice (thn (hl pins s1 σ H1 _ I1 q1) λvl s2 ⟨l,H2,I2,pl,q2⟩=>thn (hu pins s2 σ H2 _ I2 q2) λvu s3 hq0=>?_)
 obtain⟨u,H3,I3,pu,q3⟩:=hq0
 rw[evalPart_none]
 refine vae ?_
 have I4:Inv X pins σ H3 {s3 with heap:=s3.heap.push {cls:=.type "slice",data:=.fields #[vl,vu,.none]}}:=I3.kept (t':=s3.toks) λb ob q=>vac _ q
 obtain⟨T,id,hT,ht,hg⟩:=hr pins {s3 with heap:=s3.heap.push {cls:=.type "slice",data:=.fields #[vl,vu,.none]}} σ H3 x v vl vu l u s3.heap.objs.size Q I4 r1 (Heap.IsSliceOf.new ..) pl pu q3
 show wpAny (model X.prog X.w) X.A (subscriptTail e (.Slice lo hi none p2) v (.ref s3.heap.objs.size)) (EP X pins σ Q) X.xe {s3 with heap:=s3.heap.push {cls:=.type "slice",data:=.fields #[vl,vu,.none]}}
 exact tail_any (ops:=[.ref s3.heap.objs.size,v]) ht hT hg (by with_unfolding_all rfl)
noncomputable def cutV(xs:List V)(lo hi:Option Int):List V:=(xs.drop (HT.sIx xs.length 0 lo)).take (HT.sIx xs.length xs.length hi-HT.sIx xs.length 0 lo)
theorem zdo(xs:List V)(lo hi:Option Int):(cutV xs lo hi).length<=xs.length:=by
 unfold cutV
 rw[List.length_take,List.length_drop]
 omega
noncomputable def rSlT(K:vga):V->Option Int->Option Int->Hp->VK->Prop:=λx lo hi H Q=>∃a xs,x=.ref a/\SqT K H a xs/\
 ¬(HT.sIx xs.length 0 lo=0/\HT.sIx xs.length xs.length hi=xs.length)/\∀p,H p=none->Q (.ref p) (upd H p (.tup (cutV xs lo hi)))
theorem zve:SlR X (rSlT X.K):=by
 intro pins s σ H x v vl vu lo hi sl Q I rx hs pl pu h
 obtain⟨a,xs,rfl,hx,hw,q⟩:=h
 cases rx
 obtain⟨its,r,ht,hz⟩:=I.tuple hx
 have hlen:its.toArray.size=xs.length:=by rw[vam];exact r.length.symm
 refine⟨"tuple",_,vbq.lookup,ht.typeIs,?_⟩
 refine HT.getItem_tuple_cut ht hs pl pu (by rw[hlen];exact hw) ?_ (by rw[hlen];exact hz)
 rw[hlen]
 refine⟨.ref s.heap.objs.size,_,I.laid (t':=s.toks) (o:=.tup (cutV xs lo hi)) (λb ob q=>vac _ q) (vad _) ?_,rfl,q _ (I.hok.fresh (vad _))⟩
 exact⟨vbo (zdo xs lo hi) hz,_,(r.drop (HT.sIx xs.length 0 lo)).take (HT.sIx xs.length xs.length hi-HT.sIx xs.length 0 lo),zbl.new _ _⟩
end
noncomputable def ixN(n:Nat)(i:Int):Option Nat:=if 0<=i then(if i<n then some i.toNat else none)else if -(n:Int)<=i then some (i+n).toNat else none
noncomputable def atI{α:Type}(xs:List α)(i:Int):Option α:=(ixN xs.length i).bind λj=>xs[j]?
theorem zlr{n:Nat}{i:Int}{j:Nat}(h:ixN n i=some j):seqIndex? i n=some j/\j<n/\-(n:Int)<=i/\i<n:=by
 unfold ixN at h
 by_cases h0:0<=i
 .rw[if_pos h0]at h
  by_cases h1:i<n
  .rw[if_pos h1]at h
   have e:i.toNat=j:=vbl h
   exact⟨by rw[vfm h0 h1,e],by omega,by omega,h1⟩
  .rw[if_neg h1]at h;cases h
 .rw[if_neg h0]at h
  by_cases h1:-(n:Int)<=i
  .rw[if_pos h1]at h
   have e:(i+n).toNat=j:=vbl h
   exact⟨by rw[seqIndex_neg (by omega) h1,e],by omega,h1,by omega⟩
  .rw[if_neg h1]at h;cases h
theorem zls{α:Type}{xs:List α}{i:Int}{v:α}(h:atI xs i=some v):∃j,seqIndex? i xs.length=some j/\xs[j]?=some v/\j<xs.length/\-(xs.length:Int)<=i/\i<xs.length:=by
 unfold atI at h
 cases e:ixN xs.length i with
 |none=>rw[e]at h;cases h
 |some j=>
  rw[e]at h
  obtain⟨h1,h2,h3,h4⟩:=zlr e
  exact⟨j,h1,h,h2,h3,h4⟩
theorem zbf{α:Type}{xs:List α}{j:Nat}{v:α}(h:xs[j]?=some v):atI xs (j:Int)=some v:=by
 have hj:j<xs.length:=(vaq.mp h).1
 have e:ixN xs.length (j:Int)=some j:=by
  unfold ixN
  rw[if_pos (by omega),if_pos (by omega)];simp
 unfold atI;rw[e];exact h
noncomputable def zhq(b:Expr):Prop:=∀o i,subscripted b false o i=operate [o,i] (getItem o i)
noncomputable def IxR(X:Cx)(r:R2):Prop:=
 ∀(value slice:Expr)(pins:List (Addr×Obj))(s:Shared)(σ:St)(H:Hp)(x y:V)(v u:Value)(Q:VK),Inv X pins σ H s->RelV x v->RelV y u->r x y H Q->
  subscripted slice false v u=operate [v,u] (getItem v u)->wpAny (model X.prog X.w) X.A (subscriptTail value slice v u) (EP X pins σ Q) X.xe s
noncomputable def MtR(X:Cx)(id:String)(r:V->List V->Hp->VK->Prop):Prop:=
 ∀(pins:List (Addr×Obj))(s:Shared)(σ:St)(H:Hp)(x:V)(xs:List V)(v:Value)(us:List Value)(Q:VK),Inv X pins σ H s->RelV x v->Vals xs us->r x xs H Q->
  wpAny (model X.prog X.w) X.A (call (.builtin id) (v::us)) (EP X pins σ Q) X.xe s
section
variable{X:Cx}{a b:Expr}{ta tb:TE}{pos:Pos}
theorem IxR.or{r r':R2}(h:IxR X r)(h':IxR X r'):IxR X (λx y H Q=>r x y H Q\/r' x y H Q):=by
 intro value slice pins s σ H x y v u Q I rx ry q hs
 rcases q with q|q
 .exact h value slice pins s σ H x y v u Q I rx ry q hs
 .exact h' value slice pins s σ H x y v u Q I rx ry q hs
theorem pe_ix{r:R2}(hr:IxR X r)(ha:PE X a ta)(hb:PE X b tb)(hs:zhq b):PE X (.Subscript a b pos) (tOp r ta tb):=by
 intro pins s σ H Q I h
 exact Subscript_ (binT ha hb I h λv u s2 x y H2 I2 rx ry q=>hr a b pins s2 σ H2 x y v u Q I2 rx ry q (hs _ _))
noncomputable def rIxL(K:vga):R2:=λx y H Q=>∃p xs i v,x=.ref p/\y=.int i/\SqL K H p xs/\atI xs i=some v/\Q v H
noncomputable def rIxT(K:vga):R2:=λx y H Q=>∃p xs i v,x=.ref p/\y=.int i/\SqT K H p xs/\atI xs i=some v/\Q v H
theorem zsd:IxR X (rIxL X.K):=by
 intro value slice pins s σ H x y v u Q I rx ry h hs
 obtain⟨p,xs,i,z,rfl,rfl,hq,he,q⟩:=h
 cases rx
 obtain⟨t,rfl⟩:=ry
 obtain⟨its,r,pl,hz⟩:=I.list hq
 obtain⟨j,h1,h2,h3,h4,h5⟩:=zls he
 obtain⟨w,ew,rw'⟩:=r.get h2
 have hl:=r.length
 have hn:=zgd
 have fin:EP X pins σ Q w s:=⟨z,H,I,rw',q⟩
 by_cases h0:0<=i
 .have hj:i.toNat=j:=by
   rw[vfm h0 h5]at h1
   exact vbl h1
  exact item_listR pl.isList h0 (by omega) (by rw[hj];simpa using ew) fin hs
 .have hj:(i+ (its.toArray.size:Int)).toNat=j:=by
   rw[seqIndex_neg (by omega) h4]at h1
   rw[vam,<-hl]
   exact vbl h1
  exact subscriptTail_builtinR (x:=w) pl.isList.typeIs slot_list_getitem.lookup
   (wpAny_getItem_list_neg (Q:=λr s'=>r=w/\EP X pins σ Q r s') pl.isList (by omega) (by rw[vam]<;>omega) (by omega) (by rw[hj];simpa using ew) ⟨rfl,fin⟩) hs
theorem zvf:IxR X (rIxT X.K):=by
 intro value slice pins s σ H x y v u Q I rx ry h hs
 obtain⟨p,xs,i,z,rfl,rfl,hq,he,q⟩:=h
 cases rx
 obtain⟨t,rfl⟩:=ry
 obtain⟨its,r,pl,hz⟩:=I.tuple hq
 obtain⟨j,h1,h2,h3,h4,h5⟩:=zls he
 obtain⟨w,ew,rw'⟩:=r.get h2
 have hl:=r.length
 have hn:=zgd
 have fin:EP X pins σ Q w s:=⟨z,H,I,rw',q⟩
 exact subscriptTail_builtinR (x:=w) pl.typeIs slot_tuple_getitem.lookup
  (getItem_tuple (j:=j) (Q:=λr s'=>r=w/\EP X pins σ Q r s') pl (by omega) (by omega) (by rw[vam,<-hl];exact h1) (by simpa using ew) ⟨rfl,fin⟩) hs
theorem zkl(its:List Value)(n j:Nat)(u:Value):Obj.mapSeq (·.setIfInBounds j u) {cls:=.type "list",data:=.seq its.toArray n} ={cls:=.type "list",data:=.seq (its.set j u).toArray n}:=by
 simp[Obj.mapSeq]
theorem Inv.lst{pins:List (Addr×Obj)}{σ:St}{H:Hp}{s:Shared}{p:Addr}{xs:List V}(I:Inv X pins σ H s)(h:H p=some (.lst xs)) :
 ∃(its:List Value) (n:Nat),Vals xs its/\s.heap.get? p=some {cls:=.type "list",data:=.seq its.toArray n}/\xs.length<=sizeLine:=by
 obtain⟨z,its,n,r,e⟩:=I.hok p _ h
 exact⟨its,n,r,e,z⟩
theorem Inv.lstUpd{pins:List (Addr×Obj)}{σ:St}{H:Hp}{s:Shared}{p:Addr}{xs ys:List V}{its its':List Value}{n n':Nat}{f:Obj->Obj}(I:Inv X pins σ H s)(h:H p=some (.lst xs))
 (ho:s.heap.get? p=some {cls:=.type "list",data:=.seq its.toArray n}) (hf:f {cls:=.type "list",data:=.seq its.toArray n} ={cls:=.type "list",data:=.seq its'.toArray n'}) (r:Vals ys its') (hz:ys.length<=sizeLine) (t:Nat) :
 Inv X pins σ (upd H p (.lst ys)) {s with heap:=s.heap.update p f,toks:=t}:=by
 have e:(s.heap.update p f).get? p=some {cls:=.type "list",data:=.seq its'.toArray n'}:=by
  rw[vc3 f ho (by rw[hf]<;>rfl),hf]
 refine I.write (x:=p) (e:=p) (by rw[h];trivial) (.inl rfl) (λb u hb q=>(Heap.get?_update_other _ _ (vb6 hb)).trans q) ⟨_,e⟩ ?_
 exact⟨hz,its',n',r,e⟩
noncomputable def rSetL:V->V->V->Hp->(Hp->Prop)->Prop:=λo i v H Q=>∃p xs k j,o=.ref p/\i=.int k/\H p=some (.lst xs)/\ixN xs.length k=some j/\Q (upd H p (.lst (xs.set j v)))
theorem zo1:PSet X rSetL:=by
 intro pins s σ H o i v ov iv u Q I ro ri rv h
 obtain⟨p,xs,k,j,rfl,rfl,hp,hj,q⟩:=h
 cases ro
 obtain⟨t,rfl⟩:=ri
 obtain⟨its,n,r,ho,hz⟩:=I.lst hp
 obtain⟨h1,h2,h3,h4⟩:=zlr hj
 have hl:=r.length
 have hn:=zgd
 have I':Inv X pins σ (upd H p (.lst (xs.set j v))) {s with heap:=s.heap.update p (Obj.mapSeq (·.setIfInBounds j u))}:=
  I.lstUpd hp ho (zkl its n j u) (r.set rv j) (by rw[ved];exact hz) s.toks
 by_cases h0:0<=k
 .have hk:k.toNat=j:=by
   rw[vfm h0 h4]at h1
   exact vbl h1
  exact PySem.W.ki_setAt ho h0 (by omega) (by rw[vam,<-hl];exact h4) (by rw[hk];exact⟨_,I',q⟩)
 .have hk:(k+ (its.toArray.size:Int)).toNat=j:=by
   rw[seqIndex_neg (by omega) h3]at h1
   rw[vam,<-hl]
   exact vbl h1
  exact PySem.W.ki_setBack ho (by omega) (by rw[vam,<-hl];exact h3) (by omega) (by rw[hk];exact⟨_,I',q⟩)
theorem zgi(lo hi:Option Int)(n:Nat):(sliceBounds lo hi none n).1=((HT.sIx n 0 lo:Nat):Int)/\(sliceBounds lo hi none n).2.1=((HT.sIx n n hi:Nat):Int)/\(sliceBounds lo hi none n).2.2=1:=by
 refine⟨?_,?_,rfl⟩
 .cases lo with
  |none=>simp[sliceBounds,HT.sIx]
  |some i=>
   simp only[sliceBounds,HT.sIx,Option.getD_none,show(1:Int)>0 by decide,va8]
   by_cases h:i<0
   .simp only[h,va8]<;>omega
   .simp only[h,va7]<;>omega
 .cases hi with
  |none=>simp[sliceBounds,HT.sIx]
  |some i=>
   simp only[sliceBounds,HT.sIx,Option.getD_none,show(1:Int)>0 by decide,va8]
   by_cases h:i<0
   .simp only[h,va8]<;>omega
   .simp only[h,va7]<;>omega
theorem zfe(its:List Value)(lo hi:Option Int):slicePick its.toArray lo hi none=((its.drop (HT.sIx its.length 0 lo)).take (HT.sIx its.length its.length hi-HT.sIx its.length 0 lo)).toArray:=by
 obtain⟨h1,h2,h3⟩:=zgi lo hi its.toArray.size
 unfold slicePick
 rw[h1,h2,h3]
 simp only[sliceRange_one,pick_run,vam]<;>rfl
noncomputable def rSlL(K:vga):V->Option Int->Option Int->Hp->VK->Prop:=λx lo hi H Q=>∃a xs,x=.ref a/\SqL K H a xs/\∀p,H p=none->Q (.ref p) (upd H p (.lst (cutV xs lo hi)))
theorem zse:SlR X (rSlL X.K):=by
 intro pins s σ H x v vl vu lo hi sl Q I rx hs pl pu h
 obtain⟨a,xs,rfl,hx,q⟩:=h
 cases rx
 obtain⟨its,r,ht,hz⟩:=I.list hx
 have hlen:=r.length
 refine⟨"list",_,slot_list_getitem.lookup,ht.isList.typeIs,?_⟩
 refine wpAny_getItem_list_slice ht.isList hs pl pu .none (by simp) ?_ (by rw[vam]<;>omega)
 rw[zfe,<-hlen]
 refine⟨.ref s.heap.objs.size,_,I.laid (t':=s.toks) (o:=.lst (cutV xs lo hi)) (λb ob q=>vac _ q) (vad _) ?_,rfl,q _ (I.hok.fresh (vad _))⟩
 exact⟨vbo (zdo xs lo hi) hz,_,0,(r.drop (HT.sIx xs.length 0 lo)).take (HT.sIx xs.length xs.length hi-HT.sIx xs.length 0 lo),vao _ rfl⟩
theorem zgj:CallR X (.builtin "len") (λxs H Q=>∃p ys,xs=[.ref p]/\(SqL X.K H p ys\/SqT X.K H p ys)/\Q (.int ys.length) H):=by
 intro pins s σ H xs us Q I r h
 obtain⟨p,ys,rfl,hq,q⟩:=h
 obtain⟨u,rfl,rx⟩:=vals1 r
 cases rx
 have hn:=zgd
 rcases hq with hq|hq
 .obtain⟨its,r',pl,hz⟩:=I.list hq
  have hlen:=r'.length
  exact Calls.call_len_list pl.isList (by simp only[vam]<;>omega) ⟨.int ys.length,H,I.tok _,⟨s.toks+1,by rw[vam,hlen]⟩,q⟩
 .obtain⟨its,r',pl,hz⟩:=I.tuple hq
  have hlen:=r'.length
  exact len_tuple pl (by simp only[vam]<;>omega) ⟨.int ys.length,H,I.tok _,⟨s.toks+1,by rw[vam,hlen]⟩,q⟩
theorem CallR.or{f:Value}{r r':List V->Hp->VK->Prop}(h:CallR X f r)(h':CallR X f r'):CallR X f (λxs H Q=>r xs H Q\/r' xs H Q):=by
 intro pins s σ H xs us Q I rs q
 rcases q with q|q
 .exact h pins s σ H xs us Q I rs q
 .exact h' pins s σ H xs us Q I rs q
theorem zgk:CallR X (.type "list") (λxs H Q=>∃p ys,xs=[.ref p]/\(SqL X.K H p ys\/SqT X.K H p ys)/\∀l,H l=none->Q (.ref l) (upd H l (.lst ys))):=by
 intro pins s σ H xs us Q I r h
 obtain⟨p,ys,rfl,hq,q⟩:=h
 obtain⟨u,rfl,rx⟩:=vals1 r
 cases rx
 have fin:∀(its:List Value),Vals ys its->ys.length<=sizeLine->∀(h':Heap)(c':Nat),(∀b o',s.heap.get? b=some o'->h'.get? b=some o')->
  h'.get? s.heap.objs.size=some {cls:=.type "list",dict:=none,data:=.seq its.toArray c',slots:=#[]}->EP X pins σ Q (.ref s.heap.objs.size) {s with heap:=h'}:=λits r' hz h' c' kp e=>
  ⟨.ref s.heap.objs.size,_,I.laid (t':=s.toks) kp (vad _) (show ObjOk X.prog X.w _ h' _ (.lst ys)from⟨hz,its,c',r',e⟩),rfl,q _ (I.hok.fresh (vad _))⟩
 rcases hq with hq|hq
 .obtain⟨its,r',pl,hz⟩:=I.list hq
  have hlen:=r'.length
  obtain⟨o,ho,hc,n,hd⟩:=pl.isList
  exact call_list_seq p (.inl rfl) ho hc hd (λh' c' kp e=>fin its r' hz h' c' kp e) (by simp only[vam]<;>omega)
 .obtain⟨its,r',pl,hz⟩:=I.tuple hq
  have hlen:=r'.length
  obtain⟨o,ho,hc,n,hd⟩:=pl
  exact call_list_seq p (.inr rfl) ho hc hd (λh' c' kp e=>fin its r' hz h' c' kp e) (by simp only[vam]<;>omega)
theorem zff:CallR X (.type "tuple") (λxs H Q=>∃p ys,xs=[.ref p]/\((SqL X.K H p ys/\∀l,H l=none->Q (.ref l) (upd H l (.tup ys)))\/(SqT X.K H p ys/\Q (.ref p) H))):=by
 intro pins s σ H xs us Q I r h
 obtain⟨p,ys,rfl,h⟩:=h
 obtain⟨u,rfl,rx⟩:=vals1 r
 cases rx
 rcases h with⟨hq,q⟩|⟨hq,q⟩
 .obtain⟨its,r',pl,hz⟩:=I.list hq
  have hlen:=r'.length
  refine call_tuple_list pl.isList (λh' kp=>?_) (by simp only[vam]<;>omega)
  have I1:Inv X pins σ H {s with heap:=h'}:=I.kept (t':=s.toks) kp
  have I2:Inv X pins σ (upd H h'.objs.size (.tup ys)) {s with heap:=h'.push {cls:=.type "tuple",data:=.seq its.toArray}}:=
   I1.laid (t':=s.toks) (λb o e=>vac _ e) (vad _) (show ObjOk X.prog X.w _ _ _ (.tup ys)from⟨hz,its,r',zbl.new _ _⟩)
  exact⟨.ref h'.objs.size,_,I2,rfl,q _ (I1.hok.fresh (vad _))⟩
 .obtain⟨its,r',pl,hz⟩:=I.tuple hq
  exact call_tuple_same pl ⟨.ref p,H,I,rfl,q⟩
noncomputable def tyV(K:vga)(T:String)(x:V)(H:Hp):Prop:=match x with
 |.str _=>T = "str"
 |.int _=>T = "int"
 |.ref p=>(T = "list"/\∃xs,SqL K H p xs)\/(T = "tuple"/\∃xs,SqT K H p xs)\/
  (T = "dict"/\((∃kvs,H p=some (.dK kvs))\/∃kvs,H p=some (.dT kvs)))\/(T = "set"/\∃S n,H p=some (.set S n))
 |_=>False
theorem zvg{pins:List (Addr×Obj)}{σ:St}{H:Hp}{s:Shared}{T:String}{x:V}{v:Value}(I:Inv X pins σ H s)(r:RelV x v)(ty:tyV X.K T x H) :
 s.TypeIs v T/\∀a,v=.ref a->∃ob,s.heap.get? a=some ob/\ob.dict=none:=by
 cases x with
 |str z=>
  obtain⟨t,rfl⟩:=r
  cases(show T = "str"from ty)
  exact⟨typeIs_str s z t,λ_ e=>nomatch e⟩
 |int i=>
  obtain⟨t,rfl⟩:=r
  cases(show T = "int"from ty)
  exact⟨typeIs_int s i t,λ_ e=>nomatch e⟩
 |ref p=>
  cases r
  rcases ty with⟨rfl,xs,hq⟩|⟨rfl,xs,hq⟩|⟨rfl,hk⟩|⟨rfl,S,n,hk⟩
  .obtain⟨its,_,pl,_⟩:=I.list hq
   refine⟨pl.isList.typeIs,λa e=>?_⟩
   cases e
   obtain⟨o,n,e,c,hd,_⟩:=pl
   exact⟨o,e,hd⟩
  .obtain⟨its,_,⟨o,h1,h2,_,h3⟩,_⟩:=I.tupleD hq
   refine⟨⟨o,h1,h2⟩,λa e=>?_⟩
   cases e
   exact⟨o,h1,h3⟩
  .have z:∃o,s.heap.get? p=some o/\o.ExactDict:=by
    rcases hk with⟨kvs,hk⟩|⟨kvs,hk⟩
    .obtain⟨_,_,_,_,o,_,_,e,ex,_⟩:=I.hok p _ hk
     exact⟨o,e,ex⟩
    .obtain⟨_,_,_,_,o,_,_,e,ex,_⟩:=I.hok p _ hk
     exact⟨o,e,ex⟩
   obtain⟨o,e,ex⟩:=z
   refine⟨⟨o,e,ex.1⟩,λa e2=>?_⟩
   cases e2
   exact⟨o,e,ex.2.1⟩
  .obtain⟨o,_,_,_,e,ex,_⟩:=I.hok p _ hk
   refine⟨⟨o,e,ex.1⟩,λa e2=>?_⟩
   cases e2
   exact⟨o,e,ex.2.1⟩
 |_=>exact False.elim ty
noncomputable def tBM(K:vga)(T:String)(r:V->List V->Hp->VK->Prop)(to:TE)(t:TA):TE:=λσ H Q=>to σ H λx H1=>tyV K T x H1/\t σ H1 λxs H2=>r x xs H2 Q
variable{o e:Expr}{es:List Expr}{to:TE}{t:TA}{name:Str}{apos cpos:Pos}{T id:String}{r:V->List V->Hp->VK->Prop}
theorem pe_bm(pa:PlainAttrs T)(slot:Slot T name id)(hty:typeOf (.builtin id)=pure (.type "method_descriptor"))(hm:MtR X id r)(ho:PE X o to)(ha:PA X (e::es) t)
 (hbase:attributeBase o name X.env (eval o X.env)=eval o X.env:=by rfl)
 (hfew:((backTo cpos (starEach (e::es) X.env)).all (λx=>!x.1)&& (backToKw cpos (keywordEach [] X.env)).all (λx=>x.1.isSome)
   && decide ((e::es).length+ ([]:List Keyword).length+ (if([]:List Keyword).isEmpty then 0 else 1)<30))=true:=by rfl)
 (hline:(apos.endLine==cpos.line)=true:=by rfl) (hs:starEach (e::es) X.env=(false,eval e X.env)::starEach es X.env:=by rfl) (hplain:(backTo cpos (starEach es X.env)).any (·.1)=false:=by rfl) :
 PE X (.Call (.Attribute o name apos) (e::es) [] cpos) (tBM X.K T r to t):=by
 intro pins s σ H Q I h
 refine wpAny_Call_method_late hbase hfew hline rfl (thn (ho pins s σ H _ I h) λv s1 z9=>z9.el λx H1 I1 r1 hq0=>?_)
 obtain⟨ty,q1⟩:=hq0
 obtain⟨h1,h2⟩:=zvg I1 r1 ty
 refine⟨T,id,pa,slot,hty,h1,h2,?_⟩
 have hA:=ha cpos pins s1 σ H1 _ I1 q1
 rw[hs]at hA ⊢
 refine Calls.callWith_builtin (by show(false|| (backTo cpos (starEach es X.env)).any (·.1))=false;rw[hplain]<;>rfl) (Calls.evalArgs_plain ?_)
 exact thn hA λus s2 z9=>z9.el λvs H2 I2 r2 q2=>hm pins s2 σ H2 x vs v us Q I2 r1 r2 q2
/- xs.append(e),list.index on a module's tuple .. are MtR facts of 06m -/
end
noncomputable def MtM(X:Cx)(id:String)(r:V->List V->Hp->VK->Prop):Prop:=
 ∀(pins:List (Addr×Obj))(s:Shared)(σ:St)(H:Hp)(x:V)(xs:List V)(v:Value)(us:List Value)(Q:VK),Inv X pins σ H s->RelV x v->Vals xs us->r x xs H Q->
  wpAny (model X.prog X.w) X.A (call (.builtin id) (v::us)) (EP X pins σ Q) X.xe s
theorem Vals.one:∀{x:V} {us:List Value},Vals [x] us->∃u,us=[u]/\RelV x u
 |_,_,.cons r .nil=>⟨_,rfl,r⟩
theorem Vals.rep{xs:List V}{us:List Value}(h:Vals xs us):∀k:Nat,Vals (vgc k xs).flatten (vgc k us).flatten
 |0=>.nil
 |k+1=>by
  rw[vbn,vbn,vdg,vdg]
  exact Vals.append h (Vals.rep h k)
theorem zgl(its:List Value):∀(k:Nat) (acc:List Value),
 List.foldl (λx1 x2=>x1++x2) acc.toArray (vgc k its.toArray)=(acc++(vgc k its).flatten).toArray
 |0,acc=>by simp
 |k+1,acc=>by
  have e:acc.toArray++its.toArray=(acc++its).toArray:=by simp
  have e2:(acc++its)++(vgc k its).flatten=acc++(vgc (k+1) its).flatten:=by
   rw[vbn,vdg,vd2]
  rw[<-e2,<-zgl its k (acc++its),<-e,vbn,List.foldl_cons]
section
variable{X:Cx}{pins:List (Addr×Obj)}{σ:St}{H:Hp}{s:Shared}{l b:Addr}{xs ys zs:List V}
theorem Inv.lset{its its':List Value}{n:Nat}{f:Array Value->Array Value}{t':Nat}(I:Inv X pins σ H s)(hH:H l=some (.lst xs))
 (e:s.heap.get? l=some {cls:=.type "list",data:=.seq its.toArray n}) (hf:f its.toArray=its'.toArray) (hv:Vals ys its') (hz:ys.length<=sizeLine) :
 Inv X pins σ (upd H l (.lst ys)) {s with heap:=s.heap.update l (Obj.mapSeq f),toks:=t'}:=by
 have q:=PySem.IsL.update e f
 rw[hf]at q
 refine I.write (x:=l) (e:=l) (by rw[hH];exact trivial) (.inl rfl) (λb' u hb hu=>(Heap.get?_update_other s.heap (Obj.mapSeq f) (vb6 hb)).trans hu) ⟨_,q⟩ ?_
 exact⟨hz,its',_,hv,q⟩
theorem Inv.lnew{its:List Value}{t':Nat}(I:Inv X pins σ H s)(hv:Vals ys its)(hz:ys.length<=sizeLine) :
 Inv X pins σ (upd H s.heap.objs.size (.lst ys)) {s with heap:=s.heap.push {cls:=.type "list",data:=.seq its.toArray},toks:=t'}:=
 I.laid (λ_ _ q=>vac _ q) (vad _) ⟨hz,its,0,hv,vao _ rfl⟩
theorem Inv.fresh(I:Inv X pins σ H s):H s.heap.objs.size=none:=I.hok.fresh (vad _)
theorem Inv.lstM(I:Inv X pins σ H s)(hH:H l=some (.lst xs)):xs.length<=sizeLine/\∃(its:List Value) (n:Nat),Vals xs its/\xs.length=its.length/\s.heap.get? l=some {cls:=.type "list",data:=.seq its.toArray n}:=by
 obtain⟨z,its,n,r,e⟩:=I.hok l _ hH
 exact⟨z,its,n,r,r.length,e⟩
theorem zi0{n:Nat}(h:n<=sizeLine):Builtin.List.listTooLong n=false:=by
 unfold Builtin.List.listTooLong
 exact vay (by omega)
end
section
variable{X:Cx}
noncomputable def zsf:V->List V->Hp->VK->Prop:=λx vs H Q=>∃l xs y,x=.ref l/\vs=[y]/\H l=some (.lst xs)/\xs.length<sizeLine/\Q .non (upd H l (.lst (xs++[y])))
theorem zgm:MtM X "list.append" zsf:=by
 intro pins s σ H x vs v us Q I rx rv h
 obtain⟨l,xs,y,rfl,rfl,hH,hz,q⟩:=h
 cases rx
 obtain⟨u,rfl,ru⟩:=rv.one
 obtain⟨z,its,n,r,hl,e⟩:=I.lstM hH
 refine call_meets F.slot_list_append ⟨_,e,rfl⟩ F.entry_list_append (F.args_list_append_2 _ _) (PySem.list_append l its.toArray n u (by rw[vam];omega)) ⟨e,?_⟩
 refine⟨.non,_,I.lset (its':=its++[u]) hH e (by simp) (r.append (.cons ru .nil)) ?_,rfl,q⟩
 rw[vax,vco]
 omega
noncomputable def zsg:V->List V->Hp->VK->Prop:=λx vs H Q=>∃l b xs zs,x=.ref l/\vs=[.ref b]/\H l=some (.lst xs)/\H b=some (.lst zs)/\xs.length+zs.length<=sizeLine/\Q .non (upd H l (.lst (xs++zs)))
theorem zvh:MtM X "list.extend" zsg:=by
 intro pins s σ H x vs v us Q I rx rv h
 obtain⟨l,b,xs,zs,rfl,rfl,hH,hB,hz,q⟩:=h
 cases rx
 obtain⟨u,rfl,ru⟩:=rv.one
 cases ru
 obtain⟨z,its,n,r,hl,e⟩:=I.lstM hH
 obtain⟨z2,its2,n2,r2,hl2,e2⟩:=I.lstM hB
 have hsz:its.toArray.size+its2.toArray.size<=sizeLine:=by rw[vam,vam];omega
 have hlong:¬(!its.toArray.isEmpty&&Builtin.List.listTooLong (its.toArray.size+its2.toArray.size))=true:=by
  rw[zi0 hsz,Bool.and_false]
  exact vbr
 refine call_meets F.slot_list_extend ⟨_,e,rfl⟩ F.entry_list_extend (F.args_list_extend_2 _ _)
  (AutoSeq1.list_extend_list_list_0 l its.toArray n b its2.toArray n2 hlong (by rw[vam];omega) (by omega)) ⟨e,e2,?_⟩
 refine⟨.non,_,I.lset (its':=its++its2) hH e (by simp) (r.append r2) ?_,rfl,q⟩
 rw[vax]
 omega
noncomputable def rCat:R2:=λx y H Q=>∃l b xs zs,x=.ref l/\y=.ref b/\H l=some (.lst xs)/\H b=some (.lst zs)/\xs.length+zs.length<=sizeLine/\∀p,H p=none->Q (.ref p) (upd H p (.lst (xs++zs)))
theorem zvi:OpR X (binaryOp .Add) rCat:=by
 intro pins s σ H x y v u Q I rx ry h
 obtain⟨l,b,xs,zs,rfl,rfl,hH,hB,hz,q⟩:=h
 cases rx
 cases ry
 obtain⟨z,its,n,r,hl,e⟩:=I.lstM hH
 obtain⟨z2,its2,n2,r2,hl2,e2⟩:=I.lstM hB
 refine PySem.P.add_list e e2 ?_ (by rw[vam,vam];omega)
 have ea:its.toArray++its2.toArray=(its++its2).toArray:=by simp
 rw[ea]
 exact⟨.ref _,_,I.lnew (t':=s.toks) (r.append r2) (by rw[vax];omega),rfl,q _ I.fresh⟩
noncomputable def rRep:R2:=λx y H Q=>∃l k xs,x=.ref l/\y=.int k/\H l=some (.lst xs)/\-(2 ^ 63)<=k/\k<2 ^ 63/\xs.length*k.toNat<=sizeLine/\
 ∀p,H p=none->Q (.ref p) (upd H p (.lst (vgc k.toNat xs).flatten))
theorem zsh{α:Type}(xs:List α)(k:Nat):(vgc k xs).flatten.length=k*xs.length:=by
 induction k with
 |zero=>simp
 |succ k ih=>rw[vbn,vdg,vax,ih,Nat.succ_mul,Nat.add_comm]
theorem zvj:OpR X (binaryOp .Mult) rRep:=by
 intro pins s σ H x y v u Q I rx ry h
 obtain⟨l,k,xs,rfl,rfl,hH,h1,h2,hz,q⟩:=h
 cases rx
 obtain⟨t,rfl⟩:=ry
 obtain⟨z,its,n,r,hl,e⟩:=I.lstM hH
 have hlen:its.toArray.size*k.toNat<=sizeLine:=by rw[vam,<-hl];exact hz
 have hcap:¬its.toArray.size*k.toNat> (2 ^ 63-1)/8:=by
  have:(sizeLine:Nat)<=(2 ^ 63-1)/8:=by decide
  omega
 have hfit:¬(!Builtin.List.listFitsIndex k)=true:=by
  rw[fitsIndex_both h1 h2]
  exact vbr
 have hlong:¬Builtin.List.listTooLong (its.toArray.size*k.toNat)=true:=by
  rw[zi0 hlen]
  exact vbr
 have hnew:List.foldl (λx1 x2=>x1++x2) #[] (vgc (if its.toArray.isEmpty=true then 0 else k.toNat) its.toArray)=(vgc k.toNat its).flatten.toArray:=by
  have f0:∀m:Nat,List.foldl (λx1 x2=>x1++x2) #[] (vgc m its.toArray)=(vgc m its).flatten.toArray:=λm=>by
   have:=zgl its m []
   rw[vcc]at this
   exact this
  rw[f0]
  cases its with
  |nil=>simp
  |cons a r'=>rw[if_neg (by simp)]
 refine wpAny_binaryOp_repeat_ref (T:="list") (U:="int") (by decide) ⟨_,e,rfl⟩ (λs'=>typeIs_int s' k t) noFill_list_mul F.fills_int_mul F.slot_int_rmul repeat_list F.slot_int_index.lookup
  (call_meets F.slot_int_rmul (typeIs_int s k t) F.entry_int_rmul (F.args_int_rmul_2 _ _) (int___rmul___int_list k t l its.toArray n)
    ⟨e,rfl,⟨_,e,rfl⟩,call_meets F.slot_list_mul ⟨_,e,rfl⟩ F.entry_list_mul (F.args_list_mul_2 _ _) (AutoListH.list___mul___list_int_3 l its.toArray n k t hfit hcap hlong) ⟨e,?_⟩⟩)
 rw[hnew]
 exact⟨.ref _,_,I.lnew (t':=s.toks) (r.rep k.toNat) (by rw[zsh,Nat.mul_comm];exact hz),rfl,q _ I.fresh⟩
end
end L2
namespace Att
open PySem PySem.W PySem.Calls PyProof.Rows
theorem zdp{P:Params}{h:Heap}:∀(ns:List Int) (vs:List Value),WellAll P h vs (ns.map WData.int)->IntsAre vs ns:=by
 intro ns
 induction ns with
 |nil=>
  intro vs w
  rw[vdj]at w
  cases w
  exact .nil
 |cons n ns ih=>
  intro vs w
  rw[van]at w
  cases w with
  |cons a b=>
   cases a
   exact .cons _ _ (ih _ b)
theorem zlu{l:OpenLaw}{n:Nat}(hn:l.most=some n){P:Params}{h:Heap}{args:List WData}{vals:List Value}
 (hpre:l.row.toRowW.claim.pre args=true) (hwl:WellAll P h vals args) :
 ∃a vs ns,vals=[Value.ref a]/\args=[WData.list (ns.map WData.int)]/\h.get? a=some {cls:=.type "list",data:=.seq vs.toArray}/\IntsAre vs ns/\ns.length<=n:=by
 have hsh:WShape.hasAll [] args [.list .int]=true:=(pre_splitW hpre).1
 have hc:l.pre.holds [] {args:=args}=true:=(pre_splitW hpre).2
 obtain⟨d,r,rfl,h1,h2⟩:=hasAllW_cons hsh
 obtain rfl:=hasAllW_nil h2
 obtain⟨xs,rfl,h3⟩:=hasW_list h1
 obtain⟨ns,rfl⟩:=items_int h3
 have hlen:ns.length<=n:=by
  unfold OpenLaw.pre at hc
  have h4:(WTm.not (.lt (.lit (.int (n:Int))) (.len (.arg 0)))).holds [] {args:=[.list (ns.map .int)]}=true:=by
   have h4:=(holds_andW hc).1
   rw[hn]at h4
   exact h4
  have h5:=condW_of h4 (w_not (w_lt w_lit (w_len_list (w_arg rfl))))
  rw[vaf]at h5
  refine Nat.le_of_not_lt λq=>?_
  have q':(n:Int)< ((ns.length:Nat):Int):=by omega
  first
   |(rw[va1 q']at h5;exact absurd h5 (by decide))
   |(simp at h5;omega)
 cases hwl with
 |cons w1 w2=>
  cases w2
  cases w1 with
  |list ho hall=>exact⟨_,_,ns,rfl,rfl,ho,zdp ns _ hall,hlen⟩
theorem zlv(l:OpenLaw)(args:List WData):l.row.toRowW.claim.post args (.bool true) args=true:=
 postW_of (r:=l.row.toRowW) (X:=(true==true))
  (show WShape.has [] (.bool true) .bool=true by first|rfl|decide|simp[WShape.has,WShape.arms,WShape.armsAll])
  (show(WTm.eq .res (.lit (.bool true))).value [] {args:=args,res:=some (.bool true),after:=args}=some (.bool (true==true))from w_eq_bool (w_res rfl) w_lit) rfl
theorem attach_call{l:OpenLaw}{n:Nat}{q:Program}{loose:List Str}{XP:(Str->Option Value)->Heap->Prop}{YP:World->Heap->Prop}{d:DefRec}
 (hn:l.most=some n) (hdf:d.params.defaults=[])
 (call:∀(w:World)(s₀ s₁:Shared)(mg mb:Str->Option Value)(fa:Addr)(o:Obj)(pm cd doc:Value)(a:Addr)(vs:List Value)(ns:List Int),
   Ground q loose [] XP w s₀ mg mb s₁.heap->YP w s₁.heap->
   s₁.heap.get? fa=some o->o.data=.func (docDef d.name d.params d.body d.scope pm cd doc)->s₁.heap.CodeRec cd d.name->mg d.name=some (.ref fa)->
   s₁.heap.get? a=some {cls:=.type "list",data:=.seq vs.toArray}->IntsAre vs ns->ns.length<=n->s₁.gens = #[]->
   codeAny (model l.prog w) callerA (.call (.ref fa) ⟨[.ref a],[]⟩) (λr s'=>r=.ok (.ret (.bool true))/\OldK s₁.heap s'.heap/\s'.os=s₁.os/\AllBare s'.gens) s₁) :
 WalkO q loose XP YP l.row.toRowW d [] (λf vs=>PySem.call f vs):=by
 intro w s₀ s₁ mg mb G Y fa o pm cd doc dV kV ho hd hcd hD hmg hg args vals as hpre hlay hrd hwl hlo
 obtain rfl:dV=.none:=Dflts.none hD hdf
 obtain rfl:kV=.none:=Dflts.noKw hD
 obtain⟨a,vs,ns,rfl,rfl,hobj,hints,hlen⟩:=zlu hn hpre hwl
 refine enter_call (codeAny_mono (call w s₀ s₁ mg mb fa o pm cd doc a vs ns G Y ho (fd_plain hd) hcd hmg hobj hints hlen hg) λr s' hq=>?_)
 obtain⟨rfl,h2,h3,h4⟩:=hq
 exact⟨.inl ⟨.bool true,.bool true,[],rfl,λ_=>rfl,.bool true,zlv l _,λ_=>⟨List.Pairwise.nil,λ_ hm=>(nomatch hm)⟩⟩,h2,h3,h4⟩
end Att
namespace L2
open PySem PySem.Spec PyProof.Rows
theorem zgn:∀{vs:List Value} {ns:List Int},IntsAre vs ns->Vals (ns.map V.int) vs
 |_,_,.nil=>.nil
 |_,_,.cons n t h=>.cons ⟨t,rfl⟩ (zgn h)
noncomputable def Only(H:Hp):Prop:=∀b,H b=none\/∃o xs,H b=some (.frz o (.lst xs))
theorem zo2{P:Program}{w:World}{K:vga}{mg mb:Str->Option Value}{CX:CXT}{k:Nat}{fa a:Addr}{fd:FuncData}{x:Str}{sp:Sp}{s₁:Shared}{vs:List Value}{ns:List Int}
 (KX:K.In s₁.heap) (hns:s₁.heap.Ns mainGlobals mg) (hb:s₁.heap.Ns builtinsNs mb) (hbb:∀x:Str,x≠"__name__"->mb x=bootBuiltins x) (hlim:s₁.heap.NoLimit) (hg:s₁.gens = #[])
 (ha:s₁.heap.get? a=some {cls:=.type "list",data:=.seq vs.toArray}) (hi:IntsAre vs ns) (hl:ns.length<=sizeLine) (hr:Room k callerA)
 (F:∀base:Heap,K.In base->base.Ns mainGlobals mg->FnOk P w K mg base CX k fa fd [x] sp) (hbind:∀(s:Shared)(u:Value),BindsTo s fd ⟨[u],[]⟩ [(x,u)])
 (hsp:∀H:Hp,Only H->SqL K H a (ns.map V.int)->sp [.ref a] H (λv _=>v=.bl true) λ_ _ _=>False)
 (hCX:∀H e s',CX [] H s₁ (λ_ _ _=>False) e s'->False) :
 codeAny (model P w) callerA (.call (.ref fa) ⟨[.ref a],[]⟩) (λr s'=>r=.ok (.ret (.bool true))/\OldK s₁.heap s'.heap/\s'.os=s₁.os/\AllBare s'.gens) s₁:=by
 have rv:=zgn hi
 have lenV:=hi.length
 have core:∀H:Hp,Only H->SqL K H a (ns.map V.int)->HOk P w H s₁.heap->(∀b,H b≠none->b=a)->(H a≠none->K.lookup a=none)->
  codeAny (model P w) callerA (.call (.ref fa) ⟨[.ref a],[]⟩) (λr s'=>r=.ok (.ret (.bool true))/\OldK s₁.heap s'.heap/\s'.os=s₁.os/\AllBare s'.gens) s₁:=by
  intro H hO hS hok hA hK
  have base_of:∀{b:Addr}{o:Obj},s₁.heap.get? b=some o->H b=none->(hidT s₁.heap H).get? b=some o:=λe n=>zon e n
  have noA:∀{b:Addr}{o:Obj}{es:Array DictEntry}{ep:Nat},s₁.heap.get? b=some o->o.data=.dict es ep->H b=none:=λ{b o es ep} e d=>by
   cases q:H b with
   |none=>rfl
   |some u=>
    have e':b=a:=hA b (by rw[q];simp)
    subst e'
    rw[ha]at e;cases e
    have d':Data.seq vs.toArray _=Data.dict es ep:=d
    cases d'
  have nsK:∀{b:Addr}{m:Str->Option Value},s₁.heap.Ns b m->(hidT s₁.heap H).Ns b m:=λ{b m}⟨o,es,ep,e,d,r⟩=>⟨o,es,ep,base_of e (noA e d),d,r⟩
  have hKb:K.In (hidT s₁.heap H):=λb o e=>base_of (KX b o e) (by
   cases q:H b with
   |none=>rfl
   |some u=>
    have e':b=a:=hA b (by rw[q];simp)
    subst e'
    rw[hK (by rw[q];simp)]at e;cases e)
  have hM:Mod K mg (hidT s₁.heap H):=⟨hKb,nsK hns,⟨mb,nsK hb,hbb⟩,let⟨mc,h1,h2⟩:=hlim;⟨mc,nsK h1,h2⟩⟩
  have e0:Env0 P w K mg (hidT s₁.heap H) callerA [] s₁ H:=⟨rfl,hM,λb o e=>zrx e,Nat.le_of_eq (zlb _ _),trivial,λb hb=>absurd (show b∈([]:List Addr)from hb) (by simp),hok,.of_eq hg⟩
  refine codeAny_mono ((F _ hKb (nsK hns)).run callerA [] s₁ H ⟨[.ref a],[]⟩ [.ref a] [.ref a] _ _ hr e0 (hbind s₁ (.ref a)) (.cons rfl .nil) (hsp H hO hS)) λr s' h=>?_
  cases r with
  |error e=>exact(hCX H e s' h).elim
  |ok fl=>
   cases fl with
   |next=>exact False.elim h
   |brk=>exact False.elim h
   |cont=>exact False.elim h
   |ret u=>
    obtain⟨v,H',os,bare,un,hok',r',q⟩:=h
    have q':v=.bl true:=q
    subst q'
    obtain rfl:u=Value.bool true:=r'
    refine⟨rfl,OldK.of_keep λb o e=>?_,os,bare⟩
    cases q:H b with
    |none=>exact un.keep b o e q (by intro z;exact absurd (show b∈([]:List Addr)from z) (by simp)) (by simp)
    |some u=>
     rcases hO b with z|⟨ob,xs,z⟩
     .rw[q]at z;cases z
     .have z2:=un.frzs b ob _ z
      obtain⟨e1,_⟩:=hok b _ z
      obtain⟨e2,_⟩:=hok' b _ z2
      rw[e]at e1;cases e1
      exact e2
 cases hk:K.lookup a with
 |some o=>
  have e:=KX a o hk
  rw[ha]at e
  cases e
  refine core (λ_=>none) (λ_=>.inl rfl) (.inr ⟨_,vs.toArray,_,hk,rfl,rfl,rfl,by rw[vam,lenV];exact hl,by simpa using rv⟩) (λb u z=>by have z':(none:Option HO)=some u:=z;cases z') (λb z=>absurd rfl z) λz=>absurd rfl z
 |none=>
  refine core (λb=>if b=a then some (.frz {cls:=.type "list",data:=.seq vs.toArray} (.lst (ns.map V.int)))else none) (λb=>?_) (.inl (.inr ⟨{cls:=.type "list",data:=.seq vs.toArray},if_pos rfl⟩)) (λb u z=>?_) (λb z=>?_) λ_=>hk
  .by_cases hb:b=a
   .exact .inr ⟨_,_,if_pos hb⟩
   .exact .inl (if_neg hb)
  .by_cases hb:b=a
   .have z':=(if_pos hb).symm.trans z
    cases z'
    subst hb
    exact⟨ha,by rw[vaf];exact hl,vs,_,rv,ha⟩
   .have z':=(if_neg hb).symm.trans z
    cases z'
  .by_cases hb:b=a
   .exact hb
   .exact absurd (if_neg hb) z
theorem zsi{l:PySem.W.OpenLaw}{n k:Nat}{q:Program}{loose:List Str}{XP:(Str->Option Value)->Heap->Prop}{YP:World->Heap->Prop}{d:DefRec}{K:Params->vga}{CX:World->CXT}{sp:World->Sp}{x:Str}
 (hn:l.most=some n) (hn2:n<=sizeLine) (hdf:d.params.defaults=[]) (hr:Room k callerA)
 (hY:∀(w:World)(h:Heap),YP w h->(K w.params).In h)
 (F:∀(w:World)(mg:Str->Option Value)(fa:Addr)(h:Heap),(K w.params).In h->h.Ns mainGlobals mg->mg d.name=some (.ref fa)->
   ∃fd:FuncData,(∀(s:Shared)(u:Value),BindsTo s fd ⟨[u],[]⟩ [(x,u)])/\
    ∀base:Heap,(K w.params).In base->base.Ns mainGlobals mg->FnOk l.prog w (K w.params) mg base (CX w) k fa fd [x] (sp w))
 (hsp:∀(w:World)(H:Hp)(a:Addr)(ns:List Int),ns.length<=n->Only H->SqL (K w.params) H a (ns.map V.int)->sp w [.ref a] H (λv _=>v=.bl true) λ_ _ _=>False)
 (hCX:∀(w:World)(H:Hp)(s:Shared)(e:Value)(s':Shared),CX w [] H s (λ_ _ _=>False) e s'->False) :
 PySem.W.WalkO q loose XP YP l.row.toRowW d [] (λf vs=>PySem.call f vs):=by
 refine Att.attach_call hn hdf λw s₀ s₁ mg mb fa o pm cd doc a vs ns G Y ho hd hcd hmg hobj hints hlen hg=>?_
 have KX:=hY w _ Y
 obtain⟨fd,hb,hF⟩:=F w mg fa _ KX G.T.g hmg
 exact zo2 KX G.T.g G.T.b G.T.builtins G.T.nolimit hg hobj hints (vbo hlen hn2) hr hF hb (λH hO hS=>hsp w H a ns hlen hO hS) λH e s'=>hCX w H s₁ e s'
noncomputable def zsj(s:Stmt):Arguments:=match s with
 |.FunctionDef _ a _ _ _ _ _ _ _ _=>a
 |_=>{posonlyargs:=[],args:=[],vararg:=none,kwonlyargs:=[],kw_defaults:=[],kwarg:=none,defaults:=[]}
noncomputable def zdq(s:Stmt):List Stmt:=match s with
 |.FunctionDef _ _ b _ _ _ _ _ _ _=>b
 |_=>[]
noncomputable def zas(s:Stmt):Scope:=match s with
 |.FunctionDef _ _ _ _ _ _ sc _ _ _=>sc
 |_=>{kind:=.function,names:=[],isGenerator:=false,isCoroutine:=false}
noncomputable abbrev CX0:CXT:=λ_ _ _ _ _ _=>False
noncomputable abbrev E0:XK:=λ_ _ _=>False
theorem pass0{X:Cx}:zix CX0 X E0:=λ_ _ _ _ _ _ _ h=>h.elim
theorem zgo{n:Nat}(h:n<=1000):n<sizeLine:=vee h (by decide)
noncomputable def zbp(cells:List (Str×Addr)):List (Str×NameKind)->List (Str×Addr)->List (Str×Addr)
 |[],cs=>cs
 |(n,k)::r,cs=>zbp cells r (if k == .free then(match cells.lookup n with|some c=>(n,c)::cs|none=>cs)else cs)
theorem zcg{scope:Scope}{env:Env}(hf:∀y∈scope.names,y.2=.free->∃c,env.cells.lookup y.1=some c):closureFor scope env=pure (zbp env.cells scope.names []):=by
 have go:∀(l:List (Str×NameKind))(cs:List (Str×Addr)),(∀y∈l,y.2=.free->∃c,env.cells.lookup y.1=some c)->
  (forIn l cs λ(x:Str×NameKind)(r:List (Str×Addr))=>(match x with
    |(name,kind)=>if(kind==NameKind.free)=true then(do let a <-cellOf env name;pure (ForInStep.yield ((name,a)::r)))else pure (ForInStep.yield r):Sem (ForInStep (List (Str×Addr)))))=(pure (zbp env.cells l cs):Sem (List (Str×Addr))):=by
  intro l
  induction l with
  |nil=>intro cs _;rfl
  |cons x r ih=>
   intro cs h
   obtain⟨n,k⟩:=x
   rw[vef]
   by_cases hk:(k==NameKind.free)=true
   .have hk':k=.free:=by simpa using hk
    obtain⟨c,hc⟩:=h (n,k) vai hk'
    have hc':env.cells.lookup n=some c:=hc
    simp only[hk,va8,cellOf,hc',zbp]
    exact ih _ λy hy=>h y (vag _ hy)
   .have hk':(k==NameKind.free)=false:=by simpa using hk
    simp only[hk',vak,va7,zbp]
    exact ih _ λy hy=>h y (vag _ hy)
 have e:=go scope.names [] hf
 unfold closureFor
 refine Eq.trans (vdr (λt=>t >>= λcs=>pure cs) e) ?_
 rfl
theorem zen{cells:List (Str×Addr)}:∀(l:List (Str×NameKind)) (cs:List (Str×Addr)),(∀x c,cs.lookup x=some c->cells.lookup x=some c)->∀x c,(zbp cells l cs).lookup x=some c->cells.lookup x=some c
 |[],cs,h=>h
 |(n,k)::r,cs,h=>zen r _ λx c e=>by
  by_cases hk:(k==NameKind.free)=true
  .simp only[hk,va8]at e
   cases hc:cells.lookup n with
   |none=>rw[hc]at e;exact h x c e
   |some d=>
    rw[hc]at e
    simp only[va5]at e
    by_cases hx:(x==n)=true
    .simp only[hx]at e
     cases e
     rw[show x=n by simpa using hx];exact hc
    .have hx':(x==n)=false:=by simpa using hx
     simp only[hx']at e
     exact h x c e
  .have hk':(k==NameKind.free)=false:=by simpa using hk
   simp only[hk',vak,va7]at e
   exact h x c e
theorem zdr{cells:List (Str×Addr)}{x:Str}{c:Addr}(hc:cells.lookup x=some c):∀(l:List (Str×NameKind)) (cs:List (Str×Addr)),cs.lookup x=some c->(zbp cells l cs).lookup x=some c
 |[],cs,h=>h
 |(n,k)::r,cs,h=>zdr hc r _ (by
  by_cases hk:(k==NameKind.free)=true
  .simp only[hk,va8]
   cases hn:cells.lookup n with
   |none=>exact h
   |some d=>
    simp only[va5]
    by_cases hx:(x==n)=true
    .have:x=n:=by simpa using hx
     subst this
     rw[hc]at hn;cases hn
     simp
    .have hx':(x==n)=false:=by simpa using hx
     simp only[hx'];exact h
  .have hk':(k==NameKind.free)=false:=by simpa using hk
   simp only[hk',vak,va7]
   exact h)
theorem zcv{cells:List (Str×Addr)}{x:Str}{c:Addr}(hc:cells.lookup x=some c):∀(l:List (Str×NameKind)) (cs:List (Str×Addr)),(x,NameKind.free)∈l->(zbp cells l cs).lookup x=some c
 |[],cs,h=>by cases h
 |(n,k)::r,cs,h=>by
  rcases vau.mp h with e|e
  .cases e
   refine zdr hc r _ ?_
   rw[hc]
   simp[va5]
  .exact zcv hc r _ e
noncomputable abbrev Cx.comp(X:Cx)(N:List Str)(scope:Scope)(C:Addr)(s₀:Shared)(H₀:Hp)(ex:List Addr):Cx:=
 {X with N:=N,s₀:=s₀,H₀:=H₀,env:=compEnvC scope (zbp X.env.cells scope.names []) C X.env,outer:=X.stack,stack:=X.stack,ex:=ex,fn:=λ_=>false,pn:=[],xe:=λ_ _=>False}
structure CompScope(X:Cx)(ow fr:List Str)(ix:List Nat)(scope:Scope):Prop where
 kind:scope.kind=.function
 nocell:∀y∈scope.names,y.2≠.cell
 names:∀y∈scope.names,y.2=.local->scope.names.lookup y.1=some .local
 own:∀x∈ow,scope.names.lookup x=some .local
 free:∀y∈scope.names,y.2=.free->X.env.kindOf y.1=some .cell\/X.env.kindOf y.1=some .free
 at_:∀(k:Nat)(x:Str),fr[k]?=some x->∃j,ix[k]?=some j/\X.N[j]?=some x/\scope.names.lookup x=some .free
 len:ix.length=fr.length
noncomputable def cσ(ow fr:List Str)(ix:List Nat)(σ:St):St:=ow.map (λ_=>none)++ix.map λj=>(σ[j]?).join
theorem zeo{x:Str}{k:NameKind}:∀{l:List (Str×NameKind)},l.lookup x=some k->(x,k)∈l
 |[],h=>by cases h
 |(n,j)::r,h=>by
  simp only[va5]at h
  by_cases hx:(x==n)=true
  .simp only[hx]at h
   cases h
   rw[show x=n by simpa using hx];exact vai
  .have hx':(x==n)=false:=by simpa using hx
   simp only[hx']at h
   exact vag _ (zeo h)
theorem zbq{env:Env}:∀{l:List (Str×NameKind)} {x:Str} {k:NameKind},
 (l.map λ(n,k)=>if(k==NameKind.free&&env.scope.kind == .function&&env.kindOf n==some .cell)then(n,NameKind.cell)else(n,k)).lookup x=some k->k≠.local->(∀y∈l,y.2≠.cell)->k=.cell\/k=.free->(x,NameKind.free)∈l
 |[],x,k,h,_,_,_=>by cases h
 |(n,j)::r,x,k,h,hk,hc,hh=>by
  have ih:=@zbq env r x k
  rw[van]at h
  by_cases hc':(j==NameKind.free&&env.scope.kind == .function&&env.kindOf n==some .cell)=true
  .simp only[hc',va8,va5]at h
   have hj:j=.free:=by
    simp only[vab,beq_iff_eq]at hc'
    exact hc'.1.1
   by_cases hx:(x==n)=true
   .rw[show x=n by simpa using hx,hj];exact vai
   .have hx':(x==n)=false:=by simpa using hx
    simp only[hx']at h
    exact vag _ (ih h hk (λy hy=>hc y (vag _ hy)) hh)
  .have hcf:(j==NameKind.free&&env.scope.kind == .function&&env.kindOf n==some .cell)=false:=by simpa using hc'
   simp only[hcf,vak,va7,va5]at h
   by_cases hx:(x==n)=true
   .simp only[hx]at h
    cases h
    rcases hh with z|z
    .exact absurd z (hc _ vai)
    .rw[show x=n by simpa using hx,z];exact vai
   .have hx':(x==n)=false:=by simpa using hx
    simp only[hx']at h
    exact vag _ (ih h hk (λy hy=>hc y (vag _ hy)) hh)
theorem za9{env:Env}(hkf:env.scope.kind=.function):∀{l:List (Str×NameKind)} {x:Str},l.lookup x=some .free->
 (l.map λ(n,k)=>if(k==NameKind.free&&env.scope.kind == .function&&env.kindOf n==some .cell)then(n,NameKind.cell)else(n,k)).lookup x=some (if env.kindOf x=some .cell then .cell else .free)
 |[],x,h=>by cases h
 |(n,j)::r,x,h=>by
  have ih:=@za9 env hkf r x
  rw[van]
  simp only[va5]at h
  by_cases hx:(x==n)=true
  .simp only[hx]at h
   cases h
   have e:x=n:=by simpa using hx
   subst e
   by_cases hq:env.kindOf x=some .cell
   .simp[hkf,hq,va5]
   .simp[hq,va5]
  .have hx':(x==n)=false:=by simpa using hx
   simp only[hx']at h
   by_cases hc':(j==NameKind.free&&env.scope.kind == .function&&env.kindOf n==some .cell)=true
   .simp only[hc',va8,va5,hx'];exact ih h
   .have hcf:(j==NameKind.free&&env.scope.kind == .function&&env.kindOf n==some .cell)=false:=by simpa using hc'
    simp only[hcf,vak,va7,va5,hx'];exact ih h
section
variable{X:Cx}{pins:List (Addr×Obj)}{σ:St}{H:Hp}{s:Shared}{ow fr:List Str}{ix:List Nat}{scope:Scope}{fp:List Addr}
theorem zo3(S:CompScope X ow fr ix scope)(I:Inv X pins σ H s)(hfp:∀b∈fp,FpOk X pins H b)(hlt:∀b∈fp,b<s.heap.objs.size){h':Heap}{tk:Nat}{m:Str->Option Value}(hn:h'.Ns s.heap.objs.size m)(hk:∀b o,s.heap.get? b=some o->h'.get? b=some o) :
 Inv (X.comp (ow++fr) scope s.heap.objs.size s H fp) [] (cσ ow fr ix σ) H {s with heap:=h',toks:=tk}:=by
 have sub:=zen (cells:=X.env.cells) scope.names [] (λx c e=>by cases e)
 have kf:=I.ok.kind
 have ncell:∀x c,X.env.cells.lookup x=some c->c≠s.heap.objs.size:=λx c e z=>by
  obtain⟨v,q⟩:=I.cell x c e
  exact absurd q.lt (by rw[z];exact vca _)
 have hasC:∀x,(x,NameKind.free)∈scope.names->∃c,(zbp X.env.cells scope.names []).lookup x=some c/\X.env.cells.lookup x=some c:=λx hx=>by
  obtain⟨c,hc⟩:=I.ok.has x (S.free _ hx rfl)
  exact⟨c,zcv hc _ _ hx,hc⟩
 refine⟨⟨I.ok.mod,?_,I.ok.glob,I.ok.blt,vad _,λx y c a b=>I.ok.inj x y c (sub x c a) (sub y c b),λx hx=>?_,λx c e=>?_,I.ok.hd,I.ok.frames,.inl rfl,λb hb=>?_,λb o e=>?_,?_,λb o e hb=>?_,λb hb hz=>?_,I.stack,λb hb=>I.stkFree b hb⟩,
  rfl,I.bare,Un.kept hk,⟨m,hn,λi x v e1 e2 e3=>?_⟩,λx c e=>?_,I.hok.fresh (vad _),λx c e=>I.freeC x c (sub x c e),λp hp=>?_,I.hok.kept hk,?_⟩
 .exact S.kind
 .have hx':(relabel scope X.env).names.lookup x=some .cell\/(relabel scope X.env).names.lookup x=some .free:=hx
  have hm:(x,NameKind.free)∈scope.names:=by
   rcases hx' with z|z
   .exact zbq (env:=X.env) z (by decide) S.nocell (.inl rfl)
   .exact zbq (env:=X.env) z (by decide) S.nocell (.inr rfl)
  obtain⟨c,hc,_⟩:=hasC x hm
  exact⟨c,hc⟩
 .cases e
 .obtain⟨f0,f1,f2,f3,f4,f5⟩:=hfp b hb
  refine⟨λz=>?_,λx c e=>f4 x c (sub x c e)⟩
  have q:=hlt b hb
  rw[z]at q
  exact absurd q (vca _)
 .exact⟨(I.bs b o e).1,(I.bs b o e).2⟩
 .exact vbo I.ok.bsz I.sz
 .obtain⟨f0,f1,f2,f3,f4,f5⟩:=hfp b hb
  rcases f3 with z|z
  .exact I.ok.noex b o e z
  .exact absurd (vah (vap (I.ok.bs b o e).1) z) (vca _)
 .obtain⟨f0,f1,f2,f3,f4,f5⟩:=hfp b hb
  rcases vau.mp (I.stkSub b hz)with z|z
  .exact f1 z
  .exact f2 z
 .have hlen:ow.length<=i:=by
   by_cases hi:i<ow.length
   .unfold cσ at e2
    rw[vbx (by simpa using hi),vas]at e2
    cases q:ow[i]? with
    |none=>rw[q]at e2;cases e2
    |some y=>rw[q]at e2;cases e2
   .omega
  have e1':fr[i-ow.length]?=some x:=by
   have e1:(ow++fr)[i]?=some x:=e1
   rw[va0 hlen]at e1
   exact e1
  have e2':(ix.map λj=>(σ[j]?).join)[i-ow.length]?=some (some v):=by
   unfold cσ at e2
   rw[va0 (by simpa using hlen)]at e2
   simpa using e2
  obtain⟨j,hj,hN,hl⟩:=S.at_ _ _ e1'
  rw[vas,hj]at e2'
  have e2'':(σ[j]?).join=some v:=vbl e2'
  have hσ:σ[j]?=some (some v):=by
   cases q:σ[j]? with
   |none=>rw[q]at e2'';cases e2''
   |some o=>rw[q]at e2'';cases o with
    |none=>cases e2''
    |some w=>cases e2'';rfl
  obtain⟨m0,hm0,hl0⟩:=I.loc
  have hmem:=zeo hl
  have hkf:=S.free _ hmem rfl
  have hvis:Vis X.env.scope x:=hkf.elim (λz=>.inr (.inl z)) λz=>.inr (.inr z)
  obtain⟨u,ru,lk⟩:=hl0 j x v hN hσ hvis
  refine⟨u,ru,.inr ?_⟩
  have hcell:∃c,X.env.cells.lookup x=some c/\s.heap.IsCell c (some u):=by
   rcases lk with⟨z,_⟩|⟨_,c,e,z⟩
   .rcases hkf with q|q
    .rw[show X.env.kindOf x=some .local from z]at q;cases q
    .rw[show X.env.kindOf x=some .local from z]at q;cases q
   .exact⟨c,e,z⟩
  obtain⟨c,hc,o,ho,hd⟩:=hcell
  refine⟨?_,c,zcv hc _ _ hmem,o,hk _ _ ho,hd⟩
  show(relabel scope X.env).names.lookup x=some .cell\/(relabel scope X.env).names.lookup x=some .free
  have q:=za9 (env:=X.env) kf hl
  by_cases z:X.env.kindOf x=some .cell
  .rw[if_pos z]at q;exact .inl q
  .rw[if_neg z]at q;exact .inr q
 .obtain⟨v,q⟩:=I.cell x c (sub x c e)
  obtain⟨o,ho,hd⟩:=q
  exact⟨v,o,hk _ _ ho,hd⟩
 .cases(show p∈([]:List (Addr×Obj))from hp)
 .show(cσ ow fr ix σ).length=(ow++fr).length
  unfold cσ
  rw[vax,vaf,vaf,vax,S.len]
end
theorem zlw{α:Type}{M:Model}{A:Around}{t:Sem α}{Q:α->Shared->Prop}{E:Value->Shared->Prop}{s:Shared}(h:wpAny M A t Q (λ_ _=>False) s):wpAny M A t Q E s:=vdn h (λ_ _ q=>q) λ_ _ z=>z.elim
noncomputable abbrev noX:Value->Shared->Prop:=λ_ _=>False
noncomputable abbrev zlx(ifs:List Expr)(env:Env):Sem Bool:=forIn ifs true λc r=>if r=true then do let ok <-isTrue c env (eval c env);pure (ForInStep.yield ok)else pure (ForInStep.yield r)
theorem zb2{prog:Program}{w:World}{A:Around}{R:Result->Shared->Prop}{s:Shared}{elt target iter:Expr}{ifs:List Expr}{scope:Scope}{pos:Pos}{it acc:Value}{env:Env}(I:Nat->Shared->Prop)
 (turn:∀n s,I n s->wpAny (model prog w) A (pyNext it) (λr s₁=>match r with
   |none=>R (.ok .next) s₁
   |some v=>wpAny (model prog w) A (letOwnedTupleGo target it v) (λ_ s₀=>wpAny (model prog w) A (assign target env v) (λ_ s₂=>
    wpAny (model prog w) A (zlx ifs env) (λok s₃=>
     if ok=true then wpAny (model prog w) A (eval elt env) (λx s₄=>
      wpAny (model prog w) A (call (.builtin "list.append") [acc,x]) (λ_ s₅=>∃m,m<n/\I m s₅) noX s₄) noX s₃
     else ∃m,m<n/\I m s₃) noX s₂) noX s₀) noX s₁) noX s)
 (n:Nat) (h:I n s) :
 codeAny (model prog w) A (.compLoop (.ListComp elt [⟨target,iter,ifs,0⟩] scope pos) 0 it acc env) R s:=by
 refine codeAny_loop rfl I (λn s hI=>?_) n h
 show wpAny _ A ((compTurn (.ListComp elt [⟨target,iter,ifs,0⟩] scope pos) 0 it acc env).onRaise (λx=>do noteFrame x env;theTreesLotGoes x)) _ _ s
 refine wpAny_noted (zlw ?_)
 rw[compTurn_list]
 refine vaa (vff (vaa (vdn (turn n s hI) (λr s₁ h₁=>?_) λ_ _ h'=>h')))
 cases r with
 |none=>exact vae h₁
 |some v=>
  refine vaa (vdn h₁ (λ_ s₀ h₀=>?_) λ_ _ h'=>h')
  refine vaa (vdn h₀ (λ_ s₂ h₂=>vaa (vdn h₂ (λok s₃ h₃=>?_) λ_ _ h'=>h')) λ_ _ h'=>h')
  cases ok with
  |true=>
   simp only[va8]at h₃ ⊢
   exact vaa (vaa (vdn h₃ (λx s₄ h₄=>vaa (vdn h₄ (λ_ s₅ h₅=>vae (vae ⟨rfl,h₅⟩)) λ_ _ h'=>h')) λ_ _ h'=>h'))
  |false=>
   simp only[vak,va7]at h₃ ⊢
   exact vae ⟨rfl,h₃⟩
noncomputable def PTs(X:Cx)(ifs:List Expr)(t:TT):Prop:=
 ∀(pins:List (Addr×Obj))(s:Shared)(σ:St)(H:Hp)(Q:Bool->Hp->Prop),Inv X pins σ H s->t σ H Q->wpAny (model X.prog X.w) X.A (zlx ifs X.env) (TP X pins σ Q) X.xe s
noncomputable def tYes:TT:=λ_ H Q=>Q true H
theorem zsk{X:Cx}:PTs X [] tYes:=λpins s σ H Q I h=>wpAny_tests_nil ⟨H,I,h⟩
theorem zsl{X:Cx}{c:Expr}{t:TT}(h:PT X c t):PTs X [c] t:=λpins s σ H Q I q=>wpAny_tests_one (h pins s σ H Q I q)
noncomputable def tLC(K:vga)(f:St->St)(wi:TI)(g:TG)(tc:TT)(te:TE):TE:=λσ H Q=>wi σ H λJ H1=>∀D,H1 D=none->K.lookup D=none->
 ∃W:Nat->Nat->St->Hp->List V->Prop,(∃m,W 0 m (f σ) (upd H1 D (.lst [])) [])/\∀i m σ' H' ys,W i m σ' H' ys->H' D=some (.lst ys)/\
  ((J.stop i H'/\Q (.ref D) H')\/(J.go i H'/\∀x H2,J.yld i H' x H2->g x σ' H2 λσ2 H3=>tc σ2 H3 λb H4=>
    if b=true then te σ2 H4 λy H5=>H5 D=some (.lst ys)/\ys.length<sizeLine/\∃m',m'<m/\W (i+1) m' σ2 (upd H5 D (.lst (ys++[y]))) (ys++[y])
    else ∃m',m'<m/\W (i+1) m' σ2 H4 ys))
section
variable{X:Cx}{ow fr:List Str}{ix:List Nat}{scope:Scope}{tg iter elt:Expr}{ifs:List Expr}{pos:Pos}{wi:TI}{g:TG}{tc:TT}{te:TE}
theorem zep{pins:List (Addr×Obj)}{s:Shared}{σ:St}{Q:VK}{RR:Value->Addr->Result->Shared->Prop}(S:CompScope X ow fr ix scope)(hc:X.calm=true)
 (hg:∀C s₀ H₀ ex,PG (X.comp (ow++fr) scope C s₀ H₀ ex) tg g) (ht:∀C s₀ H₀ ex,PTs (X.comp (ow++fr) scope C s₀ H₀ ex) ifs tc) (he:∀C s₀ H₀ ex,PE (X.comp (ow++fr) scope C s₀ H₀ ex) elt te)
 {itv:Value} {E:Value->Shared->Prop}
 (h:PIE X pins σ tg (λJ H1=>∀D,H1 D=none->X.K.lookup D=none->
   ∃W:Nat->Nat->St->Hp->List V->Prop,(∃m,W 0 m (cσ ow fr ix σ) (upd H1 D (.lst [])) [])/\∀i m σ' H' ys,W i m σ' H' ys->H' D=some (.lst ys)/\
    ((J.stop i H'/\Q (.ref D) H')\/(J.go i H'/\∀x H2,J.yld i H' x H2->g x σ' H2 λσ2 H3=>tc σ2 H3 λb H4=>
      if b=true then te σ2 H4 λy H5=>H5 D=some (.lst ys)/\ys.length<sizeLine/\∃m',m'<m/\W (i+1) m' σ2 (upd H5 D (.lst (ys++[y]))) (ys++[y])
      else ∃m',m'<m/\W (i+1) m' σ2 H4 ys))) itv s)
 (fin:∀D C H' s' m,FpOk X pins H' C->s'.heap.Ns C m->(∀h'',Heap.SameBut C s'.heap h''->Inv X pins σ H' {s' with heap:=h''})->Q (.ref D) H'->RR (.ref D) C (.ok .next) s') :
 wpAny (model X.prog X.w) X.A (newList []) (λacc s₃=>wpAny (model X.prog X.w) X.A (newFunctionEnv scope X.env.globals (zbp X.env.cells scope.names []) [] X.env.qual none .none (some X.env)) (λcenv s₄=>
  codeAny (model X.prog X.w) X.A (.compStart (.ListComp elt [⟨tg,iter,ifs,0⟩] scope pos) 0 itv acc {cenv with scope:=relabel scope X.env}) (RR acc cenv.locals) s₄) E s₃) E s:=by
 obtain⟨it,fp,tn,J,H1,e,I1,T,st1,f1,hq⟩:=h
 subst e
 have hD:H1 s.heap.objs.size=none:=I1.hok.fresh (vad _)
 have hKD:X.K.lookup s.heap.objs.size=none:=by
  cases e:X.K.lookup s.heap.objs.size with
  |none=>rfl
  |some o=>exact absurd (vap (I1.kIn _ _ e)) (vca _)
 obtain⟨W,⟨m0,w0⟩,turn⟩:=hq _ hD hKD
 have I3:Inv X pins σ (upd H1 s.heap.objs.size (.lst [])) {s with heap:=s.heap.push {cls:=.type "list",dict:=none,data:=.seq ([]:List Value).toArray}}:=
  I1.laid (t':=s.toks) (o:=.lst []) (λb u q=>vac _ q) (vad _) ⟨vbb _,[],0,.nil,vao _ rfl⟩
 have hlt1:∀b∈fp,b<s.heap.objs.size:=λb hb=>by
  obtain⟨o,ho,_⟩:=T.obj _ _ st1 b hb
  exact vap ho
 have f3:∀b∈fp,FpOk X pins (upd H1 s.heap.objs.size (.lst [])) b:=λb hb=>⟨by rw[zae (vaz (hlt1 b hb))];exact(f1 b hb).1,(f1 b hb).2⟩
 refine vbi (wpAny_newFunctionEnv S.nocell (by intro y hy;simp at hy) (λh₁ hns hsb=>?_) S.kind)
 dsimp only at hns hsb ⊢
 generalize hS3:({s with heap:=s.heap.push {cls:=.type "list",dict:=none,data:=.seq ([]:List Value).toArray}}:Shared)=s3 at I3
 have hh3:s3.heap=s.heap.push {cls:=.type "list",dict:=none,data:=.seq ([]:List Value).toArray}:=by rw[<-hS3]
 rw[<-hh3]at hns hsb ⊢
 have hk:∀b o,s3.heap.get? b=some o->h₁.get? b=some o:=λb o e=>hsb.extBut b o (vaz (vap e)) (vac _ e)
 have hlt3:∀b∈fp,b<s3.heap.objs.size:=λb hb=>by rw[hh3,vcs];exact vch (hlt1 b hb)
 have J3:=zo3 S I3 f3 hlt3 (tk:=s.toks) hns hk
 have st3:tn 0 h₁:=T.keep _ _ _ st1 λb hb o e=>hk b o (by rw[hh3];exact vac _ e)
 have ex3:∀b∈fp,(X.comp (ow++fr) scope s3.heap.objs.size s3 (upd H1 s.heap.objs.size (.lst [])) fp).Ok->∀{H':Hp},H' b=none->FpOk (X.comp (ow++fr) scope s3.heap.objs.size s3 (upd H1 s.heap.objs.size (.lst [])) fp) [] H' b:=λb hb ok H' hn=>
  ⟨hn,(ok.exf b hb).1,ok.exfs b hb,.inl hb,(ok.exf b hb).2,λp hp=>by cases(show p∈([]:List (Addr×Obj))from hp)⟩
 have back:∀{σ':St}{H':Hp}{s':Shared},Inv (X.comp (ow++fr) scope s3.heap.objs.size s3 (upd H1 s.heap.objs.size (.lst [])) fp) [] σ' H' s'->∀h'',Heap.SameBut s3.heap.objs.size s'.heap h''->Inv X pins σ H' {s' with heap:=h''}:=λ{σ' H' s'} I' h'' hs=>by
  have neC:∀b o,s3.heap.get? b=some o->b≠s3.heap.objs.size:=λb o e=>vaz (vap e)
  have un:Un (frs X.stack) fp (upd H1 s.heap.objs.size (.lst [])) H' s3.heap h'':=
   ⟨λb o e n hb hx=>(hs.2 b (neC b o e)).trans (I'.base.keep b o e n hb hx),λb o e n hb hx=>by
    obtain⟨sl,q⟩:=I'.base.slot b o e n hb hx
    exact⟨sl,(hs.2 b (neC b o e)).trans q⟩,I'.base.free,λb o e hx=>by
    obtain⟨o',q⟩:=I'.base.there b o e hx
    exact⟨o',(hs.2 b (neC b o e)).trans q⟩,I'.base.tups,I'.base.frzs,I'.base.tbls⟩
  have hok:HOk X.prog X.w H' h'':=λb ob e=>by
   refine(I'.hok b ob e).stay (λc w' hcc q=>(hs.2 c ?_).trans q) (λ_ q=>q) λ_ _ q=>q
   rintro rfl
   have hfree:=I'.free
   rcases hcc with rfl|hcc
   .rw[show H' s3.heap.objs.size=none from hfree]at e;cases e
   .rw[show H' s3.heap.objs.size=none from hfree]at hcc;cases hcc
  have hos:s'.os=s3.os:=I'.os
  exact I3.call' (s':={s' with heap:=h''}) (ch:=fp) hos un hok I'.bare λb hb=>by
   obtain⟨_,a1,a2,a3,a4,a5⟩:=f1 b hb
   exact⟨a3,a1,a4,a5⟩
 have loop:∀s4:Shared,Inv (X.comp (ow++fr) scope s3.heap.objs.size s3 (upd H1 s.heap.objs.size (.lst [])) fp) [] (cσ ow fr ix σ) (upd H1 s.heap.objs.size (.lst [])) s4->tn 0 s4.heap->
  codeAny (model X.prog X.w) X.A (.compLoop (.ListComp elt [⟨tg,iter,ifs,0⟩] scope pos) 0 (.ref it) (.ref s.heap.objs.size) (X.comp (ow++fr) scope s3.heap.objs.size s3 (upd H1 s.heap.objs.size (.lst [])) fp).env)
   (RR (.ref s.heap.objs.size) s3.heap.objs.size) s4:=by
  intro s4 I4 st4
  refine zb2 (λn s'=>∃i σ' H' ys,Inv (X.comp (ow++fr) scope s3.heap.objs.size s3 (upd H1 s.heap.objs.size (.lst [])) fp) [] σ' H' s'/\tn i s'.heap/\(∀b∈fp,H' b=none)/\W i n σ' H' ys) ?_ m0 ⟨0,_,_,[],I4,st4,λb hb=>(f3 b hb).1,w0⟩
  rintro n s5 ⟨i,σ5,H5,ys,I5,st5,fr5,w5⟩
  obtain⟨hDl,alt⟩:=turn i n σ5 H5 ys w5
  rcases alt with⟨stop,q⟩|⟨go,step⟩
  .refine thn (T.done (X.comp (ow++fr) scope s3.heap.objs.size s3 (upd H1 s.heap.objs.size (.lst [])) fp) rfl rfl rfl hc i [] s5 σ5 H5 noX I5 (λb hb=>ex3 b hb I5.ok (fr5 b hb)) st5 stop) λr s6 hq0=>?_
   obtain⟨hr,I6⟩:=hq0
   subst hr
   obtain⟨m6,hn6,_⟩:=I6.loc
   exact fin _ _ H5 s6 m6 (I3.fpOk (vad _) I6.free) hn6 (back I6) q
  .refine thn (T.item (X.comp (ow++fr) scope s3.heap.objs.size s3 (upd H1 s.heap.objs.size (.lst [])) fp) rfl rfl rfl hc i [] s5 σ5 H5 noX I5 (λb hb=>ex3 b hb I5.ok (fr5 b hb)) st5 go) λr s6 hq0=>?_
   obtain⟨u,hr,h6⟩:=hq0
   subst hr
   refine thn h6 λ_ s7 hq0=>?_
   obtain⟨x,H7,I7,r7,y7,st7,fr7⟩:=hq0
   have I7':=I7.pinned (λb hb=>ex3 b hb I7.ok (fr7 b hb)) (T.obj _ _ st7)
   have again:∀{σ8:St}{H8:Hp}{s8:Shared}{zs:List V}{m':Nat},Inv (X.comp (ow++fr) scope s3.heap.objs.size s3 (upd H1 s.heap.objs.size (.lst [])) fp) ([]++zgc fp s7.heap) σ8 H8 s8->m'<n->W (i+1) m' σ8 H8 zs->
    ∃m,m<n/\∃i σ' H' ys,Inv (X.comp (ow++fr) scope s3.heap.objs.size s3 (upd H1 s.heap.objs.size (.lst [])) fp) [] σ' H' s8/\tn i s8.heap/\(∀b∈fp,H' b=none)/\W i m σ' H' ys:=λ{σ8 H8 s8 zs m'} I8 hm w8=>by
    refine⟨m',hm,i+1,σ8,H8,zs,I8.unpinned,T.keep _ _ _ st7 λb hb o e=>(I8.pin (b,o) (va9 _ (va9 _ (zbu hb e)))).1,λb hb=>?_,w8⟩
    obtain⟨o,e,d⟩:=T.obj _ _ st7 b hb
    exact(I8.pin (b,o) (va9 _ (va9 _ (zbu hb e)))).2.1
   refine thn (hg _ _ _ _ _ s7 σ5 H7 x u _ I7' r7 (step x H7 y7)) λ_ s8 hq0=>?_
   obtain⟨σ8,H8,I8,q8⟩:=hq0
   refine thn (ht _ _ _ _ _ s8 σ8 H8 _ I8 q8) λok s9 z9=>z9.el λH9 I9 q9=>?_
   cases ok with
   |false=>
    simp only[vak,va7]at q9 ⊢
    obtain⟨m',hm,w9⟩:=q9
    exact again I9 hm w9
   |true=>
    simp only[va8]at q9 ⊢
    refine thn (he _ _ _ _ _ s9 σ8 H9 _ I9 q9) λy s10 hq0=>?_
    obtain⟨vy,H10,I10,ry,hD10,hz,m',hm,w10⟩:=hq0
    refine thn (zgm _ s10 σ8 H10 (.ref s.heap.objs.size) [vy] (.ref s.heap.objs.size) [y] (λv H'=>H'=upd H10 s.heap.objs.size (.lst (ys++[vy]))) I10 rfl (.cons ry .nil) ⟨_,ys,vy,rfl,rfl,hD10,hz,rfl⟩) λ_ s11 hq0=>?_
    obtain⟨v11,H11,I11,_,e11⟩:=hq0
    subst e11
    exact again I11 hm w10
 have J3':Inv (X.comp (ow++fr) scope s3.heap.objs.size s3 (upd H1 s.heap.objs.size (.lst [])) fp) [] (cσ ow fr ix σ) (upd H1 s.heap.objs.size (.lst [])) {s with heap:=h₁,toks:=s.toks}:=by
  rw[<-hS3]at J3 ⊢
  exact J3
 exact codeAny_compStart_list (loop _ J3' st3) (T.self _ 0 _ _ _ st3 (loop _ J3' st3))
theorem pe_lc(S:CompScope X ow fr ix scope)(hc:X.calm=true)(hi:PI X tg iter wi)
 (hg:∀C s₀ H₀ ex,PG (X.comp (ow++fr) scope C s₀ H₀ ex) tg g) (ht:∀C s₀ H₀ ex,PTs (X.comp (ow++fr) scope C s₀ H₀ ex) ifs tc) (he:∀C s₀ H₀ ex,PE (X.comp (ow++fr) scope C s₀ H₀ ex) elt te)
 (hs:∀x,foldedSetIterable iter X.env x=pure x:=by intro _;rfl):PE X (.ListComp elt [⟨tg,iter,ifs,0⟩] scope pos) (tLC X.K (cσ ow fr ix) wi g tc te):=by
 intro pins s σ H Q I h
 rw[eval_ListComp]
 refine wpAny_comprehension_free (use:=none) rfl hs (zcg λy hy e=>I.ok.has _ (S.free y hy e)) S.kind S.names (thn (hi pins s σ H _ I h) λv s1 h1=>thn h1 λitv s2 h2=>?_)
 exact zep (RR:=λacc C=>compPost (model X.prog X.w) X.A X.xe none (EP X pins σ Q) acc C) S hc hg ht he h2 λD C H' s' m _ hn hI q=>⟨m,hn,λh'' hs''=>⟨.ref D,H',hI h'' hs'',rfl,q⟩⟩
theorem zo4{i:Nat}{y:Str}{py spos:Pos}(hN:X.N.Nodup)(hiy:X.N[i]?=some y)(hy:Loc X.env.scope y)(S:CompScope X ow fr ix scope)(hc:X.calm=true)(hi:PI X tg iter wi)
 (hg:∀C s₀ H₀ ex,PG (X.comp (ow++fr) scope C s₀ H₀ ex) tg g) (ht:∀C s₀ H₀ ex,PTs (X.comp (ow++fr) scope C s₀ H₀ ex) ifs tc) (he:∀C s₀ H₀ ex,PE (X.comp (ow++fr) scope C s₀ H₀ ex) elt te)
 (hsw:swapsWith (.ListComp elt [⟨tg,iter,ifs,0⟩] scope pos) (some (.Name y py)) spos.line X.env=pure true:=by rfl)
 (hf:X.fn y=true\/X.env.scope.names.lookup y=some .local:=by first|exact .inl rfl|exact .inr rfl|assumption)
 (hs:∀x,foldedSetIterable iter X.env x=pure x:=by intro _;rfl):PS X (.Assign [.Name y py] (.ListComp elt [⟨tg,iter,ifs,0⟩] scope pos) spos) (tAsg (tLC X.K (cσ ow fr ix) wi g tc te) (gName i)):=by
 intro pins s σ H D I h
 rw[exec_Assign_Name_used _ _ _ _ hsw]
 refine vaa (vff (vaa ?_))
 show wpAny _ X.A (do let _ <-comprehension (.ListComp elt [⟨tg,iter,ifs,0⟩] scope pos) scope X.env _ (newList []) false (eval iter X.env) (some (assign (.Name y py) X.env))) _ _ s
 refine vaa (vdn (wpAny_comprehension_free (use:=some (assign (.Name y py) X.env)) (Q:=λ_ s'=>SP X pins D .next s') rfl hs (zcg λy hy e=>I.ok.has _ (S.free y hy e)) S.kind S.names
  (thn (hi pins s σ H _ I h) λv s1 h1=>thn h1 λitv s2 h2=>?_)) (λ_ s' hq=>vae (vae hq)) λ_ _ e=>e)
 refine zep (Q:=λx H1=>gName i x σ H1 D.nx) (RR:=λacc C=>compPost (model X.prog X.w) X.A X.xe (some (assign (.Name y py) X.env)) (λ_ s'=>SP X pins D .next s') acc C) S hc hg ht he h2 λd C H' s' m hC hn hI q=>?_
 show wpAny _ X.A (assign (.Name y py) X.env (.ref d)) _ _ _
 have I':Inv X pins σ H' s':=by
  have z:=hI s'.heap (.refl ..)
  exact z
 refine wpAny_assign_Name (zgb I' hN hiy hy (v:=.ref d) rfl (λs'' I'' ⟨a,hsb,ha⟩=>?_) hf)
 obtain⟨c0,c1,c2,c3,c4,c5⟩:=hC
 have hCa:C≠a:=by
  rcases ha with rfl|ha
  .exact c1
  .exact λz=>c4 _ _ ha z.symm
 refine⟨m,hn.sameBut hsb hCa,λh'' hs''=>⟨_,H',I''.turned (t':=s''.toks) (it:=C) (λb o hb e=>(hs''.2 b hb).trans e) c0 c1 c3 c4 c5,q⟩⟩
end
end L2
set_option maxHeartbeats 4000000
namespace L2
open PySem PySem.Spec PyProof.Rows
mutual
inductive Rp(K:vga)(M:Addr->Prop)(H:Hp):V->PyData->Prop
 |non:Rp K M H .non .none
 |bl (b:Bool):Rp K M H (.bl b) (.bool b)
 |int (i:Int):Rp K M H (.int i) (.int i)
 |str (x:Str):Rp K M H (.str x) (.str x)
 |tup {a:Addr} {xs:List V} {ds:List PyData}:SqT K H a xs->¬M a->Rps K M H xs ds->Rp K M H (.ref a) (.tuple ds)
 |lst {a:Addr} {xs:List V} {ds:List PyData}:SqL K H a xs->¬M a->Rps K M H xs ds->Rp K M H (.ref a) (.list ds)
inductive Rps(K:vga)(M:Addr->Prop)(H:Hp):List V->List PyData->Prop
 |nil:Rps K M H [] []
 |cons {x:V} {d:PyData} {xs:List V} {ds:List PyData}:Rp K M H x d->Rps K M H xs ds->Rps K M H (x::xs) (d::ds)
end
section
variable{X:Cx}{pins:List (Addr×Obj)}{σ:St}{H:Hp}{s:Shared}{M:Addr->Prop}
mutual
theorem Rp.reads(I:Inv X pins σ H s):∀{x:V} {d:PyData} {u:Value},Rp X.K M H x d->RelV x u->∃as,Reads s.heap u d as
 |_,_,_,.non,r=>by cases r;exact⟨_,.none⟩
 |_,_,_,.bl b,r=>by cases r;exact⟨_,.bool b⟩
 |_,_,_,.int i,r=>by obtain⟨t,rfl⟩:=r;exact⟨_,.int i t⟩
 |_,_,_,.str x,r=>by obtain⟨t,rfl⟩:=r;exact⟨_,.str x t⟩
 |_,_,_,.tup h n rr,r=>by
  cases r
  obtain⟨its,rv,p,_⟩:=I.tuple h
  obtain⟨o,ho,hc,m,hd⟩:=p
  obtain⟨as,ra⟩:=Rps.reads I rr rv
  exact⟨_,.tuple ho hc hd (by simpa using ra)⟩
 |_,_,_,.lst h n rr,r=>by
  cases r
  obtain⟨its,rv,p,_⟩:=I.list h
  obtain⟨o,m,ho,hc,_,hd⟩:=p
  obtain⟨as,ra⟩:=Rps.reads I rr rv
  exact⟨_,.list ho hc hd (by simpa using ra)⟩
theorem Rps.reads(I:Inv X pins σ H s):∀{xs:List V} {ds:List PyData} {us:List Value},Rps X.K M H xs ds->Vals xs us->∃as,ReadsAll s.heap us ds as
 |_,_,_,.nil,.nil=>⟨_,.nil⟩
 |_,_,_,.cons r t,.cons q v=>by
  obtain⟨as,h1⟩:=Rp.reads I r q
  obtain⟨bs,h2⟩:=Rps.reads I t v
  exact⟨_,.cons h1 h2⟩
end
noncomputable def rEqD(K:vga):R2:=λx y H Q=>∃d e,Rp K (λ_=>False) H x d/\Rp K (λ_=>False) H y e/\SeqAt.shaped d=true/\SeqAt.shaped e=true/\Q (.bl (PyData.eqv d e)) H
noncomputable def rNeD(K:vga):R2:=λx y H Q=>∃d e,Rp K (λ_=>False) H x d/\Rp K (λ_=>False) H y e/\SeqAt.shaped d=true/\SeqAt.shaped e=true/\Q (.bl (!PyData.eqv d e)) H
theorem zvk(hu:X.A.units+64<cLine):OpR X (compareOp .Eq) (rEqD X.K):=by
 intro pins s σ H x y v u Q I rx ry h
 obtain⟨d,e,r1,r2,s1,s2,q⟩:=h
 obtain⟨as,ra⟩:=r1.reads I rx
 obtain⟨bs,rb⟩:=r2.reads I ry
 exact PyProof.Rows.eq_dataH ra rb s1 s2 hu ⟨.bl _,H,I,rfl,q⟩
theorem zvl(hu:X.A.units+64<cLine):OpR X (compareOp .NotEq) (rNeD X.K):=by
 intro pins s σ H x y v u Q I rx ry h
 obtain⟨d,e,r1,r2,s1,s2,q⟩:=h
 obtain⟨as,ra⟩:=r1.reads I rx
 obtain⟨bs,rb⟩:=r2.reads I ry
 exact PyProof.Rows.ne_dataH ra rb s1 s2 hu ⟨.bl _,H,I,rfl,q⟩
end
section
variable{prog:Program}{w:World}{A:Around}{E:Value->Shared->Prop}{s:Shared}
theorem zeq{I t:Addr}{k:Nat}{its:Array Value}{y:Value}{Q:Value->Shared->Prop}(hi:s.heap.IsTupleIter I t k)(ht:s.heap.IsTuple t its)(hy:its[k]?=some y)
 (q:∀g,g.IsTupleIter I t (k+1)->Heap.SameBut I s.heap g->Q y {s with heap:=g}):wpAny (model prog w) A (Builtin.SmallTypes.nextOf (.ref I)) Q E s:=by
 obtain⟨oi,e1,e2,e3⟩:=id hi
 obtain⟨ot,e4,_,kt,e5⟩:=ht
 unfold Builtin.SmallTypes.nextOf
 refine vaa (vbf (name:=Str.ofString "__next__") hi.typeIs vcy (vbj vcy hi.typeIs F.entry_tuple_iterator_next ?_ (F.args_tuple_iterator_next_1 _)))
 show wpAny _ _ (field (.ref I) 0 >>= _) _ _ s
 refine vaa (vbs e1 e3 (x:=.ref t) rfl ?_)
 show wpAny _ _ (if(Value.ref t==Value.none)=true then _ else _) _ _ s
 rw[if_neg (show ¬((Value.ref t==Value.none)=true)from λz=>nomatch z)]
 show wpAny _ _ (field (.ref I) 1 >>= _) _ _ s
 refine vaa (vbs e1 e3 (x:=.int k 0) rfl ?_)
 show wpAny _ _ (seqItems? (.ref t) >>= _) _ _ s
 refine vaa (vcl e4 e5 ?_)
 simp only[vby,hy]
 refine vaa (vdo e1 e3 (by simp) (vae ⟨y,rfl,vae (q _ ?_ (vb7 ..))⟩))
 refine⟨_,vc3 _ e1 (vdt (vcd e3 _)),(Obj.cls_mapFields ..).trans e2,?_⟩
 rw[vcd e3]
 simp[rawInt]
theorem zds{I t:Addr}{k:Nat}{its:Array Value}{Q:Value->Shared->Prop}(hA:A.handled=none)(hi:s.heap.IsTupleIter I t k)(ht:s.heap.IsTuple t its)(hy:its[k]?=none)
 (q:∀g e,Heap.ExtBut I s.heap g->(∃o,g.get? e=some o/\o.cls=.type "StopIteration")->E (.ref e) {s with heap:=g}):wpAny (model prog w) A (Builtin.SmallTypes.nextOf (.ref I)) Q E s:=by
 obtain⟨oi,e1,e2,e3⟩:=id hi
 obtain⟨ot,e4,_,kt,e5⟩:=ht
 unfold Builtin.SmallTypes.nextOf
 refine vaa (vbf (name:=Str.ofString "__next__") hi.typeIs vcy (vbj vcy hi.typeIs F.entry_tuple_iterator_next ?_ (F.args_tuple_iterator_next_1 _)))
 show wpAny _ _ (field (.ref I) 0 >>= _) _ _ s
 refine vaa (vbs e1 e3 (x:=.ref t) rfl ?_)
 show wpAny _ _ (if(Value.ref t==Value.none)=true then _ else _) _ _ s
 rw[if_neg (show ¬((Value.ref t==Value.none)=true)from λz=>nomatch z)]
 show wpAny _ _ (field (.ref I) 1 >>= _) _ _ s
 refine vaa (vbs e1 e3 (x:=.int k 0) rfl ?_)
 show wpAny _ _ (seqItems? (.ref t) >>= _) _ _ s
 refine vaa (vcl e4 e5 ?_)
 simp only[vby,hy]
 refine vaa (ve1 (vaa (vdo e1 e3 (by simp) ?_)))
 show wpAny _ _ (newExc (.type "StopIteration") [] >>= _) _ _ _
 refine vaa ?_
 simp only[newExc,newTuple]
 refine vaa (vbi ?_ (by size_fits))
 refine vaa (m:=firstArgMember _ _) (vdu (a:=Value.none) (by first|rfl|(simp only[firstArgMember];rfl)) ?_)
 refine vbi ?_ (by size_fits)
 simp only[raiseNew]
 refine vaa (wpAny_handled ?_)
 first|rw[show A.in1.handled=none from hA]|rw[hA]
 refine vaa (vae (wpAny_throw ?_))
 exact q _ _ (((vb7 ..).extBut.push _).push _) ⟨_,vao _ rfl,rfl⟩
end
theorem zi1{h h':Heap}{a:Addr}{its:Array Value}(x:h.IsTuple a its)(e:∀o,h.get? a=some o->h'.get? a=some o):h'.IsTuple a its:=let⟨o,ho,r⟩:=x;⟨o,e _ ho,r⟩
theorem zvm{prog:Program}{w:World}{A:Around}(hA:A.handled=none)(I t:Addr)(hne:t≠I)(its:Array Value) :
 Draws prog w A I [I,t] its.size (λi v=>its[i]?=some v) (λi h=>h.IsTupleIter I t i/\h.IsTuple t its)where
 live:=λ_ _ st=>let⟨o,ho,_⟩:=st.1;⟨o,ho⟩
 frame:=λ_ _ _ st hk=>⟨st.1.at λo e=>hk I (by simp) o e,zi1 st.2 λo e=>hk t (by simp) o e⟩
 item:=λi s Q E hi st q=>zeq st.1 st.2 (y:=its[i]) (by simp[hi]) λg a b=>q _ g s.toks (by simp[hi]) ⟨a,st.2.extBut b.extBut hne⟩ b
 done:=λs Q E st q=>zds hA st.1 st.2 (by simp) q
theorem zhr(l:Addr)(its:Array Value)(n:Nat)(dc:Option Addr)(sl:Array (Option Value)) :
 Meets (Builtin.«enumerate.__new__» ⟨[.type "enumerate",.ref l],[]⟩) (λ_ R s=>s.heap.get? l=some {cls:=.type "tuple",dict:=dc,data:=.seq its n,slots:=sl}/\
  R (.ok (.ret (.ref (s.heap.push {cls:=.type "tuple_iterator",data:=.fields #[.ref l,.int 0 0]}).objs.size)))
   {s with heap:=(s.heap.push {cls:=.type "tuple_iterator",data:=.fields #[.ref l,.int 0 0]}).push {cls:=.type "enumerate",data:=.fields #[.none,.bool false,.ref s.heap.objs.size,rawInt 0,.none,.none]}}):=
 .of_wp λprog w A R s h=>by
  obtain⟨hp,g,d,tk,os⟩:=s
  obtain⟨e,h⟩:=h
  have hsub:=sub_enumerate
  have hT:Heap.IsTuple (Shared.heap ⟨hp,g,d,tk,os⟩) l its:=⟨_,e,rfl,n,rfl⟩
  wp_walk using AutoSeq1.wpAny_loadPart' e
  refine wpAny_stack_any λst=>vae ?_
  split
  .rename_i c _ _ _ _ _
   cases(c==Value.type "enumerate")<;> (wp_walk using AutoSeq1.wpAny_loadPart' e,vcq hT;exact⟨_,rfl,h⟩)
  .wp_walk using AutoSeq1.wpAny_loadPart' e,vcq hT
   exact⟨_,rfl,h⟩
theorem zkm{prog:Program}{w:World}{A:Around}{E:Value->Shared->Prop}{s:Shared}{l:Addr}{its:Array Value}{Q:Value->Shared->Prop}(hL:s.heap.IsTuple l its)
 (h:∀g,IsEnum g (s.heap.objs.size+1) s.heap.objs.size 0 .none->g.IsTupleIter s.heap.objs.size l 0->g.objs.size=s.heap.objs.size+2->(∀b o,s.heap.get? b=some o->g.get? b=some o)->Q (.ref (s.heap.objs.size+1)) {s with heap:=g}) :
 wpAny (model prog w) A (call (.type "enumerate") [.ref l]) Q E s:=by
 obtain⟨⟨c,dc,dt,sl⟩,e1,e2,n,e3⟩:=hL
 replace e2:c=.type "tuple":=e2
 replace e3:dt=.seq its n:=e3
 subst e2 e3
 refine vfi F.called_enumerate (by decide) (F.typeCall_enumerate_1 _) (F.newCall_enumerate_1 _) (λobj=>F.args_object_init_2 obj _) F.entry_enumerate_new (zhr l its n dc sl) ⟨e1,?_⟩
 have hz:(s.heap.push {cls:=.type "tuple_iterator",data:=.fields #[.ref l,.int 0 0]}).objs.size=s.heap.objs.size+1:=vcs ..
 show _/\_
 rw[hz]
 have he:IsEnum ((s.heap.push {cls:=.type "tuple_iterator",data:=.fields #[.ref l,.int 0 0]}).push {cls:=.type "enumerate",data:=.fields #[.none,.bool false,.ref s.heap.objs.size,rawInt 0,.none,.none]}) (s.heap.objs.size+1) s.heap.objs.size 0 .none:=by
  rw[<-hz]
  exact vao _ rfl
 exact⟨⟨_,he,rfl⟩,h _ he ⟨_,vac _ (vao _ rfl),rfl,rfl⟩ (by rw[vcs,hz]) λb o x=>vac _ (vac _ x)⟩
noncomputable def IteT(K:vga)(a:Addr):It:=
 ⟨λi H=>∃xs x,SqT K H a xs/\xs[i]?=some x,λi H x H'=>∃T v,x=.ref T/\H T=none/\H'=upd H T (.tup [.int i,v])/\∀xs,SqT K H a xs->xs[i]?=some v,λi H=>∃xs,SqT K H a xs/\xs.length<=i⟩
theorem zkn{P:Program}{w:World}{K:vga}{elts:List Expr}{kx:Nat}{tp:Pos}(a e it:Addr)(hei:e≠it)(hae:a≠e)(hai:a≠it) :
 Turn P w K (.Tuple elts kx tp) (IteT K a) [e,it] e (λi h=>(∃old,IsEnum h e it i old)/\h.IsTupleIter it a i)where
 mem:=by simp
 obj:=λi h st b hb=>by
  obtain⟨⟨old,he⟩,o,ho,hc,hd⟩:=st
  rcases vau.mp hb with rfl|hb
  .exact⟨_,he,λv z=>by
    have z':Data.fields _=Data.cell v:=z
    cases z'⟩
  .have e':b=it:=by simpa using hb
   subst e'
   exact⟨o,ho,λv z=>by rw[hd]at z;cases z⟩
 keep:=λi h h' st k=>by
  obtain⟨⟨old,he⟩,st⟩:=st
  exact⟨⟨old,k e (by simp) _ he⟩,st.at λo q=>k it (by simp) o q⟩
 item:=by
  intro X hP hw hK hc i pins s σ H E I hf st hg
  subst hP hw hK
  obtain⟨xs,x,hq,hx⟩:=hg
  obtain⟨⟨old,he⟩,st⟩:=st
  obtain⟨its,rv,p,hz⟩:=I.tuple hq
  obtain⟨u,hu,ru⟩:=rv.get hx
  have hd:X.A.in1.handled=none:=I.ok.hd hc
  have p:s.heap.IsTuple a its.toArray:=p
  refine wpAny_pyNext_enum_itemD (zvm hd it a hai its.toArray) he ⟨st,p⟩ (by
   have:i<its.length:=by
    rw[<-rv.length]
    exact(vaq.mp hx).1
   simpa using this) hei (by simp[hei,vb6 hae]) λx' h1 tk hx' ho hit hT hsz hk=>?_
  obtain rfl:u=x':=by
   have:its[i]?=some x':=by simpa using hx'
   rw[hu]at this
   cases this;rfl
  refine⟨_,rfl,wpAny_letOwnedTupleGo_enum ho λh2 he2 hs2=>?_⟩
  have hTn:H s.heap.objs.size=none:=I.hok.fresh (vad _)
  have hTe:s.heap.objs.size≠e:=vdi (vap he)
  have hTi:s.heap.objs.size≠it:=by
   obtain⟨o,q,_⟩:=st
   exact vdi (vap q)
  have hs2:Heap.SameBut e h1 h2:=hs2
  have kk:∀b o,b≠e->b≠it->s.heap.get? b=some o->h2.get? b=some o:=λb o h1 h2 q=>(hs2.2 b h1).trans (hk b o h1 h2 q)
  have f0:=λb hb=>(hf b hb).1
  have nE:∀b o,H b=some o->b≠e/\b≠it:=λb o q=>⟨λz=>(by rw[z,f0 e (by simp)]at q;cases q),λz=>(by rw[z,f0 it (by simp)]at q;cases q)⟩
  have hT2:h2.get? s.heap.objs.size=some {cls:=.type "tuple",data:=.seq #[.int i tk,u]}:=(hs2.2 _ hTe).trans hT
  have I2:Inv X pins σ (upd H s.heap.objs.size (.tup [.int i,x])) {s with heap:=h2,gens:=s.gens,drawn:=s.drawn,toks:=tk+1}:=by
   refine I.step (ch:=[e,it]) (λb hb=>?_) (λb o _ _ hc e1 _=>kk b o (λz=>hc (by simp[z])) (λz=>hc (by simp[z])) e1) (λb o _ _ hc e1 _=>⟨o.slots,kk b o (λz=>hc (by simp[z])) (λz=>hc (by simp[z])) e1⟩)
    (λb o hc e1 n=>by rw[zae (vaz (vap e1))];exact n) (λb o hc e1=>⟨o,kk b o (λz=>hc (by simp[z])) (λz=>hc (by simp[z])) e1⟩)
    (λb ys q=>by rw[zae (zad q hTn)];exact q) (λb o u q=>by rw[zae (zad q hTn)];exact q) (λb ps q=>⟨#[],by rw[zae (zad q hTn),q];simp⟩) (λm hm=>?_) (λb ob q=>?_) I.bare
   .obtain⟨_,a1,a2,a3,a4,a5⟩:=hf b hb
    exact⟨a3,a1,a4,a5⟩
   .obtain⟨o,es,ep,ho',r⟩:=hm
    exact⟨o,es,ep,kk _ o (vb6 (hf e (by simp)).2.1) (vb6 (hf it (by simp)).2.1) ho',r⟩
   .by_cases hb:b=s.heap.objs.size
    .subst hb
     rw[zan]at q;cases q
     exact⟨by show 2<=sizeLine;decide,[.int i tk,u],.cons ⟨_,rfl⟩ (.cons ru .nil),⟨_,hT2,rfl,⟨_,rfl⟩,rfl⟩⟩
    .rw[zae hb]at q
     refine(I.hok b ob q).stay (λc v hc z=>kk c v ?_ ?_ z) (λc z=>by rw[zae (zad z hTn)];exact z) λc ys z=>by rw[zae (zad z hTn)];exact z
     .rcases hc with rfl|hc
      .exact(nE c ob q).1
      .exact(nE c _ hc).1
     .rcases hc with rfl|hc
      .exact(nE c ob q).2
      .exact(nE c _ hc).2
  refine⟨.ref s.heap.objs.size,_,I2,rfl,⟨_,x,rfl,hTn,rfl,λys hy=>by rw[I.tuple_inj hy hq];exact hx⟩,⟨⟨u,by simpa using he2⟩,hit.1.at λo q=>(hs2.2 it (vb6 hei)).trans q⟩,λb hb=>?_⟩
  rw[zae ?_]
  .exact f0 b hb
  .rcases vau.mp hb with rfl|hb
   .exact vb6 hTe
   .have e':b=it:=by simpa using hb
    subst e'
    exact vb6 hTi
 done:=by
  intro X hP hw hK hc i pins s σ H E I hf st hg
  subst hP hw hK
  obtain⟨xs,hq,hx⟩:=hg
  obtain⟨⟨old,he⟩,st⟩:=st
  obtain⟨its,rv,p,hz⟩:=I.tuple hq
  obtain⟨f0,f1,f2,f3,f4,f5⟩:=hf it (by simp)
  have hl:=rv.length
  have hd:X.A.in1.handled=none:=I.ok.hd hc
  have p:s.heap.IsTuple a its.toArray:=p
  refine PySem.wpAny_pyNext_enum_endD (n:=0) (P:=λ_ _=>True) (St:=λ_ h=>h.IsTupleIter it a i/\h.IsTuple a its.toArray) (fp:=[it,a]) ⟨?_,?_,?_,?_⟩ he ⟨st,p⟩ λh' eb=>⟨rfl,I.turned (t':=s.toks) (λb o hb q=>eb b o hb q) f0 f1 f3 f4 f5⟩
  .exact λ_ _ st=>let⟨o,ho,_⟩:=st.1;⟨o,ho⟩
  .exact λ_ _ _ st hk=>⟨st.1.at λo e=>hk it (by simp) o e,zi1 st.2 λo e=>hk a (by simp) o e⟩
  .exact λj s' Q' E' hj=>absurd hj (ve3 _)
  .exact λs' Q' E' st' q'=>zds hd st'.1 st'.2 (by simp;omega) q'
 self:=λ_ _ _ _ _ st h=>by
  obtain⟨⟨old,he⟩,_⟩:=st
  exact wpAny_pyIter_enum he h
section
variable{κ:Type}[DecidableEq κ]
noncomputable def valV(kvs:List (κ×V))(k:κ):Option V:=(kvs.find? λkv=>decide (kv.1=k)).map (·.2)
noncomputable def putK(kvs:List (κ×V))(k:κ)(v:V):List (κ×V):=
 if(kvs.any λkv=>decide (kv.1=k))=true then kvs.map (λkv=>if kv.1=k then(kv.1,v)else kv)else kvs++[(k,v)]
theorem zdb{p:κ×V}{r:List (κ×V)}{k:κ}(e:p.1=k):valV (p::r) k=some p.2:=by simp[valV,vbk,e]
theorem zch{p:κ×V}{r:List (κ×V)}{k:κ}(e:¬p.1=k):valV (p::r) k=valV r k:=by simp[valV,vbk,e]
theorem zi2(k:κ):∀kvs:List (κ×V),(kvs.any λkv=>decide (kv.1=k))=(valV kvs k).isSome
 |[]=>rfl
 |p::r=>by
  rw[veg]
  by_cases e:p.1=k
  .simp only[zdb e,va1 e,Bool.true_or,Option.isSome_some]
  .rw[zch e,vay e,Bool.false_or];exact zi2 k r
theorem zdt(kvs:List (κ×V))(k:κ)(v:V):(putK kvs k v).length<=kvs.length+1:=by
 unfold putK
 split
 .rw[vaf];omega
 .rw[vax,vaj,veb];omega
theorem RelO.isSome_eq{o:Option V}{u:Option Value}(r:RelO o u):o.isSome=u.isSome:=by
 cases o with
 |none=>cases u with
  |none=>rfl
  |some _=>exact(show False from r).elim
 |some _=>cases u with
  |none=>exact(show False from r).elim
  |some _=>rfl
theorem RelO.getD{o:Option V}{u:Option Value}{d:V}{d':Value}(r:RelO o u)(rd:RelV d d'):RelV (o.getD d) (u.getD d'):=by
 cases o with
 |none=>cases u with
  |none=>exact rd
  |some _=>exact(show False from r).elim
 |some _=>cases u with
  |none=>exact(show False from r).elim
  |some _=>exact r
theorem KV.val{kvs:List (κ×V)}{vs:List (κ×Value)}(r:KV kvs vs)(k:κ):RelO (valV kvs k) (valueAt vs k):=by
 unfold KV at r
 induction r with
 |nil=>exact True.intro
 | @cons p q ps qs h t ih=>
  obtain⟨h1,h2⟩:=h
  by_cases e:p.1=k
  .have e':q.1=k:=h1.symm.trans e
   have b:valueAt (q::qs) k=some q.2:=by simp[valueAt,vbk,e']
   rw[zdb e,b];exact h2
  .have e':¬q.1=k:=λz=>e (h1.trans z)
   have b:valueAt (q::qs) k=valueAt qs k:=by simp[valueAt,vbk,e']
   rw[zch e,b];exact ih
theorem KV.any{kvs:List (κ×V)}{vs:List (κ×Value)}(r:KV kvs vs)(k:κ):(kvs.any λkv=>decide (kv.1=k))=vs.any λkv=>decide (kv.1=k):=by
 unfold KV at r
 induction r with
 |nil=>rfl
 |cons h t ih=>rw[veg,veg,ih,h.1]
theorem KV.repl{kvs:List (κ×V)}{vs:List (κ×Value)}(r:KV kvs vs)(k:κ){y:V}{u:Value}(ry:RelV y u) :
 KV (kvs.map λkv=>if kv.1=k then(kv.1,y)else kv) (vs.map λkv=>if kv.1=k then(kv.1,u)else kv):=by
 unfold KV at r ⊢
 induction r with
 |nil=>exact .nil
 | @cons p q ps qs h t ih=>
  rw[van,van]
  refine .cons ?_ ih
  obtain⟨h1,h2⟩:=h
  by_cases e:p.1=k
  .rw[if_pos e,if_pos (h1.symm.trans e)];exact⟨h1,ry⟩
  .rw[if_neg e,if_neg (λz=>e (h1.trans z))];exact⟨h1,h2⟩
theorem KV.put{kvs:List (κ×V)}{vs:List (κ×Value)}(r:KV kvs vs)(k:κ){y:V}{u:Value}(ry:RelV y u):KV (putK kvs k y) (stored vs k u):=by
 unfold putK stored
 rw[r.any k]
 by_cases e:(vs.any λkv=>decide (kv.1=k))=true
 .rw[if_pos e,if_pos e];exact r.repl k ry
 .rw[if_neg e,if_neg e];exact Paired.snoc r ⟨rfl,ry⟩
theorem KV.keys{kvs:List (κ×V)}{vs:List (κ×Value)}(r:KV kvs vs):kvs.map (·.1)=vs.map (·.1):=by
 unfold KV at r
 induction r with
 |nil=>rfl
 |cons h t ih=>rw[van,van,ih,h.1]
theorem KV.length{kvs:List (κ×V)}{vs:List (κ×Value)}(r:KV kvs vs):kvs.length=vs.length:=vea r
end
theorem kV_is{P:Program}{w:World}{k:Key}{u:Value}(r:RelV (kV k) u):(zau P w).is k u=true:=by
 cases k with
 |inl i=>obtain⟨t,e⟩:=(show ∃t,u=Value.int i t from r);subst e;exact zhl P w i t
 |inr x=>obtain⟨t,e⟩:=(show ∃t,u=Value.str x t from r);subst e;exact zhm P w x t
theorem zgp{P:Program}{w:World}:∀{ks:List Key} {us:List Value},Vals (ks.map kV) us->ItemsAre (zau P w) ks us
 |[],_,r=>by rw[vdj]at r;cases r;exact .nil
 |k::ks,_,r=>by
  rw[van]at r
  cases r with
  |cons h t=>exact .cons (kV_is h) (zgp t)
noncomputable abbrev KT(H:Hp):List (List Key×V)->List (List Key×Addr×Value)->Prop:=Paired λp q=>p.1=q.1/\H q.2.1=some (.tup (p.1.map kV))/\RelV p.2 q.2.2
theorem KT.val{H:Hp}{kvs:List (List Key×V)}{xs:List (List Key×Addr×Value)}(r:KT H kvs xs)(k:List Key):RelO (valV kvs k) ((atKey xs k).map (·.2)):=by
 induction r with
 |nil=>exact True.intro
 | @cons p q ps qs h t ih=>
  obtain⟨h1,_,h2⟩:=h
  by_cases e:p.1=k
  .have e':q.1=k:=h1.symm.trans e
   have b:atKey (q::qs) k=some q.2:=by simp[atKey,vbk,e']
   rw[zdb e,b];exact h2
  .have e':¬q.1=k:=λz=>e (h1.trans z)
   have b:atKey (q::qs) k=atKey qs k:=by simp[atKey,vbk,e']
   rw[zch e,b];exact ih
theorem KT.repl{H:Hp}{kvs:List (List Key×V)}{xs:List (List Key×Addr×Value)}(r:KT H kvs xs)(k:List Key){y:V}{u:Value}(ry:RelV y u) :
 KT H (kvs.map λkv=>if kv.1=k then(kv.1,y)else kv) (xs.map (putAt k u)):=by
 induction r with
 |nil=>exact .nil
 | @cons p q ps qs h t ih=>
  rw[van,van]
  refine .cons ?_ ih
  obtain⟨h1,h2,h3⟩:=h
  unfold putAt
  by_cases e:p.1=k
  .rw[if_pos e,if_pos (h1.symm.trans e)];exact⟨h1,h2,ry⟩
  .rw[if_neg e,if_neg (λz=>e (h1.trans z))];exact⟨h1,h2,h3⟩
theorem KT.put{H:Hp}{kvs:List (List Key×V)}{xs:List (List Key×Addr×Value)}(r:KT H kvs xs)(k:List Key){b:Addr}{y:V}{u:Value}(hb:H b=some (.tup (k.map kV)))(ry:RelV y u) :
 KT H (putK kvs k y) (storedH xs k b u):=by
 have e:(kvs.any λkv=>decide (kv.1=k))=(atKey xs k).isSome:=by
  rw[zi2,(r.val k).isSome_eq,Option.isSome_map]
 unfold putK storedH
 rw[e]
 by_cases q:(atKey xs k).isSome=true
 .rw[if_pos q,if_pos q];exact r.repl k ry
 .rw[if_neg q,if_neg q];exact Paired.snoc r ⟨rfl,hb,ry⟩
theorem KT.keeps{H H':Hp}{kvs:List (List Key×V)}{xs:List (List Key×Addr×Value)}(r:KT H kvs xs)(ht:∀b ys,H b=some (.tup ys)->H' b=some (.tup ys)):KT H' kvs xs:=
 Paired.mapP r λ_ _ z=>⟨z.1,ht _ _ z.2.1,z.2.2⟩
section
variable{P:Program}{w:World}{H:Hp}{h:Heap}{a:Addr}
theorem rd_of{u:HO}(ok:HOk P w H h)(e:Rd H a u):ObjOk P w H h a u:=e.ok ok
theorem dk_rd{kvs:List (Key×V)}(ok:HOk P w H h)(e:Rd H a (.dK kvs)):kvs.length<=sizeLine/\(a==sysModules)=false/\∃vs,KV kvs vs/\h.DictOf (zau P w) a vs:=
 show ObjOk P w H h a (.dK kvs)from rd_of ok e
theorem dk_of{kvs:List (Key×V)}(ok:HOk P w H h)(e:H a=some (.dK kvs)):kvs.length<=sizeLine/\(a==sysModules)=false/\∃vs,KV kvs vs/\h.DictOf (zau P w) a vs:=dk_rd ok (.inl e)
theorem zi3{ks:List Key}(ok:HOk P w H h)(e:H a=some (.tup (ks.map kV))):(tupleKind (zau P w)).is h ks a:=by
 obtain⟨_,its,r,o,h1,h2,⟨n,h3⟩,_⟩:=(show ObjOk P w H h a (.tup (ks.map kV))from ok a _ e)
 exact⟨o,its.toArray,n,h1,h2,h3,by simpa using zgp r⟩
theorem dt_rd{kvs:List (List Key×V)}(ok:HOk P w H h)(e:Rd H a (.dT kvs)):kvs.length<=sizeLine/\(a==sysModules)=false/\
 ∃xs,KT H kvs xs/\h.DictOfH (tupleKind (zau P w)) a xs:=by
 obtain⟨z,y,xs,r,o,es,ep,h1,h2,h3,h4,h5⟩:=(show ObjOk P w H h a (.dT kvs)from rd_of ok e)
 refine⟨z,y,xs,r,o,es,ep,h1,h2,h3,h4,λx hx=>?_,h5⟩
 have all:∀{l:List (List Key×V)}{m:List (List Key×Addr×Value)},KT H l m->∀x∈m,(tupleKind (zau P w)).is h x.1 x.2.1:=by
  intro l m q
  induction q with
  |nil=>intro x hx;exact nomatch hx
  | @cons p q ps qs hq t ih=>
   intro x hx
   rcases vau.mp hx with e|hx
   .subst e
    exact zi3 ok (by rw[<-hq.1];exact hq.2.1)
   .exact ih x hx
 exact all r x hx
theorem dt_of{kvs:List (List Key×V)}(ok:HOk P w H h)(e:H a=some (.dT kvs)):kvs.length<=sizeLine/\(a==sysModules)=false/\
 ∃xs,KT H kvs xs/\h.DictOfH (tupleKind (zau P w)) a xs:=dt_rd ok (.inl e)
end
noncomputable def DGet(H:Hp)(a:Addr)(y:V)(r:Option V):Prop:=
 (∃kvs k,Rd H a (.dK kvs)/\y=kV k/\r=valV kvs k)\/∃kvs k b,Rd H a (.dT kvs)/\y=.ref b/\H b=some (.tup (k.map kV))/\r=valV kvs k
noncomputable def DPut(H:Hp)(a:Addr)(y v:V)(H':Hp):Prop:=
 (∃kvs k,H a=some (.dK kvs)/\y=kV k/\kvs.length<sizeLine/\H'=upd H a (.dK (putK kvs k v)))\/
 ∃kvs k b,H a=some (.dT kvs)/\y=.ref b/\H b=some (.tup (k.map kV))/\kvs.length<sizeLine/\H'=upd H a (.dT (putK kvs k v))
theorem DPut.k{H:Hp}{a:Addr}{kvs:List (Key×V)}{k:Key}{v:V}(e:H a=some (.dK kvs))(hl:kvs.length<sizeLine):DPut H a (kV k) v (upd H a (.dK (putK kvs k v))):=.inl ⟨kvs,k,e,rfl,hl,rfl⟩
section
variable{X:Cx}{pins:List (Addr×Obj)}{σ:St}{H:Hp}{s:Shared}{a:Addr}{y v:V}{u r:Value}{o:Option V}{A:Around}{E:Value->Shared->Prop}
theorem Inv.big(I:Inv X pins σ H s):sysModules<s.heap.objs.size:=by
 have h:mainGlobals<s.heap.objs.size:=(I.mod.glob.keeps I.bk).lt
 exact Nat.lt_trans (by decide) h
theorem zly{Q:Value->Shared->Prop}(hu:A.units+1<cLine)(I:Inv X pins σ H s)(g:DGet H a y (some v))(ry:RelV y u)(h:∀w' s',Inv X pins σ H s'->RelV v w'->Q w' s') :
 wpAny (model X.prog X.w) A (getItem (.ref a) u) Q E s:=by
 rcases g with⟨kvs,k,e,ey,l⟩|⟨kvs,k,b,e,ey,eb,l⟩
 .subst ey
  obtain⟨z,hd,vs,rel,dd⟩:=dk_rd I.hok e
  obtain⟨w',hw,rw'⟩:=RelO.some_of (v:=v) (o:=valueAt vs k) (by rw[l];exact rel.val k)
  exact wpAny_getItem_of (kV_is ry) dd.mapOf hw (h w' _ (I.tok _) rw')
 .subst ey
  cases(show u=Value.ref b from ry)
  obtain⟨z,hd,xs,rel,dd⟩:=dt_rd I.hok e
  obtain⟨w',hw,rw'⟩:=RelO.some_of (v:=v) (o:=(atKey xs k).map (·.2)) (by rw[l];exact rel.val k)
  obtain⟨p,hp,hp2⟩:=Option.map_eq_some_iff.mp hw
  refine wpAny_getItem_heap (tupleKind_room_in1 hu) (zi3 I.hok eb) dd hp ?_
  rw[hp2]
  exact h w' _ (I.tok _) rw'
theorem zhs{h':Heap}{t':Nat}{ob:HO}(I:Inv X pins σ H s)(mu:Mut (H a))(hs:Heap.SameBut a s.heap h')(he:∃q,h'.get? a=some q)(new:ObjOk X.prog X.w (upd H a ob) h' a ob) :
 Inv X pins σ (upd H a ob) {s with heap:=h',toks:=t'}:=
 I.write (x:=a) (e:=a) mu (.inl rfl) (λb q hb z=>(hs.2 b hb).trans z) he new
theorem zvn{P:Program}{w:World}{H':Hp}{h':Heap}{kvs:List (Key×V)}{vs:List (Key×Value)}(z:kvs.length<=sizeLine)(hd:(a==sysModules)=false)(rel:KV kvs vs)(dd:h'.DictOf (zau P w) a vs) :
 ObjOk P w H' h' a (.dK kvs):=⟨z,hd,vs,rel,dd⟩
theorem zlz{H':Hp}{Q:Unit->Shared->Prop}(hu:A.units+1<cLine)(I:Inv X pins σ H s)(g:DPut H a y v H')(ry:RelV y u)(rv:RelV v r)(h:∀s',Inv X pins σ H' s'->Q () s') :
 wpAny (model X.prog X.w) A (setItem (.ref a) u r) Q E s:=by
 rcases g with⟨kvs,k,e,ey,l,eH⟩|⟨kvs,k,b,e,ey,eb,l,eH⟩
 .subst ey eH
  obtain⟨z,hd,vs,rel,dd⟩:=dk_of I.hok e
  have hz:vs.length<=sizeLine:=by rw[<-rel.length];exact z
  have hl:(putK kvs k v).length<=sizeLine:=by have:=zdt kvs k v;omega
  refine wpAny_setItem_pairs (hsz:=hz) (kV_is ry) dd λh' dd' hs=>h _ ?_
  have he:∃q,h'.get? a=some q:=let⟨q,_,_,hq,_⟩:=dd';⟨q,hq⟩
  exact zhs I (by rw[e];exact True.intro) hs he (zvn hl hd (rel.put k rv) dd')
 .subst ey eH
  cases(show u=Value.ref b from ry)
  obtain⟨z,hd,xs,rel,dd⟩:=dt_of I.hok e
  have hz:xs.length<=sizeLine:=by rw[<-vea rel];exact z
  have hl:(putK kvs k v).length<=sizeLine:=by have:=zdt kvs k v;omega
  refine wpAny_setItem_heap (hsz:=hz) (tupleKind_room_in1 hu) (zi3 I.hok eb) dd λh' dd' hs=>h _ ?_
  obtain⟨q,es,ep,hq,h2,h3,h4,_,h5⟩:=dd'
  refine zhs I (by rw[e];exact True.intro) hs ⟨q,hq⟩ ⟨hl,hd,_,(rel.put k eb rv).keeps λc ys ec=>?_,q,es,ep,hq,h2,h3,h4,h5⟩
  rw[zae (ne_of ec e (λz=>nomatch z))]
  exact ec
end
theorem zht{X:Cx}{pins:List (Addr×Obj)}{σ:St}{H:Hp}{s:Shared}{a:Addr}{y:V}{o:Option V}(I:Inv X pins σ H s)(g:DGet H a y o):s.TypeIs (.ref a) "dict":=by
 rcases g with⟨kvs,k,e,_,_⟩|⟨kvs,k,b,e,_,_,_⟩
 .obtain⟨_,_,vs,_,dd⟩:=dk_rd I.hok e
  exact dd.typeIs
 .obtain⟨_,_,xs,_,dd⟩:=dt_rd I.hok e
  exact dd.typeIs
theorem zo5{P:Program}{w:World}{H:Hp}(h:Heap)(hb:sysModules<h.objs.size):ObjOk P w H (h.push {cls:=.type "dict",data:=.dict #[]}) h.objs.size (.dK []):=
 ⟨vbb _,beq_eq_false_iff_ne.mpr (vb6 (vaz hb)),[],.nil,Heap.DictOf.new h⟩
noncomputable def zvo:TE:=λ_ H Q=>∀p,H p=none->Q (.ref p) (upd H p (.dK []))
section
variable{X:Cx}{pos:Pos}
theorem zi4:PE X (.Dict [] [] pos) zvo:=λpins s σ H Q I h=>
 wpAny_Dict_empty ⟨.ref s.heap.objs.size,_,I.laid (a:=s.heap.objs.size) (o:=.dK []) (t':=s.toks) (λ_ _ q=>vac _ q) (vad _) (zo5 s.heap I.big),rfl,h _ (I.hok.fresh (vad _))⟩
end
structure M2(X:Cx)(o:Expr)(m:Str)(apos:Pos)(e f:Expr)(cpos:Pos):Prop where
 base:attributeBase o m X.env (eval o X.env)=eval o X.env
 few:((backTo cpos (starEach [e,f] X.env)).all (λx=>!x.1)&& (backToKw cpos (keywordEach [] X.env)).all (λx=>x.1.isSome)
  && decide (([e,f]:List Expr).length+ ([]:List Keyword).length+ (if([]:List Keyword).isEmpty then 0 else 1)<30))=true
 line:(apos.endLine==cpos.line)=true
 trees:backTo cpos (starEach [e,f] X.env)=[(false,eval e X.env),(false,eval f X.env)]
noncomputable def IsD(H:Hp)(a:Addr):Prop:=(∃kvs,Rd H a (.dK kvs))\/∃kvs,Rd H a (.dT kvs)
theorem zvp{X:Cx}{pins:List (Addr×Obj)}{σ:St}{H:Hp}{s:Shared}{a:Addr}(I:Inv X pins σ H s)(d:IsD H a) :
 s.TypeIs (.ref a) "dict"/\(∀b,Value.ref a=.ref b->∃ob,s.heap.get? b=some ob/\ob.dict=none)/\(a==sysModules)=false:=by
 rcases d with⟨kvs,e⟩|⟨kvs,e⟩
 .obtain⟨_,hd,vs,_,dd⟩:=dk_rd I.hok e
  refine⟨dd.typeIs,λb q=>?_,hd⟩
  cases q
  obtain⟨ob,_,_,h1,h2,_⟩:=dd
  exact⟨ob,h1,h2.2.1⟩
 .obtain⟨_,hd,xs,_,dd⟩:=dt_rd I.hok e
  refine⟨dd.typeIs,λb q=>?_,hd⟩
  cases q
  obtain⟨ob,_,_,h1,h2,_⟩:=dd
  exact⟨ob,h1,h2.2.1⟩
section
variable{X:Cx}{pins:List (Addr×Obj)}{σ:St}{H:Hp}{s:Shared}{a:Addr}{y d:V}{u r:Value}{o:Option V}{A:Around}{E:Value->Shared->Prop}
theorem zvq{Q:Value->Shared->Prop}(hu:A.units+1<cLine)(I:Inv X pins σ H s)(g:DGet H a y o)(ry:RelV y u)(rd:RelV d r)(h:∀w' s',Inv X pins σ H s'->RelV (o.getD d) w'->Q w' s') :
 wpAny (model X.prog X.w) A (call (.builtin "dict.get") [.ref a,u,r]) Q E s:=by
 rcases g with⟨kvs,k,e,ey,l⟩|⟨kvs,k,b,e,ey,eb,l⟩
 .subst ey
  obtain⟨z,hd,vs,rel,dd⟩:=dk_rd I.hok e
  refine call_meetsIn PySem.F.slot_dict_get dd.typeIs PySem.F.entry_dict_get (PySem.F.args_dict_get_3 _ _ _) (meets_dict_get_default (zau X.prog X.w) a (kV_is ry) hd r) ⟨_,dd.mapOf,h _ _ (I.tok _) ?_⟩
  rw[l]
  exact(rel.val k).getD rd
 .subst ey
  cases(show u=Value.ref b from ry)
  obtain⟨z,hd,xs,rel,dd⟩:=dt_rd I.hok e
  refine call_meetsIn PySem.F.slot_dict_get dd.typeIs PySem.F.entry_dict_get (PySem.F.args_dict_get_3 _ _ _) (meetsH_dict_get_default (tupleKind (zau X.prog X.w)) a b hd r) ⟨tupleKind_room_in1 hu,k,xs,zi3 I.hok eb,dd,h _ _ (I.tok _) ?_⟩
  rw[l]
  exact(rel.val k).getD rd
end
noncomputable def zvr(td ty tx:TE):TE:=λσ H Q=>td σ H λx H1=>∃a,x=.ref a/\IsD H1 a/\ty σ H1 λy H2=>tx σ H2 λz H3=>∃o,DGet H3 a y o/\Q (o.getD z) H3
section
variable{X:Cx}{o e f:Expr}{apos cpos:Pos}{td ty tx:TE}
theorem zo6(hu:X.A.units+1<cLine)(ho:PE X o td)(he:PE X e ty)(hf:PE X f tx)(m:M2 X o "get" apos e f cpos):PE X (.Call (.Attribute o "get" apos) [e,f] [] cpos) (zvr td ty tx):=by
 intro pins s σ H Q I h
 refine wpAny_Call_method m.base m.few m.line PySem.F.plainAttrs_dict PySem.F.slot_dict_get PySem.F.type_dict_get (thn (ho pins s σ H _ I h) λu s1 z9=>z9.el λx H1 I1 rx hq0=>?_)
 obtain⟨a,ex,d,q1⟩:=hq0
 subst ex
 obtain rfl:u=Value.ref a:=rx
 obtain⟨t1,t2,_⟩:=zvp I1 d
 refine⟨t1,t2,?_⟩
 rw[m.trees]
 refine Calls.callWith_builtin rfl (Calls.evalArgs_plain (Calls.spliced_cons (thn (he pins s1 σ H1 _ I1 q1) λiv s2 z9=>z9.el λy H2 I2 ry q2=>
  Calls.spliced_cons (thn (hf pins s2 σ H2 _ I2 q2) λfv s3 z9=>z9.el λz H3 I3 rz ⟨ov,g,q3⟩=>Calls.spliced_nil ?_))))
 exact zvq hu I3 g ry rz λw' s4 I4 rw'=>⟨_,H3,I4,rw',q3⟩
end
end L2
namespace HT
open PySem PySem.Spec PyProof.Rows
section
variable{prog:Program}{w:World}{A:Around}{E:Value->Shared->Prop}{s:Shared}
theorem getItem_tuple_whole{t sl:Addr}{items:Array Value}{vl vu:Value}{lo hi:Option Int}{Q:Value->Shared->Prop}(ht:IsTup s.heap t items)(hs:s.heap.IsSliceOf sl vl vu .none)(pl:IsPart vl lo)(pu:IsPart vu hi)
 (hw:sIx items.size 0 lo=0/\sIx items.size items.size hi=items.size)
 (h:Q (.ref t) s):wpAny (model prog w) A (getItem (.ref t) (.ref sl)) Q E s:=by
 obtain⟨os,hos,hcs,hds⟩:=id hs
 have hTs:s.TypeIs (.ref sl) "slice":=⟨os,hos,hcs⟩
 unfold getItem
 try with_reducible refine vck ?_
 first|refine vaa (vae ?_)|skip
 refine vaa (wpAny_sequenceKey ht.typeIs (by decide) ?_)
 refine vaa (vbf (name:=Str.ofString "__getitem__") ht.typeIs vbq
  (vbj vbq ht.typeIs entry_tuple_getitem ?_ (args_tuple_getitem _ _)))
 show wpAny _ _ (Builtin.Tuple.tupleItemsOf (.ref t) >>= _) _ _ s
 refine vaa (tupleItemsOf_ ht ?_)
 refine vaa (vfh hTs ?_)
 rw[if_pos (by decide)]
 refine vaa (zbm hs pl pu ?_)
 have hyes:((((sIx items.size 0 lo:Nat):Int)==0&& (1:Int)==1&& (sIx items.size items.size hi-sIx items.size 0 lo)==items.size)=true):=by
  rw[hw.1,hw.2];simp
 show wpAny _ _ (if(((sIx items.size 0 lo:Nat):Int)==0&& (1:Int)==1&& (sIx items.size items.size hi-sIx items.size 0 lo)==items.size)=true then _ else _) _ _ s
 rw[if_pos hyes]
 unfold Builtin.Tuple.tupleIsExact
 refine vaa (vaa (vfh ht.typeIs (vae ?_)))
 rw[if_pos (by decide)]
 refine vaa (ve1 ?_)
 exact vae ⟨_,rfl,vae h⟩
end
end HT
namespace L2
open PySem PySem.Spec PyProof.Rows
variable{X:Cx}
noncomputable def rSlW(K:vga):V->Option Int->Option Int->Hp->VK->Prop:=λx lo hi H Q=>∃a xs,x=.ref a/\SqT K H a xs/\
 (HT.sIx xs.length 0 lo=0/\HT.sIx xs.length xs.length hi=xs.length)/\Q (.ref a) H
theorem zsm:SlR X (rSlW X.K):=by
 intro pins s σ H x v vl vu lo hi sl Q I rx hs pl pu h
 obtain⟨a,xs,rfl,hx,hw,q⟩:=h
 cases rx
 obtain⟨its,r,ht,hz⟩:=I.tuple hx
 have hlen:its.toArray.size=xs.length:=by rw[vam];exact r.length.symm
 refine⟨"tuple",_,vbq.lookup,ht.typeIs,?_⟩
 refine HT.getItem_tuple_whole ht hs pl pu (by rw[hlen];exact hw) ?_
 exact⟨.ref a,_,I,rfl,q⟩
noncomputable def rSlA(K:vga):V->Option Int->Option Int->Hp->VK->Prop:=λx lo hi H Q=>(rSlT K x lo hi H Q\/rSlW K x lo hi H Q)\/rSlL K x lo hi H Q
theorem zvs:SlR X (rSlA X.K):=(zve.or zsm).or zse
noncomputable def ZI(b:Bool)(h:Heap)(I l:Addr)(k:Nat):Prop:=match b with|true=>h.IsTupleIter I l k|false=>h.IsListIter I l k
noncomputable def ZS(b:Bool)(h:Heap)(l:Addr)(xs:Array Value):Prop:=match b with|true=>h.IsTuple l xs|false=>h.IsList l xs
noncomputable def zName(b:Bool):String:=match b with|true=>"tuple_iterator" |false=>"list_iterator"
noncomputable def zIt(b:Bool)(l:Addr):Obj:={cls:=.type (zName b),data:=.fields #[.ref l,.int 0 0]}
theorem ZI.ex{b:Bool}{h h':Heap}{I l c:Addr}{k:Nat}(x:ZI b h I l k)(s:Heap.ExtBut c h h')(n:I≠c):ZI b h' I l k:=by
 cases b
 .exact Heap.IsListIter.extBut x s n
 .exact Heap.IsTupleIter.extBut x s n
theorem ZS.ex{b:Bool}{h h':Heap}{l c:Addr}{xs:Array Value}(x:ZS b h l xs)(s:Heap.ExtBut c h h')(n:l≠c):ZS b h' l xs:=by
 cases b
 .exact Heap.IsList.extBut x s n
 .exact Heap.IsTuple.extBut x s n
theorem ZI.mv{b:Bool}{h h':Heap}{I l:Addr}{k:Nat}(x:ZI b h I l k)(e:∀o,h.get? I=some o->h'.get? I=some o):ZI b h' I l k:=by
 cases b
 .exact Heap.IsListIter.at x e
 .exact Heap.IsTupleIter.at x e
theorem ZI.ob{b:Bool}{h:Heap}{I l:Addr}{k:Nat}(x:ZI b h I l k):∃o,h.get? I=some o/\∀v,o.data≠.cell v:=by
 cases b
 .obtain⟨o,h1,h2,h3⟩:=x;exact⟨o,h1,λv z=>by rw[h3]at z;cases z⟩
 .obtain⟨o,h1,h2,h3⟩:=x;exact⟨o,h1,λv z=>by rw[h3]at z;cases z⟩
theorem ZS.lt{b:Bool}{h:Heap}{l:Addr}{xs:Array Value}(x:ZS b h l xs):l<h.objs.size:=by
 cases b<;> (obtain⟨o,h1,_⟩:=x;exact vap h1)
theorem ZS.push{b:Bool}{h:Heap}{l:Addr}{xs:Array Value}(x:ZS b h l xs)(o:Obj):ZS b (h.push o) l xs:=by
 cases b
 .exact Heap.IsList.push x o
 .exact Heap.IsTuple.push x o
section
variable{prog:Program}{w:World}{A:Around}{E:Value->Shared->Prop}{s:Shared}
theorem zl0{b:Bool}{I l:Addr}{k:Nat}{xs:Array Value}{y:Value}{Q:Value->Shared->Prop}(hi:ZI b s.heap I l k)(hl:ZS b s.heap l xs)(hy:xs[k]?=some y)
 (q:∀g,ZI b g I l (k+1)->Heap.SameBut I s.heap g->Q y {s with heap:=g}):wpAny (model prog w) A (Builtin.SmallTypes.nextOf (.ref I)) Q E s:=by
 cases b
 .exact wpAny_nextOf_list_item hi hl hy q
 .exact zeq hi hl hy q
theorem z_end{b:Bool}{I l:Addr}{k:Nat}{xs:Array Value}{Q:Value->Shared->Prop}(hA:A.handled=none)(hi:ZI b s.heap I l k)(hl:ZS b s.heap l xs)(hy:xs[k]?=none)
 (q:∀g e,Heap.ExtBut I s.heap g->(∃o,g.get? e=some o/\o.cls=.type "StopIteration")->E (.ref e) {s with heap:=g}):wpAny (model prog w) A (Builtin.SmallTypes.nextOf (.ref I)) Q E s:=by
 cases b
 .exact wpAny_nextOf_list_end hA hi hl hy q
 .exact zds hA hi hl hy q
structure ZA(z TI TO i1 i2 l1 l2:Addr):Prop where
 a1:TI≠z/\TO≠z/\i1≠z/\i2≠z
 a2:TI≠TO/\TI≠i1/\TI≠i2/\TO≠i1/\TO≠i2/\i1≠i2
 a3:l1≠z/\l1≠TO/\l1≠i1/\l1≠i2
 a4:l2≠z/\l2≠TO/\l2≠i1/\l2≠i2
theorem zvt{n l1 l2:Nat}(h1:l1<n)(h2:l2<n):ZA (n+4) (n+2) (n+3) n (n+1) l1 l2:=by
 have e:∀{a b:Nat},(a<b\/b<a)->a≠b:=λh=>h.elim vaz vdi
 refine⟨⟨?_,?_,?_,?_⟩,⟨?_,?_,?_,?_,?_,?_⟩,⟨?_,?_,?_,?_⟩,?_,?_,?_,?_⟩<;>exact e (by omega)
theorem zsn{b c:Bool}{z TI TO i1 i2 l1 l2:Addr}{k:Nat}{xs ys:Array Value}{x y p q:Value}{Q:Value->Shared->Prop}(D:ZA z TI TO i1 i2 l1 l2)
 (hz:IsZip s.heap z TI TO .none) (hTI:IsPair s.heap TI (.ref i1) (.ref i2)) (hTO:IsPair s.heap TO p q)
 (h1:ZI b s.heap i1 l1 k) (h2:ZI c s.heap i2 l2 k) (hl1:ZS b s.heap l1 xs) (hl2:ZS c s.heap l2 ys) (hx:xs[k]?=some x) (hy:ys[k]?=some y)
 (hQ:∀h',IsZip h' z TI TO (rawInt s.heap.objs.size)->IsPair h' TO x y->ZI b h' i1 l1 (k+1)->ZI c h' i2 l2 (k+1)->IsPair h' s.heap.objs.size x y->h'.objs.size=s.heap.objs.size+1->
   (∀c o,c≠z->c≠TO->c≠i1->c≠i2->s.heap.get? c=some o->h'.get? c=some o)->Q (.ref s.heap.objs.size) {s with heap:=h'}) :
 wpAny (model prog w) A (Builtin.«zip.__next__» ⟨[.ref z],[]⟩) (λfin s'=>∃v,fin=.done (.ret v)/\Q v s') E s:=by
 obtain⟨⟨d1,d2,d3,d4⟩,⟨d5,d6,d7,d8,d9,d10⟩,⟨d11,d12,d13,d14⟩,d15,d16,d17,d18⟩:=D
 show wpAny _ _ (field (.ref z) 2 >>= _) _ _ _;refine vaa (vbs hz rfl (x:=.bool false) rfl ?_)
 show wpAny _ _ (field (.ref z) 3 >>= _) _ _ _;refine vaa (vbs hz rfl (x:=.ref TI) rfl (vaa (vcl hTI rfl ?_)))
 show wpAny _ _ (Builtin.SmallTypes.ownedTupleIsFree (.ref z) >>= _) _ _ _;refine vaa ?_;unfold Builtin.SmallTypes.ownedTupleIsFree
 refine vaa (vbs hz rfl (x:=.none) rfl (vae ?_));simp only[va8]
 refine vaa (ve1 (vaa (vbs hz rfl (x:=.ref TO) rfl (vaa (vc4 hz (by simp) λg1 z1 s1=>?_)))))
 replace z1:IsZip g1 z TI TO .ellipsis:=z1
 refine vaa ?_;simp only[List.zipIdx_cons,List.zipIdx_nil,vef,vdp]
 refine vaa (vaa (vfg ?_));show wpAny _ _ (Builtin.SmallTypes.nextOf (.ref i1) >>= _) _ _ _
 refine vaa (zl0 (h1.ex s1.extBut d3) (hl1.ex s1.extBut d11) hx λg2 y1 s2=>vae ?_)
 have t2:IsPair g2 TO p q:=s2.extBut _ _ d8 (s1.extBut _ _ d2 hTO)
 refine vaa (vcl t2 rfl (vaa (wpAny_updateSeq_pair t2 λg3 t3 s3=>?_)))
 replace t3:IsPair g3 TO x q:=t3
 refine vaa (vfn (vae (vaa (vaa (vfg ?_)))));show wpAny _ _ (Builtin.SmallTypes.nextOf (.ref i2) >>= _) _ _ _
 refine vaa (zl0 (((h2.ex s1.extBut d4).ex s2.extBut (vb6 d10)).ex s3.extBut (vb6 d9)) (((hl2.ex s1.extBut d15).ex s2.extBut d17).ex s3.extBut d16) hy λg4 y2 s4=>vae ?_)
 have t4:IsPair g4 TO x q:=s4.extBut _ _ d9 t3
 refine vaa (vcl t4 rfl (vaa (wpAny_updateSeq_pair t4 λg5 t5 s5=>?_)))
 replace t5:IsPair g5 TO x y:=t5
 refine vaa (vfn (vae (vae (vaa (vcl t5 rfl (vaa (wpAny_newTuple ?_)))))))
 have hsz:g5.objs.size=s.heap.objs.size:=by rw[s5.1,s4.1,s3.1,s2.1,s1.1]
 have z5:IsZip g5 z TI TO .ellipsis:=s5.extBut _ _ (vb6 d2) (s4.extBut _ _ (vb6 d4) (s3.extBut _ _ (vb6 d2) (s2.extBut _ _ (vb6 d3) z1)))
 have k5:∀c o,c≠z->c≠TO->c≠i1->c≠i2->s.heap.get? c=some o->g5.get? c=some o:=λc o c1 c2 c3 c4 e=>s5.extBut _ _ c2 (s4.extBut _ _ c4 (s3.extBut _ _ c2 (s2.extBut _ _ c3 (s1.extBut _ _ c1 e))))
 have i15:ZI b g5 i1 l1 (k+1):=((y1.ex s3.extBut (vb6 d8)).ex s4.extBut d10).ex s5.extBut (vb6 d8)
 have i25:ZI c g5 i2 l2 (k+1):=y2.ex s5.extBut (vb6 d9)
 have zlt:z<g5.objs.size:=vap z5
 show wpAny _ _ (Builtin.SmallTypes.ownedTupleHandOut (.ref z) (.ref g5.objs.size) >>= _) _ _ _;refine vaa ?_;unfold Builtin.SmallTypes.ownedTupleHandOut
 have z6:IsZip (g5.push {cls:=.type "tuple",data:=.seq #[x,y]}) z TI TO .ellipsis:=vac _ z5
 refine vaa (vc4 z6 (by simp) λg7 z7 s7=>?_)
 replace z7:IsZip g7 z TI TO (rawInt g5.objs.size):=z7
 refine vc4 z7 (by simp) λg8 z8 s8=>?_
 replace z8:IsZip g8 z TI TO (rawInt g5.objs.size):=z8
 have up:∀c o,c≠z->g5.get? c=some o->g8.get? c=some o:=λc o c1 e=>s8.extBut _ _ c1 (s7.extBut _ _ c1 (vac _ e))
 have p8:IsPair g8 g5.objs.size x y:=s8.extBut _ _ (vdi zlt) (s7.extBut _ _ (vdi zlt) (vao _ rfl))
 have n8:g8.objs.size=g5.objs.size+1:=by rw[s8.1,s7.1,vcs]
 rw[hsz]at z8 p8 n8
 refine vae ⟨_,rfl,?_⟩;show Q (.ref g5.objs.size) _;rw[hsz]
 exact hQ g8 z8 (up _ _ d2 t5) (i15.mv λo e=>up _ o d3 e) (i25.mv λo e=>up _ o d4 e) p8 n8 λc o c1 c2 c3 c4 e=>up c o c1 (k5 c o c1 c2 c3 c4 e)
theorem zvu{b c:Bool}{z TI TO i1 i2 l1 l2:Addr}{k:Nat}{xs ys:Array Value}{p q:Value}{Q:Fin->Shared->Prop}(hA:A.handled=none)(D:ZA z TI TO i1 i2 l1 l2)
 (hz:IsZip s.heap z TI TO .none) (hTI:IsPair s.heap TI (.ref i1) (.ref i2)) (hTO:IsPair s.heap TO p q)
 (h1:ZI b s.heap i1 l1 k) (h2:ZI c s.heap i2 l2 k) (hl1:ZS b s.heap l1 xs) (hl2:ZS c s.heap l2 ys) (he:xs[k]?=none\/ys[k]?=none)
 (hE:∀h' e,(∀c o,c≠z->c≠TO->c≠i1->c≠i2->s.heap.get? c=some o->h'.get? c=some o)->(∃o,h'.get? e=some o/\o.cls=.type "StopIteration")->E (.ref e) {s with heap:=h'}) :
 wpAny (model prog w) A (Builtin.«zip.__next__» ⟨[.ref z],[]⟩) Q E s:=by
 obtain⟨⟨d1,d2,d3,d4⟩,⟨d5,d6,d7,d8,d9,d10⟩,⟨d11,d12,d13,d14⟩,d15,d16,d17,d18⟩:=D
 show wpAny _ _ (field (.ref z) 2 >>= _) _ _ _;refine vaa (vbs hz rfl (x:=.bool false) rfl ?_)
 show wpAny _ _ (field (.ref z) 3 >>= _) _ _ _;refine vaa (vbs hz rfl (x:=.ref TI) rfl (vaa (vcl hTI rfl ?_)))
 show wpAny _ _ (Builtin.SmallTypes.ownedTupleIsFree (.ref z) >>= _) _ _ _;refine vaa ?_;unfold Builtin.SmallTypes.ownedTupleIsFree
 refine vaa (vbs hz rfl (x:=.none) rfl (vae ?_));simp only[va8]
 refine vaa (ve1 (vaa (vbs hz rfl (x:=.ref TO) rfl (vaa (vc4 hz (by simp) λg1 z1 s1=>?_)))))
 replace z1:IsZip g1 z TI TO .ellipsis:=z1
 refine vaa ?_;simp only[List.zipIdx_cons,List.zipIdx_nil,vef,vdp]
 refine vaa (vaa (vfg ?_));show wpAny _ _ (Builtin.SmallTypes.nextOf (.ref i1) >>= _) _ _ _
 cases hx:xs[k]? with
 |none=>
  refine vaa (z_end hA (h1.ex s1.extBut d3) (hl1.ex s1.extBut d11) hx λg2 e s2 hs=>?_)
  obtain⟨oe,hoe,hce⟩:=hs
  have z2:IsZip g2 z TI TO .ellipsis:=s2 _ _ (vb6 d3) z1
  have nez:e≠z:=λx=>by subst x;rw[z2]at hoe;cases hoe;simp at hce
  exact vc4 z2 (by simp) λg3 _ s3=>hE g3 e (λc o c1 _ c3 _ x=>s3.extBut _ _ c1 (s2 _ _ c3 (s1.extBut _ _ c1 x))) ⟨oe,s3.extBut _ _ nez hoe,hce⟩
 |some x=>
  have hy:ys[k]?=none:=by rcases he with h|h;rw[hx]at h;cases h;exact h
  refine vaa (zl0 (h1.ex s1.extBut d3) (hl1.ex s1.extBut d11) hx λg2 y1 s2=>vae ?_)
  have t2:IsPair g2 TO p q:=s2.extBut _ _ d8 (s1.extBut _ _ d2 hTO)
  refine vaa (vcl t2 rfl (vaa (wpAny_updateSeq_pair t2 λg3 t3 s3=>?_)))
  refine vaa (vfn (vae (vaa (vaa (vfg ?_)))));show wpAny _ _ (Builtin.SmallTypes.nextOf (.ref i2) >>= _) _ _ _
  refine vaa (z_end hA (((h2.ex s1.extBut d4).ex s2.extBut (vb6 d10)).ex s3.extBut (vb6 d9)) (((hl2.ex s1.extBut d15).ex s2.extBut d17).ex s3.extBut d16) hy λg4 e s4 hs=>?_)
  obtain⟨oe,hoe,hce⟩:=hs
  have z4:IsZip g4 z TI TO .ellipsis:=s4 _ _ (vb6 d4) (s3.extBut _ _ (vb6 d2) (s2.extBut _ _ (vb6 d3) z1))
  have nez:e≠z:=λx=>by subst x;rw[z4]at hoe;cases hoe;simp at hce
  exact vc4 z4 (by simp) λg5 _ s5=>hE g5 e (λc o c1 c2 c3 c4 x=>s5.extBut _ _ c1 (s4 _ _ c4 (s3.extBut _ _ c2 (s2.extBut _ _ c3 (s1.extBut _ _ c1 x))))) ⟨oe,s5.extBut _ _ nez hoe,hce⟩
theorem zso{b c:Bool}{z TI TO i1 i2 l1 l2:Addr}{k:Nat}{xs ys:Array Value}{x y p q:Value}{Q:Option Value->Shared->Prop}(D:ZA z TI TO i1 i2 l1 l2)
 (hz:IsZip s.heap z TI TO .none) (hTI:IsPair s.heap TI (.ref i1) (.ref i2)) (hTO:IsPair s.heap TO p q)
 (h1:ZI b s.heap i1 l1 k) (h2:ZI c s.heap i2 l2 k) (hl1:ZS b s.heap l1 xs) (hl2:ZS c s.heap l2 ys) (hx:xs[k]?=some x) (hy:ys[k]?=some y)
 (hQ:∀h',IsZip h' z TI TO (rawInt s.heap.objs.size)->IsPair h' TO x y->ZI b h' i1 l1 (k+1)->ZI c h' i2 l2 (k+1)->IsPair h' s.heap.objs.size x y->h'.objs.size=s.heap.objs.size+1->
   (∀c o,c≠z->c≠TO->c≠i1->c≠i2->s.heap.get? c=some o->h'.get? c=some o)->Q (some (.ref s.heap.objs.size)) {s with heap:=h'}):wpAny (model prog w) A (pyNext (.ref z)) Q E s:=by
 have hT:s.TypeIs (.ref z) "zip":=⟨_,hz,rfl⟩
 unfold pyNext
 exact vaa (veh (vbf (name:=Str.ofString "__next__") hT ve4 (vbj ve4 hT F.entry_zip_next (zsn D hz hTI hTO h1 h2 hl1 hl2 hx hy λh' a1 a2 a3 a4 a5 a6 a7=>vae (hQ h' a1 a2 a3 a4 a5 a6 a7)) (F.args_zip_next_1 _))))
theorem zvv{b c:Bool}{z TI TO i1 i2 l1 l2:Addr}{k:Nat}{xs ys:Array Value}{p q:Value}{Q:Option Value->Shared->Prop}(hA:A.in1.handled=none)(D:ZA z TI TO i1 i2 l1 l2)
 (hz:IsZip s.heap z TI TO .none) (hTI:IsPair s.heap TI (.ref i1) (.ref i2)) (hTO:IsPair s.heap TO p q)
 (h1:ZI b s.heap i1 l1 k) (h2:ZI c s.heap i2 l2 k) (hl1:ZS b s.heap l1 xs) (hl2:ZS c s.heap l2 ys) (he:xs[k]?=none\/ys[k]?=none)
 (hQ:∀h',(∀c o,c≠z->c≠TO->c≠i1->c≠i2->s.heap.get? c=some o->h'.get? c=some o)->Q none {s with heap:=h'}):wpAny (model prog w) A (pyNext (.ref z)) Q E s:=by
 have hT:s.TypeIs (.ref z) "zip":=⟨_,hz,rfl⟩
 unfold pyNext
 refine vaa (veh (vbf (name:=Str.ofString "__next__") hT ve4 (vbj ve4 hT F.entry_zip_next (zvu hA D hz hTI hTO h1 h2 hl1 hl2 he λh' e hk hs=>?_) (F.args_zip_next_1 _))))
 obtain⟨o,ho,hc⟩:=hs
 exact vaa (vcz (T:="StopIteration") (b:=true) ⟨o,ho,hc⟩ isSubtype_stop (vae (hQ _ hk)))
noncomputable def zh1(h:Heap)(b:Bool)(l1:Addr):Heap:=h.push (zIt b l1)
noncomputable def zh2(h:Heap)(b c:Bool)(l1 l2:Addr):Heap:=(zh1 h b l1).push (zIt c l2)
noncomputable def zh3(h:Heap)(b c:Bool)(l1 l2:Addr):Heap:=(zh2 h b c l1 l2).push {cls:=.type "tuple",data:=.seq #[.ref h.objs.size,.ref (zh1 h b l1).objs.size]}
noncomputable def zh4(h:Heap)(b c:Bool)(l1 l2:Addr):Heap:=(zh3 h b c l1 l2).push {cls:=.type "tuple",data:=.seq #[.none,.none]}
noncomputable def zh5(h:Heap)(b c:Bool)(l1 l2:Addr):Heap:=(zh4 h b c l1 l2).push {cls:=.type "zip",data:=.fields #[.none,.bool false,.bool false,.ref (zh2 h b c l1 l2).objs.size,.ref (zh3 h b c l1 l2).objs.size]}
theorem zo7(b c:Bool)(l1 l2:Addr)(xs ys:Array Value):Meets (Builtin.«zip.__new__» ⟨[.type "zip",.ref l1,.ref l2],[]⟩) (λ_ R s=>ZS b s.heap l1 xs/\ZS c s.heap l2 ys/\
 R (.ok (.ret (.ref (zh4 s.heap b c l1 l2).objs.size))) {s with heap:=zh5 s.heap b c l1 l2}):=
 .of_wp λprog w A R s h=>by
  obtain⟨hp,g,d,tk,os⟩:=s;obtain⟨m1,m2,h⟩:=h
  have hsub:=sub_zip
  have e1:ZS b (Shared.heap ⟨hp,g,d,tk,os⟩) l1 xs:=m1
  have e2:ZS c (Shared.heap ⟨hp.push (zIt b l1),g,d,tk,os⟩) l2 ys:=m2.push _
  cases b<;>cases c
  .have q1:Heap.IsList (Shared.heap ⟨hp,g,d,tk,os⟩) l1 xs:=e1
   have q2:Heap.IsList (Shared.heap ⟨hp.push {cls:=.type "list_iterator",data:=.fields #[.ref l1,.int 0 0]},g,d,tk,os⟩) l2 ys:=e2
   wp_walk using vdf q1,vdf q2
   exact⟨_,rfl,h⟩
  .have q1:Heap.IsList (Shared.heap ⟨hp,g,d,tk,os⟩) l1 xs:=e1
   have q2:Heap.IsTuple (Shared.heap ⟨hp.push {cls:=.type "list_iterator",data:=.fields #[.ref l1,.int 0 0]},g,d,tk,os⟩) l2 ys:=e2
   wp_walk using vdf q1,vcq q2
   exact⟨_,rfl,h⟩
  .have q1:Heap.IsTuple (Shared.heap ⟨hp,g,d,tk,os⟩) l1 xs:=e1
   have q2:Heap.IsList (Shared.heap ⟨hp.push {cls:=.type "tuple_iterator",data:=.fields #[.ref l1,.int 0 0]},g,d,tk,os⟩) l2 ys:=e2
   wp_walk using vcq q1,vdf q2
   exact⟨_,rfl,h⟩
  .have q1:Heap.IsTuple (Shared.heap ⟨hp,g,d,tk,os⟩) l1 xs:=e1
   have q2:Heap.IsTuple (Shared.heap ⟨hp.push {cls:=.type "tuple_iterator",data:=.fields #[.ref l1,.int 0 0]},g,d,tk,os⟩) l2 ys:=e2
   wp_walk using vcq q1,vcq q2
   exact⟨_,rfl,h⟩
theorem zqw{b:Bool}{h:Heap}{l:Addr}{a:Addr}(e:h.get? a=some (zIt b l)):ZI b h a l 0:=by
 cases b<;>exact⟨_,e,rfl,rfl⟩
theorem zsp{b c:Bool}{l1 l2:Addr}{xs ys:Array Value}{Q:Value->Shared->Prop}(m1:ZS b s.heap l1 xs)(m2:ZS c s.heap l2 ys)
 (h:∀h',IsZip h' (s.heap.objs.size+4) (s.heap.objs.size+2) (s.heap.objs.size+3) .none->IsPair h' (s.heap.objs.size+2) (.ref s.heap.objs.size) (.ref (s.heap.objs.size+1))->
   IsPair h' (s.heap.objs.size+3) .none .none->ZI b h' s.heap.objs.size l1 0->ZI c h' (s.heap.objs.size+1) l2 0->h'.objs.size=s.heap.objs.size+5->
   (∀c o,s.heap.get? c=some o->h'.get? c=some o)->Q (.ref (s.heap.objs.size+4)) {s with heap:=h'}):wpAny (model prog w) A (call (.type "zip") [.ref l1,.ref l2]) Q E s:=by
 refine vfi F.called_zip (by decide) (F.typeCall_zip_2 _ _) (F.newCall_zip_2 _ _) (λobj=>F.args_object_init_3 obj _ _) F.entry_zip_new (zo7 b c l1 l2 xs ys) ⟨m1,m2,?_⟩
 have n1:(zh1 s.heap b l1).objs.size=s.heap.objs.size+1:=vcs ..
 have n2:(zh2 s.heap b c l1 l2).objs.size=s.heap.objs.size+2:=by unfold zh2;rw[vcs,n1]
 have n3:(zh3 s.heap b c l1 l2).objs.size=s.heap.objs.size+3:=by unfold zh3;rw[vcs,n2]
 have n4:(zh4 s.heap b c l1 l2).objs.size=s.heap.objs.size+4:=by unfold zh4;rw[vcs,n3]
 have n5:(zh5 s.heap b c l1 l2).objs.size=s.heap.objs.size+5:=by unfold zh5;rw[vcs,n4]
 have g5:(zh5 s.heap b c l1 l2).get? (zh4 s.heap b c l1 l2).objs.size=some _:=vao _ rfl
 have g4:(zh5 s.heap b c l1 l2).get? (zh3 s.heap b c l1 l2).objs.size=some _:=vac _ (vao _ rfl)
 have g3:(zh5 s.heap b c l1 l2).get? (zh2 s.heap b c l1 l2).objs.size=some _:=vac _ (vac _ (vao _ rfl))
 have g2:(zh5 s.heap b c l1 l2).get? (zh1 s.heap b l1).objs.size=some _:=vac _ (vac _ (vac _ (vao _ rfl)))
 have g1:(zh5 s.heap b c l1 l2).get? s.heap.objs.size=some _:=vac _ (vac _ (vac _ (vac _ (vao _ rfl))))
 show _/\_
 rw[n2,n3,n4]at g5
 rw[n1,n2]at g3
 rw[n3]at g4
 rw[n1]at g2
 rw[n4]
 exact⟨⟨_,g5,rfl⟩,h _ g5 g3 g4 (zqw g1) (zqw g2) n5 λc o x=>vac _ (vac _ (vac _ (vac _ (vac _ x))))⟩
end
noncomputable def SqB(b:Bool)(K:vga)(H:Hp)(a:Addr)(xs:List V):Prop:=match b with|true=>SqT K H a xs|false=>SqL K H a xs
theorem zer{b:Bool}{X:Cx}{pins:List (Addr×Obj)}{σ:St}{H:Hp}{s:Shared}{a:Addr}{xs:List V}(I:Inv X pins σ H s)(h:SqB b X.K H a xs):∃its:List Value,Vals xs its/\ZS b s.heap a its.toArray/\xs.length<=sizeLine:=by
 cases b
 .obtain⟨its,r,p,z⟩:=I.list h
  exact⟨its,r,p.isList,z⟩
 .exact I.tuple h
theorem zl1{b:Bool}{X:Cx}{pins:List (Addr×Obj)}{σ:St}{H:Hp}{s:Shared}{a:Addr}{xs ys:List V}(I:Inv X pins σ H s)(h:SqB b X.K H a xs)(h':SqB b X.K H a ys):xs=ys:=by
 cases b
 .exact I.list_inj h h'
 .exact I.tuple_inj h h'
noncomputable def IteZ(K:vga)(b c:Bool)(a1 a2:Addr):It:=
 ⟨λi H=>∃xs ys x y,SqB b K H a1 xs/\SqB c K H a2 ys/\xs[i]?=some x/\ys[i]?=some y,
  λi H v H'=>∃T x y,v=.ref T/\H T=none/\H'=upd H T (.tup [x,y])/\(∀xs,SqB b K H a1 xs->xs[i]?=some x)/\∀ys,SqB c K H a2 ys->ys[i]?=some y,
  λi H=>∃xs ys,SqB b K H a1 xs/\SqB c K H a2 ys/\(xs.length<=i\/ys.length<=i)⟩
theorem Inv.turnedZ{X:Cx}{pins:List (Addr×Obj)}{σ:St}{H:Hp}{s:Shared}{h2:Heap}{t':Nat}{fp:List Addr}(I:Inv X pins σ H s)(hf:∀b∈fp,FpOk X pins H b)(kk:∀b o,b∉fp->s.heap.get? b=some o->h2.get? b=some o) :
 Inv X pins σ H {s with heap:=h2,toks:=t'}:=by
 have f0:=λb hb=>(hf b hb).1
 have nE:∀b o,H b=some o->b∉fp:=λb o q z=>by rw[f0 b z]at q;cases q
 refine I.step (g':=s.gens) (d':=s.drawn) (ch:=fp) (λb hb=>?_) (λb o _ _ hc e1 _=>kk b o hc e1) (λb o _ _ hc e1 _=>⟨o.slots,kk b o hc e1⟩) (λ_ _ _ _ n=>n) (λb o hc e1=>⟨o,kk b o hc e1⟩)
  (λ_ _ q=>q) (λ_ _ _ q=>q) (λb ps q=>⟨#[],by rw[q];simp⟩) (λm hm=>?_) (λb ob q=>?_) I.bare
 .obtain⟨_,a1,a2,a3,a4,a5⟩:=hf b hb
  exact⟨a3,a1,a4,a5⟩
 .obtain⟨o,es,ep,ho',r⟩:=hm
  exact⟨o,es,ep,kk _ o (λz=>(hf _ z).2.1 rfl) ho',r⟩
 .refine(I.hok b ob q).stay (λc v hc z=>kk c v ?_ z) (λ_ z=>z) λ_ _ z=>z
  rcases hc with rfl|hc
  .exact nE c ob q
  .exact nE c _ hc
theorem Inv.turnedT{X:Cx}{pins:List (Addr×Obj)}{σ:St}{H:Hp}{s:Shared}{h2:Heap}{fp:List Addr}{xs:List V}{us:List Value}(I:Inv X pins σ H s)(hf:∀b∈fp,FpOk X pins H b)(kk:∀b o,b∉fp->s.heap.get? b=some o->h2.get? b=some o)
 (hT:h2.get? s.heap.objs.size=some {cls:=.type "tuple",data:=.seq us.toArray}) (hv:Vals xs us) (hz:xs.length<=sizeLine):Inv X pins σ (upd H s.heap.objs.size (.tup xs)) {s with heap:=h2}:=by
 have hTn:H s.heap.objs.size=none:=I.hok.fresh (vad _)
 have f0:=λb hb=>(hf b hb).1
 have nE:∀b o,H b=some o->b∉fp:=λb o q z=>by rw[f0 b z]at q;cases q
 refine I.step (g':=s.gens) (d':=s.drawn) (ch:=fp) (λb hb=>?_) (λb o _ _ hc e1 _=>kk b o hc e1) (λb o _ _ hc e1 _=>⟨o.slots,kk b o hc e1⟩) (λb o hc e1 n=>by rw[zae (vaz (vap e1))];exact n) (λb o hc e1=>⟨o,kk b o hc e1⟩)
  (λb ys q=>by rw[zae (zad q hTn)];exact q) (λb o u q=>by rw[zae (zad q hTn)];exact q) (λb ps q=>⟨#[],by rw[zae (zad q hTn),q];simp⟩) (λm hm=>?_) (λb ob q=>?_) I.bare
 .obtain⟨_,a1,a2,a3,a4,a5⟩:=hf b hb
  exact⟨a3,a1,a4,a5⟩
 .obtain⟨o,es,ep,ho',r⟩:=hm
  exact⟨o,es,ep,kk _ o (λz=>(hf _ z).2.1 rfl) ho',r⟩
 .by_cases hb:b=s.heap.objs.size
  .subst hb
   rw[zan]at q;cases q
   exact⟨hz,us,hv,⟨_,hT,rfl,⟨_,rfl⟩,rfl⟩⟩
  .rw[zae hb]at q
   refine(I.hok b ob q).stay (λc v hc z=>kk c v ?_ z) (λc z=>by rw[zae (zad z hTn)];exact z) λc ys z=>by rw[zae (zad z hTn)];exact z
   rcases hc with rfl|hc
   .exact nE c ob q
   .exact nE c _ hc
theorem zo8{P:Program}{w:World}{K:vga}{elts:List Expr}{kx:Nat}{tp:Pos}{b c:Bool}(a1 a2 z TI TO i1 i2:Addr)(D:ZA z TI TO i1 i2 a1 a2) :
 Turn P w K (.Tuple elts kx tp) (IteZ K b c a1 a2) [z,TI,TO,i1,i2] z (λi h=>IsZip h z TI TO .none/\IsPair h TI (.ref i1) (.ref i2)/\(∃p q,IsPair h TO p q)/\ZI b h i1 a1 i/\ZI c h i2 a2 i)where
 mem:=by simp
 obj:=λi h st d hd=>by
  obtain⟨hz,hTI,⟨p,q,hTO⟩,h1,h2⟩:=st
  simp only[vau,vbp,vd8]at hd
  rcases hd with rfl|rfl|rfl|rfl|rfl
  .exact⟨_,hz,λv z=>by
    have z':Data.fields _=Data.cell v:=z
    cases z'⟩
  .exact⟨_,hTI,λv z=>by
    have z':Data.seq _ _=Data.cell v:=z
    cases z'⟩
  .exact⟨_,hTO,λv z=>by
    have z':Data.seq _ _=Data.cell v:=z
    cases z'⟩
  .exact h1.ob
  .exact h2.ob
 keep:=λi h h' st k=>by
  obtain⟨hz,hTI,⟨p,q,hTO⟩,h1,h2⟩:=st
  exact⟨k z (by simp) _ hz,k TI (by simp) _ hTI,⟨p,q,k TO (by simp) _ hTO⟩,h1.mv λo e=>k i1 (by simp) o e,h2.mv λo e=>k i2 (by simp) o e⟩
 item:=by
  intro X hP hw hK hc i pins s σ H E I hf st hg
  subst hP hw hK
  obtain⟨xs,ys,x,y,q1,q2,hx,hy⟩:=hg
  obtain⟨hz,hTI,⟨p,q,hTO⟩,h1,h2⟩:=st
  obtain⟨its,rv,m1,_⟩:=zer I q1
  obtain⟨jts,rw',m2,_⟩:=zer I q2
  obtain⟨u,hu,ru⟩:=rv.get hx
  obtain⟨v,hv,rv'⟩:=rw'.get hy
  refine zso D hz hTI hTO h1 h2 m1 m2 (x:=u) (y:=v) (by simpa using hu) (by simpa using hv) λg b1 b2 b3 b4 b5 b6 b7=>⟨_,rfl,wpAny_letOwnedTupleGo_zip b1 λg2 c1 c2=>?_⟩
  obtain⟨⟨d1,d2,d3,d4⟩,⟨d5,d6,d7,d8,d9,d10⟩,_,_⟩:=D
  have c2:Heap.SameBut z g g2:=c2
  have zlt:s.heap.objs.size≠z:=vdi (vap hz)
  have kk:∀d o,d∉[z,TI,TO,i1,i2]->s.heap.get? d=some o->g2.get? d=some o:=λd o hd e=>(c2.2 d λx=>hd (by simp[x])).trans (b7 d o (λx=>hd (by simp[x])) (λx=>hd (by simp[x])) (λx=>hd (by simp[x])) (λx=>hd (by simp[x])) e)
  have hT:g2.get? s.heap.objs.size=some {cls:=.type "tuple",data:=.seq [u,v].toArray}:=(c2.2 _ zlt).trans b5
  have I2:=Inv.turnedT (xs:=[x,y]) I hf kk hT (.cons ru (.cons rv' .nil)) (by show 2<=sizeLine;decide)
  have hTn:H s.heap.objs.size=none:=I.hok.fresh (vad _)
  refine⟨.ref s.heap.objs.size,_,I2,rfl,⟨_,x,y,rfl,hTn,rfl,λzs hzs=>by rw[zl1 I hzs q1];exact hx,λzs hzs=>by rw[zl1 I hzs q2];exact hy⟩,
   ⟨c1,(c2.2 TI d1).trans (b7 TI _ d1 d5 d6 d7 hTI),⟨u,v,(c2.2 TO d2).trans b2⟩,b3.mv λo e=>(c2.2 i1 d3).trans e,b4.mv λo e=>(c2.2 i2 d4).trans e⟩,λd hd=>?_⟩
  rw[zae ?_]
  .exact(hf d hd).1
  .intro e
   obtain⟨o,ho⟩:∃o,s.heap.get? d=some o:=by
    simp only[vau,vbp,vd8]at hd
    rcases hd with rfl|rfl|rfl|rfl|rfl
    .exact⟨_,hz⟩
    .exact⟨_,hTI⟩
    .exact⟨_,hTO⟩
    .exact let⟨o,h,_⟩:=h1.ob;⟨o,h⟩
    .exact let⟨o,h,_⟩:=h2.ob;⟨o,h⟩
   exact vaz (vap ho) e
 done:=by
  intro X hP hw hK hc i pins s σ H E I hf st hg
  subst hP hw hK
  obtain⟨xs,ys,q1,q2,hl⟩:=hg
  obtain⟨hz,hTI,⟨p,q,hTO⟩,h1,h2⟩:=st
  obtain⟨its,rv,m1,_⟩:=zer I q1
  obtain⟨jts,rw',m2,_⟩:=zer I q2
  have l1:=rv.length
  have l2:=rw'.length
  exact zvv (I.ok.hd hc) D hz hTI hTO h1 h2 m1 m2 (hl.imp (λh=>by simp;omega) λh=>by simp;omega) λg hk=>⟨rfl,Inv.turnedZ (t':=s.toks) I hf λd o hd e=>hk d o (λx=>hd (by simp[x])) (λx=>hd (by simp[x])) (λx=>hd (by simp[x])) (λx=>hd (by simp[x])) e⟩
 self:=λ_ _ _ _ _ st h=>wpAny_pyIter_zip st.1 h
theorem zo9{bs:List Bool}{its:List Value}(r:Vals (bs.map .bl) its)(i:Nat){v:Value}(h:its[i]?=some v):∃b,bs[i]?=some b/\v=.bool b:=by
 have hl:=r.length
 rw[vaf]at hl
 obtain⟨hi,_⟩:=vaq.mp h
 have hb:bs[i]?=some bs[i]:=vat (by omega)
 obtain⟨u,hu,ru⟩:=r.get (i:=i) (x:=.bl bs[i]) (by rw[vas,hb];rfl)
 rw[h]at hu;cases hu
 exact⟨_,hb,ru⟩
theorem zl2(bs:List Bool):((List.range bs.length).all λi=>(bs[i]?).getD true)=bs.all id:=by
 rw[Bool.eq_iff_iff,vb1,vb1]
 refine⟨λh b hb=>?_,λh i hi=>?_⟩
 .obtain⟨i,hi,rfl⟩:=List.getElem_of_mem hb
  have:=h i (vb5.mpr hi)
  rw[vat hi]at this
  exact this
 .have hi':=vb5.mp hi
  rw[vat hi']
  exact h _ (vc0 hi')
section
variable{X:Cx}
theorem zpa(hc:X.calm=true):CallR X (.builtin "all") (λxs H Q=>∃(p:Addr) (bs:List Bool),xs=[.ref p]/\SqL X.K H p (bs.map .bl)/\Q (.bl (bs.all id)) H):=by
 intro pins s σ H xs us Q I r h
 obtain⟨p,bs,rfl,hq,q⟩:=h
 obtain⟨u,rfl,ru⟩:=vals1 r
 cases ru
 obtain⟨its,rv,pl,hz⟩:=I.list hq
 have hL:s.heap.IsList p its.toArray:=pl.isList
 have hlt:p<s.heap.objs.size:=by obtain⟨_,e,_⟩:=hL;exact vap e
 have hd:X.A.in1.handled=none:=I.ok.hd hc
 have hlen:its.toArray.size=bs.length:=by rw[vam,<-rv.length,vaf]
 refine call_all_walk (vdf hL ⟨s.heap.objs.size,[s.heap.objs.size,p],[s.heap.objs.size],its.toArray.size,_,_,λi=>(bs[i]?).getD true,rfl,Walks.list (A:=X.A.in1) hd _ p (vaz hlt) its.toArray,?_,?_,?_⟩)
 .exact⟨⟨_,vao _ rfl,rfl,rfl⟩,hL.push _⟩
 .intro i v s' Q' E' hP hQ
  obtain⟨b,e,rfl⟩:=zo9 rv i (by simpa using hP)
  simp only[e,vew]at hQ
  exact vb2 hQ
 .intro h' tk hk
  rw[hlen,zl2]
  refine⟨.bl (bs.all id),H,I.kept (t':=tk) λb o e=>hk b o (λhm=>?_) (vac _ e),rfl,q⟩
  rw[vce.mp hm]at e
  exact vca _ (vap e)
end
section
variable{X:Cx}
theorem Inv.freeze{pins:List (Addr×Obj)}{σ:St}{H:Hp}{s:Shared}{a:Addr}{kvs:List (Key×V)}(I:Inv X pins σ H s)(e:H a=some (.dK kvs)):∃ob,Inv X pins σ (upd H a (.frz ob (.dK kvs))) s:=by
 obtain⟨z,y,vs,r,ob,es,ep,e1,c⟩:=(show ObjOk X.prog X.w H s.heap a (.dK kvs)from I.hok a _ e)
 refine⟨ob,?_⟩
 exact I.write (x:=a) (e:=a) (o:=.frz ob (.dK kvs)) (h':=s.heap) (t':=s.toks) (by rw[e];trivial) (.inl rfl) (λ_ _ _ q=>q) ⟨ob,e1⟩ ⟨e1,z,y,vs,r,ob,es,ep,e1,c⟩
theorem is_kV{P:Program}{w:World}{k:Key}{u:Value}(h:(zau P w).is k u=true):RelV (kV k) u:=by
 rcases zat h with⟨i,t,rfl,rfl⟩|⟨x,t,rfl,rfl⟩
 .exact⟨t,rfl⟩
 .exact⟨t,rfl⟩
noncomputable def Itd(a:Addr)(ob:Obj)(kvs:List (Key×V)):It where
 go:=λi H=>H a=some (.frz ob (.dK kvs))/\i<kvs.length
 yld:=λi H x H'=>H'=H/\∃k v,kvs[i]?=some (k,v)/\x=kV k
 stop:=λi H=>H a=some (.frz ob (.dK kvs))/\i=kvs.length
theorem zl3{P:Program}{w:World}{K:vga}{tg:Expr}{a it:Addr}{ob:Obj}{kvs:List (Key×V)}{es:Array DictEntry}{ep:Nat}(hd:ob.data=.dict es ep)(hne:a≠it):Turn P w K tg (Itd a ob kvs) [it] it (λi h=>h.IsKeyIter it a i kvs.length ep)where
 mem:=by simp
 obj:=λi h st b hb=>by
  have e:b=it:=by simpa using hb
  subst e
  obtain⟨o,e,c,d⟩:=st
  exact⟨o,e,λv z=>by rw[d]at z;cases z⟩
 keep:=λi h h' st k=>by
  obtain⟨o,e,c,d⟩:=st
  exact⟨o,k it (by simp) o e,c,d⟩
 item:=by
  intro X hP hw hK hc i pins s σ H E I hf st hg
  subst hP hw hK
  obtain⟨e0,hi⟩:=hg
  obtain⟨e1,z,y,vs,r,o',es',ep',e2,c1,c2,c3,c4,c5⟩:=(show ObjOk X.prog X.w H s.heap a (.frz ob (.dK kvs))from I.hok a _ e0)
  rw[e1]at e2;cases e2
  rw[hd]at c2;cases c2
  obtain⟨f0,f1,f2,f3,f4,f5⟩:=hf it (by simp)
  have hl:=r.length
  have W:=Walks.dictKeys (knd:=zau X.prog X.w) (I.ok.hd hc) it a hne vs ep
  refine W.item i s _ _ (by omega) ⟨by rw[<-hl];exact st,ob,es,e1,c1,hd,c3,c4,c5⟩ λv h' tk hv st' kk=>?_
  obtain⟨k,x,hk,his⟩:=hv
  have I1:Inv X pins σ H {s with heap:=h',toks:=tk}:=I.turned (λb o hb e=>kk b o (by simpa using hb) e) f0 f1 f3 f4 f5
  have st2:h'.IsKeyIter it a (i+1) kvs.length ep:=by rw[hl];exact st'.1
  obtain⟨o,e,c,d⟩:=id st2
  have hk2:∃v0,kvs[i]?=some (k,v0):=by
   have q:=r.keys
   have q2:(kvs.map (·.1))[i]?=(vs.map (·.1))[i]?:=by rw[q]
   rw[vas,vas,hk]at q2
   cases q3:kvs[i]? with
   |none=>rw[q3]at q2;cases q2
   |some p=>rw[q3]at q2;obtain⟨p1,p2⟩:=p;cases q2;exact⟨p2,rfl⟩
  obtain⟨v0,hk3⟩:=hk2
  exact⟨v,rfl,go_of (s:={s with heap:=h',toks:=tk}) e c d (by decide) ⟨kV k,H,I1,is_kV his,⟨rfl,k,v0,hk3,rfl⟩,st2,λb hb=>(hf b hb).1⟩⟩
 done:=by
  intro X hP hw hK hc i pins s σ H E I hf st hg
  subst hP hw hK
  obtain⟨e0,hi⟩:=hg
  obtain⟨e1,z,y,vs,r,o',es',ep',e2,c1,c2,c3,c4,c5⟩:=(show ObjOk X.prog X.w H s.heap a (.frz ob (.dK kvs))from I.hok a _ e0)
  rw[e1]at e2;cases e2
  rw[hd]at c2;cases c2
  obtain⟨f0,f1,f2,f3,f4,f5⟩:=hf it (by simp)
  have hl:=r.length
  have W:=Walks.dictKeys (knd:=zau X.prog X.w) (I.ok.hd hc) it a hne vs ep
  refine W.done s _ _ ⟨by rw[<-hl];rw[hi]at st;exact st,ob,es,e1,c1,hd,c3,c4,c5⟩ λh' tk kk=>?_
  exact⟨rfl,I.turned (λb o hb e=>kk b o (by simpa using hb) e) f0 f1 f3 f4 f5⟩
 self:=λ_ _ _ _ _ st h=>wpAny_pyIter_keyiter st h
end
noncomputable def oIs:Option Int->Value->Bool
 |none,.none=>true
 |some i,v=>Value.isInt i v
 |none,_=>false
noncomputable def oHash:Option Int->Int
 |none=>0xFCA86420
 |some i=>hashInt i
theorem za1:∀{k:Option Int} {v:Value},oIs k v=true->(k=none/\v=.none)\/∃i t,k=some i/\v=.int i t
 |none,v,h=>by cases v<;>first|exact .inl ⟨rfl,rfl⟩|cases h
 |some i,v,h=>by
  obtain⟨t,e⟩:=Value.isInt_shape (k:=i) (v:=v) h
  exact .inr ⟨i,t,rfl,e⟩
theorem zl4{prog:Program}{w:World}{A:Around}{E:Value->Shared->Prop}{s:Shared}{Q:Int->Shared->Prop}(h:Q 0xFCA86420 {s with toks:=s.toks+1}):wpAny (model prog w) A (PySem.pyHash .none) Q E s:=by
 have hT:s.TypeIs .none "NoneType":=rfl
 unfold pyHash
 refine vaa (wpAny_cRoomFor_or (.inl rfl) ?_)
 refine vaa (vcp hT vd4.lookup ?_)
 show wpAny _ _ (if(some (Value.builtin "NoneType.__hash__")==some Value.none)=true then _ else _) Q E s
 rw[if_neg (by rw[beq_builtin_none];exact vbr)]
 refine vaa (vcp hT vd4.lookup ?_)
 show wpAny _ _ (callSpecialIfBoundUnlessNone? .none "__hash__" _ >>= _) Q E s
 refine vaa (wpAny_callSpecialIfBoundUnlessNone?_slot hT vd4
  (vbj vd4 hT F.entry_NoneType_hash
    (show wpAny _ _ (do ret (<-mkInt 0xFCA86420)) _ _ s from wpAny_ret_mkInt ?_) (F.args_NoneType_hash_1 _)))
 show wpAny _ _ (if(decide (-(2:Int) ^ 63<=0xFCA86420)&&decide ((0xFCA86420:Int)<2 ^ 63))=true then _ else _) Q E _
 rw[if_pos (by decide)]
 exact vae h
noncomputable def oKind(prog:Program)(w:World):KeyKind prog w (Option Int)where
 is:=oIs
 hash:=oHash
 inj:=λv a b ha hb=>by
  rcases za1 ha with⟨rfl,rfl⟩|⟨i,t,rfl,rfl⟩
  .rcases za1 hb with⟨rfl,_⟩|⟨j,u,rfl,e⟩
   .rfl
   .cases e
  .rcases za1 hb with⟨rfl,e⟩|⟨j,u,rfl,e⟩
   .cases e
   .cases e;rfl
 byValue:=λk v h=>by
  rcases za1 h with⟨rfl,rfl⟩|⟨i,t,rfl,rfl⟩<;>rfl
 pyHash:=λhv h=>by
  rcases za1 hv with⟨rfl,rfl⟩|⟨i,t,rfl,rfl⟩
  .exact zl4 h
  .exact wpAny_pyHash_int h
 eqBool:=λ{A E s a b u v Q} hu hv h=>by
  rcases za1 hu with⟨rfl,rfl⟩|⟨i,t,rfl,rfl⟩
  .rcases za1 hv with⟨rfl,rfl⟩|⟨j,u,rfl,rfl⟩
   .exact SeqAt.EqAt.same (A:=A) (s:=s) .none prog w E Q (by simpa using h)
   .exact SeqAt.EqAt.none_int (A:=A) (s:=s) j u prog w E Q (by simpa using h)
  .rcases za1 hv with⟨rfl,rfl⟩|⟨j,u,rfl,rfl⟩
   .exact SeqAt.EqAt.int_none (A:=A) (s:=s) i t prog w E Q (by simpa using h)
   .refine vev ?_
    by_cases e:i=j
    .subst e;simpa using h
    .have e':(i==j)=false:=by simpa using e
     rw[e'];simpa[e]using h
 «strs»:=λk x t v h=>by
  rcases za1 h with⟨_,e⟩|⟨i,t,_,e⟩<;>cases e
noncomputable abbrev DK:=List Int×Option Int
section
variable(prog:Program)(w:World)
noncomputable def IsDK(h:Heap)(k:DK)(a:Addr):Prop:=∃o n b v,h.get? a=some o/\o.cls=.type "tuple"/\o.data=.seq #[.ref b,v] n/\IsTupleKey (intKind prog w) h k.1 b/\oIs k.2 v=true
noncomputable def zl5(k:DK):Int:=reduceHash (Builtin.Tuple.tupleHashOf [tupleKeyHash (intKind prog w) k.1,oHash k.2])
variable{prog w}
theorem IsDK.typeIs{s:Shared}{k:DK}{a:Addr}(x:IsDK prog w s.heap k a):s.TypeIs (.ref a) "tuple":=let⟨o,_,_,_,ho,hc,_⟩:=x;⟨o,ho,hc⟩
theorem IsDK.inj{h:Heap}{a:Addr}{x y:DK}(hx:IsDK prog w h x a)(hy:IsDK prog w h y a):x=y:=by
 obtain⟨o,n,b,v,ho,_,hd,hi,hv⟩:=hx
 obtain⟨o',n',b',v',ho',_,hd',hi',hv'⟩:=hy
 obtain rfl:o=o':=vbl (ho.symm.trans ho')
 rw[hd]at hd'
 injection hd' with h1 _
 have h2:=vdr Array.toList h1
 simp only[List.cons.injEq,and_true,Value.ref.injEq]at h2
 obtain⟨rfl,rfl⟩:=h2
 exact Prod.ext (hi.inj hi') ((oKind prog w).inj _ _ _ hv hv')
theorem IsDK.keeps{h h':Heap}{k:DK}{a d:Addr}{o:Obj}{es ep}(x:IsDK prog w h k a)(ho:h.get? d=some o)(hd:o.data=.dict es ep)(hs:Heap.SameBut d h h'):IsDK prog w h' k a:=by
 obtain⟨o',n,b,v,ho',hc,hd',hi,hv⟩:=x
 have hne:a≠d:=by
  rintro rfl
  obtain rfl:o'=o:=vbl (ho'.symm.trans ho)
  rw[hd]at hd';exact nomatch hd'
 exact⟨o',n,b,v,(hs.2 a hne).trans ho',hc,hd',hi.keeps ho hd hs,hv⟩
variable{A:Around}{E:Value->Shared->Prop}{s:Shared}
theorem zl6{k:DK}{a:Addr}{Q:Int->Shared->Prop}(hu:A.units+1<cLine)(hk:IsDK prog w s.heap k a)(h:Q (zl5 prog w k) {s with toks:=s.toks+ (k.1.length+3)}) :
 wpAny (model prog w) A (pyHash (.ref a)) Q E s:=by
 have hT:=hk.typeIs
 obtain⟨o,n,b,v,ho,_,hd,hi,hv⟩:=hk
 unfold pyHash
 refine vaa (wpAny_cRoomFor_or (.inr (by omega)) ?_)
 refine vaa (vcp hT vep.lookup ?_)
 show wpAny _ _ (if(some (Value.builtin "tuple.__hash__")==some Value.none)=true then _ else _) Q E s
 rw[if_neg (by rw[beq_builtin_none];exact vbr)]
 refine vaa (vcp hT vep.lookup ?_)
 show wpAny _ _ (callSpecialIfBoundUnlessNone? (.ref a) "__hash__" _ >>= _) Q E s
 refine vaa (wpAny_callSpecialIfBoundUnlessNone?_slot hT vep (vbj vep hT F.entry_tuple_hash ?_ (F.args_tuple_hash_1 _)))
 show wpAny _ _ (Builtin.Tuple.tupleItemsOf (.ref a) >>= _) _ _ s
 refine vaa (wpAny_tupleItemsOf ho hd ?_)
 refine vaa ?_
 rw[<-Array.forIn_toList]
 refine vex _
  (λrest (acc:Array Int) s'=>(rest=[.ref b,v]/\acc.toList=[]/\s'=s)\/(rest=[v]/\acc.toList=[tupleKeyHash (intKind prog w) k.1]/\s' ={s with toks:=s.toks+ (k.1.length+1)})\/(rest=[]/\acc.toList=[tupleKeyHash (intKind prog w) k.1,oHash k.2]/\s' ={s with toks:=s.toks+ (k.1.length+1)+1}))
  _ ?_ ?_ _ _ (.inl ⟨rfl,rfl,rfl⟩)
 .rintro x rest acc s' (⟨e,ha,rfl⟩|⟨e,ha,rfl⟩|⟨e,_⟩)
  .cases e
   refine vaa (wpAny_pyHash_tuple hu hi ?_)
   first
    |exact vae (.inr (.inl ⟨rfl,by simp[ha],rfl⟩))
    |exact vaa (vae (vae (.inr (.inl ⟨rfl,by simp[ha],rfl⟩))))
  .cases e
   refine vaa ((oKind prog w).pyHash (k:=k.2) hv ?_)
   first
    |exact vae (.inr (.inr ⟨rfl,by simp[ha];rfl,rfl⟩))
    |exact vaa (vae (vae (.inr (.inr ⟨rfl,by simp[ha];rfl,rfl⟩))))
  .cases e
 .rintro acc s' (⟨e,_⟩|⟨e,_⟩|⟨_,ha,rfl⟩)
  .cases e
  .cases e
  .show wpAny _ _ (retInt (Builtin.Tuple.tupleHashOf acc.toList)) _ _ _
   rw[ha]
   refine wpAny_ret_mkInt ?_
   show wpAny _ _ (if(decide (-(2:Int) ^ 63<=Builtin.Tuple.tupleHashOf [tupleKeyHash (intKind prog w) k.1,oHash k.2])&&decide (Builtin.Tuple.tupleHashOf [tupleKeyHash (intKind prog w) k.1,oHash k.2]<2 ^ 63))=true then _ else _) Q E _
   unfold zl5 reduceHash at h
   by_cases hr:(decide (-(2:Int) ^ 63<=Builtin.Tuple.tupleHashOf [tupleKeyHash (intKind prog w) k.1,oHash k.2])&&decide (Builtin.Tuple.tupleHashOf [tupleKeyHash (intKind prog w) k.1,oHash k.2]<2 ^ 63))=true
   .rw[if_pos hr]
    rw[if_pos hr]at h
    exact vae (by simpa[vei]using h)
   .rw[if_neg hr]
    rw[if_neg hr]at h
    exact vaa (ve1 (vae (by simpa[vei]using h)))
theorem zko{x y:DK}{a b:Addr}{P:Fin->Shared->Prop}(hu:A.units<cLine)(hx:IsDK prog w s.heap x a)(hy:IsDK prog w s.heap y b)(h:P (.done (.ret (.bool (decide (x=y))))) s) :
 wpAny (model prog w) A (Builtin.«tuple.__eq__» ⟨[.ref a,.ref b],[]⟩) P E s:=by
 have hTb:=hy.typeIs
 obtain⟨oa,na,a1,v1,hoa,_,hda,hia,hva⟩:=hx
 obtain⟨ob,nb,b1,v2,hob,_,hdb,hib,hvb⟩:=hy
 show wpAny _ _ (isInstance (.ref b) (.type "tuple") >>= _) _ _ s
 refine vaa (vcz hTb isSubtype_tuple_tuple ?_)
 simp only[vcm,vak,va7]
 refine vaa (wpAny_tupleItemsOf hoa hda ?_)
 refine vaa (wpAny_tupleItemsOf hob hdb ?_)
 refine vaa ?_
 refine vex _
  (λrest r s'=>r.1=none/\s'=s/\((rest=[(Value.ref a1,Value.ref b1),(v1,v2)])\/(rest=[(v1,v2)]/\x.1=y.1)\/(rest=[]/\x=y)))
  _ ?_ ?_ _ _ ⟨rfl,rfl,.inl rfl⟩
 .rintro⟨u,v⟩ rest r s' ⟨hr,rfl,e|⟨e,hxy⟩|⟨e,_⟩⟩
  .cases e
   refine vaa (wpAny_eqBool_tuple hu hia hib ?_)
   by_cases hk:x.1=y.1
   .rw[va1 hk]
    simp only[vcm,vak,va7]
    exact vae ⟨rfl,rfl,.inr (.inl ⟨(by first|rfl|trivial),hk⟩)⟩
   .rw[vay hk]
    simp only[ver,va8]
    have hf:decide (x=y)=false:=vay λz=>hk (by rw[z])
    rw[hf]at h
    exact vaa (vae (vae (vae h)))
  .cases e
   refine vaa ((oKind prog w).eqBool (a:=x.2) (b:=y.2) hva hvb ?_)
   by_cases hk:x.2=y.2
   .rw[va1 hk]
    simp only[vcm,vak,va7]
    exact vae ⟨rfl,rfl,.inr (.inr ⟨(by first|rfl|trivial),Prod.ext hxy hk⟩)⟩
   .rw[vay hk]
    simp only[ver,va8]
    have hf:decide (x=y)=false:=vay λz=>hk (by rw[z])
    rw[hf]at h
    exact vaa (vae (vae (vae h)))
  .cases e
 .rintro⟨r1,r2⟩ s' ⟨hr,rfl,e|⟨e,_⟩|⟨_,e⟩⟩
  .cases e
  .cases e
  .simp only at hr
   subst hr
   refine vae ?_
   rw[va1 e]at h
   exact h
theorem zl7{x y:DK}{a b:Addr}{Q:Bool->Shared->Prop}(hu:A.units+1<cLine)(hx:IsDK prog w s.heap x a)(hy:IsDK prog w s.heap y b)(h:Q (decide (x=y)) s) :
 wpAny (model prog w) A (eqBool (.ref a) (.ref b)) Q E s:=by
 unfold eqBool
 try with_reducible refine vck ?_
 show wpAny _ _ (if(Value.ref a==Value.ref b)=true then _ else _) Q E s
 by_cases hab:(Value.ref a==Value.ref b)=true
 .rw[if_pos hab]
  have e:a=b:=by have:=eq_of_beq hab;injection this
  subst e
  obtain rfl:=hx.inj hy
  exact vaa (ve1 (vae (by simpa using h)))
 .rw[if_neg hab]
  exact vaa (wpAny_richCompare_same_room (op:=.Eq) hx.typeIs hy.typeIs ve5
   (vbj ve5 hx.typeIs F.entry_tuple_eq (zko hu hx hy ⟨_,rfl,(λe=>nomatch e),vb2 h⟩) (F.args_tuple_eq_2 _ _)) (by omega))
theorem zhu{n:Nat}{ks:List Int}{a:Addr}{Q:Bool->Shared->Prop}(hk:IsTupleKey (intKind prog w) s.heap ks a)(h:Q true s):wpAny (model prog w) A (eqIsQuiet (n+1) (.ref a)) Q E s:=by
 have hT:=hk.typeIs
 obtain⟨o,items,m,ho,_,hd,hi⟩:=hk
 unfold eqIsQuiet
 refine vaa (vcp hT ve5.lookup ?_)
 show wpAny _ _ (isInstance (.ref a) (.type "tuple") >>= _) _ _ s
 refine vaa (vcz hT isSubtype_tuple_tuple ?_)
 simp only[vcm,vak,va7]
 refine vaa (vcl ho hd ?_)
 refine vaa ?_
 show wpAny _ _ (forIn items _ _) _ _ s
 rw[<-Array.forIn_toList]
 refine vex _ (λrest r s'=>r.1=none/\s'=s/\∀v∈rest,carriedByValue v=true) _ ?_ ?_ _ _ ⟨rfl,rfl,hi.byValue⟩
 .rintro v rest r s' ⟨hr,rfl,hall⟩
  rw[eqIsQuiet_byValue _ (hall v vai)]
  refine vaa (vae ?_)
  simp only[vcm,vak,va7]
  exact vae ⟨rfl,rfl,λu hu'=>hall u (vag _ hu')⟩
 .rintro⟨r1,r2⟩ s' ⟨hr,rfl,_⟩
  simp only at hr
  subst hr
  exact vae h
theorem zpb{k:DK}{a:Addr}{Q:Bool->Shared->Prop}(hk:IsDK prog w s.heap k a)(h:Q true s):wpAny (model prog w) A (eqIsQuiet 8 (.ref a)) Q E s:=by
 have hT:=hk.typeIs
 obtain⟨o,n,b,v,ho,_,hd,hi,hv⟩:=hk
 unfold eqIsQuiet
 refine vaa (vcp hT ve5.lookup ?_)
 show wpAny _ _ (isInstance (.ref a) (.type "tuple") >>= _) _ _ s
 refine vaa (vcz hT isSubtype_tuple_tuple ?_)
 simp only[vcm,vak,va7]
 refine vaa (vcl ho hd ?_)
 refine vaa ?_
 show wpAny _ _ (forIn #[.ref b,v] _ _) _ _ s
 rw[<-Array.forIn_toList]
 refine vex _ (λrest r s'=>r.1=none/\s'=s/\(rest=[.ref b,v]\/rest=[v]\/rest=[])) _ ?_ ?_ _ _ ⟨rfl,rfl,.inl rfl⟩
 .rintro u rest r s' ⟨hr,rfl,e|e|e⟩
  .cases e
   refine vaa (zhu hi ?_)
   simp only[vcm,vak,va7]
   exact vae ⟨rfl,rfl,.inr (.inl (by first|rfl|trivial))⟩
  .cases e
   rw[eqIsQuiet_byValue _ ((oKind prog w).byValue _ _ hv)]
   refine vaa (vae ?_)
   simp only[vcm,vak,va7]
   exact vae ⟨rfl,rfl,.inr (.inr (by first|rfl|trivial))⟩
  .cases e
 .rintro⟨r1,r2⟩ s' ⟨hr,rfl,_⟩
  simp only at hr
  subst hr
  exact vae h
end
noncomputable def dKind(prog:Program)(w:World):HeapKind prog w DK where
 is:=IsDK prog w
 hash:=zl5 prog w
 draws:=λk=>k.1.length+3
 room:=λA=>A.units+1<cLine
 inj:=λhx hy=>hx.inj hy
 keeps:=λx ho hd hs=>x.keeps ho hd hs
 pyHash:=λhu hk h=>zl6 hu hk h
 eqBool:=λhu hx hy h=>zl7 hu hx hy h
 quiet:=λhk h=>zpb hk h
noncomputable def dkh(k:DK):Int:=reduceHash (Builtin.Tuple.tupleHashOf [reduceHash (Builtin.Tuple.tupleHashOf (k.1.map hashInt)),oHash k.2])
noncomputable def ovV:Option Int->V
 |none=>.non
 |some i=>.int i
noncomputable abbrev DX:=List (DK×Addr×V)
noncomputable abbrev dtP(xs:DX)(us:List (DK×Addr×Value)):Prop:=Paired (λ(p:DK×Addr×V) (q:DK×Addr×Value)=>p.1=q.1/\p.2.1=q.2.1/\RelV p.2.2 q.2.2) xs us
noncomputable def dtF(xs:DX)(a:Addr)(h:Heap):Prop:=xs.length<=sizeLine/\(a==sysModules)=false/\(xs.map (·.1)).Nodup/\∃us,dtP xs us/\∃o es ep,h.get? a=some o/\o.ExactDict/\o.data=.dict es ep/\es.toList=us.map λx=>⟨dkh x.1,.ref x.2.1,x.2.2⟩
noncomputable def dtH(xs:DX)(a:Addr):HO:=.ext (dtF xs a)
theorem zvw{P:Program}{w:World}{H:Hp}{h:Heap}{a:Addr}{xs:DX}(e:dtF xs a h):ObjOk P w H h a (dtH xs a):=by
 refine⟨e,?_,?_⟩
 .obtain⟨_,_,_,us,_,o,_,_,h1,_⟩:=e
  exact⟨o,h1⟩
 .rintro h1 h2 ⟨a1,a2,a3,us,a4,o,es,ep,b1,b2⟩ k
  exact⟨a1,a2,a3,us,a4,o,es,ep,k o b1,b2⟩
theorem zvx{P:Program}{w:World}{H:Hp}{h:Heap}{a:Addr}{xs:DX}(ok:HOk P w H h)(e:H a=some (dtH xs a)):dtF xs a h:=(ok a _ e).1
noncomputable def KeyAt(K:vga)(H:Hp)(k:DK)(b:Addr):Prop:=∃c,SqT K H b [.ref c,ovV k.2]/\SqT K H c (k.1.map .int)
noncomputable def DT(K:vga)(H:Hp)(a:Addr)(xs:DX):Prop:=(H a=some (dtH xs a)/\∀p∈xs,KeyAt K H p.1 p.2.1)\/(xs=[]/\Rd H a (.dK []))
noncomputable def findX(xs:DX)(k:DK):Option (Addr×V):=(xs.find? λx=>decide (x.1=k)).map (·.2)
noncomputable def putX(xs:DX)(k:DK)(b:Addr)(v:V):DX:=if(findX xs k).isSome then xs.map (λx=>if x.1=k then(x.1,x.2.1,v)else x)else xs++[(k,b,v)]
theorem zdc{xs:DX}{us:List (DK×Addr×Value)}(r:dtP xs us)(k:DK):(findX xs k=none/\atKey us k=none)\/∃p q,findX xs k=some p/\atKey us k=some q/\RelV p.2 q.2:=by
 induction r with
 |nil=>exact .inl ⟨rfl,rfl⟩
 | @cons p q ps qs h t ih=>
  obtain⟨h1,h2,h3⟩:=h
  by_cases e:p.1=k
  .refine .inr ⟨p.2,q.2,?_,?_,h3⟩
   .simp[findX,vbk,e]
   .simp[atKey,vbk,h1.symm.trans e]
  .have e':¬q.1=k:=λz=>e (h1.trans z)
   have b1:findX (p::ps) k=findX ps k:=by simp[findX,vbk,e]
   have b2:atKey (q::qs) k=atKey qs k:=by simp[atKey,vbk,e']
   rw[b1,b2];exact ih
theorem zsq{xs:DX}{us:List (DK×Addr×Value)}(r:dtP xs us)(k:DK)(b:Addr){v:V}{u:Value}(rv:RelV v u):dtP (putX xs k b v) (storedH us k b u):=by
 unfold putX storedH
 have e:(findX xs k).isSome=(atKey us k).isSome:=by
  rcases zdc r k with⟨h1,h2⟩|⟨p,q,h1,h2,_⟩<;> (rw[h1,h2];rfl)
 rw[e]
 by_cases z:(atKey us k).isSome=true
 .rw[if_pos z,if_pos z]
  clear e z
  induction r with
  |nil=>exact .nil
  | @cons p q ps qs h t ih=>
   rw[van,van]
   refine .cons ?_ ih
   obtain⟨h1,h2,h3⟩:=h
   unfold putAt
   by_cases e:p.1=k
   .rw[if_pos e,if_pos (h1.symm.trans e)];exact⟨h1,h2,rv⟩
   .rw[if_neg e,if_neg (λz=>e (h1.trans z))];exact⟨h1,h2,h3⟩
 .rw[if_neg z,if_neg z]
  exact Paired.snoc r ⟨rfl,rfl,rv⟩
theorem zsr(xs:DX)(k:DK)(b:Addr)(v:V):(putX xs k b v).length<=xs.length+1:=by
 unfold putX
 split
 .rw[vaf];omega
 .rw[vax];exact vad _
section
variable{X:Cx}{pins:List (Addr×Obj)}{σ:St}{H:Hp}{s:Shared}{a b:Addr}{k:DK}{xs:DX}{v:V}{r:Value}{A:Around}{E:Value->Shared->Prop}
theorem zi5:∀{ls:List Int} {us:List Value},Vals (ls.map .int) us->ItemsAre (intKind X.prog X.w) ls us
 |[],_,.nil=>.nil
 |x::ls,_,.cons h t=>by
  obtain⟨t',rfl⟩:=h
  exact .cons (by show Value.isInt x (.int x t')=true;simp[Value.isInt]) (zi5 t)
theorem KeyAt.is(I:Inv X pins σ H s)(h:KeyAt X.K H k b):IsDK X.prog X.w s.heap k b:=by
 obtain⟨c,h1,h2⟩:=h
 obtain⟨its,r1,⟨o,e1,e2,n,e3⟩,_⟩:=I.tuple h1
 obtain⟨its2,r2,⟨o2,f1,f2,n2,f3⟩,_⟩:=I.tuple h2
 cases r1 with
 | @cons _ u0 _ us0 q1 q2=>
  cases q2 with
  | @cons _ u1 _ us1 q3 q4=>
   cases q4
   have q1:u0=.ref c:=q1
   subst q1
   refine⟨o,n,c,u1,e1,e2,e3,⟨o2,its2.toArray,n2,f1,f2,f3,zi5 r2⟩,?_⟩
   cases z:k.2 with
   |none=>rw[z]at q3;cases q3;rfl
   |some i=>rw[z]at q3;obtain⟨t,rfl⟩:=q3;show Value.isInt i (.int i t)=true;simp[Value.isInt]
theorem DT.dict(I:Inv X pins σ H s)(h:DT X.K H a xs):xs.length<=sizeLine/\(a==sysModules)=false/\∃us,dtP xs us/\s.heap.DictOfH (dKind X.prog X.w) a us:=by
 rcases h with⟨e,hk⟩|⟨rfl,e⟩
 .obtain⟨a1,a2,a3,us,a4,o,es,ep,b1,b2,b3,b4⟩:=zvx I.hok e
  refine⟨a1,a2,us,a4,o,es,ep,b1,b2,b3,b4,?_,?_⟩
  .intro x hx
   have:∃p∈xs,p.1=x.1/\p.2.1=x.2.1:=by
    clear a1 a3 b4 hk e
    induction a4 with
    |nil=>cases hx
    | @cons p q ps qs h t ih=>
     rcases vau.mp hx with rfl|hx
     .exact⟨p,vai,h.1,h.2.1⟩
     .obtain⟨p',h1,h2⟩:=ih hx
      exact⟨p',vag _ h1,h2⟩
   obtain⟨p,hp,h1,h2⟩:=this
   have:=KeyAt.is I (hk p hp)
   rw[h1,h2]at this
   exact this
  .have:us.map (·.1)=xs.map (·.1):=by
    clear a1 a3 b4 hk e
    induction a4 with
    |nil=>rfl
    | @cons p q ps qs h t ih=>rw[van,van,ih,h.1]
   rw[this];exact a3
 .obtain⟨z,y,vs,r,o,es,ep,b1,b2,b3,b4,b5,b6⟩:=dk_rd I.hok e
  cases r
  refine⟨vbb _,y,[],.nil,o,es,ep,b1,b2,b3,?_,(λx hx=>nomatch hx),vfc⟩
  generalize es.toList=l at b5 ⊢
  cases b5
  rfl
theorem zvy{Q:Value->Shared->Prop}{p:Addr×V}(hu:A.units+2<cLine)(I:Inv X pins σ H s)(d:DT X.K H a xs)(kk:KeyAt X.K H k b)(g:findX xs k=some p)(h:∀w' s',Inv X pins σ H s'->RelV p.2 w'->Q w' s') :
 wpAny (model X.prog X.w) A (getItem (.ref a) (.ref b)) Q E s:=by
 obtain⟨_,_,us,r,dd⟩:=d.dict I
 rcases zdc r k with⟨h1,_⟩|⟨p',q,h1,h2,h3⟩
 .rw[g]at h1;cases h1
 .rw[g]at h1;cases h1
  exact wpAny_getItem_heap (knd:=dKind X.prog X.w) (by show A.in1.units+1<cLine;exact hu) (kk.is I) dd h2 (h _ _ (I.tok _) h3)
theorem dt_in{Q:Value->Shared->Prop}(hu:A.units+2<cLine)(I:Inv X pins σ H s)(d:DT X.K H a xs)(kk:KeyAt X.K H k b)(h:∀s',Inv X pins σ H s'->Q (.bool (findX xs k).isSome) s') :
 wpAny (model X.prog X.w) A (compareOp .In (.ref b) (.ref a)) Q E s:=by
 obtain⟨_,y,us,r,dd⟩:=d.dict I
 have e:(findX xs k).isSome=(atKey us k).isSome:=by
  rcases zdc r k with⟨h1,h2⟩|⟨p,q,h1,h2,_⟩<;> (rw[h1,h2];rfl)
 refine wpAny_in_heap (knd:=dKind X.prog X.w) (by show A.in1.units+1<cLine;exact hu) (kk.is I) y dd ?_
 rw[<-e]
 exact h _ (I.tok _)
theorem zpc{Q:Value->Shared->Prop}(hu:A.units+2<cLine)(I:Inv X pins σ H s)(d:DT X.K H a xs)(kk:KeyAt X.K H k b)(h:∀s',Inv X pins σ H s'->Q (.bool (!(findX xs k).isSome)) s') :
 wpAny (model X.prog X.w) A (compareOp .NotIn (.ref b) (.ref a)) Q E s:=by
 obtain⟨_,y,us,r,dd⟩:=d.dict I
 have e:(findX xs k).isSome=(atKey us k).isSome:=by
  rcases zdc r k with⟨h1,h2⟩|⟨p,q,h1,h2,_⟩<;> (rw[h1,h2];rfl)
 refine wpAny_notIn_heap (knd:=dKind X.prog X.w) (by show A.in1.units+1<cLine;exact hu) (kk.is I) y dd ?_
 rw[<-e]
 exact h _ (I.tok _)
theorem zvz{Q:Unit->Shared->Prop}(hu:A.units+2<cLine)(I:Inv X pins σ H s)(d:DT X.K H a xs)(mu:Mut (H a))(kk:KeyAt X.K H k b)(hz:xs.length<sizeLine)(rv:RelV v r)(h:∀s',Inv X pins σ (upd H a (dtH (putX xs k b v) a)) s'->Q () s') :
 wpAny (model X.prog X.w) A (setItem (.ref a) (.ref b) r) Q E s:=by
 obtain⟨_,y,us,rl,dd⟩:=d.dict I
 refine wpAny_setItem_heap (knd:=dKind X.prog X.w) (hsz:=by rw[<-vea rl];omega) (by show A.in1.units+1<cLine;exact hu) (kk.is I) dd λh' dd' hs=>h _ ?_
 obtain⟨q,es,ep,hq,h2,h3,h4,_,h5⟩:=dd'
 have pr:=zsq rl k b rv
 refine zhs I mu hs ⟨q,hq⟩ (zvw ⟨?_,y,?_,_,pr,q,es,ep,hq,h2,h3,h4⟩)
 .have:=zsr xs k b v;omega
 .have:(putX xs k b v).map (·.1)=(storedH us k b r).map (·.1):=by
   generalize putX xs k b v=ys at pr
   generalize storedH us k b r=zs at pr
   clear h4 h5
   induction pr with
   |nil=>rfl
   | @cons p q ps qs h t ih=>rw[van,van,ih,h.1]
  rw[this];exact h5
end
end L2
namespace L2
open PySem PySem.Spec PyProof.Rows PySem.W
open AutoSeq1 (wpAny_loadPart')
noncomputable def DE(h:Heap)(d:Addr)(es:Array DictEntry)(ep:Nat):Prop:=∃o,h.get? d=some o/\o.ExactDict/\o.data=.dict es ep
theorem DE.ty{s:Shared}{d:Addr}{es:Array DictEntry}{ep:Nat}(x:DE s.heap d es ep):s.TypeIs (.ref d) "dict":=let⟨o,a,b,_⟩:=x;⟨o,a,b.1⟩
theorem DE.at_{h h':Heap}{d:Addr}{es:Array DictEntry}{ep:Nat}(x:DE h d es ep)(k:∀o,h.get? d=some o->h'.get? d=some o):DE h' d es ep:=let⟨o,a,b⟩:=x;⟨o,k o a,b⟩
theorem DE.lt{h:Heap}{d:Addr}{es:Array DictEntry}{ep:Nat}(x:DE h d es ep):d<h.objs.size:=let⟨_,a,_⟩:=x;vap a
section
variable{prog:Program}{w:World}{A:Around}{E:Value->Shared->Prop}{s:Shared}{d it:Addr}{es:Array DictEntry}{ep i:Nat}
theorem zv0{Q:Value->Shared->Prop}(hd:(d==sysModules)=false)(hm:DE s.heap d es ep)(hf:(es.size:Int)<2 ^ 63)(h:∀t tk,Q (.int es.size t) {s with toks:=tk}) :
 wpAny (model prog w) A (call (.builtin "len") [.ref d]) Q E s:=by
 refine Calls.call_function_entry kind_len plain_len entry_len (args_len1 _) ?_
 unfold Builtin.«len»
 refine vaa (m:=oneArg "len" _) (vae ?_)
 have M:MeetsIn prog w (Builtin.«dict.__len__» ⟨[.ref d],[]⟩) (λ_ R s=>DE s.heap d es ep/\R (.ok (.ret (.int es.size s.toks))) {s with toks:=s.toks+1}):=
  .of_wp λA R s hq0=>by
   obtain⟨⟨o,a,b,c⟩,h⟩:=hq0
   show wpAny _ _ (dictSize d >>= _) _ _ s
   unfold dictSize
   exact vaa (vaa (wpAny_dictEntries a c (vae (vaa (wpAny_pendingCount_other hd (wpAny_ret_mkInt h))))))
 refine vaa (m:=callSpecial? (.ref d) (Str.ofString "__len__")) (vbf (name:=Str.ofString "__len__") hm.ty F.slot_dict_len
  (call_meetsIn F.slot_dict_len hm.ty F.entry_dict_len (F.args_dict_len_1 _) M ⟨hm,?_⟩))
 refine vaa (vck (vae (vaa (vfn ?_))))
 show wpAny _ _ (if((es.size:Nat):Int)<0 then _ else _) _ _ _
 rw[if_neg (by omega)]
 show wpAny _ _ (if((es.size:Nat):Int)>=2 ^ 63 then _ else _) _ _ _
 rw[if_neg (by omega)]
 exact vaa (wpAny_mkInt (vae ⟨_,rfl,h _ _⟩))
theorem zss{Q:Value->Shared->Prop}(hd:(d==sysModules)=false)(hm:DE s.heap d es ep)
 (hQ:Q (.ref s.heap.objs.size) {s with heap:=s.heap.push {cls:=.type "dict_keyiterator",data:=.fields #[.ref d,.int 0 0,.int es.size 0,.int ep 0]}}) :
 wpAny (model prog w) A (pyIter (.ref d)) Q E s:=by
 have hT:=hm.ty
 obtain⟨o,a,b,c⟩:=hm
 refine wpAny_pyIter_slot hT F.slot_dict_iter (vbj F.slot_dict_iter hT F.entry_dict_iter ?_ (F.args_dict_iter_1 _))
 unfold Builtin.«dict.__iter__» Builtin.Dict.dictSlotNone
 refine vaa (vaa (wpAny_notOrdered_dict hT (vae ?_)))
 show wpAny _ _ (Builtin.Dict.showsAll d >>= _) _ _ s
 unfold Builtin.Dict.showsAll
 rw[if_neg (by rw[hd];exact vbr)]
 refine vaa (vae (vaa (wpAny_dictEntries a c (vaa (wpAny_dictEpoch a c (vaa (vbi (vae
  ⟨_,rfl,"dict_keyiterator",_,⟨_,vao _ rfl,rfl⟩,F.slot_dict_keyiterator_next.lookup,?_⟩))))))))
 simpa[rawInt]using hQ
theorem zl8{Q:Option Value->Shared->Prop}(hh:A.handled=none)(hit:s.heap.IsKeyIter it d i es.size ep)(hm:DE s.heap d es ep)
 (hI:∀e h',es[i]?=some e->h'.IsKeyIter it d (i+1) es.size ep->Heap.SameBut it s.heap h'->Q (some e.key) {s with heap:=h'})
 (hE:es[i]?=none->∀h',Heap.ExtBut it s.heap h'->Q none {s with heap:=h'}):wpAny (model prog w) A (pyNext (.ref it)) Q E s:=by
 have hT:=hit.typeIs
 obtain⟨o,ho,hc,hd⟩:=id hit
 obtain⟨od,hod,_,hdd⟩:=hm
 unfold pyNext
 refine vaa (veh (vbf (name:=Str.ofString "__next__") hT F.slot_dict_keyiterator_next
  (vbj F.slot_dict_keyiterator_next hT F.entry_dict_keyiterator_next ?_ (F.args_dict_keyiterator_next_1 _))))
 refine vaa (vae (vaa (vaa ?_)))
 first|refine vaa (wpAny_typeNameOfWhole_keyiter hT (vae ?_))|refine vaa (wpAny_typeNameOf_keyiter hT (vae ?_))
 refine vaa (wpAny_fieldsOf ho hd ?_)
 have hown:Builtin.Dict_items.ownsTuple "dict_keyiterator" = false:=by decide
 simp only[hown,vak,va7]
 show wpAny _ _ (if(Value.ref d==Value.none)=true then _ else _) _ _ s
 rw[if_neg (show ¬((Value.ref d==Value.none)=true)from vbr)]
 refine vaa (vae (vaa (wpAny_dictEntries hod hdd ?_)))
 rw[if_neg (by simp)]
 refine vaa (vae (vaa (wpAny_dictEpoch hod hdd ?_)))
 rw[if_neg (by simp)]
 refine vae ?_
 simp only[show ¬((i:Int)<0)from by omega,va7,vby]
 cases hx:es[i]? with
 |some e=>
  refine vaa ?_
  first|refine vaa (wpAny_typeNameOfWhole_keyiter hT (vae ?_))|refine vaa (wpAny_typeNameOf_keyiter hT (vae ?_))
  refine vaa (wpAny_isOneOf_keyiter hT ?_)
  show wpAny _ _ (setField (.ref it) 1 (rawInt ((i:Int)+1)) >>= _) _ _ s
  refine vaa (vdo ho hd (by simp) ?_)
  have hit':(s.heap.update it (Obj.mapFields (·.setIfInBounds 1 (rawInt ((i:Int)+1))))).IsKeyIter it d (i+1) es.size ep:=
   ⟨_,vc3 _ ho (vdt (vcd hd _)),(Obj.cls_mapFields ..).trans hc,by rw[vcd hd];simp[rawInt]⟩
  refine vaa (vck (vaa (wpAny_isOneOf_keyiter (s:={s with heap:=s.heap.update it (Obj.mapFields (·.setIfInBounds 1 (rawInt ((i:Int)+1))))}) hit'.typeIs ?_)))
  show wpAny _ _ (pure e.key) _ _ _
  exact vae (vae ⟨_,rfl,vae (hI _ _ hx hit' (vb7 ..))⟩)
 |none=>
  refine vaa ?_
  first|refine vaa (wpAny_typeNameOfWhole_keyiter hT (vae ?_))|refine vaa (wpAny_typeNameOf_keyiter hT (vae ?_))
  show wpAny _ _ (setField (.ref it) 0 .none >>= _) _ _ s
  refine vaa (vdo ho hd (by simp) ?_)
  show wpAny _ _ (newExc (.type "StopIteration") [] >>= _) _ _ _
  refine vaa ?_
  simp only[newExc,newTuple]
  refine vaa (vbi ?_ (by size_fits))
  refine vaa (m:=firstArgMember _ _) (vdu (a:=Value.none) (by first|rfl|(simp only[firstArgMember];rfl)) ?_)
  refine vbi ?_ (by size_fits)
  simp only[raiseNew]
  refine vaa (wpAny_handled ?_)
  rw[show A.in1.handled=none from hh]
  refine vaa (vae (wpAny_throw ?_))
  refine vaa (vcz (T:="StopIteration") (b:=true) ⟨_,vao _ rfl,rfl⟩ isSubtype_stop ?_)
  exact vae (hE hx _ (((vb7 ..).extBut.push _).push _))
theorem zst(hh:A.handled=none)(hne:d≠it):Walks prog w A it [it,d] [it] es.size (λi v=>∃e,es[i]?=some e/\v=e.key) (λi h=>h.IsKeyIter it d i es.size ep/\DE h d es ep)where
 sub:=λb hb=>by simp at hb;simp[hb]
 frame:=λ_ _ _ st k=>⟨st.1.at λo e=>k it (by simp) o e,st.2.at_ λo e=>k d (by simp) o e⟩
 item:=λi s Q E hi st hQ=>by
  refine zl8 hh st.1 st.2 (λe h' hx hit' hs=>?_) λhx=>?_
  .exact hQ _ h' s.toks ⟨e,hx,rfl⟩ ⟨hit',st.2.at_ λo q=>hs.extBut d o hne q⟩ λb o hb q=>hs.extBut b o (λh=>hb (by simp[h])) q
  .simp at hx;omega
 done:=λs Q E st hQ=>by
  refine zl8 hh st.1 st.2 (λe h' hx hit' hs=>?_) λhx h' he=>?_
  .simp at hx
  .exact hQ h' s.toks λb o hb q=>he b o (λh=>hb (by simp[h])) q
 self:=λ_ _ _ _ st hQ=>wpAny_pyIter_keyiter st.1 hQ
theorem zv1(hd:(d==sysModules)=false):KdlSrc prog w "dict" d d es.size (λi v=>∃e,es[i]?=some e/\v=e.key) (λh=>DE h d es ep)where
 type:=λ_ hm=>hm.ty
 there:=λ_ hm=>⟨hm.lt,hm.lt⟩
 keep:=λ_ _ hm hk=>hm.at_ λo e=>hk d (.inl rfl) o e
 notList:=by decide
 notTuple:=by decide
 hint:=λ_ _ _ _ hm hq=>kdl_hint_dict hm.ty hq
 iter:=λ_ _ hh hm=>⟨_,_,(λ_ _ hq=>zss hd hm hq),zst hh (vaz hm.lt),⟨⟨_,vao _ rfl,rfl,rfl⟩,hm.at_ λo e=>vac _ e⟩⟩
end
theorem zv2{d:Addr}{es:Array DictEntry}{ep:Nat}(hd:(d==sysModules)=false)(hz:es.size<=sizeLine) :
 Meets (Builtin.«tuple.__new__» ⟨[.type "tuple",.ref d],[]⟩)
  (λA R s=>A.handled=none/\DE s.heap d es ep/\∀(h':Heap)(tk:Nat),(∀b o',s.heap.get? b=some o'->h'.get? b=some o')->R (.ok (.ret (.ref h'.objs.size))) {s with heap:=h'.push {cls:=.type "tuple",data:=.seq (es.map (·.key))},toks:=tk}):=
 .of_wp λprog w A R s h=>by
  obtain⟨hp,g,dd,tk,os⟩:=s;obtain⟨hh,ht,h⟩:=h
  have hsub:=sub_tuple_self
  have hinit:=init_tuple_lookup
  have hmh:=madeHere_tuple
  obtain⟨o,e1,e2,e3⟩:=id ht
  have hT:Shared.TypeIs ⟨hp,g,dd,tk,os⟩ (.ref d) "dict":=ht.ty
  wp_walk using wpAny_loadPart' e1,vfh hT,kdu_collect (A:=A.in1) (zv1 (ep:=ep) (es:=es) hd) hh ht hz
  intro h' tk' acc hk hacc
  have e:acc=es.map (·.key):=by
   apply Array.ext_getElem?
   intro j
   rw[Array.getElem?_map]
   cases q:acc[j]? with
   |none=>
    have:es.size<=j:=by rw[<-hacc.1];simpa using q
    rw[Array.getElem?_eq_none this];rfl
   |some v=>
    obtain⟨x,h1,h2⟩:=hacc.2 j v q
    rw[h1,h2];rfl
  show wpAny _ _ (Builtin.Tuple.tupleExact acc.toList.toArray >>= λv=>ret v) _ _ _
  unfold Builtin.Tuple.tupleExact
  refine vaa (vbi ?_ (by show acc.toList.toArray.size<=sizeLine;simpa[hacc.1]using hz))
  refine vae ⟨_,rfl,?_⟩
  have e':acc.toList.toArray=acc:=by simp
  rw[e',e]
  exact h h' tk' hk
section
variable{prog:Program}{w:World}{A:Around}{E:Value->Shared->Prop}{s:Shared}{d:Addr}{es:Array DictEntry}{ep:Nat}
theorem zpd{Q:Value->Shared->Prop}(hh:A.handled=none)(hd:(d==sysModules)=false)(hm:DE s.heap d es ep)(hz:es.size<=sizeLine)
 (h:∀(h':Heap)(tk:Nat),(∀b o',s.heap.get? b=some o'->h'.get? b=some o')->Q (.ref h'.objs.size) {s with heap:=h'.push {cls:=.type "tuple",data:=.seq (es.map (·.key))},toks:=tk}) :
 wpAny (model prog w) A (call (.type "tuple") [.ref d]) Q E s:=
 vfi F.called_tuple (by decide) (F.typeCall_tuple_1 _) (F.newCall_tuple_1 _) (λobj=>F.args_object_init_2 obj _) F.entry_tuple_new
  (zv2 hd hz) ⟨hh,hm,λh' tk hk=>⟨⟨_,vao _ rfl,rfl⟩,h h' tk hk⟩⟩
end
end L2
namespace L2
open PySem PySem.Spec PyProof.Rows PySem.W
section
variable{X:Cx}{pins:List (Addr×Obj)}{σ:St}{H:Hp}{s:Shared}{a b:Addr}{k:DK}{xs:DX}
theorem DT.de(I:Inv X pins σ H s)(h:DT X.K H a xs):∃(es:Array DictEntry) (ep:Nat),DE s.heap a es ep/\es.size=xs.length/\∀(i:Nat) (p:DK×Addr×V),xs[i]?=some p->∃e:DictEntry,es[i]?=some e/\e.key=Value.ref p.2.1:=by
 obtain⟨g1,_,us,r,o,es,ep,b1,b2,b3,b4,g2⟩:=h.dict I
 clear h g1 g2
 refine⟨es,ep,⟨o,b1,b2,b3⟩,?_,λi p hp=>?_⟩
 .rw[<-vdk,b4,vaf,vea r]
 .have:∃q,us[i]?=some q/\p.2.1=q.2.1:=by
   clear b4
   revert i
   induction r with
   |nil=>intro i hp;simp at hp
   | @cons p0 q0 ps qs h t ih=>
    intro i hp
    cases i with
    |zero=>simp at hp;subst hp;exact⟨q0,rfl,h.2.1⟩
    |succ i=>exact ih i (by simpa using hp)
  obtain⟨q,h1,h2⟩:=this
  refine⟨⟨dkh q.1,.ref q.2.1,q.2.2⟩,?_,by rw[h2]⟩
  rw[<-Array.getElem?_toList,b4,vas,h1];rfl
noncomputable def rInX(K:vga)(neg:Bool):R2:=λx y H Q=>∃a b xs k,y=.ref a/\x=.ref b/\DT K H a xs/\KeyAt K H k b/\Q (.bl (if neg then !(findX xs k).isSome else(findX xs k).isSome)) H
theorem zv3(hu:X.A.units+2<cLine):OpR X (compareOp .In) (rInX X.K false):=by
 intro pins s σ H x y v u Q I rx ry h
 obtain⟨a,b,xs,k,rfl,rfl,d,kk,q⟩:=h
 cases rx;cases ry
 exact dt_in hu I d kk λs' I'=>⟨.bl _,H,I',rfl,q⟩
theorem zl9(hu:X.A.units+2<cLine):OpR X (compareOp .NotIn) (rInX X.K true):=by
 intro pins s σ H x y v u Q I rx ry h
 obtain⟨a,b,xs,k,rfl,rfl,d,kk,q⟩:=h
 cases rx;cases ry
 exact zpc hu I d kk λs' I'=>⟨.bl _,H,I',rfl,q⟩
theorem DT.typeIs(I:Inv X pins σ H s)(h:DT X.K H a xs):s.TypeIs (.ref a) "dict":=let⟨_,_,d,_⟩:=h.de I;d.ty
noncomputable def rIxX(K:vga):R2:=λx y H Q=>∃a b xs k p,x=.ref a/\y=.ref b/\DT K H a xs/\KeyAt K H k b/\findX xs k=some p/\Q p.2 H
theorem ix_dt(hu:X.A.units+2<cLine):IxR X (rIxX X.K):=by
 intro value slice pins s σ H x y v u Q I rx ry q hs
 obtain⟨a,b,xs,k,p,rfl,rfl,d,kk,g,q⟩:=q
 cases rx;cases ry
 exact tail_any (d.typeIs I) PySem.F.slot_dict_getitem.lookup (zvy hu I d kk g λw' s3 I3 rw'=>⟨p.2,H,I3,rw',q⟩) hs
noncomputable def rSetX(K:vga):V->V->V->Hp->(Hp->Prop)->Prop:=λo i v H Q=>∃a b xs k,o=.ref a/\i=.ref b/\DT K H a xs/\Mut (H a)/\KeyAt K H k b/\xs.length<sizeLine/\Q (upd H a (dtH (putX xs k b v) a))
theorem zv4(hu:X.A.units+2<cLine):PSet X (rSetX X.K):=by
 intro pins s σ H o i v ov iv u Q I ro ri rv h
 obtain⟨a,b,xs,k,rfl,rfl,d,mu,kk,hz,q⟩:=h
 cases ro;cases ri
 exact zvz hu I d mu kk hz rv λs' I'=>⟨_,I',q⟩
theorem PSet.or{t t':V->V->V->Hp->(Hp->Prop)->Prop}(h:PSet X t)(h':PSet X t'):PSet X (λo i v H Q=>t o i v H Q\/t' o i v H Q):=by
 intro pins s σ H o i v ov iv u Q I ro ri rv q
 rcases q with q|q
 .exact h pins s σ H o i v ov iv u Q I ro ri rv q
 .exact h' pins s σ H o i v ov iv u Q I ro ri rv q
theorem zma:CallR X (.builtin "len") (λys H Q=>∃a xs,ys=[.ref a]/\DT X.K H a xs/\Q (.int xs.length) H):=by
 intro pins s σ H ys us Q I r h
 obtain⟨a,xs,rfl,d,q⟩:=h
 obtain⟨u,rfl,rx⟩:=vals1 r
 cases rx
 obtain⟨es,ep,de,hz,_⟩:=d.de I
 obtain⟨hl,hd,_⟩:=d.dict I
 refine zv0 hd de (by rw[hz];have:=vc7;omega) λt tk=>⟨.int xs.length,H,I.tok _,⟨t,by rw[hz]⟩,q⟩
theorem zmb(hc:X.calm=true):CallR X (.type "tuple") (λys H Q=>∃a xs,ys=[.ref a]/\DT X.K H a xs/\∀l,H l=none->Q (.ref l) (upd H l (.tup (xs.map λp=>.ref p.2.1)))):=by
 intro pins s σ H ys us Q I r h
 obtain⟨a,xs,rfl,d,q⟩:=h
 obtain⟨u,rfl,rx⟩:=vals1 r
 cases rx
 obtain⟨es,ep,de,hz,hk⟩:=d.de I
 obtain⟨hl,hd,_⟩:=d.dict I
 refine zpd (I.ok.hd hc) hd de (by omega) λh' tk kp=>?_
 have I1:Inv X pins σ H {s with heap:=h',toks:=tk}:=I.kept (t':=tk) kp
 have rv:Vals (xs.map λp=>.ref p.2.1) (es.map (·.key)).toList:=by
  have:∀(xs:DX)(ls:List DictEntry),ls.length=xs.length->(∀(i:Nat)(p:DK×Addr×V),xs[i]?=some p->∃e:DictEntry,ls[i]?=some e/\e.key=Value.ref p.2.1)->Vals (xs.map λp=>V.ref p.2.1) (ls.map (·.key)):=by
   intro xs
   induction xs with
   |nil=>intro ls e _;cases ls with|nil=>exact .nil|cons=>cases e
   |cons p ps ih=>
    intro ls e h
    cases ls with
    |nil=>cases e
    |cons l ls=>
     obtain⟨e',h1,h2⟩:=h 0 p rfl
     cases h1
     refine .cons ?_ (ih ls (by simpa using e) λi q hq=>by simpa using h (i+1) q (by simpa using hq))
     exact h2
  have:=this xs es.toList (by simpa using hz) (λi p hp=>by simpa using hk i p hp)
  simpa using this
 have I2:Inv X pins σ (upd H h'.objs.size (.tup (xs.map λp=>.ref p.2.1))) {s with heap:=h'.push {cls:=.type "tuple",data:=.seq (es.map (·.key))},toks:=tk}:=
  I1.laid (t':=tk) (λb o e=>vac _ e) (vad _) (show ObjOk X.prog X.w _ _ _ (.tup _)from⟨by rw[vaf];exact hl,_,rv,by rw[Array.toArray_toList];exact zbl.new h' (es.map (·.key))⟩)
 exact⟨.ref h'.objs.size,_,I2,rfl,q _ (I1.hok.fresh (vad _))⟩
end
end L2
namespace RF
open PySem
inductive W where
 |non|bl (b:Bool)|int (i:Int)|str (x:Str)|tup (ws:List W)|fz (ws:List W)|ref (i:Nat)
mutual
noncomputable def W.lt(n:Nat):W->Bool
 |.tup ws=>W.lts n ws
 |.fz ws=>W.lts n ws
 |.ref i=>Nat.blt i n
 |_=>true
noncomputable def W.lts(n:Nat):List W->Bool
 |[]=>true
 |w::ws=>W.lt n w&&W.lts n ws
end
inductive VO where
 |lst (ws:List W)|dk (kvs:List (L2.Key×W))|dm (kvs:List (L2.Key×W))|dt (ks ws:List W)
structure VH where
 n:Nat
 lo:Nat
 os:List VO
noncomputable def VH.get(h:VH)(i:Nat):Option VO:=if Nat.blt i h.n then h.os[h.n-1-i]? else none
noncomputable def VH.set(h:VH)(i:Nat)(o:VO):VH:=⟨h.n,if Nat.blt i h.lo then i else h.lo,h.os.set (h.n-1-i) o⟩
noncomputable def VH.new(h:VH)(o:VO):VH:=⟨h.n+1,h.lo,o::h.os⟩
inductive Res(α:Type)where
 |ok (a:α) (h:VH)|ex (x:W) (h:VH)|no
noncomputable def Res.bind{α β:Type}(r:Res α)(f:α->VH->Res β):Res β:=match r with
 |.ok a h=>f a h
 |.ex x h=>.ex x h
 |.no=>.no
noncomputable def Res.of{α:Type}(o:Option α)(h:VH):Res α:=match o with
 |some a=>.ok a h
 |none=>.no
inductive Op where
 |add|sub|mul|fdiv|mod|shl|pow
 deriving DecidableEq
inductive Cp where
 |eq|ne|lt|le|gt|ge|isn|notn|inn|nin
 deriving DecidableEq
inductive Ty where
 |int|bool|tuple|list|str|dict
 deriving DecidableEq
inductive Bi where
 |len|list|tuple|int|abs|max|min|all|lrng|sum|dvm|srt|dm0|frz
 deriving DecidableEq
inductive Mt where
 |append|get|count
 deriving DecidableEq
inductive Kd where
 |seq|rng1|rng2|enm|zip|keys|rev
 deriving DecidableEq
inductive Tg where
 |one (i:Nat)|many (is:List Nat)|two (is:List Nat) (j:Nat)
 deriving DecidableEq
inductive E where
 |var (i:Nat)|cst (w:W)
 |nil|cons (a r:E)
 |tup (a:E)|lst (a:E)|dsp (a:E)
 |op (o:Op) (a b:E)|neg (a:E)
 |cmp (c:Cp) (a b:E)|chn (c d:Cp) (a b e:E)
 |not (a:E)|and (a b:E)|or (a b:E)|tru (a:E)|ite (c a b:E)
 |idx (a b:E)|slc (a:E) (bl:Bool) (lo:E) (bh:Bool) (hi:E)
 |call (f:Nat) (a:E)|bi (b:Bi) (a:E)|isi (t:Ty) (a:E)|mt (m:Mt) (o a:E)
 |lc (k:Kd) (a:E) (t:Tg) (ow:Nat) (ix:List Nat) (c e:E)
 |lc2 (k:Kd) (a:E) (t:Tg) (ow:Nat) (ix:List Nat) (c:E) (k2:Kd) (a2:E) (t2:Tg) (c2 e:E)
 |dc (k:Kd) (a:E) (t:Tg) (ow:Nat) (ix:List Nat) (c e v:E)
inductive S where
 |skip|seq (a b:S)|set (i:Nat) (e:E)|unp (is:List Nat) (e:E)|aug (i:Nat) (o:Op) (e:E)
 |put (o i v:E)|pts (o:E) (bl:Bool) (lo:E) (bh:Bool) (hi v:E)|ite (c:E) (a b:S)|ret (e:E)|expr (e:E)|brk|cnt
 |for (k:Kd) (a:E) (t:Tg) (b:S)|whl (c:E) (b:S)|no
noncomputable abbrev En:=List (Option W)
inductive Fl where
 |nx (ρ:En)|rt (w:W)|bk (ρ:En)|ct (ρ:En)
noncomputable def mapO{α β:Type}(f:α->Option β):List α->Option (List β)
 |[]=>some []
 |a::r=>match f a with
  |some b=>(match mapO f r with
   |some bs=>some (b::bs)
   |none=>none)
  |none=>none
noncomputable def toD(h:VH):Nat->W->Option PyData
 |0,_=>none
 |n+1,w=>match w with
  |.non=>some .none
  |.bl b=>some (.bool b)
  |.int i=>some (.int i)
  |.str x=>some (.str x)
  |.tup ws=>(mapO (toD h n) ws).map .tuple
  |.fz ws=>(mapO (toD h n) ws).map .list
  |.ref i=>match h.get i with
   |some (.lst ws)=>(mapO (toD h n) ws).map .list
   |_=>none
noncomputable def eqW(h:VH)(x y:W):Option Bool:=
 match toD h 24 x,toD h 24 y with
 |some d,some e=>if SeqAt.shaped d&&SeqAt.shaped e then some (PyData.eqv d e)else none
 |_,_=>none
noncomputable def big:Nat:=16777216
noncomputable def za5(i:Int):Bool:=decide (-(2 ^ 64)<i)&&decide (i<2 ^ 64)
noncomputable def opI:Op->Int->Int->Option Int
 |.add,i,j=>some (i+j)
 |.sub,i,j=>some (i-j)
 |.mul,i,j=>if za5 i||za5 j then some (i*j)else none
 |.fdiv,i,j=>if decide (0<j)&&decide (j<1073741824)then some (i/j)else none
 |.mod,i,j=>if decide (0<j)then some (i % j)else none
 |.shl,i,j=>if decide (0<=j)&&decide (j<=1000000)&&decide (i.natAbs<2 ^ 64)then some (i*2 ^ j.toNat)else none
 |.pow,i,j=>if decide (0<=j)&&decide (j<=1000000)&&decide (i.natAbs<2 ^ 64)then some (i ^ j.toNat)else none
noncomputable def opL:Op->List W->List W->Option (List W)
 |.add,xs,ys=>if Nat.ble (xs.length+ys.length) big then some (xs++ys)else none
 |_,_,_=>none
noncomputable def fits(i:Int):Bool:=decide (-(2 ^ 62)<=i)&&decide (i<2 ^ 62)
noncomputable def repW(o:Op)(xs:List W)(k:Int):Option (List W):=match o with
 |.mul=>if fits k&&Nat.ble (xs.length*k.toNat) big then some (vgc k.toNat xs).flatten else none
 |_=>none
noncomputable def opW(o:Op)(x y:W)(h:VH):Res W:=match x,y with
 |.int i,.int j=>.of ((opI o i j).map .int) h
 |.ref i,.int k=>(match h.get i with
  |some (.lst xs)=>(match repW o xs k with
   |some zs=>.ok (.ref h.n) (h.new (.lst zs))
   |none=>.no)
  |_=>.no)
 |.ref i,.ref j=>match h.get i,h.get j with
  |some (.lst xs),some (.lst ys)=>(match opL o xs ys with
   |some zs=>.ok (.ref h.n) (h.new (.lst zs))
   |none=>.no)
  |_,_=>.no
 |_,_=>.no
noncomputable def ipW(o:Op)(x y:W)(h:VH):Res W:=match x,y with
 |.int i,.int j=>(match o with
  |.add=>.ok (.int (i+j)) h
  |_=>.no)
 |_,_=>.no
noncomputable def cmpI:Cp->Int->Int->Option Bool
 |.lt,i,j=>some (decide (i<j))
 |.le,i,j=>some (decide (i<=j))
 |.gt,i,j=>some (decide (j<i))
 |.ge,i,j=>some (decide (j<=i))
 |_,_,_=>none
noncomputable def isNon:W->Bool
 |.non=>true
 |_=>false
noncomputable def seqW(h:VH):W->Option (List W)
 |.tup ws=>some ws
 |.fz ws=>some ws
 |.ref i=>match h.get i with
  |some (.lst ws)=>some ws
  |_=>none
 |_=>none
noncomputable def intD:W->Option Int
 |.int i=>some i
 |_=>none
noncomputable def keyD:W->Option L2.DK
 |.tup [.tup ws,.non]=>(mapO intD ws).map λis=>(is,none)
 |.tup [.tup ws,.int i]=>(mapO intD ws).map λis=>(is,some i)
 |_=>none
noncomputable def lookD:List W->List W->L2.DK->Option W
 |k::ks,w::ws,d=>if keyD k=some d then some w else lookD ks ws d
 |_,_,_=>none
noncomputable def inD(h:VH)(x y:W):Option Bool:=match y with
 |.ref a=>(match h.get a,keyD x with
  |some (.dt ks ws),some k=>some (lookD ks ws k).isSome
  |_,_=>none)
 |_=>none
noncomputable def idxD(h:VH)(a:Nat)(y:W):Option W:=match h.get a,keyD y with
 |some (.dt ks ws),some k=>lookD ks ws k
 |_,_=>none
noncomputable def keysD(h:VH)(x:W):Option (List W):=match x with
 |.ref a=>(match h.get a with
  |some (.dt ks _)=>some ks
  |_=>none)
 |_=>none
noncomputable def cmpW(c:Cp)(h:VH)(x y:W):Option Bool:=match c with
 |.inn=>inD h x y
 |.nin=>(inD h x y).map (!·)
 |.eq=>eqW h x y
 |.ne=>(eqW h x y).map (!·)
 |.isn=>if isNon y then some (isNon x)else none
 |.notn=>if isNon y then some (!isNon x)else none
 |c=>match x,y with
  |.int i,.int j=>cmpI c i j
  |_,_=>none
noncomputable def truW(h:VH):W->Option Bool
 |.bl b=>some b
 |.int i=>some (i != 0)
 |.non=>some false
 |.tup ws=>some (!ws.isEmpty)
 |.ref i=>match h.get i with
  |some (.lst ws)=>some (!ws.isEmpty)
  |_=>none
 |_=>none
noncomputable def keyW:W->Option L2.Key
 |.int i=>some (.inl i)
 |.str x=>some (.inr x)
 |_=>none
noncomputable def lookK(kvs:List (L2.Key×W))(k:L2.Key):Option W:=(kvs.find? λkv=>decide (kv.1=k)).map (·.2)
noncomputable def putKW(kvs:List (L2.Key×W))(k:L2.Key)(w:W):List (L2.Key×W):=
 if(kvs.any λkv=>decide (kv.1=k))=true then kvs.map (λkv=>if kv.1=k then(kv.1,w)else kv)else kvs++[(k,w)]
noncomputable def idxW(h:VH)(x y:W):Option W:=match x,y with
 |.tup ws,.int i=>L2.atI ws i
 |.fz ws,.int i=>L2.atI ws i
 |.ref a,.int i=>(match h.get a with
  |some (.lst ws)=>L2.atI ws i
  |some (.dk kvs)=>lookK kvs (.inl i)
  |some (.dm kvs)=>lookK kvs (.inl i)
  |_=>none)
 |.ref a,.str x=>(match h.get a with
  |some (.dk kvs)=>lookK kvs (.inr x)
  |_=>none)
 |.ref a,y=>idxD h a y
 |_,_=>none
noncomputable def partW(b:Bool)(w:W):Option (Option Int):=match b,w with
 |false,_=>some none
 |true,.int i=>some (some i)
 |_,_=>none
noncomputable def cutW(ws:List W)(lo hi:Option Int):List W:=(ws.drop (HT.sIx ws.length 0 lo)).take (HT.sIx ws.length ws.length hi-HT.sIx ws.length 0 lo)
noncomputable def slcW(x:W)(l u:Option Int)(h:VH):Res W:=match x with
 |.tup ws=>.ok (.tup (cutW ws l u)) h
 |.ref i=>(match h.get i with
  |some (.lst ws)=>.ok (.ref h.n) (h.new (.lst (cutW ws l u)))
  |_=>.no)
 |_=>.no
@[simp] theorem slcW_tup {ws:List W} {l u:Option Int} {h:VH}:slcW (.tup ws) l u h=.ok (.tup (cutW ws l u)) h:=rfl
noncomputable def tyIs:Ty->VH->W->Option Bool
 |t,_,.non=>some false
 |t,_,.bl _=>some (t == .int||t == .bool)
 |t,_,.int _=>some (t == .int)
 |t,_,.str _=>some (t == .str)
 |t,_,.tup _=>some (t == .tuple)
 |_,_,.fz _=>none
 |t,h,.ref i=>match h.get i with
  |some (.lst _)=>some (t == .list)
  |some (.dk _)=>some (t == .dict)
  |_=>none
noncomputable def lenW(xs:List W)(h:VH):Res W:=match xs with
 |[x]=>.of (match seqW h x with
  |some ws=>some (.int ws.length)
  |none=>(keysD h x).map λks=>.int ks.length) h
 |_=>.no
noncomputable def keyV:L2.Key->W
 |.inl i=>.int i
 |.inr x=>.str x
noncomputable def keysM(h:VH)(x:W):Option (List W):=match x with
 |.ref a=>(match h.get a with
  |some (.dm kvs)=>some (kvs.map λkv=>keyV kv.1)
  |_=>none)
 |_=>none
noncomputable def listW(xs:List W)(h:VH):Res W:=match xs with
 |[x]=>(match seqW h x with
  |some ws=>.ok (.ref h.n) (h.new (.lst ws))
  |none=>(match keysM h x with
   |some ws=>.ok (.ref h.n) (h.new (.lst ws))
   |none=>.no))
 |_=>.no
noncomputable def zb3(xs:List W)(h:VH):Res W:=match xs with
 |[x]=>.of (match seqW h x with
  |some ws=>some (.tup ws)
  |none=>(keysD h x).map .tup) h
 |_=>.no
noncomputable def intW(xs:List W)(h:VH):Res W:=match xs with
 |[.int i]=>.ok (.int i) h
 |[.bl b]=>.ok (.int (if b then 1 else 0)) h
 |_=>.no
noncomputable def absW(xs:List W)(h:VH):Res W:=match xs with
 |[.int i]=>.ok (.int (if i<0 then -i else i)) h
 |_=>.no
noncomputable def maxW(xs:List W)(h:VH):Res W:=match xs with
 |[.int i,.int j]=>.ok (.int (if j>i then j else i)) h
 |_=>.no
noncomputable def minW(xs:List W)(h:VH):Res W:=match xs with
 |[.int i,.int j]=>.ok (.int (if j<i then j else i)) h
 |_=>.no
noncomputable def ptsW(x w:W)(l u:Option Int)(h:VH):Res W:=match x,w with
 |.ref a,.ref b=>(match h.get a,h.get b with
  |some (.lst ws),some (.lst zs)=>if Nat.beq a b then .no else if Nat.ble (HT.sIx ws.length 0 l) (HT.sIx ws.length ws.length u)&&Nat.ble (ws.length+zs.length) big then
   .ok .non (h.set a (.lst (ws.take (HT.sIx ws.length 0 l)++zs++ws.drop (HT.sIx ws.length ws.length u))))else .no
  |_,_=>.no)
 |_,_=>.no
noncomputable def blW:W->Option Bool
 |.bl b=>some b
 |_=>none
noncomputable def allW(xs:List W)(h:VH):Res W:=match xs with
 |[.ref i]=>(match h.get i with
  |some (.lst ws)=>.of ((mapO blW ws).map λbs=>.bl (bs.all id)) h
  |_=>.no)
 |_=>.no
noncomputable def ints0(j:Nat):List W:=(List.range' 0 j).map λ(i:Nat)=>W.int (0+ (i:Int))
noncomputable def lrngW(xs:List W)(h:VH):Res W:=match xs with
 |[.int i]=>if decide (0<=i)&&Nat.ble i.toNat big then .ok (.ref h.n) (h.new (.lst (ints0 i.toNat)))else .no
 |_=>.no
noncomputable def iZ:W->Option Int
 |.int i=>some i
 |_=>none
noncomputable def sumW(xs:List W)(h:VH):Res W:=match xs with
 |[.ref i]=>(match h.get i with
  |some (.lst ws)=>.of ((mapO iZ ws).map λis=>.int is.sum) h
  |_=>.no)
 |_=>.no
noncomputable def dvmW(xs:List W)(h:VH):Res W:=match xs with
 |[.int i,.int j]=>if decide (0<j)&&decide (j<1073741824)then .ok (.tup [.int (i/j),.int (i % j)]) h else .no
 |_=>.no
noncomputable def insB{α:Type}(f:α->Int)(x:α):List α->List α
 |[]=>[x]
 |y::r=>if decide (f x<=f y)then x::y::r else y::insB f x r
noncomputable def srtB{α:Type}(f:α->Int):List α->List α
 |[]=>[]
 |x::r=>insB f x (srtB f r)
noncomputable def pW:W->Option (Int×Int)
 |.tup [.int a,.int b]=>some (a,b)
 |_=>none
noncomputable def wP(p:Int×Int):W:=.tup [.int p.1,.int p.2]
noncomputable def ndB:List Int->Bool
 |[]=>true
 |x::r=>!(r.contains x)&&ndB r
noncomputable def srtL(ws:List W):Option (List W):=match mapO iZ ws with
 |some is=>some ((srtB id is).map .int)
 |none=>(match mapO pW ws with
  |some ps=>if ndB (ps.map (·.1))then some ((srtB (·.1) ps).map wP)else none
  |none=>none)
noncomputable def srtW(xs:List W)(h:VH):Res W:=match xs with
 |[.ref i]=>(match h.get i with
  |some (.lst ws)=>if Nat.blt ws.length 64 then(match srtL ws with
   |some ys=>.ok (.ref h.n) (h.new (.lst ys))
   |none=>.no)else .no
  |_=>.no)
 |_=>.no
noncomputable def dm0W(xs:List W)(h:VH):Res W:=match xs with
 |[]=>.ok (.ref h.n) (h.new (.dm []))
 |_=>.no
noncomputable def frzW(xs:List W)(h:VH):Res W:=match xs with
 |[.ref i]=>(match h.get i with
  |some (.dm kvs)=>.ok (.ref i) (h.set i (.dk kvs))
  |_=>.no)
 |_=>.no
noncomputable def biW(b:Bi)(xs:List W)(h:VH):Res W:=match b with
 |.abs=>absW xs h
 |.max=>maxW xs h
 |.min=>minW xs h
 |.all=>allW xs h
 |.lrng=>lrngW xs h
 |.sum=>sumW xs h
 |.dvm=>dvmW xs h
 |.srt=>srtW xs h
 |.dm0=>dm0W xs h
 |.frz=>frzW xs h
 |.len=>lenW xs h
 |.list=>listW xs h
 |.tuple=>zb3 xs h
 |.int=>intW xs h
noncomputable def zv5(h:VH)(x y:W):Option W:=match seqW h y,toD h 24 x with
 |some ws,some d=>(match mapO (toD h 24) ws with
  |some ds=>if ds.all SeqAt.shaped&&SeqAt.shaped d then some (.int (ds.countP λe=>PyData.eqv e d:Nat))else none
  |none=>none)
 |_,_=>none
noncomputable def mtW(m:Mt)(o:W)(xs:List W)(h:VH):Res W:=match m,o,xs with
 |.append,.ref i,[x]=>(match h.get i with
  |some (.lst ws)=>if Nat.blt ws.length big then .ok .non (h.set i (.lst (ws++[x])))else .no
  |_=>.no)
 |.get,.ref i,[k,d]=>(match h.get i,keyW k with
  |some (.dk kvs),some k=>.ok ((lookK kvs k).getD d) h
  |some (.dm kvs),some k=>.ok ((lookK kvs k).getD d) h
  |_,_=>.no)
 |.count,o,[x]=>.of (zv5 h x o) h
 |_,_,_=>.no
noncomputable def zdu(m:Mt)(h:VH)(o:W):Bool:=match m,o with
 |.append,.ref i=>(match h.get i with
  |some (.lst _)=>true
  |_=>false)
 |.get,.ref i=>(match h.get i with
  |some (.dk _)=>true
  |some (.dm _)=>true
  |_=>false)
 |.count,.tup _=>true
 |.count,.ref i=>(match h.get i with
  |some (.lst _)=>true
  |_=>false)
 |_,_=>false
noncomputable def nxt(k:Kd)(x:W)(i:Nat)(h:VH):Option (Option W):=match k with
 |.seq=>(seqW h x).map λws=>ws[i]?
 |.enm=>(match x with
  |.tup ws=>some ((ws[i]?).map λw=>.tup [.int i,w])
  |_=>none)
 |.rev=>(match x with
  |.tup ws=>some ws.reverse[i]?
  |_=>none)
 |.keys=>(match x with
  |.ref a=>(match h.get a with
   |some (.dk kvs)=>(match kvs[i]? with
    |some kv=>some (some (keyV kv.1))
    |none=>if Nat.beq i kvs.length then some none else none)
   |_=>none)
  |_=>none)
 |.zip=>(match x with
  |.tup [u,v]=>(match seqW h u,seqW h v with
   |some ws,some zs=>some (match ws[i]?,zs[i]? with
    |some a,some b=>some (.tup [a,b])
    |_,_=>none)
   |_,_=>none)
  |_=>none)
 |.rng1=>(match x with
  |.tup [.int j]=>if fits j then some (if decide ((i:Int)<j)then some (.int (0+i))else none)else none
  |_=>none)
 |.rng2=>(match x with
  |.tup [.int a,.int b]=>if fits a&&fits b then some (if decide ((i:Int)<b-a)then some (.int (a+i))else none)else none
  |_=>none)
noncomputable def zaz:List Nat->List W->En->Option En
 |[],[],ρ=>some ρ
 |i::is,w::ws,ρ=>zaz is ws (ρ.set i (some w))
 |_,_,_=>none
noncomputable def tgW(t:Tg)(w:W)(h:VH)(ρ:En):Option En:=match t with
 |.one i=>some (ρ.set i (some w))
 |.two is j=>(match w with
  |.tup [x,y]=>(match seqW h x with
   |some ws=>(match zaz is ws ρ with
    |some ρ=>some (ρ.set j (some y))
    |none=>none)
   |none=>none)
  |_=>none)
 |.many is=>match seqW h w with
  |some ws=>zaz is ws ρ
  |none=>none
noncomputable def fuel:Nat:=1000000
noncomputable def inner(ow:Nat)(ix:List Nat)(ρ:En):En:=vgc ow none++ix.map λj=>(ρ[j]?).join
noncomputable def lcG(nx:Nat->VH->Option (Option W))(tg:W->VH->En->Option En)(c:En->VH->Res W)(e:En->VH->Res W):Nat->Nat->En->VH->List W->Res (List W)
 |0,_,_,_,_=>.no
 |f+1,i,ρ,h,acc=>match nx i h with
  |none=>.no
  |some none=>.ok acc.reverse h
  |some (some w)=>match tg w h ρ with
   |none=>.no
   |some ρ=>(c ρ h).bind λb h=>match b with
    |.bl true=>(e ρ h).bind λy h=>lcG nx tg c e f (i+1) ρ h (y::acc)
    |.bl false=>lcG nx tg c e f (i+1) ρ h acc
    |_=>.no
noncomputable def lcI(nx:Nat->VH->Option (Option W))(tg:W->VH->En->Option En)(c:En->VH->Res W)(e:En->VH->Res W):Nat->Nat->En->VH->List W->Res (En×List W)
 |0,_,_,_,_=>.no
 |f+1,i,ρ,h,acc=>match nx i h with
  |none=>.no
  |some none=>.ok (ρ,acc) h
  |some (some w)=>match tg w h ρ with
   |none=>.no
   |some ρ=>(c ρ h).bind λb h=>match b with
    |.bl true=>(e ρ h).bind λy h=>lcI nx tg c e f (i+1) ρ h (y::acc)
    |.bl false=>lcI nx tg c e f (i+1) ρ h acc
    |_=>.no
noncomputable def lcO(nx:Nat->VH->Option (Option W))(tg:W->VH->En->Option En)(c:En->VH->Res W)(inn:En->VH->List W->Res (En×List W)):Nat->Nat->En->VH->List W->Res (List W)
 |0,_,_,_,_=>.no
 |f+1,i,ρ,h,acc=>match nx i h with
  |none=>.no
  |some none=>.ok acc.reverse h
  |some (some w)=>match tg w h ρ with
   |none=>.no
   |some ρ=>(c ρ h).bind λb h=>match b with
    |.bl true=>(inn ρ h acc).bind λp h=>lcO nx tg c inn f (i+1) p.1 h p.2
    |.bl false=>lcO nx tg c inn f (i+1) ρ h acc
    |_=>.no
noncomputable def dcG(nx:Nat->VH->Option (Option W))(tg:W->VH->En->Option En)(c:En->VH->Res W)(e v:En->VH->Res W):Nat->Nat->En->VH->List (L2.Key×W)->Res (List (L2.Key×W))
 |0,_,_,_,_=>.no
 |f+1,i,ρ,h,acc=>match nx i h with
  |none=>.no
  |some none=>.ok acc h
  |some (some w)=>match tg w h ρ with
   |none=>.no
   |some ρ=>(c ρ h).bind λb h=>match b with
    |.bl true=>(e ρ h).bind λx h=>(v ρ h).bind λy h=>(match keyW x with
     |some k=>if Nat.blt acc.length big then dcG nx tg c e v f (i+1) ρ h (putKW acc k y)else .no
     |none=>.no)
    |.bl false=>dcG nx tg c e v f (i+1) ρ h acc
    |_=>.no
noncomputable def forG(nx:Nat->VH->Option (Option W))(tg:W->VH->En->Option En)(b:En->VH->Res Fl):Nat->Nat->En->VH->Res Fl
 |0,_,_,_=>.no
 |f+1,i,ρ,h=>match nx i h with
  |none=>.no
  |some none=>.ok (.nx ρ) h
  |some (some w)=>match tg w h ρ with
   |none=>.no
   |some ρ=>(b ρ h).bind λfl h=>match fl with
    |.nx ρ=>forG nx tg b f (i+1) ρ h
    |.ct ρ=>forG nx tg b f (i+1) ρ h
    |.bk ρ=>.ok (.nx ρ) h
    |.rt w=>.ok (.rt w) h
noncomputable def whlG(c:En->VH->Res W)(b:En->VH->Res Fl):Nat->En->VH->Res Fl
 |0,_,_=>.no
 |f+1,ρ,h=>(c ρ h).bind λt h=>match t with
  |.bl false=>.ok (.nx ρ) h
  |.bl true=>(b ρ h).bind λfl h=>match fl with
   |.nx ρ=>whlG c b f ρ h
   |.ct ρ=>whlG c b f ρ h
   |.bk ρ=>.ok (.nx ρ) h
   |.rt w=>.ok (.rt w) h
  |_=>.no
noncomputable def zi6:List W->Option (List (L2.Key×W))
 |[]=>some []
 |k::v::r=>match keyW k with
  |some k=>(match zi6 r with
   |some kvs=>some ((k,v)::kvs)
   |none=>none)
  |none=>none
 |_=>none
noncomputable def zv6(kvs more:List (L2.Key×W)):List (L2.Key×W):=more.foldl (λacc kv=>putKW acc kv.1 kv.2) kvs
noncomputable def dkO:List (L2.Key×W)->VO
 |[]=>.dt [] []
 |kvs=>.dk (zv6 [] kvs)
noncomputable def dspD(ys:List W)(h:VH):Res W:=match ys with
 |[k,w]=>(match keyD k with
  |some _=>.ok (.ref h.n) (h.new (.dt [k] [w]))
  |none=>.no)
 |_=>.no
noncomputable def putM(ρ:En)(a:Nat)(j:Int)(w:W)(h:VH):Res Fl:=match h.get a with
 |some (.dm kvs)=>if Nat.blt kvs.length big then .ok (.nx ρ) (h.set a (.dm (putKW kvs (.inl j) w)))else .no
 |_=>.no
noncomputable def putD(ρ:En)(a:Nat)(y w:W)(h:VH):Res Fl:=match h.get a,keyD y with
 |some (.dt ks ws),some k=>if(lookD ks ws k).isNone&&Nat.blt ks.length big then .ok (.nx ρ) (h.set a (.dt (ks++[y]) (ws++[w])))else .no
 |_,_=>.no
noncomputable abbrev Call:=Nat->List W->VH->Res W
noncomputable def ev(cl:Call):E->En->VH->Res W
 |.var i,ρ,h=>.of (ρ[i]?).join h
 |.cst w,_,h=>.ok w h
 |.nil,_,h=>.ok (.tup []) h
 |.cons a r,ρ,h=>(ev cl a ρ h).bind λx h=>(ev cl r ρ h).bind λy h=>match y with
  |.tup ys=>.ok (.tup (x::ys)) h
  |_=>.no
 |.tup a,ρ,h=>(ev cl a ρ h).bind λy h=>match y with
  |.tup ys=>if Nat.ble ys.length 1000 then .ok (.tup ys) h else .no
  |_=>.no
 |.lst a,ρ,h=>(ev cl a ρ h).bind λy h=>match y with
  |.tup ys=>if Nat.ble ys.length 1000 then .ok (.ref h.n) (h.new (.lst ys))else .no
  |_=>.no
 |.dsp a,ρ,h=>(ev cl a ρ h).bind λy h=>match y with
  |.tup ys=>(match zi6 ys with
   |some kvs=>if Nat.ble kvs.length 15 then .ok (.ref h.n) (h.new (dkO kvs))else .no
   |none=>dspD ys h)
  |_=>.no
 |.op o a b,ρ,h=>(ev cl a ρ h).bind λx h=>(ev cl b ρ h).bind λy h=>opW o x y h
 |.neg a,ρ,h=>(ev cl a ρ h).bind λx h=>match x with
  |.int i=>.ok (.int (-i)) h
  |_=>.no
 |.cmp c a b,ρ,h=>(ev cl a ρ h).bind λx h=>(ev cl b ρ h).bind λy h=>.of ((cmpW c h x y).map .bl) h
 |.chn c d a b e,ρ,h=>(ev cl a ρ h).bind λx h=>(ev cl b ρ h).bind λy h=>match cmpW c h x y with
  |some true=>(ev cl e ρ h).bind λz h=>.of ((cmpW d h y z).map .bl) h
  |some false=>.ok (.bl false) h
  |none=>.no
 |.not a,ρ,h=>(ev cl a ρ h).bind λx h=>match x with
  |.bl b=>.ok (.bl (!b)) h
  |_=>.no
 |.and a b,ρ,h=>(ev cl a ρ h).bind λx h=>match x with
  |.bl true=>ev cl b ρ h
  |.bl false=>.ok (.bl false) h
  |_=>.no
 |.or a b,ρ,h=>(ev cl a ρ h).bind λx h=>match x with
  |.bl true=>.ok (.bl true) h
  |.bl false=>ev cl b ρ h
  |_=>.no
 |.tru a,ρ,h=>(ev cl a ρ h).bind λx h=>.of ((truW h x).map .bl) h
 |.ite c a b,ρ,h=>(ev cl c ρ h).bind λx h=>match x with
  |.bl true=>ev cl a ρ h
  |.bl false=>ev cl b ρ h
  |_=>.no
 |.idx a b,ρ,h=>(ev cl a ρ h).bind λx h=>(ev cl b ρ h).bind λy h=>.of (idxW h x y) h
 |.slc a bl lo bh hi,ρ,h=>(ev cl a ρ h).bind λx h=>(ev cl lo ρ h).bind λl h=>(ev cl hi ρ h).bind λu h=>match partW bl l,partW bh u with
  |some l,some u=>slcW x l u h
  |_,_=>.no
 |.call f a,ρ,h=>(ev cl a ρ h).bind λy h=>match y with
  |.tup ys=>cl f ys h
  |_=>.no
 |.bi b a,ρ,h=>(ev cl a ρ h).bind λy h=>match y with
  |.tup ys=>biW b ys h
  |_=>.no
 |.isi t a,ρ,h=>(ev cl a ρ h).bind λx h=>.of ((tyIs t h x).map .bl) h
 |.mt m o a,ρ,h=>(ev cl o ρ h).bind λx h=>if zdu m h x then(ev cl a ρ h).bind λy h=>match y with
  |.tup ys=>mtW m x ys h
  |_=>.no
  else .no
 |.lc k a t ow ix c e,ρ,h=>(ev cl a ρ h).bind λx h=>(lcG (nxt k x) (tgW t) (ev cl c) (ev cl e) fuel 0 (inner ow ix ρ) h []).bind λys h=>if Nat.ble ys.length big then .ok (.ref h.n) (h.new (.lst ys))else .no
 |.lc2 k a t ow ix c k2 a2 t2 c2 e,ρ,h=>(ev cl a ρ h).bind λx h=>(lcO (nxt k x) (tgW t) (ev cl c) (λρ h acc=>(ev cl a2 ρ h).bind λy h=>lcI (nxt k2 y) (tgW t2) (ev cl c2) (ev cl e) fuel 0 ρ h acc) fuel 0 (inner ow ix ρ) h []).bind λys h=>if Nat.ble ys.length big then .ok (.ref h.n) (h.new (.lst ys))else .no
 |.dc k a t ow ix c e v,ρ,h=>(ev cl a ρ h).bind λx h=>(dcG (nxt k x) (tgW t) (ev cl c) (ev cl e) (ev cl v) fuel 0 (inner ow ix ρ) h []).bind λkvs h=>.ok (.ref h.n) (h.new (.dk kvs))
noncomputable def exs(cl:Call):S->En->VH->Res Fl
 |.skip,ρ,h=>.ok (.nx ρ) h
 |.seq a b,ρ,h=>(exs cl a ρ h).bind λfl h=>match fl with
  |.nx ρ=>exs cl b ρ h
  |fl=>.ok fl h
 |.set i e,ρ,h=>(ev cl e ρ h).bind λw h=>.ok (.nx (ρ.set i (some w))) h
 |.unp is e,ρ,h=>(ev cl e ρ h).bind λw h=>.of ((tgW (.many is) w h ρ).map .nx) h
 |.aug i o e,ρ,h=>match(ρ[i]?).join with
  |some x=>(ev cl e ρ h).bind λy h=>(ipW o x y h).bind λz h=>.ok (.nx (ρ.set i (some z))) h
  |none=>.no
 |.put o i v,ρ,h=>(ev cl v ρ h).bind λw h=>(ev cl o ρ h).bind λx h=>(ev cl i ρ h).bind λy h=>match x,y with
  |.ref a,.int j=>(match h.get a with
   |some (.lst ws)=>(match L2.ixN ws.length j with
    |some k=>.ok (.nx ρ) (h.set a (.lst (ws.set k w)))
    |none=>.no)
   |_=>putM ρ a j w h)
  |.ref a,y=>putD ρ a y w h
  |_,_=>.no
 |.pts o bl lo bh hi v,ρ,h=>(ev cl v ρ h).bind λw h=>(ev cl o ρ h).bind λx h=>(ev cl lo ρ h).bind λl h=>(ev cl hi ρ h).bind λu h=>(match partW bl l,partW bh u with
  |some l,some u=>(ptsW x w l u h).bind λ_ h=>.ok (.nx ρ) h
  |_,_=>.no)
 |.ite c a b,ρ,h=>(ev cl c ρ h).bind λx h=>match x with
  |.bl true=>exs cl a ρ h
  |.bl false=>exs cl b ρ h
  |_=>.no
 |.ret e,ρ,h=>(ev cl e ρ h).bind λw h=>.ok (.rt w) h
 |.expr e,ρ,h=>(ev cl e ρ h).bind λ_ h=>.ok (.nx ρ) h
 |.brk,ρ,h=>.ok (.bk ρ) h
 |.cnt,ρ,h=>.ok (.ct ρ) h
 |.for k a t b,ρ,h=>(ev cl a ρ h).bind λx h=>forG (nxt k x) (tgW t) (exs cl b) fuel 0 ρ h
 |.whl c b,ρ,h=>whlG (ev cl c) (exs cl b) fuel ρ h
 |.no,_,_=>.no
structure Fn where
 ps:Nat
 n:Nat
 body:S
noncomputable def leave(h:VH)(w:W)(h':VH):Res W:=
 if Nat.ble h.n h'.lo&&W.lt h.n w then .ok w h else .ok w ⟨h'.n,if Nat.ble h.lo h'.lo then h.lo else h'.lo,h'.os⟩
noncomputable def run(F:Nat->Option Fn):Nat->Call
 |0,_,_,_=>.no
 |k+1,f,ws,h=>match F f with
  |some fn=>if Nat.beq ws.length fn.ps then
   (exs (run F k) fn.body (ws.map some++vgc (fn.n-fn.ps) none) ⟨h.n,h.n,h.os⟩).bind λfl h'=>match fl with
     |.nx _=>leave h .non h'
     |.rt w=>leave h w h'
     |_=>.no
   else .no
  |none=>.no
open L2 PyProof.Rows PySem.Spec
noncomputable def Fz(K:vga)(H:Hp)(a:Addr)(xs:List V):Prop:=
 (∃o,H a=some (.frz o (.lst xs)))\/∃(o:Obj) (its:Array Value) (n:Nat),K.lookup a=some o/\o.cls=.type "list"/\o.dict=none/\o.data=.seq its n/\its.size<=sizeLine/\Vals xs its.toList
theorem Fz.sq{K:vga}{H:Hp}{a:Addr}{xs:List V}(h:Fz K H a xs):SqL K H a xs:=h.elim (λ⟨o,q⟩=>.inl (.inr ⟨o,q⟩)) .inr
mutual
inductive VRep(K:vga)(m:Nat->Addr)(n:Nat)(H:Hp):V->W->Prop
 |non:VRep K m n H .non .non
 |bl (b:Bool):VRep K m n H (.bl b) (.bl b)
 |int (i:Int):VRep K m n H (.int i) (.int i)
 |str (x:Str):VRep K m n H (.str x) (.str x)
 |tup {a:Addr} {vs:List V} {ws:List W}:SqT K H a vs->VReps K m n H vs ws->VRep K m n H (.ref a) (.tup ws)
 |fz {a:Addr} {vs:List V} {ws:List W}:Fz K H a vs->VReps K m n H vs ws->VRep K m n H (.ref a) (.fz ws)
 |ref {i:Nat}:i<n->VRep K m n H (.ref (m i)) (.ref i)
inductive VReps(K:vga)(m:Nat->Addr)(n:Nat)(H:Hp):List V->List W->Prop
 |nil:VReps K m n H [] []
 |cons {v:V} {w:W} {vs:List V} {ws:List W}:VRep K m n H v w->VReps K m n H vs ws->VReps K m n H (v::vs) (w::ws)
end
inductive KReps(K:vga)(m:Nat->Addr)(n:Nat)(H:Hp):List (Key×V)->List (Key×W)->Prop
 |nil:KReps K m n H [] []
 |cons {k:Key} {v:V} {w:W} {vs:List (Key×V)} {ws:List (Key×W)}:VRep K m n H v w->KReps K m n H vs ws->KReps K m n H ((k,v)::vs) ((k,w)::ws)
noncomputable def ORep(K:vga)(m:Nat->Addr)(n:Nat)(H:Hp)(a:Addr):VO->Prop
 |.lst ws=>∃vs,H a=some (.lst vs)/\VReps K m n H vs ws
 |.dk kvs=>∃kv,Rd H a (.dK kv)/\KReps K m n H kv kvs
 |.dm kvs=>∃kv,H a=some (.dK kv)/\KReps K m n H kv kvs
 |.dt ks ws=>∃xs:DX,(H a=some (dtH xs a)\/(xs=[]/\H a=some (.dK [])))/\mapO keyD ks=some (xs.map (·.1))/\VReps K m n H (xs.map λx=>.ref x.2.1) ks/\VReps K m n H (xs.map λx=>x.2.2) ws
structure Rel(K:vga)(m:Nat->Addr)(h:VH)(H:Hp):Prop where
 obj:∀i,i<h.n->∃o,h.get i=some o/\ORep K m h.n H (m i) o
 inj:∀i j,i<h.n->j<h.n->m i=m j->i=j
 len:h.os.length=h.n
structure Stp(m:Nat->Addr)(n:Nat)(H:Hp)(m':Nat->Addr)(n':Nat)(H':Hp):Prop where
 le:n<=n'
 same:∀i,i<n->m' i=m i
 new:∀i,n<=i->i<n'->H (m' i)=none
 apart:∀i j,n<=i->i<n'->j<n->m' i≠m' j
 tup:∀b vs,H b=some (.tup vs)->H' b=some (.tup vs)
 frz:∀b o u,H b=some (.frz o u)->H' b=some (.frz o u)
 keep:∀b o,(∀i,i<n->m i≠b)->H b=some o->H' b=some o
section
variable{K:vga}{m m' m1 m2:Nat->Addr}{n n' n1 n2:Nat}{h h':VH}{H H' H1 H2:Hp}
theorem Stp.refl:Stp m n H m n H:=⟨vad _,λ_ _=>rfl,λi a b=>absurd b (vb9.mpr a),λi j a b=>absurd b (vb9.mpr a),λ_ _ q=>q,λ_ _ _ q=>q,λ_ _ _ q=>q⟩
theorem Stp.trans(a:Stp m n H m1 n1 H1)(b:Stp m1 n1 H1 m2 n2 H2):Stp m n H m2 n2 H2 where
 le:=vbo a.le b.le
 same:=λi hi=>(b.same i (vah hi a.le)).trans (a.same i hi)
 new:=λi hi hi2=>by
  by_cases hc:i<n1
  .rw[b.same i hc];exact a.new i hi hc
  .have hc:=vb9.mp hc
   cases q:H (m2 i)with
   |none=>rfl
   |some o=>
    have q1:H1 (m2 i)=none:=b.new i hc hi2
    rw[a.keep _ o (λj hj z=>b.apart i j hc hi2 (vah hj a.le) ((b.same j (vah hj a.le)).trans ((a.same j hj).trans z)).symm) q]at q1
    cases q1
 apart:=λi j hi hi2 hj=>by
  by_cases hc:i<n1
  .rw[b.same i hc,b.same j (vah hj a.le)];exact a.apart i j hi hc hj
  .exact b.apart i j (vb9.mp hc) hi2 (vah hj a.le)
 tup:=λc vs q=>b.tup c vs (a.tup c vs q)
 frz:=λc o u q=>b.frz c o u (a.frz c o u q)
 keep:=λc o hc q=>b.keep c o (λi hi=>by
  by_cases hl:i<n
  .rw[a.same i hl];exact hc i hl
  .intro z
   have:=a.new i (vb9.mp hl) hi
   rw[z,q]at this;cases this) (a.keep c o hc q)
theorem Stp.sqT{a:Addr}{vs:List V}(s:Stp m n H m' n' H')(q:SqT K H a vs):SqT K H' a vs:=by
 rcases q with(q|⟨o,q⟩)|q
 .exact .inl (.inl (s.tup _ _ q))
 .exact .inl (.inr ⟨o,s.frz _ _ _ q⟩)
 .exact .inr q
theorem Stp.fz{a:Addr}{vs:List V}(s:Stp m n H m' n' H')(q:Fz K H a vs):Fz K H' a vs:=by
 rcases q with⟨o,q⟩|q
 .exact .inl ⟨o,s.frz _ _ _ q⟩
 .exact .inr q
mutual
theorem VRep.stp(s:Stp m n H m' n' H'):∀{v:V} {w:W},VRep K m n H v w->VRep K m' n' H' v w
 |_,_,.non=>.non
 |_,_,.bl b=>.bl b
 |_,_,.int b=>.int b
 |_,_,.str b=>.str b
 |_,_,.tup q r=>.tup (s.sqT q) (VReps.stp s r)
 |_,_,.fz q r=>.fz (s.fz q) (VReps.stp s r)
 |_,_,.ref (i:=i) q=>by rw[<-s.same i q];exact .ref (vah q s.le)
theorem VReps.stp(s:Stp m n H m' n' H'):∀{vs:List V} {ws:List W},VReps K m n H vs ws->VReps K m' n' H' vs ws
 |_,_,.nil=>.nil
 |_,_,.cons q r=>.cons (VRep.stp s q) (VReps.stp s r)
end
theorem KReps.stp(s:Stp m n H m' n' H'):∀{vs:List (Key×V)} {ws:List (Key×W)},KReps K m n H vs ws->KReps K m' n' H' vs ws
 |_,_,.nil=>.nil
 |_,_,.cons q r=>.cons (q.stp s) (KReps.stp s r)
theorem VReps.length:∀{vs:List V} {ws:List W},VReps K m n H vs ws->vs.length=ws.length
 |_,_,.nil=>rfl
 |_,_,.cons _ r=>by rw[vaj,vaj,VReps.length r]
theorem VReps.get:∀{vs:List V} {ws:List W} {i:Nat} {w:W},VReps K m n H vs ws->ws[i]?=some w->∃v,vs[i]?=some v/\VRep K m n H v w
 |_,_,_,_,.nil,e=>by simp at e
 |_,_,0,_,.cons q _,e=>by simp at e;subst e;exact⟨_,rfl,q⟩
 |_,_,i+1,w,.cons _ r,e=>by
  obtain⟨v,h1,h2⟩:=VReps.get (i:=i) (w:=w) r (by simpa using e)
  exact⟨v,by simpa using h1,h2⟩
theorem VReps.append:∀{vs us:List V} {ws zs:List W},VReps K m n H vs ws->VReps K m n H us zs->VReps K m n H (vs++us) (ws++zs)
 |_,_,_,_,.nil,r=>r
 |_,_,_,_,.cons q r,t=>.cons q (VReps.append r t)
theorem VReps.drop:∀(k:Nat) {vs:List V} {ws:List W},VReps K m n H vs ws->VReps K m n H (vs.drop k) (ws.drop k)
 |0,_,_,r=>r
 |_+1,_,_,.nil=>.nil
 |k+1,_,_,.cons _ r=>VReps.drop k r
theorem VReps.take:∀(k:Nat) {vs:List V} {ws:List W},VReps K m n H vs ws->VReps K m n H (vs.take k) (ws.take k)
 |0,_,_,r=>.nil
 |_+1,_,_,.nil=>.nil
 |k+1,_,_,.cons q r=>.cons q (VReps.take k r)
theorem VReps.set{v:V}{w:W}(q:VRep K m n H v w):∀(k:Nat) {vs:List V} {ws:List W},VReps K m n H vs ws->VReps K m n H (vs.set k v) (ws.set k w)
 |_,_,_,.nil=>.nil
 |0,_,_,.cons _ r=>.cons q r
 |k+1,_,_,.cons p r=>.cons p (VReps.set q k r)
theorem ORep.stp{a:Addr}{o:VO}(s:Stp m n H m' n' H')(e:H' a=H a)(q:ORep K m n H a o):ORep K m' n' H' a o:=by
 cases o with
 |lst ws=>obtain⟨vs,h1,h2⟩:=q;exact⟨vs,e.trans h1,h2.stp s⟩
 |dk ws=>obtain⟨vs,h1,h2⟩:=q;exact⟨vs,h1.imp (λz=>e.trans z) λ⟨o,z⟩=>⟨o,e.trans z⟩,h2.stp s⟩
 |dm ws=>obtain⟨vs,h1,h2⟩:=q;exact⟨vs,e.trans h1,h2.stp s⟩
 |dt ks ws=>obtain⟨xs,h1,h0,h2,h3⟩:=q;exact⟨xs,h1.imp (λz=>e.trans z) λ⟨o,z⟩=>⟨o,e.trans z⟩,h0,h2.stp s,h3.stp s⟩
theorem ORep.some{a:Addr}{o:VO}(q:ORep K m n H a o):∃u,H a=some u:=by
 cases o with
 |lst ws=>obtain⟨vs,h1,h2⟩:=q;exact⟨_,h1⟩
 |dk ws=>
  obtain⟨vs,h1,h2⟩:=q
  rcases h1 with h1|⟨o,h1⟩<;>exact⟨_,h1⟩
 |dm ws=>obtain⟨vs,h1,h2⟩:=q;exact⟨_,h1⟩
 |dt ks ws=>
  obtain⟨xs,h1,_⟩:=q
  rcases h1 with h1|⟨_,h1⟩<;>exact⟨_,h1⟩
theorem zap{i j:Nat}:Nat.blt i j=true↔i<j:=by
 unfold Nat.blt;rw[veq];exact Iff.rfl
theorem zah{i:Nat}{o:VO}(q:h.get i=some o):i<h.n:=by
 unfold VH.get at q
 split at q
 .rename_i z;exact zap.mp z
 .cases q
theorem Rel.at_(r:Rel K m h H){i:Nat}{o:VO}(q:h.get i=some o):ORep K m h.n H (m i) o:=by
 obtain⟨o',h1,h2⟩:=r.obj i (zah q)
 rw[q]at h1;cases h1;exact h2
theorem Rel.lst(r:Rel K m h H){i:Nat}{ws:List W}(q:h.get i=some (.lst ws)):∃vs,H (m i)=some (.lst vs)/\VReps K m h.n H vs ws:=r.at_ q
theorem Rel.dk(r:Rel K m h H){i:Nat}{ws:List (Key×W)}(q:h.get i=some (.dk ws)):∃vs,Rd H (m i) (.dK vs)/\KReps K m h.n H vs ws:=r.at_ q
theorem Rel.dm(r:Rel K m h H){i:Nat}{ws:List (Key×W)}(q:h.get i=some (.dm ws)):∃vs,H (m i)=some (.dK vs)/\KReps K m h.n H vs ws:=r.at_ q
theorem Rel.dt(r:Rel K m h H){i:Nat}{ks ws:List W}(q:h.get i=some (.dt ks ws)):∃xs:DX,(H (m i)=some (dtH xs (m i))\/(xs=[]/\H (m i)=some (.dK [])))/\mapO keyD ks=some (xs.map (·.1))/\VReps K m h.n H (xs.map λx=>.ref x.2.1) ks/\VReps K m h.n H (xs.map λx=>x.2.2) ws:=r.at_ q
theorem zab{i:Nat}{o:VO}(hi:i<h.n):(h.new o).get i=h.get i:=by
 unfold VH.get VH.new
 have h1:Nat.blt i (h.n+1)=true:=zap.mpr (vch hi)
 have h2:Nat.blt i h.n=true:=zap.mpr hi
 simp only[h1,h2,va8]
 have:h.n+1-1-i=(h.n-1-i)+1:=by omega
 rw[this];rfl
theorem zai{o:VO}:(h.new o).get h.n=some o:=by
 unfold VH.get VH.new
 have h1:Nat.blt h.n (h.n+1)=true:=zap.mpr (vbc _)
 simp only[h1,va8]
 have:h.n+1-1-h.n=0:=by omega
 rw[this];rfl
theorem Rel.alloc(r:Rel K m h H){p:Addr}{o:VO}{u:HO}(hp:H p=none)(hu:∀t,u≠.tup t)
 (ho:Stp m h.n H (λi=>if i=h.n then p else m i) (h.n+1) (upd H p u)->ORep K (λi=>if i=h.n then p else m i) (h.n+1) (upd H p u) p o) :
 Stp m h.n H (λi=>if i=h.n then p else m i) (h.n+1) (upd H p u)/\Rel K (λi=>if i=h.n then p else m i) (h.new o) (upd H p u):=by
 have tr:∀i,i<h.n->m i≠p:=λi hi z=>by
  obtain⟨o',_,h2⟩:=r.obj i hi
  obtain⟨u',h3⟩:=h2.some
  rw[z,hp]at h3;cases h3
 have st:Stp m h.n H (λi=>if i=h.n then p else m i) (h.n+1) (upd H p u):=by
  refine⟨vci _,λi hi=>by simp only[if_neg (vaz hi)],λi hi hi2=>?_,λi j hi hi2 hj=>?_,λb vs q=>?_,λb o u q=>?_,λb o _ q=>?_⟩
  .have:i=h.n:=by omega
   subst this;simp only[va8];exact hp
  .have:i=h.n:=by omega
   subst this;simp only[va8,if_neg (vaz hj)];exact(tr j hj).symm
  .rw[zae (zad q hp)];exact q
  .rw[zae (zad q hp)];exact q
  .rw[zae (zad q hp)];exact q
 refine⟨st,⟨λi hi=>?_,λi j hi hj z=>?_,?_⟩⟩
 .have hi:i<h.n+1:=hi
  by_cases e:i=h.n
  .subst e;exact⟨o,zai,by simp only[va8];exact ho st⟩
  .have hl:i<h.n:=by omega
   obtain⟨o',h1,h2⟩:=r.obj i hl
   refine⟨o',(zab hl).trans h1,?_⟩
   simp only[if_neg e]
   exact ORep.stp st (zae (tr i hl)) h2
 .have hi:i<h.n+1:=hi
  have hj:j<h.n+1:=hj
  by_cases e:i=h.n
  .by_cases e2:j=h.n
   .omega
   .simp only[if_pos e,if_neg e2]at z
    exact absurd z.symm (tr j (by omega))
  .by_cases e2:j=h.n
   .simp only[if_neg e,if_pos e2]at z
    exact absurd z (tr i (by omega))
   .simp only[if_neg e,if_neg e2]at z
    exact r.inj i j (by omega) (by omega) z
 .show(o::h.os).length=h.n+1
  rw[vaj,r.len]
theorem zgq(r:Rel K m h H){i:Nat}{o:VO}(hi:i<h.n):(h.set i o).get i=some o:=by
 unfold VH.get VH.set
 have h1:Nat.blt i h.n=true:=zap.mpr hi
 simp only[h1,va8]
 rw[vcg]
 rw[r.len];omega
theorem zcw{i j:Nat}{o:VO}(hi:i<h.n)(hj:j≠i):(h.set i o).get j=h.get j:=by
 unfold VH.get VH.set
 by_cases h1:j<h.n
 .have h2:Nat.blt j h.n=true:=zap.mpr h1
  simp only[h2,va8]
  rw[vdb]
  omega
 .have h2:Nat.blt j h.n=false:=by
   cases q:Nat.blt j h.n with
   |false=>rfl
   |true=>exact absurd (zap.mp q) h1
  simp only[h2,vak,va7]
theorem Rel.write(r:Rel K m h H){i:Nat}{o:VO}{u u0:HO}(hi:i<h.n)(h0:H (m i)=some u0)(hn:∀t,u0≠.tup t)(hf:∀o t,u0≠.frz o t)
 (ho:Stp m h.n H m h.n (upd H (m i) u)->ORep K m h.n (upd H (m i) u) (m i) o) :
 Stp m h.n H m h.n (upd H (m i) u)/\Rel K m (h.set i o) (upd H (m i) u):=by
 have st:Stp m h.n H m h.n (upd H (m i) u):=by
  refine⟨vad _,λ_ _=>rfl,λj a b=>absurd b (vb9.mpr a),λj k a b=>absurd b (vb9.mpr a),λb vs q=>?_,λb o t q=>?_,λb o nb q=>?_⟩
  .rw[zae (ne_of q h0 (λz=>hn vs z.symm))];exact q
  .rw[zae (ne_of q h0 (λz=>hf o t z.symm))];exact q
  .rw[zae (nb i hi).symm];exact q
 refine⟨st,⟨λj hj=>?_,λa b ha hb=>r.inj a b ha hb,?_⟩⟩
 .have hj:j<h.n:=hj
  by_cases e:j=i
  .subst e;exact⟨o,zgq r hj,ho st⟩
  .obtain⟨o',h1,h2⟩:=r.obj j hj
   exact⟨o',(zcw hi e).trans h1,ORep.stp st (zae λz=>e (r.inj j i hj hi z)) h2⟩
 .show(h.os.set _ o).length=h.n
  rw[ved,r.len]
theorem Rel.more(r:Rel K m h H){p:Addr}{u:HO}(hp:H p=none):Stp m h.n H m h.n (upd H p u)/\Rel K m h (upd H p u):=by
 have st:Stp m h.n H m h.n (upd H p u):=by
  refine⟨vad _,λ_ _=>rfl,λj a b=>absurd b (vb9.mpr a),λj k a b=>absurd b (vb9.mpr a),λb vs q=>?_,λb o t q=>?_,λb o nb q=>?_⟩
  .rw[zae (zad q hp)];exact q
  .rw[zae (zad q hp)];exact q
  .rw[zae (zad q hp)];exact q
 refine⟨st,⟨λj hj=>?_,r.inj,r.len⟩⟩
 obtain⟨o',h1,h2⟩:=r.obj j hj
 obtain⟨u',h3⟩:=h2.some
 exact⟨o',h1,ORep.stp st (zae (zad h3 hp)) h2⟩
end
theorem zsu{α β:Type}{r:Res α}{f:α->VH->Res β}{b:β}{h':VH}(q:r.bind f=.ok b h'):∃a h1,r=.ok a h1/\f a h1=.ok b h':=by
 cases r with
 |ok a h=>exact⟨a,h,rfl,q⟩
 |ex x h=>cases q
 |no=>cases q
theorem zac{α β:Type}{r:Res α}{f:α->VH->Res β}{w:β}{h':VH}{P:Prop}(e:r.bind f=.ok w h')(k:∀x h1,r=.ok x h1->f x h1=.ok w h'->P):P:=by
 obtain⟨x,h1,a,b⟩:=zsu e
 exact k x h1 a b
theorem of_ok{α:Type}{o:Option α}{h h':VH}{a:α}(q:Res.of o h=.ok a h'):o=some a/\h'=h:=by
 cases o with
 |none=>cases q
 |some b=>cases q;exact⟨rfl,rfl⟩
structure Fr(K:vga)(m:Nat->Addr)(n:Nat)(H:Hp)(σ:L2.St)(ρ:En):Prop where
 len:σ.length=ρ.length
 val:∀(i:Nat)(w:W),ρ[i]?=some (some w)->∃v,σ[i]?=some (some v)/\VRep K m n H v w
noncomputable abbrev FE:=En->VH->Res W
noncomputable abbrev FS:=En->VH->Res Fl
noncomputable def lft(K:vga)(f:FE):TE:=λσ H Q=>∃ρ h m w h',Fr K m h.n H σ ρ/\Rel K m h H/\f ρ h=.ok w h'/\
 ∀v H' m',Stp m h.n H m' h'.n H'->Rel K m' h' H'->VRep K m' h'.n H' v w->Q v H'
noncomputable def lftT(K:vga)(f:FE):TT:=λσ H Q=>∃ρ h m b h',Fr K m h.n H σ ρ/\Rel K m h H/\f ρ h=.ok (.bl b) h'/\
 ∀H' m',Stp m h.n H m' h'.n H'->Rel K m' h' H'->Q b H'
noncomputable def lftA(K:vga)(f:FE):TA:=λσ H Q=>∃ρ h m ws h',Fr K m h.n H σ ρ/\Rel K m h H/\f ρ h=.ok (.tup ws) h'/\
 ∀vs H' m',Stp m h.n H m' h'.n H'->Rel K m' h' H'->VReps K m' h'.n H' vs ws->Q vs H'
section
variable{K:vga}{m:Nat->Addr}{σ:L2.St}{H:Hp}{P:Prop}{fa:FE}{ρ:En}{h h':VH}
theorem lft.el{Q:VK}(q:lft K fa σ H Q)(k:∀ρ h m w h',Fr K m h.n H σ ρ->Rel K m h H->fa ρ h=.ok w h'->(∀v H' m',Stp m h.n H m' h'.n H'->Rel K m' h' H'->VRep K m' h'.n H' v w->Q v H')->P):P:=by
 obtain⟨ρ,h,m,w,h',f,r,e,k'⟩:=q
 exact k ρ h m w h' f r e k'
theorem lft.mk{Q:VK}{w:W}(f:Fr K m h.n H σ ρ)(r:Rel K m h H)(e:fa ρ h=.ok w h')(k:∀v H' m',Stp m h.n H m' h'.n H'->Rel K m' h' H'->VRep K m' h'.n H' v w->Q v H'):lft K fa σ H Q:=⟨ρ,h,m,w,h',f,r,e,k⟩
theorem lftT.el{Q:Bool->Hp->Prop}(q:lftT K fa σ H Q)(k:∀ρ h m b h',Fr K m h.n H σ ρ->Rel K m h H->fa ρ h=.ok (.bl b) h'->(∀H' m',Stp m h.n H m' h'.n H'->Rel K m' h' H'->Q b H')->P):P:=by
 obtain⟨ρ,h,m,w,h',f,r,e,k'⟩:=q
 exact k ρ h m w h' f r e k'
theorem lftT.mk{Q:Bool->Hp->Prop}{b:Bool}(f:Fr K m h.n H σ ρ)(r:Rel K m h H)(e:fa ρ h=.ok (.bl b) h')(k:∀H' m',Stp m h.n H m' h'.n H'->Rel K m' h' H'->Q b H'):lftT K fa σ H Q:=⟨ρ,h,m,b,h',f,r,e,k⟩
theorem lftA.el{Q:List V->Hp->Prop}(q:lftA K fa σ H Q)(k:∀ρ h m ws h',Fr K m h.n H σ ρ->Rel K m h H->fa ρ h=.ok (.tup ws) h'->(∀vs H' m',Stp m h.n H m' h'.n H'->Rel K m' h' H'->VReps K m' h'.n H' vs ws->Q vs H')->P):P:=by
 obtain⟨ρ,h,m,w,h',f,r,e,k'⟩:=q
 exact k ρ h m w h' f r e k'
theorem lftA.mk{Q:List V->Hp->Prop}{ws:List W}(f:Fr K m h.n H σ ρ)(r:Rel K m h H)(e:fa ρ h=.ok (.tup ws) h')(k:∀vs H' m',Stp m h.n H m' h'.n H'->Rel K m' h' H'->VReps K m' h'.n H' vs ws->Q vs H'):lftA K fa σ H Q:=⟨ρ,h,m,ws,h',f,r,e,k⟩
end
noncomputable abbrev SE(X:Cx)(e:Expr)(f:FE):Prop:=PE X e (lft X.K f)
noncomputable abbrev ST(X:Cx)(e:Expr)(f:FE):Prop:=PT X e (lftT X.K f)
noncomputable abbrev SW(X:Cx)(e:Expr)(f:FE):Prop:=PW X e (lftT X.K f)
noncomputable abbrev SA(X:Cx)(es:List Expr)(f:FE):Prop:=PA X es (lftA X.K f)
theorem _root_.L2.PE.imp{X:Cx}{e:Expr}{t t':TE}(h:PE X e t)(k:∀σ H Q,t' σ H Q->t σ H Q):PE X e t':=λpins s σ H Q I q=>h pins s σ H Q I (k σ H Q q)
theorem _root_.L2.PT.imp{X:Cx}{e:Expr}{t t':TT}(h:PT X e t)(k:∀σ H Q,t' σ H Q->t σ H Q):PT X e t':=λpins s σ H Q I q=>h pins s σ H Q I (k σ H Q q)
theorem _root_.L2.PW.imp{X:Cx}{e:Expr}{t t':TT}(h:PW X e t)(k:∀σ H Q,t' σ H Q->t σ H Q):PW X e t':=λwh pins s σ H Q I q=>h wh pins s σ H Q I (k σ H Q q)
theorem _root_.L2.PA.imp{X:Cx}{es:List Expr}{t t':TA}(h:PA X es t)(k:∀σ H Q,t' σ H Q->t σ H Q):PA X es t':=λp pins s σ H Q I q=>h p pins s σ H Q I (k σ H Q q)
theorem _root_.L2.PS.imp{X:Cx}{st:Stmt}{t t':TS}(h:PS X st t)(k:∀D σ H,t' D σ H->t D σ H):PS X st t':=λpins s σ H D I q=>h pins s σ H D I (k D σ H q)
theorem _root_.L2.PSs.imp{X:Cx}{st:List Stmt}{t t':TS}(h:PSs X st t)(k:∀D σ H,t' D σ H->t D σ H):PSs X st t':=λpins s σ H D I q=>h pins s σ H D I (k D σ H q)
section
variable{K:vga}{m m':Nat->Addr}{n n':Nat}{h h':VH}{H H':Hp}{σ:L2.St}{ρ:En}
theorem Fr.stp(f:Fr K m n H σ ρ)(s:Stp m n H m' n' H'):Fr K m' n' H' σ ρ:=⟨f.len,λi w e=>let⟨v,h1,h2⟩:=f.val i w e;⟨v,h1,h2.stp s⟩⟩
theorem Fr.set(f:Fr K m n H σ ρ){v:V}{w:W}(q:VRep K m n H v w)(i:Nat):Fr K m n H (σ.set i (some v)) (ρ.set i (some w)):=by
 refine⟨by rw[ved,ved];exact f.len,λj w' e=>?_⟩
 by_cases hj:i=j
 .subst hj
  by_cases hl:i<ρ.length
  .rw[vcg hl]at e
   cases e
   exact⟨v,by rw[vcg (by rw[f.len];exact hl)],q⟩
  .rw[List.getElem?_eq_none (by rw[ved];omega)]at e;cases e
 .rw[vdb hj]at e
  obtain⟨v',h1,h2⟩:=f.val j w' e
  exact⟨v',by rw[vdb hj];exact h1,h2⟩
noncomputable def Wants(K:vga)(m:Nat->Addr)(n:Nat)(H:Hp)(w:W)(h':VH)(Q:VK):Prop:=∀v H' m',Stp m n H m' h'.n H'->Rel K m' h' H'->VRep K m' h'.n H' v w->Q v H'
theorem Wants.here{w:W}{Q:VK}(k:Wants K m h.n H w h Q)(r:Rel K m h H){v:V}(q:VRep K m h.n H v w):Q v H:=k v H m .refl r q
theorem Wants.list{ws:List W}{vs:List V}{Q:VK}(k:Wants K m h.n H (.ref h.n) (h.new (.lst ws)) Q)(r:Rel K m h H)(q:VReps K m h.n H vs ws){p:Addr}(hp:H p=none):Q (.ref p) (upd H p (.lst vs)):=by
 obtain⟨st,r'⟩:=r.alloc (o:=.lst ws) (u:=.lst vs) hp (λ_ z=>nomatch z) (λst=>⟨vs,zan,q.stp st⟩)
 refine k _ _ _ st r' ?_
 have:VRep K (λi=>if i=h.n then p else m i) (h.n+1) (upd H p (.lst vs)) (.ref ((λi=>if i=h.n then p else m i) h.n)) (.ref h.n):=.ref (vbc _)
 simp only[va8]at this
 exact this
theorem Wants.dictD{ks ws:List W}{xs:DX}{u:HO}{Q:VK}(k:Wants K m h.n H (.ref h.n) (h.new (.dt ks ws)) Q)(r:Rel K m h H){p:Addr}(hp:H p=none)(hu:u=dtH xs p\/(xs=[]/\u=.dK []))(q0:mapO keyD ks=some (xs.map (·.1)))(q1:VReps K m h.n H (xs.map λx=>.ref x.2.1) ks)(q2:VReps K m h.n H (xs.map λx=>x.2.2) ws):Q (.ref p) (upd H p u):=by
 obtain⟨st,r'⟩:=r.alloc (o:=.dt ks ws) (u:=u) hp (λt z=>by rcases hu with e|⟨_,e⟩<;> (rw[e]at z;exact nomatch z)) (λst=>⟨xs,hu.imp (λe=>by rw[zan,e]) λ⟨a,e⟩=>⟨a,by rw[zan,e]⟩,q0,q1.stp st,q2.stp st⟩)
 refine k _ _ _ st r' ?_
 have:VRep K (λi=>if i=h.n then p else m i) (h.n+1) (upd H p u) (.ref ((λi=>if i=h.n then p else m i) h.n)) (.ref h.n):=.ref (vbc _)
 simp only[va8]at this
 exact this
theorem Wants.tuple{ws:List W}{vs:List V}{Q:VK}(k:Wants K m h.n H (.tup ws) h Q)(r:Rel K m h H)(q:VReps K m h.n H vs ws){p:Addr}(hp:H p=none):Q (.ref p) (upd H p (.tup vs)):=by
 obtain⟨st,r'⟩:=r.more (u:=.tup vs) hp
 exact k _ _ _ st r' (.tup (SqT.of zan) (q.stp st))
theorem zqx{fa:FE}{g:W->VH->Res W}{G:V->Hp->VK->Prop}
 (hG:∀(m:Nat->Addr)(h:VH)(H:Hp)(v:V)(x w:W)(h':VH)(Q:VK),Rel K m h H->VRep K m h.n H v x->g x h=.ok w h'->Wants K m h.n H w h' Q->G v H Q) {Q:VK}
 (q:lft K (λρ h=>(fa ρ h).bind λx h=>g x h) σ H Q):lft K fa σ H λv H1=>G v H1 Q:=by
 refine q.el λρ h m w h' f r e k=>?_
 refine zac e λx h1 e1 e2=>?_
 exact(.mk f r e1 λv H1 m1 s1 r1 q1=>hG m1 h1 H1 v x w h' Q r1 q1 e2 λv' H' m' s' r' q'=>k v' H' m' (s1.trans s') r' q')
theorem zfg{fa fb:FE}{g:W->W->VH->Res W}{G:V->V->Hp->VK->Prop}
 (hG:∀(m:Nat->Addr)(h:VH)(H:Hp)(v u:V)(x y w:W)(h':VH)(Q:VK),Rel K m h H->VRep K m h.n H v x->VRep K m h.n H u y->g x y h=.ok w h'->Wants K m h.n H w h' Q->G v u H Q) {Q:VK}
 (q:lft K (λρ h=>(fa ρ h).bind λx h=>(fb ρ h).bind λy h=>g x y h) σ H Q):lft K fa σ H λv H1=>lft K fb σ H1 λu H2=>G v u H2 Q:=by
 refine q.el λρ h m w h' f r e k=>?_
 refine zac e λx h1 e1 e2=>?_
 refine zac e2 λy h2 e3 e4=>?_
 refine(.mk f r e1 λv H1 m1 s1 r1 q1=>(.mk (f.stp s1) r1 e3 λu H2 m2 s2 r2 q2=>?_))
 exact hG m2 h2 H2 v u x y w h' Q r2 (q1.stp s2) q2 e4 λv' H' m' s' r' q'=>k v' H' m' ((s1.trans s2).trans s') r' q'
theorem zcx{fa:FE}{g:List W->VH->Res W}{G:List V->Hp->VK->Prop}
 (hG:∀(m:Nat->Addr)(h:VH)(H:Hp)(vs:List V)(xs:List W)(w:W)(h':VH)(Q:VK),Rel K m h H->VReps K m h.n H vs xs->g xs h=.ok w h'->Wants K m h.n H w h' Q->G vs H Q) {Q:VK}
 (q:lft K (λρ h=>(fa ρ h).bind λy h=>match y with|.tup ys=>g ys h|_=>.no) σ H Q):lftA K fa σ H λvs H1=>G vs H1 Q:=by
 refine q.el λρ h m w h' f r e k=>?_
 refine zac e λx h1 e1 e2=>?_
 cases x with
 |tup ys=>exact(.mk f r e1 λvs H1 m1 s1 r1 q1=>hG m1 h1 H1 vs ys w h' Q r1 q1 e2 λv' H' m' s' r' q'=>k v' H' m' (s1.trans s') r' q')
 |_=>cases e2
theorem zi7{f:FE}{Q:Bool->Hp->Prop}(q:lftT K f σ H Q):lft K f σ H λx H'=>∃k,x=.bl k/\Q k H':=by
 refine q.el λρ h m b h' f r e k=>?_
 exact(.mk f r e λv H' m' s' r' q'=>by cases q';exact⟨b,rfl,k H' m' s' r'⟩)
end
section
variable{X:Cx}{a b c e:Expr}{es:List Expr}{fa fb fc:FE}{pos:Pos}
theorem zv7{i:Nat}{x:Str}{pos:Pos}(hN:X.N[i]?=some x)(hv:Vis X.env.scope x)(hd:(x==("__debug__" : Str))=false)(hcd:(x==("__classdict__" : Str))=false):SE X (.Name x pos) (λρ h=>.of (ρ[i]?).join h):=
 (zuj hN hv hd hcd).imp λσ H Q z9=>z9.el λρ h m w h' f r e k=>by
   obtain⟨e1,e2⟩:=of_ok e
   subst e2
   have e3:ρ[i]?=some (some w):=by
    cases q:ρ[i]? with
    |none=>rw[q]at e1;cases e1
    |some o=>rw[q]at e1;rw[<-e1];rfl
   obtain⟨v,h1,h2⟩:=f.val i w e3
   exact⟨v,h1,k v H m .refl r h2⟩
theorem zgr{w:W}{v:V}(h:PE X e (tC v))(hv:∀m n H,VRep X.K m n H v w):SE X e (λ_ h=>.ok w h):=
 h.imp λσ H Q z9=>z9.el λρ h m w h' f r e k=>by cases e;exact k v H m .refl r (hv m h.n H)
theorem zv8{i j pos}:SE X (.Constant (.int i) j pos) (λ_ h=>.ok (.int i) h):=zgr zuk λ_ _ _=>.int i
theorem se_bl{i j pos}:SE X (.Constant (.bool i) j pos) (λ_ h=>.ok (.bl i) h):=zgr pe_bl λ_ _ _=>.bl i
theorem zv9{j pos}:SE X (.Constant .none j pos) (λ_ h=>.ok .non h):=zgr zul λ_ _ _=>.non
theorem zwa{i j pos}:SE X (.Constant (.str i) j pos) (λ_ h=>.ok (.str i) h):=zgr zum λ_ _ _=>.str i
theorem zmc:SA X [] (λ_ h=>.ok (.tup []) h):=ziw.imp λσ H Q z9=>z9.el λρ h m ws h' f r e k=>by cases e;exact k [] H m .refl r .nil
theorem zfh(ha:SE X e fa)(hr:SA X es fb)(hs:starEach (e::es) X.env=(false,eval e X.env)::starEach es X.env) :
 SA X (e::es) (λρ h=>(fa ρ h).bind λx h=>(fb ρ h).bind λy h=>match y with|.tup ys=>.ok (.tup (x::ys)) h|_=>.no):=
 (zdn ha hr hs).imp λσ H Q z9=>z9.el λρ h m ws h' f r e k=>by
   refine zac e λx h1 e1 e2=>?_
   refine zac e2 λy h2 e3 e4=>?_
   cases y with
   |tup ys=>
    cases e4
    exact(.mk f r e1 λv H1 m1 s1 r1 q1=>(.mk (f.stp s1) r1 e3 λvs H2 m2 s2 r2 q2=>k _ H2 m2 (s1.trans s2) r2 (.cons (q1.stp s2) q2)))
   |_=>cases e4
theorem zqy{k:Nat}(h:Nat.ble k 1000=true):k<=sizeLine:=vdh (zgo (vbh h))
theorem zwb{x1:Nat}(ha:SA X es fa):SE X (.Tuple es x1 pos) (λρ h=>(fa ρ h).bind λy h=>match y with|.tup ys=>(if Nat.ble ys.length 1000 then .ok (.tup ys) h else .no)|_=>.no):=
 (zvb ha).imp λσ H Q q=>zcx (g:=λys h=>if Nat.ble ys.length 1000 then .ok (.tup ys) h else .no) (G:=λxs H1 Q=>xs.length<=sizeLine/\∀p,H1 p=none->Q (.ref p) (upd H1 p (.tup xs)))
   (λm h H vs xs w h' Q r q e k=>by
     split at e
     .rename_i hl
      cases e
      exact⟨by rw[q.length];exact zqy hl,λp hp=>Wants.tuple k r q hp⟩
     .cases e) q
theorem zwc(ha:SA X es fa):SE X (.List es pos) (λρ h=>(fa ρ h).bind λy h=>match y with|.tup ys=>(if Nat.ble ys.length 1000 then .ok (.ref h.n) (h.new (.lst ys))else .no)|_=>.no):=
 (zvc ha).imp λσ H Q q=>zcx (g:=λys h=>if Nat.ble ys.length 1000 then .ok (.ref h.n) (h.new (.lst ys))else .no) (G:=λxs H1 Q=>xs.length<=sizeLine/\∀p,H1 p=none->Q (.ref p) (upd H1 p (.lst xs)))
   (λm h H vs xs w h' Q r q e k=>by
     split at e
     .rename_i hl
      cases e
      exact⟨by rw[q.length];exact zqy hl,λp hp=>Wants.list k r q hp⟩
     .cases e) q
noncomputable def OpV(K:vga)(r:R2)(g:W->W->VH->Res W):Prop:=∀(m:Nat->Addr) (h:VH) (H:Hp) (v u:V) (x y w:W) (h':VH) (Q:VK),Rel K m h H->VRep K m h.n H v x->VRep K m h.n H u y->g x y h=.ok w h'->Wants K m h.n H w h' Q->r v u H Q
theorem se_op{O:Operator}{r:R2}{g:W->W->VH->Res W}(ho:OpR X (binaryOp O) r)(hg:OpV X.K r g)(ha:SE X a fa)(hb:SE X b fb):SE X (.BinOp a O b pos) (λρ h=>(fa ρ h).bind λx h=>(fb ρ h).bind λy h=>g x y h):=
 (pe_op ho ha hb).imp λσ H Q q=>zfg (G:=r) hg q
noncomputable def opOf:Operator->Option Op
 |.Add=>some .add|.Sub=>some .sub|.Mult=>some .mul|.FloorDiv=>some .fdiv|.Mod=>some .mod|.Pow=>some .pow
 |_=>none
noncomputable def cI:Op->Int->Int->Prop
 |.mul=>CMul|.fdiv=>CDiv|.mod=>λ_ j=>0<j|.shl=>CPow|.pow=>CPow
 |_=>λ_ _=>True
noncomputable def gI:Op->Int->Int->Int
 |.add=>(· + ·)|.sub=>(· - ·)|.mul=>(· * ·)|.fdiv=>(· / ·)|.mod=>(· % ·)|.shl=>λi j=>i*2 ^ j.toNat|.pow=>λi j=>i ^ j.toNat
noncomputable def rX(K:vga):Op->R2
 |.add=>rCat
 |.mul=>rRep
 |_=>λ_ _ _ _=>False
noncomputable def rB(K:vga)(o:Op):R2:=λx y H Q=>rI (cI o) (λi j=>.int (gI o i j)) x y H Q\/rX K o x y H Q
theorem zcy{f:Value->Value->Sem Value}{r r':R2}(h:OpR X f r)(k:∀x y H Q,r' x y H Q->r x y H Q):OpR X f r':=λpins s σ H x y v u Q I rx ry q=>h pins s σ H x y v u Q I rx ry (k _ _ _ _ q)
theorem op_ok{O:Operator}{o:Op}(e:opOf O=some o):OpR X (binaryOp O) (rB X.K o):=by
 have tr:∀{g:Int->Int->V}{x y H Q},rI (λ_ _=>True) g x y H Q->rI0 g x y H Q:=λ⟨i,j,h1,h2,_,h3⟩=>⟨i,j,h1,h2,h3⟩
 cases O<;>cases e
 .exact zcy (zu3.or zvi) λx y H Q q=>q.elim (λz=>.inl (tr z)) .inr
 .exact zcy zu4 λx y H Q q=>q.elim (λz=>tr z) λz=>z.elim
 .exact zcy (zu5.or zvj) λx y H Q q=>q
 .exact zcy zu6 λx y H Q q=>q.elim id λz=>z.elim
 .exact zcy zu7 λx y H Q q=>q.elim id λz=>z.elim
 .exact zcy zr5 λx y H Q q=>q.elim id λz=>z.elim
theorem zdv{i:Int}(h:za5 i=true):-(2 ^ 64)<i/\i<2 ^ 64:=by
 unfold za5 at h
 rw[vab]at h
 exact⟨vba h.1,vba h.2⟩
theorem zwd{o:Op}{i j z:Int}(e:opI o i j=some z):cI o i j/\z=gI o i j:=by
 cases o<;>simp only[opI]at e
 .cases e;exact⟨trivial,rfl⟩
 .cases e;exact⟨trivial,rfl⟩
 .split at e
  .rename_i hc
   cases e
   rw[vdv]at hc
   exact⟨hc.elim (λq=>.inl (zdv q)) (λq=>.inr (zdv q)),rfl⟩
  .cases e
 .split at e
  .rename_i hc
   cases e
   rw[vab]at hc
   exact⟨⟨vba hc.1,vba hc.2⟩,rfl⟩
  .cases e
 .split at e
  .rename_i hc
   cases e
   exact⟨(vba hc:0<j),rfl⟩
  .cases e
 .split at e
  .rename_i hc
   cases e
   rw[vab,vab]at hc
   exact⟨⟨vba hc.1.1,vba hc.1.2,vba hc.2⟩,rfl⟩
  .cases e
 .split at e
  .rename_i hc
   cases e
   rw[vab,vab]at hc
   exact⟨⟨vba hc.1.1,vba hc.1.2,vba hc.2⟩,rfl⟩
  .cases e
theorem zhv{i:Int}(h:fits i=true):-(2 ^ 62)<=i/\i<2 ^ 62:=by
 unfold fits at h
 rw[vab]at h
 exact⟨vba h.1,vba h.2⟩
theorem zsv{o:Op}{xs zs:List W}{k:Int}(e:repW o xs k=some zs):o=.mul/\(-(2 ^ 62)<=k/\k<2 ^ 62)/\xs.length*k.toNat<=sizeLine/\zs=(vgc k.toNat xs).flatten:=by
 unfold repW at e
 split at e
 .split at e
  .rename_i hc
   cases e
   rw[vab]at hc
   exact⟨rfl,zhv hc.1,vbh hc.2,rfl⟩
  .cases e
 .cases e
theorem VReps.rep{K:vga}{m:Nat->Addr}{n:Nat}{H:Hp}{vs:List V}{ws:List W}(q:VReps K m n H vs ws):∀k:Nat,VReps K m n H (vgc k vs).flatten (vgc k ws).flatten
 |0=>.nil
 |k+1=>by
  rw[vbn,vbn,vdg,vdg]
  exact q.append (VReps.rep q k)
theorem zwe{K:vga}(o:Op):OpV K (rB K o) (opW o):=by
 intro m h H v u x y w h' Q r qv qu e k
 unfold opW at e
 split at e
 .rename_i i j
  obtain⟨e,rfl⟩:=of_ok e
  cases qv;cases qu
  cases q:opI o i j with
  |none=>rw[q]at e;cases e
  |some z=>
   rw[q]at e;cases e
   obtain⟨h1,rfl⟩:=zwd q
   exact .inl ⟨i,j,rfl,rfl,h1,Wants.here k r (.int _)⟩
 .rename_i i kk
  split at e
  .rename_i xs hx
   split at e
   .rename_i zs q
    cases e
    obtain⟨rfl,⟨k1,k2⟩,hz,rfl⟩:=zsv q
    obtain⟨va,pa,ra⟩:=r.lst hx
    cases qv;cases qu
    exact .inr ⟨m i,kk,va,rfl,rfl,pa,by omega,by omega,by rw[ra.length];exact hz,λp hp=>Wants.list k r (ra.rep _) hp⟩
   .cases e
  .cases e
 .rename_i i j
  split at e
  .rename_i xs ys hx hy
   split at e
   .rename_i zs q
    cases e
    cases o<;>simp only[opL]at q
    split at q
    .rename_i hc
     cases q
     obtain⟨va,pa,ra⟩:=r.lst hx
     obtain⟨vb,pb,rb⟩:=r.lst hy
     cases qv;cases qu
     exact .inr ⟨m i,m j,va,vb,rfl,rfl,pa,pb,by rw[ra.length,rb.length];exact vbh hc,λp hp=>Wants.list k r (ra.append rb) hp⟩
    .cases q
    all_goals cases q
   .cases e
  .cases e
 .cases e
end
section
variable{K:vga}{m:Nat->Addr}{h:VH}{H:Hp}
theorem zi8{f:W->Option PyData}(ih:∀(w:W) (d:PyData) (v:V),f w=some d->VRep K m h.n H v w->Rp K (λ_=>False) H v d):∀{ws:List W} {ds:List PyData} {vs:List V},mapO f ws=some ds->VReps K m h.n H vs ws->Rps K (λ_=>False) H vs ds
 |[],ds,_,e,.nil=>by cases e;exact .nil
 |w::ws,ds,_,e,.cons q r=>by
  unfold mapO at e
  split at e
  .rename_i d hd
   split at e
   .rename_i bs hb
    cases e
    exact .cons (ih w d _ hd q) (zi8 ih hb r)
   .cases e
  .cases e
theorem rp_of(r:Rel K m h H):∀(n:Nat) (w:W) (d:PyData) (v:V),toD h n w=some d->VRep K m h.n H v w->Rp K (λ_=>False) H v d
 |0,_,_,_,e,_=>by cases e
 |n+1,w,d,v,e,q=>by
  cases q with
  |non=>cases e;exact .non
  |bl b=>cases e;exact .bl b
  |int b=>cases e;exact .int b
  |str b=>cases e;exact .str b
  | @tup a vs ws sq rs=>
   simp only[toD]at e
   cases z:mapO (toD h n) ws with
   |none=>rw[z]at e;cases e
   |some ds=>rw[z]at e;cases e;exact .tup sq (λz=>z) (zi8 (rp_of r n) z rs)
  | @fz a vs ws sq rs=>
   simp only[toD]at e
   cases z:mapO (toD h n) ws with
   |none=>rw[z]at e;cases e
   |some ds=>rw[z]at e;cases e;exact .lst sq.sq (λz=>z) (zi8 (rp_of r n) z rs)
  | @ref i hi=>
   simp only[toD]at e
   cases g:h.get i with
   |none=>rw[g]at e;cases e
   |some o=>
    rw[g]at e
    cases o with
    |dk _=>cases e
    |dm _=>cases e
    |dt _ _=>cases e
    |lst ws=>
     obtain⟨vs,h1,h2⟩:=r.lst g
     simp only at e
     cases z:mapO (toD h n) ws with
     |none=>rw[z]at e;cases e
     |some ds=>rw[z]at e;cases e;exact .lst (SqL.of h1) (λz=>z) (zi8 (rp_of r n) z h2)
theorem zqz(r:Rel K m h H){x y:W}{v u:V}{b:Bool}(e:eqW h x y=some b)(qv:VRep K m h.n H v x)(qu:VRep K m h.n H u y) :
 ∃d e',Rp K (λ_=>False) H v d/\Rp K (λ_=>False) H u e'/\SeqAt.shaped d=true/\SeqAt.shaped e'=true/\b=PyData.eqv d e':=by
 unfold eqW at e
 split at e
 .rename_i d e' h1 h2
  split at e
  .rename_i hc
   cases e
   rw[vab]at hc
   exact⟨d,e',rp_of r _ _ _ _ h1 qv,rp_of r _ _ _ _ h2 qu,hc.1,hc.2,rfl⟩
  .cases e
 .cases e
end
theorem zdw{K:vga}{m:Nat->Addr}{h:VH}{H:Hp}{v:V}{w:W}{ws:List W}(r:Rel K m h H)(q:VRep K m h.n H v w)(e:seqW h w=some ws):∃p vs,v=.ref p/\(SqL K H p vs\/SqT K H p vs)/\VReps K m h.n H vs ws:=by
 cases q<;>try cases e
 .exact⟨_,_,rfl,.inr ‹_›,‹_›⟩
 .rename_i q _;exact⟨_,_,rfl,.inl q.sq,‹_›⟩
 .rename_i i hi
  simp only[seqW]at e
  cases g:h.get i with
  |none=>rw[g]at e;cases e
  |some o=>
   rw[g]at e
   cases o with
   |dk _=>cases e
   |dm _=>cases e
   |dt _ _=>cases e
   |lst ws=>
    cases e
    obtain⟨vs,h1,h2⟩:=r.lst g
    exact⟨_,vs,rfl,.inl (SqL.of h1),h2⟩
theorem zhw{K:vga}{m:Nat->Addr}{n:Nat}{H:Hp}:∀{vs:List V} {ws:List W} {is:List Int},VReps K m n H vs ws->mapO intD ws=some is->vs=is.map .int
 |_,_,_,.nil,e=>by cases e;rfl
 |_,_,_,.cons (w:=w) q r,e=>by
  simp only[mapO]at e
  cases q<;>try cases e
  rename_i i _ ws _
  simp only[intD]at e
  cases z:mapO intD ws with
  |none=>rw[z]at e;cases e
  |some js=>rw[z]at e;cases e;rw[van,zhw r z]
theorem zfi{K:vga}{m:Nat->Addr}{n:Nat}{H:Hp}{v:V}{w:W}{k:DK}(q:VRep K m n H v w)(e:keyD w=some k):∃b,v=.ref b/\KeyAt K H k b:=by
 unfold keyD at e
 split at e
 .rename_i ws
  cases z:mapO intD ws with
  |none=>rw[z]at e;cases e
  |some is=>
   rw[z]at e;cases e
   cases q with
   | @tup b vs _ sq rs=>
    cases rs with
    |cons q1 rs=>
     cases rs with
     |cons q2 rs=>
      cases rs;cases q2
      cases q1 with
      | @tup c us _ sq1 rs1=>
       refine⟨b,rfl,c,sq,?_⟩
       rw[<-zhw rs1 z];exact sq1
 .rename_i ws i
  cases z:mapO intD ws with
  |none=>rw[z]at e;cases e
  |some is=>
   rw[z]at e;cases e
   cases q with
   | @tup b vs _ sq rs=>
    cases rs with
    |cons q1 rs=>
     cases rs with
     |cons q2 rs=>
      cases rs;cases q2
      cases q1 with
      | @tup c us _ sq1 rs1=>
       refine⟨b,rfl,c,sq,?_⟩
       rw[<-zhw rs1 z];exact sq1
 .cases e
theorem dt_ok{K:vga}{m:Nat->Addr}{n:Nat}{H:Hp}:∀{xs:DX} {ks:List W},mapO keyD ks=some (xs.map (·.1))->VReps K m n H (xs.map λx=>.ref x.2.1) ks->∀p∈xs,KeyAt K H p.1 p.2.1
 |[],_,_,_,p,hp=>nomatch hp
 |x::xs,ks,e,r,p,hp=>by
  rw[van]at r
  obtain⟨w,ks,rfl,q,r⟩:∃w ks',ks=w::ks'/\VRep K m n H (.ref x.2.1) w/\VReps K m n H (xs.map λx=>.ref x.2.1) ks':=by cases r with|cons q r=>exact⟨_,_,rfl,q,r⟩
  simp only[mapO]at e
  cases z:keyD w with
  |none=>rw[z]at e;cases e
  |some k=>
   rw[z]at e
   simp only at e
   cases z2:mapO keyD ks with
   |none=>rw[z2]at e;cases e
   |some js=>
    rw[z2]at e
    simp only[van,vcu,List.cons.injEq]at e
    rcases vau.mp hp with rfl|hp
    .obtain⟨b,e1,e2⟩:=zfi q z
     cases e1
     rw[<-e.1];exact e2
    .exact dt_ok (by rw[z2,e.2]) r p hp
theorem dt_DT{K:vga}{m:Nat->Addr}{n:Nat}{H:Hp}{a:Addr}{xs:DX}{ks:List W}(h:H a=some (dtH xs a)\/(xs=[]/\H a=some (.dK [])))(e:mapO keyD ks=some (xs.map (·.1)))(q:VReps K m n H (xs.map λx=>.ref x.2.1) ks):DT K H a xs:=
 h.imp (λz=>⟨z,dt_ok e q⟩) λ⟨z,y⟩=>⟨z,.inl y⟩
theorem zfj{K:vga}{m:Nat->Addr}{n:Nat}{H:Hp}:∀{xs:DX} {ks ws:List W} (k:DK),mapO keyD ks=some (xs.map (·.1))->VReps K m n H (xs.map λx=>x.2.2) ws->(findX xs k=none/\lookD ks ws k=none)\/∃p w,findX xs k=some p/\lookD ks ws k=some w/\VRep K m n H p.2 w
 |[],ks,ws,k,e,r=>by
  cases ks with
  |nil=>exact .inl ⟨rfl,by unfold lookD;rfl⟩
  |cons c ks=>
   simp only[mapO]at e
   split at e
   .split at e<;>cases e
   .cases e
 |x::xs,ks,ws,k,e,r=>by
  rw[van]at r
  obtain⟨w,ws,rfl,q,r⟩:∃w ws',ws=w::ws'/\VRep K m n H x.2.2 w/\VReps K m n H (xs.map λx=>x.2.2) ws':=by cases r with|cons q r=>exact⟨_,_,rfl,q,r⟩
  cases ks with
  |nil=>cases e
  |cons c ks=>
   simp only[mapO]at e
   cases z:keyD c with
   |none=>rw[z]at e;cases e
   |some k'=>
    rw[z]at e
    simp only at e
    cases z2:mapO keyD ks with
    |none=>rw[z2]at e;cases e
    |some js=>
     rw[z2]at e
     simp only[van,vcu,List.cons.injEq]at e
     unfold lookD
     rw[z,e.1]
     by_cases y:x.1=k
     .rw[if_pos (by rw[y])]
      exact .inr ⟨x.2,w,by simp[findX,vbk,y],rfl,q⟩
     .rw[if_neg (λz=>y (vbl z))]
      have:findX (x::xs) k=findX xs k:=by simp[findX,vbk,y]
      rw[this]
      exact zfj k (by rw[z2,e.2]) r
theorem zq0{K:vga}{m:Nat->Addr}{h:VH}{H:Hp}(r:Rel K m h H){x y:W}{v u:V}{b:Bool}(e:inD h x y=some b)(qv:VRep K m h.n H v x)(qu:VRep K m h.n H u y) :
 ∃a c xs k,u=.ref a/\v=.ref c/\DT K H a xs/\KeyAt K H k c/\b=(findX xs k).isSome:=by
 unfold inD at e
 split at e
 .rename_i i
  split at e
  .rename_i ks ws k g hk
   cases e
   cases qu
   obtain⟨xs,p1,p2,p3,p4⟩:=r.dt g
   obtain⟨c,rfl,kk⟩:=zfi qv hk
   refine⟨m i,c,xs,k,rfl,rfl,dt_DT p1 p2 p3,kk,?_⟩
   rcases zfj k p2 p4 with⟨z1,z2⟩|⟨p,w,z1,z2,_⟩<;> (rw[z1,z2];rfl)
  .cases e
 .cases e
noncomputable def cpOf:CmpOp->Option Cp
 |.Eq=>some .eq|.NotEq=>some .ne|.Lt=>some .lt|.LtE=>some .le|.Gt=>some .gt|.GtE=>some .ge|.Is=>some .isn|.IsNot=>some .notn|.In=>some .inn|.NotIn=>some .nin
noncomputable def rC(K:vga):Cp->R2
 |.eq=>rEqD K
 |.ne=>rNeD K
 |.lt=>rI0 λi j=>.bl (decide (i<j))
 |.le=>rI0 λi j=>.bl (decide (i<=j))
 |.gt=>rI0 λi j=>.bl (decide (j<i))
 |.ge=>rI0 λi j=>.bl (decide (j<=i))
 |.isn=>λx y H Q=>y=.non/\Q (.bl (decide (x=.non))) H
 |.notn=>λx y H Q=>y=.non/\Q (.bl (!decide (x=.non))) H
 |.inn=>rInX K false
 |.nin=>rInX K true
noncomputable def zb4:Expr->Bool
 |.Set ..=>false
 |_=>true
theorem zhx{op:CmpOp}{b:Expr}(h:zb4 b=true):behindInMarks op b=false:=by
 cases b<;>first|rfl|cases h
section
variable{X:Cx}{a b c e:Expr}{es:List Expr}{fa fb fc:FE}{pos:Pos}
theorem zes(hu:X.A.units+65<cLine){O:CmpOp}{c:Cp}(e:cpOf O=some c):OpR X (compareOp O) (rC X.K c):=by
 cases O<;>cases e
 .exact zvk (by omega)
 .exact zvl (by omega)
 .exact op_lt
 .exact op_le
 .exact op_gt
 .exact op_ge
 .exact zu9
 .exact zr6
 .exact zv3 (by omega)
 .exact zl9 (by omega)
theorem zdd{K:vga}{m:Nat->Addr}{n:Nat}{H:Hp}{v:V}{w:W}(q:VRep K m n H v w):isNon w=decide (v=.non):=by
 cases q<;>simp[isNon]
theorem zfk{K:vga}(c:Cp):OpV K (rC K c) (λx y h=>.of ((cmpW c h x y).map .bl) h):=by
 intro m h H v u x y w h' Q r qv qu e k
 obtain⟨e,rfl⟩:=of_ok e
 cases z:cmpW c h' x y with
 |none=>rw[z]at e;cases e
 |some b=>
  rw[z]at e;cases e
  have fin:Q (.bl b) H:=Wants.here k r (.bl b)
  unfold cmpW at z
  split at z
  .obtain⟨a,c,xs,dk,h1,h2,h3,h4,rfl⟩:=zq0 r z qv qu
   exact⟨a,c,xs,dk,h1,h2,h3,h4,fin⟩
  .cases z2:inD h' x y with
   |none=>rw[z2]at z;cases z
   |some b2=>
    rw[z2]at z;cases z
    obtain⟨a,c,xs,dk,h1,h2,h3,h4,rfl⟩:=zq0 r z2 qv qu
    exact⟨a,c,xs,dk,h1,h2,h3,h4,fin⟩
  .obtain⟨d,e',h1,h2,h3,h4,rfl⟩:=zqz r z qv qu
   exact⟨d,e',h1,h2,h3,h4,fin⟩
  .cases z2:eqW h' x y with
   |none=>rw[z2]at z;cases z
   |some b2=>
    rw[z2]at z;cases z
    obtain⟨d,e',h1,h2,h3,h4,rfl⟩:=zqz r z2 qv qu
    exact⟨d,e',h1,h2,h3,h4,fin⟩
  .split at z
   .rename_i hn
    cases z
    have:=zdd qu
    rw[hn]at this
    refine⟨vba this.symm,?_⟩
    rw[<-zdd qv];exact fin
   .cases z
  .split at z
   .rename_i hn
    cases z
    have:=zdd qu
    rw[hn]at this
    refine⟨vba this.symm,?_⟩
    rw[<-zdd qv];exact fin
   .cases z
  .split at z
   .rename_i i j
    cases qv;cases qu
    cases c<;>simp only[cmpI]at z<;>cases z<;>exact⟨i,j,rfl,rfl,fin⟩
   .cases z
theorem zwf(hu:X.A.units+65<cLine){O:CmpOp}{c:Cp}(e:cpOf O=some c)(hs:zb4 b=true)(ha:SE X a fa)(hb:SE X b fb) :
 SE X (.Compare a [O] [b] pos) (λρ h=>(fa ρ h).bind λx h=>(fb ρ h).bind λy h=>.of ((cmpW c h x y).map .bl) h):=
 (zr7 (zes hu e) ha hb (zhx hs)).imp λσ H Q q=>zfg (G:=rC X.K c) (zfk c) q
theorem zwg(hu:X.A.units+65<cLine){O:CmpOp}{c:Cp}(e:cpOf O=some c)(hs:zb4 b=true)(ha:SE X a fa)(hb:SE X b fb) :
 ST X (.Compare a [O] [b] pos) (λρ h=>(fa ρ h).bind λx h=>(fb ρ h).bind λy h=>.of ((cmpW c h x y).map .bl) h):=
 (zr8 (zes hu e) ha hb (zhx hs)).imp λσ H Q q=>zfg (G:=rC X.K c) (zfk c) (zi7 q)
theorem lm2{O O':CmpOp}{a b:Expr}(h:zb4 b=true):lastMarks [O,O'] [a,b]=false:=zhx h
theorem zgs{K:vga}{c1 c2:Cp}{σ:L2.St}{H:Hp}{Q:VK}
 (q:lft K (λρ h=>(fa ρ h).bind λx h=>(fb ρ h).bind λy h=>match cmpW c1 h x y with
   |some true=>(fc ρ h).bind λz h=>.of ((cmpW c2 h y z).map .bl) h
   |some false=>.ok (.bl false) h
   |none=>.no) σ H Q):zli (rC K c1) (rC K c2) (lft K fa) (lft K fb) (lft K fc) σ H Q:=by
 refine q.el λρ h m w h' f r e k=>?_
 refine zac e λx h1 e1 e2=>?_
 refine zac e2 λy h2 e3 e4=>?_
 refine(.mk f r e1 λv H1 m1 s1 r1 q1=>(.mk (f.stp s1) r1 e3 λu H2 m2 s2 r2 q2=>?_))
 have f2:=(f.stp s1).stp s2
 have k2:Wants K m2 h2.n H2 w h' Q:=λv' H' m' s' r' q'=>k v' H' m' ((s1.trans s2).trans s') r' q'
 cases z:cmpW c1 h2 x y with
 |none=>rw[z]at e4;cases e4
 |some b=>
  rw[z]at e4
  refine zfk c1 m2 h2 H2 v u x y (.bl b) h2 _ r2 (q1.stp s2) q2 (by show Res.of ((cmpW c1 h2 x y).map W.bl) h2=_;rw[z];rfl) λv3 H3 m3 s3 r3 q3=>?_
  cases q3
  refine⟨b,rfl,?_⟩
  cases b with
  |true=>
   refine zac e4 λz' h4 e5 e6=>?_
   rw[if_pos rfl]
   refine⟨ρ,h2,m3,z',h4,f2.stp s3,r3,e5,λv4 H4 m4 s4 r4 q4=>?_⟩
   exact zfk c2 m4 h4 H4 u v4 y z' w h' Q r4 ((q2.stp s3).stp s4) q4 e6 λv' H' m' s' r' q'=>k2 v' H' m' ((s3.trans s4).trans s') r' q'
  |false=>
   cases e4
   simp only[vak,va7]
   exact k2 _ H3 m3 s3 r3 (.bl false)
theorem zwh(hu:X.A.units+65<cLine){O O':CmpOp}{c1 c2:Cp}(e:cpOf O=some c1)(e':cpOf O'=some c2)(hs:zb4 c=true)(ha:SE X a fa)(hb:SE X b fb)(hc:SE X c fc) :
 SE X (.Compare a [O,O'] [b,c] pos) (λρ h=>(fa ρ h).bind λx h=>(fb ρ h).bind λy h=>match cmpW c1 h x y with
  |some true=>(fc ρ h).bind λz h=>.of ((cmpW c2 h y z).map .bl) h
  |some false=>.ok (.bl false) h
  |none=>.no):=(zou (zes hu e) (zes hu e') ha hb hc (lm2 hs)).imp λσ H Q q=>zgs q
theorem zwi(hu:X.A.units+65<cLine){O O':CmpOp}{c1 c2:Cp}(e:cpOf O=some c1)(e':cpOf O'=some c2)(hs:zb4 c=true)(ha:SE X a fa)(hb:SE X b fb)(hc:SE X c fc) :
 ST X (.Compare a [O,O'] [b,c] pos) (λρ h=>(fa ρ h).bind λx h=>(fb ρ h).bind λy h=>match cmpW c1 h x y with
  |some true=>(fc ρ h).bind λz h=>.of ((cmpW c2 h y z).map .bl) h
  |some false=>.ok (.bl false) h
  |none=>.no):=(zov (zes hu e) (zes hu e') ha hb hc (lm2 hs)).imp λσ H Q q=>zgs (zi7 q)
noncomputable abbrev gNot(fa:FE):FE:=λρ h=>(fa ρ h).bind λx h=>match x with|.bl b=>.ok (.bl (!b)) h|_=>.no
noncomputable abbrev gAnd(fa fb:FE):FE:=λρ h=>(fa ρ h).bind λx h=>match x with|.bl true=>fb ρ h|.bl false=>.ok (.bl false) h|_=>.no
noncomputable abbrev gOr(fa fb:FE):FE:=λρ h=>(fa ρ h).bind λx h=>match x with|.bl true=>.ok (.bl true) h|.bl false=>fb ρ h|_=>.no
noncomputable abbrev gIte(fa fb fc:FE):FE:=λρ h=>(fa ρ h).bind λx h=>match x with|.bl true=>fb ρ h|.bl false=>fc ρ h|_=>.no
variable{rest:List Expr}
theorem zwj(ha:ST X a fa):ST X (.UnaryOp .Not a pos) (gNot fa):=(zup ha).imp λσ H Q z9=>z9.el λρ h m b h' f r e k=>by
 refine zac e λx h1 e1 e2=>?_
 cases x<;>try cases e2
 rename_i b
 exact(.mk f r e1 λH' m' s' r'=>k H' m' s' r')
theorem zwk(ha:SE X a fa):SE X (.UnaryOp .Not a pos) (gNot fa):=(zus ha).imp λσ H Q z9=>z9.el λρ h m b h' f r e k=>by
 refine zac e λx h1 e1 e2=>?_
 cases x<;>try cases e2
 rename_i b
 exact(.mk f r e1 λv H' m' s' r' q=>by cases q;exact⟨b,rfl,k _ H' m' s' r' (.bl _)⟩)
theorem zq1{op:BoolOp}(ha:ST X a fa):SW X (.BoolOp op [a] pos) fa:=by
 cases op
 .exact zr0 ha
 .exact zun ha
theorem zwl(ha:ST X a fa)(hb:SW X (.BoolOp .And (b::rest) pos) fb):SW X (.BoolOp .And (a::b::rest) pos) (gAnd fa fb):=(zuo ha hb).imp λσ H Q z9=>z9.el λρ h m b h' f r e k=>by
 refine zac e λx h1 e1 e2=>?_
 cases x<;>try cases e2
 rename_i c
 refine(.mk f r e1 λH1 m1 s1 r1=>?_)
 cases c with
 |true=>rw[if_pos rfl];exact(.mk (f.stp s1) r1 e2 λH' m' s' r'=>k H' m' (s1.trans s') r')
 |false=>cases e2;simp only[vak,va7];exact k H1 m1 s1 r1
theorem sw_or(ha:ST X a fa)(hb:SW X (.BoolOp .Or (b::rest) pos) fb):SW X (.BoolOp .Or (a::b::rest) pos) (gOr fa fb):=(pw_or ha hb).imp λσ H Q z9=>z9.el λρ h m b h' f r e k=>by
 refine zac e λx h1 e1 e2=>?_
 cases x<;>try cases e2
 rename_i c
 refine(.mk f r e1 λH1 m1 s1 r1=>?_)
 cases c with
 |true=>cases e2;rw[if_pos rfl];exact k H1 m1 s1 r1
 |false=>simp only[vak,va7];exact(.mk (f.stp s1) r1 e2 λH' m' s' r'=>k H' m' (s1.trans s') r')
theorem zq2{op:BoolOp}(ha:SE X a fa):SE X (.BoolOp op [a] pos) fa:=zuq ha
theorem zwm(ha:SE X a fa)(hb:SE X (.BoolOp .And (b::rest) pos) fb):SE X (.BoolOp .And (a::b::rest) pos) (gAnd fa fb):=(zur ha hb).imp λσ H Q z9=>z9.el λρ h m w h' f r e k=>by
 refine zac e λx h1 e1 e2=>?_
 cases x<;>try cases e2
 rename_i c
 refine(.mk f r e1 λv H1 m1 s1 r1 q1=>?_)
 cases q1
 refine⟨c,rfl,?_⟩
 cases c with
 |true=>rw[if_pos rfl];exact(.mk (f.stp s1) r1 e2 λv H' m' s' r' q'=>k v H' m' (s1.trans s') r' q')
 |false=>cases e2;simp only[vak,va7];exact k _ H1 m1 s1 r1 (.bl false)
theorem se_or(ha:SE X a fa)(hb:SE X (.BoolOp .Or (b::rest) pos) fb):SE X (.BoolOp .Or (a::b::rest) pos) (gOr fa fb):=(pe_or ha hb).imp λσ H Q z9=>z9.el λρ h m w h' f r e k=>by
 refine zac e λx h1 e1 e2=>?_
 cases x<;>try cases e2
 rename_i c
 refine(.mk f r e1 λv H1 m1 s1 r1 q1=>?_)
 cases q1
 refine⟨c,rfl,?_⟩
 cases c with
 |true=>cases e2;rw[if_pos rfl];exact k _ H1 m1 s1 r1 (.bl true)
 |false=>simp only[vak,va7];exact(.mk (f.stp s1) r1 e2 λv H' m' s' r' q'=>k v H' m' (s1.trans s') r' q')
theorem zwn(hc:ST X c fc)(ha:SE X a fa)(hb:SE X b fb):SE X (.IfExp c a b pos) (gIte fc fa fb):=(zoo hc ha hb).imp λσ H Q z9=>z9.el λρ h m w h' f r e k=>by
 refine zac e λx h1 e1 e2=>?_
 cases x<;>try cases e2
 rename_i c
 refine(.mk f r e1 λH1 m1 s1 r1=>?_)
 cases c with
 |true=>rw[if_pos rfl];exact(.mk (f.stp s1) r1 e2 λv H' m' s' r' q'=>k v H' m' (s1.trans s') r' q')
 |false=>simp only[vak,va7];exact(.mk (f.stp s1) r1 e2 λv H' m' s' r' q'=>k v H' m' (s1.trans s') r' q')
theorem zc3{K:vga}{m:Nat->Addr}{n:Nat}{H:Hp}{vs:List V}{ws:List W}(q:VReps K m n H vs ws):vs.isEmpty=ws.isEmpty:=by cases q<;>rfl
theorem zsw{K:vga}{m:Nat->Addr}{h:VH}{H:Hp}{v:V}{w:W}{b:Bool}(r:Rel K m h H)(q:VRep K m h.n H v w)(e:truW h w=some b):TruV K v H b:=by
 cases q with
 |non=>cases e;rfl
 |bl x=>cases e;rfl
 |int i=>cases e;rfl
 |str x=>cases e
 |fz _ _=>cases e
 |tup sq rs=>cases e;exact .inr (.inl ⟨_,sq,by rw[zc3 rs]⟩)
 | @ref i hi=>
  simp only[truW]at e
  cases g:h.get i with
  |none=>rw[g]at e;cases e
  |some o=>
   rw[g]at e
   cases o with
   |dk _=>cases e
   |dm _=>cases e
   |dt _ _=>cases e
   |lst ws=>
    cases e
    obtain⟨vs,h1,h2⟩:=r.lst g
    exact .inl ⟨vs,SqL.of h1,by rw[zc3 h2]⟩
theorem zmd(ha:SE X a fa)(he:∀whole,isTrue a X.env whole=(do let v <-whole;standAt a.pos;holding [v] (truthy v))) :
 ST X a (λρ h=>(fa ρ h).bind λx h=>.of ((truW h x).map .bl) h):=(zow ha he).imp λσ H Q z9=>z9.el λρ h m b h' f r e k=>by
 refine zac e λx h1 e1 e2=>?_
 obtain⟨e2,rfl⟩:=of_ok e2
 cases z:truW h' x with
 |none=>rw[z]at e2;cases e2
 |some c=>
  rw[z]at e2;cases e2
  exact(.mk f r e1 λv H' m' s' r' q=>⟨b,zsw r' q z,k H' m' s' r'⟩)
theorem zwo(ha:SE X a fa):SE X (.UnaryOp .USub a pos) (λρ h=>(fa ρ h).bind λx h=>match x with|.int i=>.ok (.int (-i)) h|_=>.no):=
 (pe_un zu8 ha).imp λσ H Q q=>zqx (g:=λx h=>match x with|.int i=>.ok (.int (-i)) h|_=>.no) (G:=rU λi=>.int (-i)) (λm h H v x w h' Q r q e k=>by
   cases q<;>try cases e
   rename_i i
   exact⟨i,rfl,Wants.here k r (.int _)⟩) q
end
section
variable{K:vga}{m m0:Nat->Addr}{n n0:Nat}{h:VH}{H H0:Hp}
theorem Rel.adopt(r:Rel K m h H){p:Addr}{o:VO}{u u0:HO}(hp:∀i,i<h.n->m i≠p)(hu:H p=some u0)(ht:∀t,u0≠.tup t)(hf:∀o t,u0≠.frz o t)(s:Stp m0 n0 H0 m h.n H)(h0:H0 p=none)
 (ho:Stp m h.n H (λi=>if i=h.n then p else m i) (h.n+1) (upd H p u)\/True->(∀{v:V}{w:W},VRep K m h.n H v w->VRep K (λi=>if i=h.n then p else m i) (h.n+1) (upd H p u) v w)->ORep K (λi=>if i=h.n then p else m i) (h.n+1) (upd H p u) p o) :
 Stp m0 n0 H0 (λi=>if i=h.n then p else m i) (h.n+1) (upd H p u)/\Rel K (λi=>if i=h.n then p else m i) (h.new o) (upd H p u):=by
 have kt:∀b vs,H b=some (.tup vs)->upd H p u b=some (.tup vs):=λb vs q=>by rw[zae (ne_of q hu λz=>ht vs z.symm)];exact q
 have kf:∀b o t,H b=some (.frz o t)->upd H p u b=some (.frz o t):=λb o t q=>by rw[zae (ne_of q hu λz=>hf o t z.symm)];exact q
 have mv:∀{v:V}{w:W},VRep K m h.n H v w->VRep K (λi=>if i=h.n then p else m i) (h.n+1) (upd H p u) v w:=by
  intro v w q
  have st:Stp m h.n (λb=>if b=p then none else H b) (λi=>if i=h.n then p else m i) (h.n+1) (upd H p u):=by
   refine⟨vci _,λi hi=>by simp only[if_neg (vaz hi)],λi hi hi2=>?_,λi j hi hi2 hj=>?_,λb vs q=>?_,λb o t q=>?_,λb o _ q=>?_⟩
   .have:i=h.n:=by omega
    subst this;simp only[va8]
   .have:i=h.n:=by omega
    subst this;simp only[va8,if_neg (vaz hj)];exact(hp j hj).symm
   .split at q
    .cases q
    .exact kt b vs q
   .split at q
    .cases q
    .exact kf b o t q
   .split at q
    .cases q
    .rename_i z;rw[zae z];exact q
  refine VRep.stp st ?_
  have back:∀{a vs},SqT K H a vs->SqT K (λb=>if b=p then none else H b) a vs:=by
   intro a vs q
   rcases q with(q|⟨o,q⟩)|q
   .exact .inl (.inl (by simp only[if_neg (ne_of q hu λz=>ht vs z.symm)];exact q))
   .exact .inl (.inr ⟨o,by simp only[if_neg (ne_of q hu λz=>hf o _ z.symm)];exact q⟩)
   .exact .inr q
  have backf:∀{a vs},Fz K H a vs->Fz K (λb=>if b=p then none else H b) a vs:=by
   intro a vs q
   rcases q with⟨o,q⟩|q
   .exact .inl ⟨o,by simp only[if_neg (ne_of q hu λz=>hf o _ z.symm)];exact q⟩
   .exact .inr q
  exact(VRep.rec (K:=K) (m:=m) (n:=h.n) (H:=H) (motive_1:=λv w _=>VRep K m h.n (λb=>if b=p then none else H b) v w) (motive_2:=λvs ws _=>VReps K m h.n (λb=>if b=p then none else H b) vs ws)
   .non .bl .int .str (λsq _ ih=>.tup (back sq) ih) (λsq _ ih=>.fz (backf sq) ih) (λhi=>.ref hi) .nil (λ_ _ i1 i2=>.cons i1 i2) q)
 refine⟨⟨Nat.le_succ_of_le s.le,λi hi=>?_,λi hi hi2=>?_,λi j hi hi2 hj=>?_,λb vs q=>kt b vs (s.tup b vs q),λb o t q=>kf b o t (s.frz b o t q),λb o nb q=>?_⟩,⟨λi hi=>?_,λi j hi hj z=>?_,?_⟩⟩
 .have:=s.le
  simp only[if_neg (show i≠h.n by omega)];exact s.same i hi
 .by_cases e:i=h.n
  .subst e;simp only[va8];exact h0
  .simp only[if_neg e];exact s.new i hi (by omega)
 .have:=s.le
  simp only[if_neg (show j≠h.n by omega)]
  by_cases e:i=h.n
  .subst e;simp only[va8];exact(hp j (by omega)).symm
  .simp only[if_neg e];exact s.apart i j hi (by omega) hj
 .rw[zae (zad q h0)];exact s.keep b o nb q
 .have hi:i<h.n+1:=hi
  by_cases e:i=h.n
  .subst e;exact⟨o,zai,by simp only[va8];exact ho (.inr trivial) mv⟩
  .have hl:i<h.n:=by omega
   obtain⟨o',h1,h2⟩:=r.obj i hl
   refine⟨o',(zab hl).trans h1,?_⟩
   simp only[if_neg e]
   have eq:upd H p u (m i)=H (m i):=zae (hp i hl)
   cases o' with
   |lst ws=>
    obtain⟨vs,q1,q2⟩:=h2
    exact⟨vs,eq.trans q1,VReps.rec (K:=K) (m:=m) (n:=h.n) (H:=H) (motive_1:=λv w _=>VRep K m h.n H v w) (motive_2:=λvs ws _=>VReps K (λi=>if i=h.n then p else m i) (h.n+1) (upd H p u) vs ws)
     .non .bl .int .str (λsq q _=>.tup sq q) (λsq q _=>.fz sq q) (λhi=>.ref hi) .nil (λq _ _ i2=>.cons (mv q) i2) q2⟩
   |dk ws=>
    obtain⟨vs,q1,q2⟩:=h2
    have go:∀{vs:List (Key×V)}{ws:List (Key×W)},KReps K m h.n H vs ws->KReps K (λi=>if i=h.n then p else m i) (h.n+1) (upd H p u) vs ws:=by
     intro vs ws q2
     induction q2 with
     |nil=>exact .nil
     |cons q _ ih=>exact .cons (mv q) ih
    exact⟨vs,q1.imp (λz=>eq.trans z) λ⟨o,z⟩=>⟨o,eq.trans z⟩,go q2⟩
   |dm ws=>
    obtain⟨vs,q1,q2⟩:=h2
    have go:∀{vs:List (Key×V)}{ws:List (Key×W)},KReps K m h.n H vs ws->KReps K (λi=>if i=h.n then p else m i) (h.n+1) (upd H p u) vs ws:=by
     intro vs ws q2
     induction q2 with
     |nil=>exact .nil
     |cons q _ ih=>exact .cons (mv q) ih
    exact⟨vs,eq.trans q1,go q2⟩
   |dt ks ws=>
    obtain⟨xs,q1,q0,q2,q3⟩:=h2
    have go:∀{vs:List V}{ws:List W},VReps K m h.n H vs ws->VReps K (λi=>if i=h.n then p else m i) (h.n+1) (upd H p u) vs ws:=λq2=>
     VReps.rec (K:=K) (m:=m) (n:=h.n) (H:=H) (motive_1:=λv w _=>VRep K m h.n H v w) (motive_2:=λvs ws _=>VReps K (λi=>if i=h.n then p else m i) (h.n+1) (upd H p u) vs ws)
      .non .bl .int .str (λsq q _=>.tup sq q) (λsq q _=>.fz sq q) (λhi=>.ref hi) .nil (λq _ _ i2=>.cons (mv q) i2) q2
    exact⟨xs,q1.imp (λz=>eq.trans z) λ⟨o,z⟩=>⟨o,eq.trans z⟩,q0,go q2,go q3⟩
 .have hi:i<h.n+1:=hi
  have hj:j<h.n+1:=hj
  by_cases e:i=h.n
  .by_cases e2:j=h.n
   .omega
   .simp only[if_pos e,if_neg e2]at z
    exact absurd z.symm (hp j (by omega))
  .by_cases e2:j=h.n
   .simp only[if_neg e,if_pos e2]at z
    exact absurd z (hp i (by omega))
   .simp only[if_neg e,if_neg e2]at z
    exact r.inj i j (by omega) (by omega) z
 .show(o::h.os).length=h.n+1
  rw[vaj,r.len]
theorem VReps.map{m':Nat->Addr}{n':Nat}{H':Hp}(mv:∀{v:V} {w:W},VRep K m n H v w->VRep K m' n' H' v w):∀{vs:List V} {ws:List W},VReps K m n H vs ws->VReps K m' n' H' vs ws
 |_,_,.nil=>.nil
 |_,_,.cons q r=>.cons (mv q) (VReps.map mv r)
theorem KReps.map{m':Nat->Addr}{n':Nat}{H':Hp}(mv:∀{v:V} {w:W},VRep K m n H v w->VRep K m' n' H' v w):∀{vs:List (Key×V)} {ws:List (Key×W)},KReps K m n H vs ws->KReps K m' n' H' vs ws
 |_,_,.nil=>.nil
 |_,_,.cons q r=>.cons (mv q) (KReps.map mv r)
theorem KReps.look(k:Key):∀{vs:List (Key×V)} {ws:List (Key×W)},KReps K m n H vs ws->(valV vs k=none/\lookK ws k=none)\/∃v w,valV vs k=some v/\lookK ws k=some w/\VRep K m n H v w
 |_,_,.nil=>.inl ⟨rfl,rfl⟩
 |_,_,.cons (k:=k') (v:=v) (w:=w) q r=>by
  by_cases e:k'=k
  .refine .inr ⟨v,w,zdb (p:=(k',v)) e,?_,q⟩
   unfold lookK;rw[vbk];simp[e]
  .rcases KReps.look k r with⟨a,b⟩|⟨v',w',a,b,c⟩
   .refine .inl ⟨(zch (p:=(k',v)) e).trans a,?_⟩
    unfold lookK at b ⊢;rw[vbk];simp only[vay e];exact b
   .refine .inr ⟨v',w',(zch (p:=(k',v)) e).trans a,?_,c⟩
    unfold lookK at b ⊢;rw[vbk];simp only[vay e];exact b
theorem KReps.any(k:Key):∀{vs:List (Key×V)} {ws:List (Key×W)},KReps K m n H vs ws->(vs.any λkv=>decide (kv.1=k))=(ws.any λkv=>decide (kv.1=k))
 |_,_,.nil=>rfl
 |_,_,.cons q r=>by rw[veg,veg,KReps.any k r]
theorem KReps.repl{v:V}{w:W}(q:VRep K m n H v w)(k:Key):∀{vs:List (Key×V)} {ws:List (Key×W)},KReps K m n H vs ws->KReps K m n H (vs.map λkv=>if kv.1=k then(kv.1,v)else kv) (ws.map λkv=>if kv.1=k then(kv.1,w)else kv)
 |_,_,.nil=>.nil
 |_,_,.cons (k:=k') p r=>by
  rw[van,van]
  by_cases e:k'=k
  .simp only[if_pos e];exact .cons q (KReps.repl q k r)
  .simp only[if_neg e];exact .cons p (KReps.repl q k r)
theorem KReps.snoc{v:V}{w:W}(q:VRep K m n H v w)(k:Key):∀{vs:List (Key×V)} {ws:List (Key×W)},KReps K m n H vs ws->KReps K m n H (vs++[(k,v)]) (ws++[(k,w)])
 |_,_,.nil=>.cons q .nil
 |_,_,.cons p r=>.cons p (KReps.snoc q k r)
theorem KReps.put{v:V}{w:W}(q:VRep K m n H v w)(k:Key){vs:List (Key×V)}{ws:List (Key×W)}(r:KReps K m n H vs ws):KReps K m n H (putK vs k v) (putKW ws k w):=by
 unfold putK putKW
 rw[r.any k]
 split
 .exact r.repl q k
 .exact r.snoc q k
theorem KReps.length:∀{vs:List (Key×V)} {ws:List (Key×W)},KReps K m n H vs ws->vs.length=ws.length
 |_,_,.nil=>rfl
 |_,_,.cons _ r=>by rw[vaj,vaj,KReps.length r]
theorem zfl{v:V}{w:W}{k:Key}(q:VRep K m n H v w)(e:keyW w=some k):v=kV k:=by
 cases q<;>cases e<;>rfl
theorem zfm{vs:List V}{ws:List W}{i:Int}{w:W}(q:VReps K m n H vs ws)(e:atI ws i=some w):∃v,atI vs i=some v/\VRep K m n H v w:=by
 unfold atI at e ⊢
 rw[q.length]
 cases z:ixN ws.length i with
 |none=>rw[z]at e;cases e
 |some j=>
  rw[z]at e
  exact q.get e
end
noncomputable def rIdx(K:vga):R2:=λx y H Q=>rIxL K x y H Q\/rIxT K x y H Q\/(∃a v,x=.ref a/\DGet H a y (some v)/\Q v H)\/rIxX K x y H Q
section
variable{X:Cx}{a b c e o:Expr}{es:List Expr}{fa fb fc fo:FE}{pos:Pos}
theorem zsx(hu:X.A.units+1<cLine):IxR X (λx y H Q=>∃a v,x=.ref a/\DGet H a y (some v)/\Q v H):=by
 intro value slice pins s σ H x y v u Q I rx ry q hs
 obtain⟨a,v',rfl,g,q⟩:=q
 obtain rfl:v=Value.ref a:=rx
 exact tail_any (zht I g) PySem.F.slot_dict_getitem.lookup (zly hu I g ry λw' s3 I3 rw'=>⟨v',H,I3,rw',q⟩) hs
theorem ix_ok(hu:X.A.units+2<cLine):IxR X (rIdx X.K):=zsd.or (zvf.or ((zsx (by omega)).or (ix_dt hu)))
theorem zsy{K:vga}:OpV K (rIdx K) (λx y h=>.of (idxW h x y) h):=by
 intro m h H v u x y w h' Q r qv qu e0 k
 obtain⟨e,e1⟩:=of_ok e0
 clear e0
 subst e1
 unfold idxW at e
 split at e
 .cases qv with
  |tup sq rs=>
   cases qu
   obtain⟨v',h1,h2⟩:=zfm rs e
   exact .inr (.inl ⟨_,_,_,v',rfl,rfl,sq,h1,Wants.here k r h2⟩)
 .cases qv with
  |fz sq rs=>
   cases qu
   obtain⟨v',h1,h2⟩:=zfm rs e
   exact .inl ⟨_,_,_,v',rfl,rfl,sq.sq,h1,Wants.here k r h2⟩
 .rename_i i j
  cases qv;cases qu
  cases g:h'.get i with
  |none=>rw[g]at e;cases e
  |some ob=>
   rw[g]at e
   cases ob with
   |lst ws=>
    obtain⟨vs,p1,p2⟩:=r.lst g
    obtain⟨v',h1,h2⟩:=zfm p2 e
    exact .inl ⟨_,_,_,v',rfl,rfl,SqL.of p1,h1,Wants.here k r h2⟩
   |dk ws=>
    have e:lookK ws (.inl j)=some w:=e
    obtain⟨vs,p1,p2⟩:=r.dk g
    rcases p2.look (.inl j)with⟨_,z⟩|⟨v',w',z1,z2,z3⟩
    .rw[z]at e;cases e
    .rw[z2]at e;cases e
     exact .inr (.inr (.inl ⟨_,v',rfl,by rw[<-z1];exact .inl ⟨vs,.inl j,p1,rfl,rfl⟩,Wants.here k r z3⟩))
   |dm ws=>
    have e:lookK ws (.inl j)=some w:=e
    obtain⟨vs,p1,p2⟩:=r.dm g
    rcases p2.look (.inl j)with⟨_,z⟩|⟨v',w',z1,z2,z3⟩
    .rw[z]at e;cases e
    .rw[z2]at e;cases e
     exact .inr (.inr (.inl ⟨_,v',rfl,by rw[<-z1];exact .inl ⟨vs,.inl j,.inl p1,rfl,rfl⟩,Wants.here k r z3⟩))
   |dt _ _=>cases e
 .rename_i i j
  cases qv;cases qu
  cases g:h'.get i with
  |none=>rw[g]at e;cases e
  |some ob=>
   rw[g]at e
   cases ob with
   |lst ws=>cases e
   |dk ws=>
    have e:lookK ws (.inr j)=some w:=e
    obtain⟨vs,p1,p2⟩:=r.dk g
    rcases p2.look (.inr j)with⟨_,z⟩|⟨v',w',z1,z2,z3⟩
    .rw[z]at e;cases e
    .rw[z2]at e;cases e
     exact .inr (.inr (.inl ⟨_,v',rfl,by rw[<-z1];exact .inl ⟨vs,.inr j,p1,rfl,rfl⟩,Wants.here k r z3⟩))
   |dm _=>cases e
   |dt _ _=>cases e
 .rename_i i _ _
  cases qv
  unfold idxD at e
  split at e
  .rename_i ks ws dk g hk
   obtain⟨xs,p1,p2,p3,p4⟩:=r.dt g
   obtain⟨c,rfl,kk⟩:=zfi qu hk
   rcases zfj dk p2 p4 with⟨_,z2⟩|⟨p,w',z1,z2,z3⟩
   .rw[z2]at e;cases e
   .rw[z2]at e;cases e
    exact .inr (.inr (.inr ⟨_,c,xs,dk,p,rfl,rfl,dt_DT p1 p2 p3,kk,z1,Wants.here k r z3⟩))
  .cases e
 .cases e
theorem zwp(hu:X.A.units+2<cLine)(ha:SE X a fa)(hb:SE X b fb)(hs:zhq b):SE X (.Subscript a b pos) (λρ h=>(fa ρ h).bind λx h=>(fb ρ h).bind λy h=>.of (idxW h x y) h):=
 (pe_ix (ix_ok hu) ha hb hs).imp λσ H Q q=>zfg (G:=rIdx X.K) zsy q
noncomputable def lftO(K:vga)(b:Bool)(f:FE):TO:=λσ H Q=>∃ρ h m w o h',Fr K m h.n H σ ρ/\Rel K m h H/\f ρ h=.ok w h'/\partW b w=some o/\∀H' m',Stp m h.n H m' h'.n H'->Rel K m' h' H'->Q o H'
theorem lftO.el{K:vga}{σ:L2.St}{H:Hp}{P:Prop}{b:Bool}{fa:FE}{Q:Option Int->Hp->Prop}(q:lftO K b fa σ H Q)(k:∀ρ h m w o h',Fr K m h.n H σ ρ->Rel K m h H->fa ρ h=.ok w h'->partW b w=some o->(∀H' m',Stp m h.n H m' h'.n H'->Rel K m' h' H'->Q o H')->P):P:=by
 obtain⟨ρ,h,m,w,o,h',f,r,e,ep,k'⟩:=q
 exact k ρ h m w o h' f r e ep k'
theorem lftO.mk{K:vga}{σ:L2.St}{H:Hp}{m:Nat->Addr}{ρ:En}{h h':VH}{w:W}{o:Option Int}{b:Bool}{fa:FE}{Q:Option Int->Hp->Prop}(f:Fr K m h.n H σ ρ)(r:Rel K m h H)(e:fa ρ h=.ok w h')(ep:partW b w=some o)(k:∀H' m',Stp m h.n H m' h'.n H'->Rel K m' h' H'->Q o H'):lftO K b fa σ H Q:=⟨ρ,h,m,w,o,h',f,r,e,ep,k⟩
theorem zsz{w:W}:PO X none (lftO X.K false (λ_ h=>.ok w h)):=λpins s σ H Q I z9=>z9.el λρ h m w o h' f r e ep k=>by
 cases e
 have:o=none:=by
  unfold partW at ep
  cases ep;rfl
 subst this
 exact zsb pins s σ H Q I (k H m .refl r)
theorem zs0(ha:SE X e fa):PO X (some e) (lftO X.K true fa):=λpins s σ H Q I z9=>z9.el λρ h m w o h' f r e ep k=>by
 refine zsc ha pins s σ H Q I (.mk f r e λv H' m' s' r' q=>?_)
 cases q<;>cases ep
 exact⟨_,rfl,k H' m' s' r'⟩
theorem zi9{K:vga}{m:Nat->Addr}{n:Nat}{H:Hp}{vs:List V}{ws:List W}(q:VReps K m n H vs ws)(lo hi:Option Int):VReps K m n H (cutV vs lo hi) (cutW ws lo hi):=by
 unfold cutV cutW
 rw[q.length]
 exact(q.drop _).take _
theorem zkp{ws:List W}{lo hi:Option Int}(h:HT.sIx ws.length 0 lo=0/\HT.sIx ws.length ws.length hi=ws.length):cutW ws lo hi=ws:=by
 unfold cutW
 rw[h.1,h.2]
 simp
theorem zwq{lo hi:Option Expr}{fl fh:FE}{p2:Pos}{bl bh:Bool}(ha:SE X a fa)(hl:PO X lo (lftO X.K bl fl))(hh:PO X hi (lftO X.K bh fh)) :
 SE X (.Subscript a (.Slice lo hi none p2) pos) (λρ h=>(fa ρ h).bind λx h=>(fl ρ h).bind λl h=>(fh ρ h).bind λu h=>match partW bl l,partW bh u with
 |some l,some u=>slcW x l u h
 |_,_=>.no):=
 (zo0 zvs ha hl hh).imp λσ H Q z9=>z9.el λρ h m w h' f r e k=>by
   refine zac e λx h1 e1 e2=>?_
   refine zac e2 λl h2 e3 e4=>?_
   refine zac e4 λu h3 e5 e6=>?_
   split at e6
   .rename_i l' u' pl pu
    refine(.mk f r e1 λv H1 m1 s1 r1 q1=>(.mk (f.stp s1) r1 e3 pl λH2 m2 s2 r2=>(.mk ((f.stp s1).stp s2) r2 e5 pu λH3 m3 s3 r3=>?_)))
    have q3:=(q1.stp s2).stp s3
    have kk:Wants X.K m3 h3.n H3 w h' Q:=λv' H' m' s' r' q'=>k v' H' m' (((s1.trans s2).trans s3).trans s') r' q'
    unfold slcW at e6
    split at e6
    .rename_i ws
     cases e6
     cases q3 with
     | @tup a vs _ sq rs=>
      by_cases hw:HT.sIx vs.length 0 l'=0/\HT.sIx vs.length vs.length u'=vs.length
      .refine .inl (.inr ⟨_,_,rfl,sq,hw,?_⟩)
       have hw':=hw
       rw[rs.length]at hw'
       rw[zkp hw']at kk
       exact Wants.here kk r3 (.tup sq rs)
      .exact .inl (.inl ⟨_,_,rfl,sq,hw,λp hp=>Wants.tuple kk r3 (zi9 rs l' u') hp⟩)
    .rename_i i
     cases q3
     cases g:h3.get i with
     |none=>rw[g]at e6;cases e6
     |some ob=>
      rw[g]at e6
      cases ob with
      |lst ws=>
       cases e6
       obtain⟨vs,p1,p2⟩:=r3.lst g
       exact .inr ⟨_,_,rfl,SqL.of p1,λp hp=>Wants.list kk r3 (zi9 p2 l' u') hp⟩
      |dk ws=>cases e6
      |dm _=>cases e6
      |dt _ _=>cases e6
    .cases e6
   .cases e6
end
noncomputable def zay:Expr->Bool
 |.Starred ..=>false
 |_=>true
theorem zaj{e:Expr}{es:List Expr}{env:Env}(h:zay e=true):starEach (e::es) env=(false,eval e env)::starEach es env:=by
 cases e<;>first|rfl|cases h
theorem zci{pos:Pos}{env:Env}:∀{es:List Expr},es.all zay=true->(backTo pos (starEach es env)).any (·.1)=false
 |[],_=>rfl
 |e::es,h=>by
  rw[vc5,vab]at h
  rw[zaj h.1]
  show(false|| (backTo pos (starEach es env)).any (·.1))=false
  rw[zci h.2];rfl
noncomputable abbrev aNil:FE:=λ_ h=>.ok (.tup []) h
noncomputable abbrev aCons(fa fb:FE):FE:=λρ h=>(fa ρ h).bind λx h=>(fb ρ h).bind λy h=>match y with|.tup ys=>.ok (.tup (x::ys)) h|_=>.no
section
variable{X:Cx}{a b c e o:Expr}{es:List Expr}{fa fb fc fo:FE}{pos p:Pos}{x:Str}
noncomputable abbrev gArg(fa:FE)(g:List W->VH->Res W):FE:=λρ h=>(fa ρ h).bind λy h=>match y with|.tup ys=>g ys h|_=>.no
noncomputable def CallV(K:vga)(r:List V->Hp->VK->Prop)(g:List W->VH->Res W):Prop:=∀(m:Nat->Addr) (h:VH) (H:Hp) (vs:List V) (xs:List W) (w:W) (h':VH) (Q:VK),Rel K m h H->VReps K m h.n H vs xs->g xs h=.ok w h'->Wants K m h.n H w h' Q->r vs H Q
theorem zbg{id:String}{r:List V->Hp->VK->Prop}{g:List W->VH->Res W}(hc:CallR X (.builtin id) r)(hv:CallV X.K r g)(hg:Gl X x)(hm:X.mg x=none)(hb:bootBuiltins x=some (.builtin id))(ha:SA X (e::es) fa)(hs:(e::es).all zay=true)
 (hn:x≠"__name__") (hdb:(x==("__debug__" : Str))=false):SE X (.Call (.Name x p) (e::es) [] pos) (gArg fa g):=by
 rw[vc5,vab]at hs
 exact(ziz hc hg hm hb ha hn hdb (zaj hs.1) (zci hs.2)).imp λσ H Q q=>zcx hv q
theorem zdx{T:String}{r:List V->Hp->VK->Prop}{g:List W->VH->Res W}(hc:CallR X (.type T) r)(hv:CallV X.K r g)(hg:Gl X x)(hm:X.mg x=none)(hb:bootBuiltins x=some (.type T))(ha:SA X (e::es) fa)(hs:(e::es).all zay=true)
 (hn:x≠"__name__") (hdb:(x==("__debug__" : Str))=false):SE X (.Call (.Name x p) (e::es) [] pos) (gArg fa g):=by
 rw[vc5,vab]at hs
 exact(zlp hc hg hm hb ha hn hdb (zaj hs.1) (zci hs.2)).imp λσ H Q q=>zcx hv q
theorem reps1{K:vga}{m:Nat->Addr}{n:Nat}{H:Hp}{vs:List V}{w:W}(q:VReps K m n H vs [w]):∃v,vs=[v]/\VRep K m n H v w:=by
 cases q with|cons q r=>cases r;exact⟨_,rfl,q⟩
theorem zwr{K:vga}:CallV K (λxs H Q=>(∃p ys,xs=[.ref p]/\(SqL K H p ys\/SqT K H p ys)/\Q (.int ys.length) H)\/∃a ys,xs=[.ref a]/\DT K H a ys/\Q (.int ys.length) H) lenW:=by
 intro m h H vs xs w h' Q r q e k
 unfold lenW at e
 split at e<;>try cases e
 rename_i x
 obtain⟨v,rfl,q1⟩:=reps1 q
 obtain⟨e,rfl⟩:=of_ok e
 cases z:seqW h' x with
 |none=>
  rw[z]at e
  simp only[keysD]at e
  cases q1<;>try cases e
  rename_i i _ _
  cases g:h'.get i with
  |none=>simp[g]at e
  |some ob=>
   cases ob with
   |lst _=>simp[g]at e
   |dk _=>simp[g]at e
   |dm _=>simp[g]at e
   |dt ks ws=>
    simp only[g,vaw,vcu]at e
    subst e
    obtain⟨xs,p1,p2,p3,p4⟩:=r.dt g
    have:=p3.length
    rw[vaf]at this
    exact .inr ⟨_,xs,rfl,dt_DT p1 p2 p3,by rw[this];exact Wants.here k r (.int _)⟩
 |some ws=>
  rw[z]at e;cases e
  obtain⟨p,us,rfl,h1,h2⟩:=zdw r q1 z
  exact .inl ⟨p,us,rfl,h1,by rw[h2.length];exact Wants.here k r (.int _)⟩
theorem zkq{K:vga}{m:Nat->Addr}{n:Nat}{H:Hp}:∀{vs:List (Key×V)} {ws:List (Key×W)},KReps K m n H vs ws->VReps K m n H (vs.map λkv=>kV kv.1) (ws.map λkv=>keyV kv.1):=by
 intro vs ws q
 induction q with
 |nil=>exact .nil
 | @cons k _ _ _ _ _ _ ih=>exact .cons (match k with|.inl i=>.int i|.inr x=>.str x) ih
theorem zs1{K:vga}:CallV K (λxs H Q=>(∃p ys,xs=[.ref p]/\(SqL K H p ys\/SqT K H p ys)/\∀l,H l=none->Q (.ref l) (upd H l (.lst ys)))\/∃a kvs,xs=[.ref a]/\H a=some (.dK kvs)/\∀l,H l=none->Q (.ref l) (upd H l (.lst (kvs.map λkv=>kV kv.1)))) listW:=by
 intro m h H vs xs w h' Q r q e k
 unfold listW at e
 split at e<;>try cases e
 rename_i x
 obtain⟨v,rfl,q1⟩:=reps1 q
 cases z:seqW h x with
 |none=>
  rw[z]at e
  dsimp only at e
  split at e<;>cases e
  rename_i ws z2
  unfold keysM at z2
  split at z2<;>try cases z2
  rename_i i
  split at z2<;>cases z2
  rename_i kvs g
  cases q1
  obtain⟨us,p1,p2⟩:=r.dm g
  exact .inr ⟨_,us,rfl,p1,λl hl=>Wants.list k r (zkq p2) hl⟩
 |some ws=>
  rw[z]at e;cases e
  obtain⟨p,us,rfl,h1,h2⟩:=zdw r q1 z
  exact .inl ⟨p,us,rfl,h1,λl hl=>Wants.list k r h2 hl⟩
theorem zpe{K:vga}:CallV K (λxs H Q=>(∃p ys,xs=[.ref p]/\((SqL K H p ys/\∀l,H l=none->Q (.ref l) (upd H l (.tup ys)))\/(SqT K H p ys/\Q (.ref p) H)))\/∃a ys,xs=[.ref a]/\DT K H a ys/\∀l,H l=none->Q (.ref l) (upd H l (.tup (ys.map λp=>.ref p.2.1)))) zb3:=by
 intro m h H vs xs w h' Q r q e k
 unfold zb3 at e
 split at e<;>try cases e
 rename_i x
 obtain⟨v,rfl,q1⟩:=reps1 q
 obtain⟨e,rfl⟩:=of_ok e
 cases z:seqW h' x with
 |none=>
  rw[z]at e
  simp only[keysD]at e
  cases q1<;>try cases e
  rename_i i _ _
  cases g:h'.get i with
  |none=>simp[g]at e
  |some ob=>
   cases ob with
   |lst _=>simp[g]at e
   |dk _=>simp[g]at e
   |dm _=>simp[g]at e
   |dt ks ws=>
    simp only[g,vaw,vcu]at e
    subst e
    obtain⟨xs,p1,p2,p3,p4⟩:=r.dt g
    exact .inr ⟨_,xs,rfl,dt_DT p1 p2 p3,λl hl=>Wants.tuple k r p3 hl⟩
 |some ws=>
  rw[z]at e;cases e
  obtain⟨p,us,rfl,h1,h2⟩:=zdw r q1 z
  rcases h1 with h1|h1
  .exact .inl ⟨p,us,rfl,.inl ⟨h1,λl hl=>Wants.tuple k r h2 hl⟩⟩
  .exact .inl ⟨p,us,rfl,.inr ⟨h1,Wants.here k r (.tup h1 h2)⟩⟩
theorem zws{K:vga}:CallV K (λxs H Q=>(∃i,xs=[.int i]/\Q (.int i) H)\/∃k,xs=[.bl k]/\Q (.int (if k then 1 else 0)) H) intW:=by
 intro m h H vs xs w h' Q r q e k
 unfold intW at e
 split at e<;>try cases e
 .obtain⟨v,rfl,q1⟩:=reps1 q
  cases q1
  exact .inl ⟨_,rfl,Wants.here k r (.int _)⟩
 .obtain⟨v,rfl,q1⟩:=reps1 q
  cases q1
  exact .inr ⟨_,rfl,Wants.here k r (.int _)⟩
theorem zwt{K:vga}:CallV K (λxs H Q=>∃i,xs=[.int i]/\Q (.int (if i<0 then -i else i)) H) absW:=by
 intro m h H vs xs w h' Q r q e k
 unfold absW at e
 split at e<;>try cases e
 obtain⟨v,rfl,q1⟩:=reps1 q
 cases q1
 exact⟨_,rfl,Wants.here k r (.int _)⟩
theorem reps2{K:vga}{m:Nat->Addr}{n:Nat}{H:Hp}{vs:List V}{w z:W}(q:VReps K m n H vs [w,z]):∃v u,vs=[v,u]/\VRep K m n H v w/\VRep K m n H u z:=by
 cases q with|cons q r=>obtain⟨u,rfl,h⟩:=reps1 r;exact⟨_,_,rfl,q,h⟩
theorem zwu{K:vga}:CallV K (λxs H Q=>∃i j,xs=[.int i,.int j]/\Q (.int (if j<i then j else i)) H) minW:=by
 intro m h H vs xs w h' Q r q e k
 unfold minW at e
 split at e<;>try cases e
 obtain⟨v,u,rfl,q1,q2⟩:=reps2 q
 cases q1;cases q2
 exact⟨_,_,rfl,Wants.here k r (.int _)⟩
theorem zja{K:vga}{m:Nat->Addr}{n:Nat}{H:Hp}:∀{vs:List V} {ws:List W} {bs:List Bool},VReps K m n H vs ws->mapO blW ws=some bs->vs=bs.map .bl
 |_,_,bs,.nil,e=>by cases e;rfl
 |_,_,bs,.cons (w:=w) (ws:=ws) q r,e=>by
  unfold mapO at e
  cases z:blW w with
  |none=>rw[z]at e;cases e
  |some b=>
   rw[z]at e
   cases z2:mapO blW ws with
   |none=>rw[z2]at e;cases e
   |some cs=>
    rw[z2]at e;cases e
    unfold blW at z
    split at z<;>cases z
    cases q
    rw[zja r z2];rfl
theorem zwv{K:vga}:CallV K (λxs H Q=>∃(p:Addr) (bs:List Bool),xs=[.ref p]/\SqL K H p (bs.map .bl)/\Q (.bl (bs.all id)) H) allW:=by
 intro m h H vs xs w h' Q r q e k
 unfold allW at e
 split at e<;>try cases e
 rename_i i
 split at e<;>try cases e
 rename_i ws g
 obtain⟨v,rfl,q1⟩:=reps1 q
 obtain⟨e,rfl⟩:=of_ok e
 cases z:mapO blW ws with
 |none=>rw[z]at e;cases e
 |some bs=>
  rw[z]at e;cases e
  cases q1
  obtain⟨us,p1,p2⟩:=r.lst g
  refine⟨_,bs,rfl,?_,Wants.here k r (.bl _)⟩
  rw[<-zja p2 z]
  exact .inl (.inl p1)
noncomputable def tyN:Ty->String
 |.int=>"int" |.bool=>"bool" |.tuple=>"tuple" |.list=>"list" |.str=>"str" |.dict=>"dict"
noncomputable def rIsi(K:vga)(n:String):List V->Hp->VK->Prop:=λxs H Q=>∃x b,xs=[x,.ty n]/\((∃t,TyOf K H x t/\PySem.W.kitOne K t (.type n)=some b)\/(∃a vs,x=.ref a/\SqT K H a vs/\PySem.W.kitOne K (.type "tuple") (.type n)=some b)\/∃a kvs,x=.ref a/\Rd H a (.dK kvs)/\PySem.W.kitOne K (.type "dict") (.type n)=some b)/\Q (.bl b) H
theorem zpf(n:String):CallR X (.builtin "isinstance") (rIsi X.K n):=by
 intro pins s σ H xs us Q I r h
 obtain⟨x,b,rfl,hi,q⟩:=h
 obtain⟨u,u2,rfl,rx,rc⟩:=vals2 r
 obtain rfl:u2=Value.type n:=rc
 rcases hi with⟨t,ty,e⟩|⟨a,vs,rfl,sq,e⟩|⟨a,kvs,rfl,rd,e⟩
 .exact zlm I rx ty e λtk=>⟨.bl b,H,I.tok _,rfl,q⟩
 .obtain rfl:u=Value.ref a:=rx
  obtain⟨its,_,p,_⟩:=I.tuple sq
  obtain⟨o,h1,h2,_⟩:=p
  exact vbu PySem.W.kitx_tuple I.kIn ⟨o,h1,h2⟩ e (λz=>nomatch z) λtk=>⟨.bl b,H,I.tok _,rfl,q⟩
 .obtain rfl:u=Value.ref a:=rx
  obtain⟨_,_,_,_,o,_,_,h1,h2,_⟩:=dk_rd I.hok rd
  exact vbu PySem.W.kitx_dict I.kIn ⟨o,h1,h2.1⟩ e (λz=>nomatch z) λtk=>⟨.bl b,H,I.tok _,rfl,q⟩
theorem zww{K:vga}(t:Ty){m:Nat->Addr}{h:VH}{H:Hp}{v:V}{x:W}{b:Bool}(r:Rel K m h H)(q:VRep K m h.n H v x)(e:tyIs t h x=some b) :
 (∃t',TyOf K H v t'/\PySem.W.kitOne K t' (.type (tyN t))=some b)\/(∃a vs,v=.ref a/\SqT K H a vs/\PySem.W.kitOne K (.type "tuple") (.type (tyN t))=some b)\/∃a kvs,v=.ref a/\Rd H a (.dK kvs)/\PySem.W.kitOne K (.type "dict") (.type (tyN t))=some b:=by
 cases q with
 |non=>cases e;refine .inl ⟨_,.non,?_⟩;cases t<;>rfl
 |bl x=>cases e;refine .inl ⟨_,.bl x,?_⟩;cases t<;>rfl
 |int x=>cases e;refine .inl ⟨_,.int x,?_⟩;cases t<;>rfl
 |str x=>cases e;refine .inl ⟨_,.str x,?_⟩;cases t<;>rfl
 |tup sq rs=>cases e;refine .inr (.inl ⟨_,_,rfl,sq,?_⟩);cases t<;>rfl
 |fz _ _=>cases e
 | @ref i hi=>
  simp only[tyIs]at e
  cases g:h.get i with
  |none=>rw[g]at e;cases e
  |some o=>
   rw[g]at e
   cases o with
   |lst ws=>
    cases e
    obtain⟨vs,h1,h2⟩:=r.lst g
    refine .inl ⟨_,.lst h1,?_⟩;cases t<;>rfl
   |dk ws=>
    cases e
    obtain⟨vs,h1,h2⟩:=r.dk g
    refine .inr (.inr ⟨_,_,rfl,h1,?_⟩);cases t<;>rfl
   |dm _=>cases e
   |dt _ _=>cases e
theorem zwx(t:Ty){T:Str}{p2:Pos}(ha:SE X e fa)(hs:zay e=true)(hg:Gl X "isinstance")(hm:X.mg "isinstance" = none)(hgT:Gl X T)(hmT:X.mg T=none)(hbT:bootBuiltins T=some (.type (tyN t)))(hn:T≠"__name__")(hd:(T==("__debug__" : Str))=false) :
 SE X (.Call (.Name "isinstance" p) [e,.Name T p2] [] pos) (λρ h=>(fa ρ h).bind λx h=>.of ((tyIs t h x).map .bl) h):=by
 have hT:PE X (.Name T p2) (tC (.ty (tyN t))):=zrz hgT hmT hbT rfl hn hd
 refine(ziz (zpf (tyN t)) hg hm PyProof.Rows.boot_isinstance (zdn ha (zdn hT ziw) (zaj hs)) (by decide) (by decide) (zaj hs) rfl).imp λσ H Q q=>?_
 refine zqx (g:=λx h=>.of ((tyIs t h x).map .bl) h) (G:=λv H1 Q=>rIsi X.K (tyN t) [v,.ty (tyN t)] H1 Q) (λm h H v x w h' Q r q e k=>?_) q
 obtain⟨e,rfl⟩:=of_ok e
 cases z:tyIs t h' x with
 |none=>rw[z]at e;cases e
 |some b=>
  rw[z]at e;cases e
  exact⟨v,b,rfl,zww t r q z,Wants.here k r (.bl b)⟩
noncomputable def zfn:Expr->Bool
 |.Name .. |.Subscript ..=>true
 |_=>false
theorem zme{o:Expr}{m:Str}{env:Env}(h:zfn o=true):attributeBase o m env (eval o env)=eval o env:=by
 cases o<;>first|rfl|cases h
noncomputable abbrev gMt(m:Mt)(fo fa:FE):FE:=λρ h=>(fo ρ h).bind λx h=>if zdu m h x then(fa ρ h).bind λy h=>match y with|.tup ys=>mtW m x ys h|_=>.no else .no
theorem zmf{apos:Pos}(ho:SE X o fo)(he:SE X e fa)(hb:zfn o=true)(hs:zay e=true)(hl:(apos.endLine==pos.line)=true) :
 SE X (.Call (.Attribute o "append" apos) [e] [] pos) (gMt .append fo (aCons fa aNil)):=by
 refine(pe_bm (X:=X) PySem.F.plainAttrs_list PySem.F.slot_list_append PySem.F.type_list_append zgm ho (zdn he ziw (zaj hs)) (zme hb) ?_ hl (zaj hs) rfl).imp λσ H Q z9=>z9.el λρ h m w h' f r e k=>?_
 .rw[zaj hs];rfl
 .refine zac e λx h1 e1 e2=>?_
  split at e2
  .rename_i hk
   refine zac e2 λy h2 e3 e4=>?_
   refine zac e3 λz h3 e5 e6=>?_
   cases e6
   refine(.mk f r e1 λv H1 m1 s1 r1 q1=>?_)
   cases x<;>try cases hk
   rename_i i
   simp only[zdu]at hk
   cases g:h1.get i with
   |none=>rw[g]at hk;cases hk
   |some ob=>
    rw[g]at hk
    cases ob with
    |dk _=>cases hk
    |dm _=>cases hk
    |dt _ _=>cases hk
    |lst ws0=>
     cases q1
     obtain⟨vs0,p1,_⟩:=r1.lst g
     refine⟨.inl ⟨rfl,vs0,SqL.of p1⟩,ρ,h1,m1,z,h2,f.stp s1,r1,e5,λv2 H2 m2 s2 r2 q2=>?_⟩
     simp only[mtW]at e4
     cases g2:h2.get i with
     |none=>rw[g2]at e4;cases e4
     |some ob=>
      rw[g2]at e4
      cases ob with
      |dk _=>cases e4
      |dm _=>cases e4
      |dt _ _=>cases e4
      |lst ws=>
       simp only at e4
       split at e4
       .rename_i hz
        cases e4
        obtain⟨vs,p2,p3⟩:=r2.lst g2
        have hmi:m1 i=m2 i:=(s2.same i (zah g)).symm
        refine⟨m1 i,vs,v2,rfl,rfl,by rw[hmi];exact p2,by rw[p3.length];exact zap.mp hz,?_⟩
        obtain⟨st,r'⟩:=r2.write (i:=i) (o:=.lst (ws++[z])) (u:=.lst (vs++[v2])) (zah g2) p2 (λ_ z=>nomatch z) (λ_ _ z=>nomatch z) λst=>⟨vs++[v2],zan,(p3.stp st).append (.cons (q2.stp st) .nil)⟩
        rw[hmi]
        exact k .non _ m2 ((s1.trans s2).trans st) r' .non
       .cases e4
  .cases e2
theorem zwy{apos:Pos}(hu:X.A.units+1<cLine)(ho:SE X o fo)(ha:SE X a fa)(hbb:SE X b fb)(hb:zfn o=true)(hs:zay a=true)(hs2:zay b=true)(hl:(apos.endLine==pos.line)=true) :
 SE X (.Call (.Attribute o "get" apos) [a,b] [] pos) (gMt .get fo (aCons fa (aCons fb aNil))):=by
 have tr:backTo pos (starEach [a,b] X.env)=[(false,eval a X.env),(false,eval b X.env)]:=by
  rw[zaj hs,zaj hs2];rfl
 refine(zo6 hu ho ha hbb ⟨zme hb,by rw[tr];rfl,hl,tr⟩).imp λσ H Q z9=>z9.el λρ h m w h' f r e k=>?_
 refine zac e λx h1 e1 e2=>?_
 split at e2
 .rename_i hk
  refine zac e2 λy h2 e3 e4=>?_
  refine zac e3 λz h3 e5 e6=>?_
  refine zac e6 λy2 h4 e7 e8=>?_
  refine zac e7 λz2 h5 e9 e10=>?_
  cases e10
  cases e8
  refine(.mk f r e1 λv H1 m1 s1 r1 q1=>?_)
  cases x<;>try cases hk
  rename_i i
  simp only[zdu]at hk
  cases g:h1.get i with
  |none=>rw[g]at hk;cases hk
  |some ob=>
   rw[g]at hk
   cases ob with
   |lst _=>cases hk
   |dt _ _=>cases hk
   |dk ws0=>
    cases q1
    obtain⟨vs0,p1,_⟩:=r1.dk g
    refine⟨m1 i,rfl,.inl ⟨vs0,p1⟩,ρ,h1,m1,z,h3,f.stp s1,r1,e5,λv2 H2 m2 s2 r2 q2=>(.mk ((f.stp s1).stp s2) r2 e9 λv3 H3 m3 s3 r3 q3=>?_)⟩
    simp only[mtW]at e4
    split at e4
    .rename_i kvs kk g2 hkk
     cases e4
     obtain⟨vs,p2,p3⟩:=r3.dk g2
     have hmi:m1 i=m3 i:=((s3.same i (vah (zah g) s2.le)).trans (s2.same i (zah g))).symm
     have hv:=zfl (q2.stp s3) hkk
     subst hv
     refine⟨valV vs kk,by rw[hmi];exact .inl ⟨vs,kk,p2,rfl,rfl⟩,?_⟩
     have s13:=(s1.trans s2).trans s3
     rcases p3.look kk with⟨z1,z2⟩|⟨v',w',z1,z2,z3⟩
     .rw[z1];rw[z2]at k;exact k _ H3 m3 s13 r3 q3
     .rw[z1];rw[z2]at k;exact k _ H3 m3 s13 r3 z3
    .rename_i kvs kk g2 hkk
     cases e4
     obtain⟨vs,p2,p3⟩:=r3.dm g2
     have hmi:m1 i=m3 i:=((s3.same i (vah (zah g) s2.le)).trans (s2.same i (zah g))).symm
     have hv:=zfl (q2.stp s3) hkk
     subst hv
     refine⟨valV vs kk,by rw[hmi];exact .inl ⟨vs,kk,.inl p2,rfl,rfl⟩,?_⟩
     have s13:=(s1.trans s2).trans s3
     rcases p3.look kk with⟨z1,z2⟩|⟨v',w',z1,z2,z3⟩
     .rw[z1];rw[z2]at k;exact k _ H3 m3 s13 r3 q3
     .rw[z1];rw[z2]at k;exact k _ H3 m3 s13 r3 z3
    .cases e4
   |dm ws0=>
    cases q1
    obtain⟨vs0,p1,_⟩:=r1.dm g
    refine⟨m1 i,rfl,.inl ⟨vs0,.inl p1⟩,ρ,h1,m1,z,h3,f.stp s1,r1,e5,λv2 H2 m2 s2 r2 q2=>(.mk ((f.stp s1).stp s2) r2 e9 λv3 H3 m3 s3 r3 q3=>?_)⟩
    simp only[mtW]at e4
    split at e4
    .rename_i kvs kk g2 hkk
     cases e4
     obtain⟨vs,p2,p3⟩:=r3.dk g2
     have hmi:m1 i=m3 i:=((s3.same i (vah (zah g) s2.le)).trans (s2.same i (zah g))).symm
     have hv:=zfl (q2.stp s3) hkk
     subst hv
     refine⟨valV vs kk,by rw[hmi];exact .inl ⟨vs,kk,p2,rfl,rfl⟩,?_⟩
     have s13:=(s1.trans s2).trans s3
     rcases p3.look kk with⟨z1,z2⟩|⟨v',w',z1,z2,z3⟩
     .rw[z1];rw[z2]at k;exact k _ H3 m3 s13 r3 q3
     .rw[z1];rw[z2]at k;exact k _ H3 m3 s13 r3 z3
    .rename_i kvs kk g2 hkk
     cases e4
     obtain⟨vs,p2,p3⟩:=r3.dm g2
     have hmi:m1 i=m3 i:=((s3.same i (vah (zah g) s2.le)).trans (s2.same i (zah g))).symm
     have hv:=zfl (q2.stp s3) hkk
     subst hv
     refine⟨valV vs kk,by rw[hmi];exact .inl ⟨vs,kk,.inl p2,rfl,rfl⟩,?_⟩
     have s13:=(s1.trans s2).trans s3
     rcases p3.look kk with⟨z1,z2⟩|⟨v',w',z1,z2,z3⟩
     .rw[z1];rw[z2]at k;exact k _ H3 m3 s13 r3 q3
     .rw[z1];rw[z2]at k;exact k _ H3 m3 s13 r3 z3
    .cases e4
 .cases e2
end
section
variable{K:vga}{m m' m1:Nat->Addr}{n n' n1:Nat}{h h':VH}{H H' H1:Hp}
mutual
theorem VRep.mono(hn:n<=n')(hm:∀i,i<n->m' i=m i)(kt:∀b vs,H b=some (.tup vs)->H' b=some (.tup vs))(kf:∀b o u,H b=some (.frz o u)->H' b=some (.frz o u)):∀{v:V} {w:W},VRep K m n H v w->VRep K m' n' H' v w
 |_,_,.non=>.non
 |_,_,.bl b=>.bl b
 |_,_,.int b=>.int b
 |_,_,.str b=>.str b
 |_,_,.tup q r=>.tup (by
  rcases q with(q|⟨o,q⟩)|q
  .exact .inl (.inl (kt _ _ q))
  .exact .inl (.inr ⟨o,kf _ _ _ q⟩)
  .exact .inr q) (VReps.mono hn hm kt kf r)
 |_,_,.fz q r=>.fz (by
  rcases q with⟨o,q⟩|q
  .exact .inl ⟨o,kf _ _ _ q⟩
  .exact .inr q) (VReps.mono hn hm kt kf r)
 |_,_,.ref (i:=i) q=>by rw[<-hm i q];exact .ref (vah q hn)
theorem VReps.mono(hn:n<=n')(hm:∀i,i<n->m' i=m i)(kt:∀b vs,H b=some (.tup vs)->H' b=some (.tup vs))(kf:∀b o u,H b=some (.frz o u)->H' b=some (.frz o u)):∀{vs:List V} {ws:List W},VReps K m n H vs ws->VReps K m' n' H' vs ws
 |_,_,.nil=>.nil
 |_,_,.cons q r=>.cons (VRep.mono hn hm kt kf q) (VReps.mono hn hm kt kf r)
end
theorem Rel.side(r:Rel K m h H){D:Addr}{u u0:HO}(hu:H D=some u0)(ht:∀t,u0≠.tup t)(hf:∀o t,u0≠.frz o t)(ho:∀i,i<h.n->m i≠D)(s:Stp m1 n1 H1 m h.n H)(h0:H1 D=none) :
 Stp m1 n1 H1 m h.n (upd H D u)/\Rel K m h (upd H D u)/\∀{v:V}{w:W},VRep K m h.n H v w->VRep K m h.n (upd H D u) v w:=by
 have kt:∀b vs,H b=some (.tup vs)->upd H D u b=some (.tup vs):=λb vs q=>by rw[zae (ne_of q hu λz=>ht vs z.symm)];exact q
 have kf:∀b o t,H b=some (.frz o t)->upd H D u b=some (.frz o t):=λb o t q=>by rw[zae (ne_of q hu λz=>hf o t z.symm)];exact q
 have mv:∀{v:V}{w:W},VRep K m h.n H v w->VRep K m h.n (upd H D u) v w:=λq=>q.mono (vad _) (λ_ _=>rfl) kt kf
 refine⟨⟨s.le,s.same,s.new,s.apart,λb vs q=>kt b vs (s.tup b vs q),λb o t q=>kf b o t (s.frz b o t q),λb o nb q=>by rw[zae (zad q h0)];exact s.keep b o nb q⟩,⟨λi hi=>?_,r.inj,r.len⟩,mv⟩
 obtain⟨o,h1,h2⟩:=r.obj i hi
 have eq:upd H D u (m i)=H (m i):=zae (ho i hi)
 refine⟨o,h1,?_⟩
 cases o with
 |lst ws=>obtain⟨vs,q1,q2⟩:=h2;exact⟨vs,eq.trans q1,q2.map mv⟩
 |dk ws=>obtain⟨vs,q1,q2⟩:=h2;exact⟨vs,q1.imp (λz=>eq.trans z) λ⟨o,z⟩=>⟨o,eq.trans z⟩,q2.map mv⟩
 |dm ws=>obtain⟨vs,q1,q2⟩:=h2;exact⟨vs,eq.trans q1,q2.map mv⟩
 |dt ks ws=>obtain⟨xs,q1,q0,q2,q3⟩:=h2;exact⟨xs,q1.imp (λz=>eq.trans z) λ⟨o,z⟩=>⟨o,eq.trans z⟩,q0,q2.map mv,q3.map mv⟩
theorem Rel.out(r:Rel K m h H){p:Addr}(hp:H p=none):∀i,i<h.n->m i≠p:=λi hi z=>by
 obtain⟨o',_,h2⟩:=r.obj i hi
 obtain⟨u',h3⟩:=h2.some
 rw[z,hp]at h3;cases h3
theorem Stp.out(s:Stp m n H m' n' H'){p:Addr}{u:HO}(hp:∀i,i<n->m i≠p)(hu:H p=some u):∀i,i<n'->m' i≠p:=λi hi z=>by
 by_cases hl:i<n
 .exact hp i hl ((s.same i hl).symm.trans z)
 .have:=s.new i (vb9.mp hl) hi
  rw[z,hu]at this;cases this
end
section
variable{X:Cx}{a b c e o:Expr}{es:List Expr}{fa fb fc fo fr:FE}{pos p:Pos}{x:Str}
noncomputable abbrev gDsp(f:FE):FE:=λρ h=>(f ρ h).bind λy h=>match y with
 |.tup ys=>(match zi6 ys with
  |some kvs=>if Nat.ble kvs.length 15 then .ok (.ref h.n) (h.new (dkO kvs))else .no
  |none=>dspD ys h)
 |_=>.no
theorem zs2:SE X (.Dict [] [] pos) (gDsp aNil):=zi4.imp λσ H Q z9 p hp=>z9.el λρ h m w h' f r e k=>by
 cases e
 exact Wants.dictD (ks:=[]) (ws:=[]) (xs:=[]) k r hp (.inr ⟨rfl,rfl⟩) rfl .nil .nil
noncomputable def spV(K:vga)(np:Nat)(g:List W->VH->Res W):Sp:=λvs H Q _=>vs.length=np/\∃h m ws w h',Rel K m h H/\VReps K m h.n H vs ws/\g ws h=.ok w h'/\Wants K m h.n H w h' Q
theorem zs3{k:Nat}{f:Addr}{fd:FuncData}{ps:List Str}{g:List W->VH->Res W}(F:FnOk X.prog X.w X.K X.mg X.base CX0 k f fd ps (spV X.K ps.length g))(hr:Room k X.A)(hg:Gl X x)(hm:X.mg x=some (.ref f))(hk:PySem.W.keepIn X.K (.ref f)=true)
 (hb:Binds X.K fd ps []) (ha:SA X (e::es) fa) (hs:(e::es).all zay=true) (hdb:(x==("__debug__" : Str))=false) (hn:∀ws h w h',g ws h=.ok w h'->ws.length=ps.length):SE X (.Call (.Name x p) (e::es) [] pos) (gArg fa g):=by
 rw[vc5,vab]at hs
 refine(zln F hr hg hm hk hb .nil pass0 ha hdb (zaj hs.1) (zci hs.2)).imp λσ H Q q=>zcx (G:=λvs H1 Q=>spV X.K ps.length g (vs++[]) H1 Q E0) (λm h H vs xs w h' Q r q e k=>?_) q
 rw[vcw]
 exact⟨by rw[q.length];exact hn _ _ _ _ e,h,m,xs,w,h',r,q,e,k⟩
theorem zpg{k:Nat}{f:Addr}{fd:FuncData}{ps:List Str}{g:List W->VH->Res W}(F:FnOk X.prog X.w X.K X.mg X.base CX0 k f fd ps (spV X.K ps.length g))(hr:Room k X.A)(hg:Gl X x)(hm:X.mg x=some (.ref f))(hk:PySem.W.keepIn X.K (.ref f)=true)
 (hb:Binds X.K fd ps []) (hdb:(x==("__debug__" : Str))=false) (hn:∀ws h w h',g ws h=.ok w h'->ws.length=ps.length):SE X (.Call (.Name x p) [] [] pos) (gArg aNil g):=by
 refine(zoy F hr hg hm hk hb .nil pass0 hdb).imp λσ H Q z9=>z9.el λρ h m w h' f r e k=>?_
 exact⟨hn _ _ _ _ e,h,m,[],w,h',r,.nil,e,k⟩
theorem zph{k:Nat}{f:Addr}{fd:FuncData}{ps:List Str}{g:List W->VH->Res W}(F:FnOk X.prog X.w X.K X.mg X.base CX0 k f fd ps (spV X.K ps.length g))(hr:Room k X.A)(hg:Gl X x)(hm:X.mg x=some (.ref f))(hk:PySem.W.keepIn X.K (.ref f)=true)
 (hb:Binds X.K fd ps [.none]) (ha:SA X (e::es) fa) (hs:(e::es).all zay=true) (hdb:(x==("__debug__" : Str))=false) (hn:∀ws h w h',g ws h=.ok w h'->ws.length=ps.length):SE X (.Call (.Name x p) (e::es) [] pos) (gArg fa λws h=>g (ws++[.non]) h):=by
 rw[vc5,vab]at hs
 refine(zln F hr hg hm hk hb (dvs:=[V.non]) (.cons rfl .nil) pass0 ha hdb (zaj hs.1) (zci hs.2)).imp λσ H Q q=>zcx (G:=λvs H1 Q=>spV X.K ps.length g (vs++[V.non]) H1 Q E0) (λm h H vs xs w h' Q r q e k=>?_) q
 have q':VReps X.K m h.n H (vs++[V.non]) (xs++[W.non]):=q.append (.cons .non .nil)
 exact⟨by rw[q'.length];exact hn _ _ _ _ e,h,m,xs++[W.non],w,h',r,q',e,k⟩
noncomputable def ItOk(K:vga)(nx:Nat->VH->Option (Option W))(J:It)(P:(Nat->Addr)->Nat->Hp->Prop):Prop:=
 (∀m n H m' n' H',n<=n'->(∀i,i<n->m' i=m i)->(∀b vs,H b=some (.tup vs)->H' b=some (.tup vs))->(∀b o u,H b=some (.frz o u)->H' b=some (.frz o u))->P m n H->P m' n' H')/\
 ∀m h H,Rel K m h H->P m h.n H->∀i,(∀w,nx i h=some (some w)->J.go i H/\∀y H3,J.yld i H y H3->Stp m h.n H m h.n H3/\Rel K m h H3/\VRep K m h.n H3 y w)/\(nx i h=some none->J.stop i H)
noncomputable def lftI(K:vga)(kd:Kd)(f:FE):TI:=λσ H R=>∃ρ h m x h',Fr K m h.n H σ ρ/\Rel K m h H/\f ρ h=.ok x h'/\(∃o,nxt kd x 0 h'=some o)/\
 ∀J P H' m',Stp m h.n H m' h'.n H'->Rel K m' h' H'->ItOk K (nxt kd x) J P->P m' h'.n H'->R J H'
theorem lftI.el{K:vga}{σ:L2.St}{H:Hp}{P:Prop}{kd:Kd}{fa:FE}{R}(q:lftI K kd fa σ H R)(k:∀ρ h m x h',Fr K m h.n H σ ρ->Rel K m h H->fa ρ h=.ok x h'->∀o,nxt kd x 0 h'=some o->(∀J P H' m',Stp m h.n H m' h'.n H'->Rel K m' h' H'->ItOk K (nxt kd x) J P->P m' h'.n H'->R J H')->P):P:=by
 obtain⟨ρ,h,m,w,h',f,r,e,⟨o,eo⟩,k'⟩:=q
 exact k ρ h m w h' f r e o eo k'
theorem lftI.mk{K:vga}{σ:L2.St}{H:Hp}{m:Nat->Addr}{ρ:En}{h h':VH}{x:W}{kd:Kd}{fa:FE}{R}(f:Fr K m h.n H σ ρ)(r:Rel K m h H)(e:fa ρ h=.ok x h')(eo:∃o,nxt kd x 0 h'=some o)(k:∀J P H' m',Stp m h.n H m' h'.n H'->Rel K m' h' H'->ItOk K (nxt kd x) J P->P m' h'.n H'->R J H'):lftI K kd fa σ H R:=⟨ρ,h,m,x,h',f,r,e,eo,k⟩
theorem zde{K:vga}{H H':Hp}{a:Addr}{vs:List V}(kt:∀b vs,H b=some (.tup vs)->H' b=some (.tup vs))(kf:∀b o u,H b=some (.frz o u)->H' b=some (.frz o u))(q:SqT K H a vs):SqT K H' a vs:=by
 rcases q with(q|⟨o,q⟩)|q
 .exact .inl (.inl (kt _ _ q))
 .exact .inl (.inr ⟨o,kf _ _ _ q⟩)
 .exact .inr q
theorem zmg{K:vga}{H H':Hp}{a:Addr}{vs:List V}(kf:∀b o u,H b=some (.frz o u)->H' b=some (.frz o u))(q:Fz K H a vs):Fz K H' a vs:=by
 rcases q with⟨o,q⟩|q
 .exact .inl ⟨o,kf _ _ _ q⟩
 .exact .inr q
theorem zet{ws:List W}{h:VH}{x:W}{i:Nat}{o:Option W}(e:seqW h x=some ws)(q:nxt .seq x i h=some o):ws[i]?=o:=by
 simp only[nxt,e]at q
 cases q;rfl
theorem zwz{K:vga}{a:Addr}{vs:List V}{ws:List W}:ItOk K (nxt .seq (.tup ws)) (Itt K a) (λm n H=>SqT K H a vs/\VReps K m n H vs ws):=by
 refine⟨λm n H m' n' H' hn hm kt kf ⟨q1,q2⟩=>⟨zde kt kf q1,q2.mono hn hm kt kf⟩,λm h H r ⟨q1,q2⟩ i=>⟨λw e=>?_,λe=>?_⟩⟩
 .have e:=zet (ws:=ws) rfl e
  obtain⟨v,h1,h2⟩:=q2.get e
  refine⟨⟨vs,v,q1,h1⟩,λy H3 ⟨e3,y3⟩=>?_⟩
  subst e3
  have:=y3 vs q1
  rw[h1]at this;cases this
  exact⟨.refl,r,h2⟩
 .have e:=zet (ws:=ws) rfl e
  exact⟨vs,q1,by rw[q2.length];exact va6.mp e⟩
theorem it_fz{K:vga}{a:Addr}{vs:List V}{ws:List W}:ItOk K (nxt .seq (.fz ws)) (Itl K a) (λm n H=>Fz K H a vs/\VReps K m n H vs ws):=by
 refine⟨λm n H m' n' H' hn hm kt kf ⟨q1,q2⟩=>⟨zmg kf q1,q2.mono hn hm kt kf⟩,λm h H r ⟨q1,q2⟩ i=>⟨λw e=>?_,λe=>?_⟩⟩
 .have e:=zet (ws:=ws) rfl e
  obtain⟨v,h1,h2⟩:=q2.get e
  refine⟨⟨vs,v,q1.sq,h1⟩,λy H3 ⟨e3,y3⟩=>?_⟩
  subst e3
  have:=y3 vs q1.sq
  rw[h1]at this;cases this
  exact⟨.refl,r,h2⟩
 .have e:=zet (ws:=ws) rfl e
  exact⟨vs,q1.sq,by rw[q2.length];exact va6.mp e⟩
theorem zw0{K:vga}{a:Addr}{l:Nat}:ItOk K (nxt .seq (.ref l)) (Itl K a) (λm n H=>l<n/\a=m l):=by
 refine⟨λm n H m' n' H' hn hm kt kf ⟨q1,q2⟩=>⟨vah q1 hn,by rw[hm l q1];exact q2⟩,λm h H r ⟨q1,q2⟩ i=>?_⟩
 subst q2
 cases g:h.get l with
 |none=>exact⟨λw e=>by simp[nxt,seqW,g]at e,λe=>by simp[nxt,seqW,g]at e⟩
 |some o=>
  cases o with
  |dk _=>exact⟨λw e=>by simp[nxt,seqW,g]at e,λe=>by simp[nxt,seqW,g]at e⟩
  |dm _=>exact⟨λw e=>by simp[nxt,seqW,g]at e,λe=>by simp[nxt,seqW,g]at e⟩
  |dt _ _=>exact⟨λw e=>by simp[nxt,seqW,g]at e,λe=>by simp[nxt,seqW,g]at e⟩
  |lst ws=>
   have hs:seqW h (.ref l)=some ws:=by simp[seqW,g]
   obtain⟨vs,p1,p2⟩:=r.lst g
   refine⟨λw e=>?_,λe=>?_⟩
   .have e:=zet hs e
    obtain⟨v,h1,h2⟩:=p2.get e
    refine⟨⟨vs,v,SqL.of p1,h1⟩,λy H3 ⟨e3,y3⟩=>?_⟩
    subst e3
    have:=y3 vs (SqL.of p1)
    rw[h1]at this;cases this
    exact⟨.refl,r,h2⟩
   .have e:=zet hs e
    exact⟨vs,SqL.of p1,by rw[p2.length];exact va6.mp e⟩
theorem zw1{K:vga}{kd:Kd}{x:W}{lo:Int}{k:Nat}(hx:∀i h,nxt kd x i h=some (if i<k then some (.int (lo+i))else none)):ItOk K (nxt kd x) (Itr lo k) (λ_ _ _=>True):=by
 refine⟨λ_ _ _ _ _ _ _ _ _ _ _=>trivial,λm h H r _ i=>⟨λw e=>?_,λe=>?_⟩⟩
 .rw[hx]at e
  split at e
  .rename_i hi
   cases e
   refine⟨hi,λy H3 ⟨e3,y3⟩=>?_⟩
   subst e3 y3
   exact⟨.refl,r,.int _⟩
  .cases e
 .rw[hx]at e
  split at e
  .cases e
  .rename_i hi
   exact vb9.mp hi
theorem zmh{tg:Expr}(ha:SE X e fa):PI X tg e (lftI X.K .seq fa):=λpins s σ H R I z9=>z9.el λρ h m x h' f r ee o en k=>by
 have hs:∃ws,seqW h' x=some ws:=by
  cases z:seqW h' x with
  |none=>simp[nxt,z]at en
  |some ws=>exact⟨ws,rfl⟩
 obtain⟨ws,hs⟩:=hs
 cases x<;>try cases hs
 .exact zu1 ha pins s σ H R I (.mk f r ee λv H' m' s' r' q=>by
   cases q with
   |tup sq rs=>exact⟨_,rfl,⟨_,sq⟩,k _ _ H' m' s' r' zwz ⟨sq,rs⟩⟩)
 .exact zlf ha pins s σ H R I (.mk f r ee λv H' m' s' r' q=>by
   cases q with
   |fz sq rs=>exact⟨_,rfl,⟨_,sq.sq⟩,k _ _ H' m' s' r' it_fz ⟨sq,rs⟩⟩)
 .rename_i l
  exact zlf ha pins s σ H R I (.mk f r ee λv H' m' s' r' q=>by
   obtain⟨p,vs,e1,e2,e3⟩:=zdw r' q hs
   cases q with
   |ref hi=>
    cases g:h'.get l with
    |none=>simp[seqW,g]at hs
    |some ob=>
     cases ob with
     |dk _=>simp[seqW,g]at hs
     |dm _=>simp[seqW,g]at hs
     |dt _ _=>simp[seqW,g]at hs
     |lst ws'=>
      obtain⟨vs',p1,_⟩:=r'.lst g
      exact⟨_,rfl,⟨_,SqL.of p1⟩,k _ _ H' m' s' r' zw0 ⟨hi,rfl⟩⟩)
theorem zs4{tg:Expr}(ha:SA X [e] fa)(hs:zay e=true)(hg:Gl X "range")(hm:X.mg "range" = none):PI X tg (.Call (.Name "range" p) [e] [] pos) (lftI X.K .rng1 fa):=λpins s σ H R I z9=>z9.el λρ h m x h' f r ee o en k=>by
 simp only[nxt]at en
 split at en
 .rename_i j
  split at en
  .rename_i hf
   refine zlg hg hm ha (zaj hs) pins s σ H R I (.mk f r ee λvs H' m' s' r' q=>?_)
   obtain⟨v,rfl,q1⟩:=reps1 q
   cases q1
   refine⟨_,rfl,(zhv hf).1,(zhv hf).2,k _ _ H' m' s' r' (zw1 λi h=>?_) trivial⟩
   simp only[nxt,hf,va8]
   split<;>split<;>first|rfl|(exfalso;simp at *;omega)
  .cases en
 .cases en
noncomputable def zw2(tl:TE):TI:=λσ H R=>tl σ H λx H1=>∃a kvs,x=.ref a/\((∃ob,H1 a=some (.frz ob (.dK kvs))/\R (Itd a ob kvs) H1)\/(H1 a=some (.dK kvs)/\∀ob,R (Itd a ob kvs) (upd H1 a (.frz ob (.dK kvs)))))
theorem zpi{tg l:Expr}{tl:TE}(hl:PE X l tl):PI X tg l (zw2 tl):=by
 intro pins s σ H R I h
 refine thn (hl pins s σ H _ I h) λv s1 hq0=>?_
 obtain⟨x,H1,I1,r1,q1⟩:=hq0
 obtain⟨a,kvs,e,q⟩:=q1
 subst e
 cases r1
 have key:∀(H2:Hp)(ob:Obj),Inv X pins σ H2 s1->H2 a=some (.frz ob (.dK kvs))->R (Itd a ob kvs) H2->wpAny (model X.prog X.w) X.A (pyIter (.ref a)) (λitv s2=>PIE X pins σ tg R itv s2) X.xe s1:=by
  intro H2 ob I2 e0 q2
  obtain⟨e1,z,y,vs,r,o',es,ep,e2,c1,c2,c3,c4,c5⟩:=(show ObjOk X.prog X.w H2 s1.heap a (.frz ob (.dK kvs))from I2.hok a _ e0)
  rw[e1]at e2;cases e2
  refine wpAny_pyIter_dict (knd:=zau X.prog X.w) y ⟨ob,es,e1,c1,c2,c3,c4,c5⟩ ?_
  have hlen:=r.length
  refine⟨s1.heap.objs.size,[s1.heap.objs.size],_,_,H2,rfl,I2.kept (t':=s1.toks) λb o e=>vac _ e,zl3 (kvs:=kvs) c2 (vaz (vap e1)),⟨_,vao _ rfl,rfl,by rw[hlen];rfl⟩,λb hb=>?_,q2⟩
  have e:b=s1.heap.objs.size:=by simpa using hb
  subst e
  exact I2.fpOk (vad _) (I2.hok.fresh (vad _))
 rcases q with⟨ob,e0,q⟩|⟨e0,q⟩
 .exact key H1 ob I1 e0 q
 .obtain⟨ob,I2⟩:=I1.freeze e0
  exact key _ ob I2 zan (q ob)
theorem KReps.key{K:vga}{m:Nat->Addr}{n:Nat}{H:Hp}:∀{vs:List (Key×V)} {ws:List (Key×W)} (i:Nat),KReps K m n H vs ws->(vs[i]?).map (·.1)=(ws[i]?).map (·.1)
 |_,_,_,.nil=>rfl
 |_,_,0,.cons _ _=>rfl
 |_,_,i+1,.cons _ r=>by simpa using KReps.key i r
theorem zpj{K:vga}{m:Nat->Addr}{n:Nat}{H:Hp}(k:Key):VRep K m n H (kV k) (keyV k):=by
 cases k
 .exact .int _
 .exact .str _
theorem zmi{K:vga}{a:Addr}{l:Nat}{ob:Obj}{kv:List (Key×V)}:ItOk K (nxt .keys (.ref l)) (Itd a ob kv) (λm n H=>l<n/\a=m l/\H a=some (.frz ob (.dK kv))):=by
 refine⟨λm n H m' n' H' hn hm kt kf ⟨q1,q2,q3⟩=>⟨vah q1 hn,by rw[hm l q1];exact q2,kf _ _ _ q3⟩,λm h H r ⟨q1,q2,q3⟩ i=>?_⟩
 subst q2
 cases g:h.get l with
 |none=>exact⟨λw e=>by simp[nxt,g]at e,λe=>by simp[nxt,g]at e⟩
 |some o=>
  cases o with
  |lst _=>exact⟨λw e=>by simp[nxt,g]at e,λe=>by simp[nxt,g]at e⟩
  |dt _ _=>exact⟨λw e=>by simp[nxt,g]at e,λe=>by simp[nxt,g]at e⟩
  |dm _=>exact⟨λw e=>by simp[nxt,g]at e,λe=>by simp[nxt,g]at e⟩
  |dk ws=>
   obtain⟨vs,p1,p2⟩:=r.dk g
   have hv:vs=kv:=by
    rcases p1 with p1|⟨o,p1⟩
    .rw[q3]at p1;cases p1
    .rw[q3]at p1;cases p1;rfl
   subst hv
   have hk:=p2.key i
   refine⟨λw e=>?_,λe=>?_⟩
   .simp only[nxt,g]at e
    cases z:ws[i]? with
    |none=>
     rw[z]at e
     simp only at e
     split at e<;>cases e
    |some p=>
     rw[z]at e hk
     simp only[vaw,vcu]at e hk
     subst e
     cases z2:vs[i]? with
     |none=>rw[z2]at hk;cases hk
     |some q=>
      rw[z2]at hk
      simp only[vaw,vcu]at hk
      refine⟨⟨q3,(vaq.mp z2).1⟩,λy H3 ⟨e3,k3,v3,e4,e5⟩=>?_⟩
      subst e3 e5
      rw[z2]at e4
      cases e4
      rw[<-hk]
      exact⟨.refl,r,zpj _⟩
   .simp only[nxt,g]at e
    cases z:ws[i]? with
    |some p=>rw[z]at e;cases e
    |none=>
     rw[z]at e
     simp only at e
     split at e
     .rename_i hb
      exact⟨q3,by rw[p2.length];exact vdw hb⟩
     .cases e
theorem Rel.frozen{K:vga}{m:Nat->Addr}{h:VH}{H:Hp}(r:Rel K m h H){i:Nat}{o:VO}{u u0:HO}(hi:h.get i=some o)(h0:H (m i)=some u0)(hn:∀t,u0≠.tup t)(hf:∀o t,u0≠.frz o t)
 (ho:Stp m h.n H m h.n (upd H (m i) u)->ORep K m h.n (upd H (m i) u) (m i) o) :
 Stp m h.n H m h.n (upd H (m i) u)/\Rel K m h (upd H (m i) u):=by
 have st:Stp m h.n H m h.n (upd H (m i) u):=by
  refine⟨vad _,λ_ _=>rfl,λj a b=>absurd b (vb9.mpr a),λj k a b=>absurd b (vb9.mpr a),λb vs q=>?_,λb o t q=>?_,λb o nb q=>?_⟩
  .rw[zae (ne_of q h0 (λz=>hn vs z.symm))];exact q
  .rw[zae (ne_of q h0 (λz=>hf o t z.symm))];exact q
  .rw[zae (nb i (zah hi)).symm];exact q
 refine⟨st,⟨λj hj=>?_,r.inj,r.len⟩⟩
 by_cases e:j=i
 .subst e;exact⟨o,hi,ho st⟩
 .obtain⟨o',h1,h2⟩:=r.obj j hj
  exact⟨o',h1,ORep.stp st (zae λz=>e (r.inj j i hj (zah hi) z)) h2⟩
theorem zmj{tg:Expr}(ha:SE X e fa):PI X tg e (lftI X.K .keys fa):=λpins s σ H R I z9=>z9.el λρ h m x h' f r ee o en k=>by
 have hs:∃l kvs,x=.ref l/\h'.get l=some (.dk kvs):=by
  simp only[nxt]at en
  split at en
  .rename_i l
   split at en
   .exact⟨_,_,rfl,by assumption⟩
   .cases en
  .cases en
 obtain⟨l,kvs,rfl,g⟩:=hs
 refine zpi ha pins s σ H R I (.mk f r ee λv H' m' s' r' q=>?_)
 cases q with
 |ref hi=>
  obtain⟨vs,p1,p2⟩:=r'.dk g
  refine⟨m' l,vs,rfl,?_⟩
  rcases p1 with p1|⟨ob,p1⟩
  .refine .inr ⟨p1,λob=>?_⟩
   obtain⟨st,r2⟩:=r'.frozen (u:=.frz ob (.dK vs)) g p1 (λ_ z=>nomatch z) (λ_ _ z=>nomatch z) λst=>⟨vs,.inr ⟨ob,zan⟩,p2.stp st⟩
   exact k _ _ _ m' (s'.trans st) r2 zmi ⟨hi,rfl,zan⟩
  .exact .inl ⟨ob,p1,k _ _ H' m' s' r' zmi ⟨hi,rfl,p1⟩⟩
theorem zpk{elts:List Expr}{kx:Nat}{tp:Pos}{l:Expr}{ta:TA}(hg:Gl X "enumerate")(hm:X.mg "enumerate" = none)(hv:bootBuiltins "enumerate" = some (.type "enumerate"))(ha:PA X [l] ta)(hs:starEach [l] X.env=[(false,eval l X.env)]) :
 PI X (.Tuple elts kx tp) (.Call (.Name "enumerate" p) [l] [] pos) (λσ H R=>ta σ H λvs H1=>∃a,vs=[.ref a]/\(∃xs,SqT X.K H1 a xs)/\R (IteT X.K a) H1):=by
 intro pins s σ H R I h
 refine Call_ (zdm I hg hm hv (vcb (thn (ha pos pins s σ H _ I h) λus s1 ⟨vs,H1,I1,r1,q1⟩=>?_) hs rfl))
 obtain⟨a,e,⟨xs,hq⟩,q⟩:=q1
 subst e
 obtain⟨u,rfl,ru⟩:=vals1 r1
 cases ru
 obtain⟨its,rv,pl,hz⟩:=I1.tuple hq
 have pl:s1.heap.IsTuple a its.toArray:=pl
 have hlt:a<s1.heap.objs.size:=by obtain⟨o,q,_⟩:=pl;exact vap q
 refine zkm pl λh' he hit hsz kk=>wpAny_pyIter_enum he ?_
 have hf:∀b,s1.heap.objs.size<=b->FpOk X pins H1 b:=λb hb=>I1.fpOk hb (I1.hok.fresh hb)
 refine⟨s1.heap.objs.size+1,[s1.heap.objs.size+1,s1.heap.objs.size],_,_,H1,rfl,I1.kept (t':=s1.toks) kk,zkn a _ _ (vdi (vbc _)) (vaz (vch hlt)) (vaz hlt),⟨⟨_,he⟩,hit⟩,λb hb=>hf b ?_,q⟩
 rcases vau.mp hb with rfl|hb
 .exact vci _
 .have e':b=s1.heap.objs.size:=by simpa using hb
  rw[e'];exact vad _
theorem zq3{ws:List W}{h:VH}{i:Nat}{o:Option W}(q:nxt .enm (.tup ws) i h=some o):o=(ws[i]?).map λw=>.tup [.int i,w]:=by
 cases q;rfl
theorem zs5{K:vga}{a:Addr}{vs:List V}{ws:List W}:ItOk K (nxt .enm (.tup ws)) (IteT K a) (λm n H=>SqT K H a vs/\VReps K m n H vs ws):=by
 refine⟨λm n H m' n' H' hn hm kt kf ⟨q1,q2⟩=>⟨zde kt kf q1,q2.mono hn hm kt kf⟩,λm h H r ⟨q1,q2⟩ i=>⟨λw e=>?_,λe=>?_⟩⟩
 .have e:=zq3 (ws:=ws) e
  cases z:ws[i]? with
  |none=>rw[z]at e;cases e
  |some w0=>
   rw[z]at e;cases e
   obtain⟨v,h1,h2⟩:=q2.get z
   refine⟨⟨vs,v,q1,h1⟩,λy H3 ⟨T,v3,e1,e2,e3,y3⟩=>?_⟩
   subst e1 e3
   have:=y3 vs q1
   rw[h1]at this;cases this
   obtain⟨st,r'⟩:=r.more (u:=.tup [.int i,v]) e2
   exact⟨st,r',.tup (SqT.of zan) (.cons (.int _) (.cons (h2.stp st) .nil))⟩
 .have e:=zq3 (ws:=ws) e
  cases z:ws[i]? with
  |some w0=>rw[z]at e;cases e
  |none=>exact⟨vs,q1,by rw[q2.length];exact va6.mp z⟩
theorem zmk:bootBuiltins "enumerate" = some (.type "enumerate"):=by decide +kernel
theorem zq4(ha:SE X e fa)(hs:zay e=true):PA X [e] (λσ H Q=>lft X.K fa σ H λv H1=>Q [v] H1):=λp pins s σ H Q I q=>by
 refine zdn ha ziw (zaj hs) p pins s σ H Q I ?_
 refine q.el λρ h m w h' f r ee k=>?_
 exact(.mk f r ee λv H' m' s' r' q'=>k v H' m' s' r' q')
theorem zw3{elts:List Expr}{kx:Nat}{tp:Pos}(ha:SE X e fa)(hs0:zay e=true)(hg:Gl X "enumerate")(hm:X.mg "enumerate" = none):PI X (.Tuple elts kx tp) (.Call (.Name "enumerate" p) [e] [] pos) (lftI X.K .enm fa):=λpins s σ H R I z9=>z9.el λρ h m x h' f r ee o en k=>by
 cases x with
 |tup ws=>exact zpk hg hm zmk (zq4 ha hs0) (zaj hs0) pins s σ H R I ⟨ρ,h,m,_,h',f,r,ee,λv H' m' s' r' q=>by
  cases q with
  |tup sq rs=>exact⟨_,rfl,⟨_,sq⟩,k _ _ H' m' s' r' zs5 ⟨sq,rs⟩⟩⟩
 |_=>cases en
theorem zw4{elts:List Expr}{kx:Nat}{tp:Pos}{l l2:Expr}{ta:TA}(hg:Gl X "zip")(hm:X.mg "zip" = none)(ha:PA X [l,l2] ta)(hs:starEach [l,l2] X.env=[(false,eval l X.env),(false,eval l2 X.env)])(hs2:starEach [l2] X.env=[(false,eval l2 X.env)]) :
 PI X (.Tuple elts kx tp) (.Call (.Name "zip" p) [l,l2] [] pos) (λσ H R=>ta σ H λvs H1=>∃b c a1 a2,vs=[.ref a1,.ref a2]/\(∃xs,SqB b X.K H1 a1 xs)/\(∃ys,SqB c X.K H1 a2 ys)/\R (IteZ X.K b c a1 a2) H1):=by
 intro pins s σ H R I h
 refine Call_ (zdm I hg hm PyProof.Rows.boot_zip (vcb (thn (ha pos pins s σ H _ I h) λus s1 ⟨vs,H1,I1,r1,q1⟩=>?_) (by rw[hs,hs2]) (by rw[hs2];rfl)))
 obtain⟨b,c,a1,a2,e,⟨xs,hq⟩,⟨ys,hr⟩,q⟩:=q1
 subst e
 cases r1 with
 |cons r rr=>
  cases rr with
  |cons r' rr=>
   cases rr
   cases r
   cases r'
   obtain⟨its,_,pl,_⟩:=zer I1 hq
   obtain⟨jts,_,pl2,_⟩:=zer I1 hr
   refine zsp pl pl2 λh' e1 e2 e3 e4 e5 hsz kk=>wpAny_pyIter_zip e1 ?_
   have hf:∀b,s1.heap.objs.size<=b->FpOk X pins H1 b:=λb hb=>I1.fpOk hb (I1.hok.fresh hb)
   refine⟨s1.heap.objs.size+4,_,_,_,H1,rfl,I1.kept (t':=s1.toks) kk,zo8 a1 a2 _ _ _ _ _ (zvt pl.lt pl2.lt),⟨e1,e2,⟨_,_,e3⟩,e4,e5⟩,λb hb=>hf b ?_,q⟩
   simp only[vau,vbp,vd8]at hb
   rcases hb with rfl|rfl|rfl|rfl|rfl
   .exact vey _ _
   .exact vey _ _
   .exact vey _ _
   .exact vad _
   .exact vey _ _
noncomputable def Src(K:vga)(b:Bool)(a:Addr)(u:W)(P:(Nat->Addr)->Nat->Hp->Prop):Prop:=
 (∀m n H m' n' H',n<=n'->(∀i,i<n->m' i=m i)->(∀b vs,H b=some (.tup vs)->H' b=some (.tup vs))->(∀b o u,H b=some (.frz o u)->H' b=some (.frz o u))->P m n H->P m' n' H')/\
 ∀m h H ws,Rel K m h H->P m h.n H->seqW h u=some ws->∃vs,SqB b K H a vs/\VReps K m h.n H vs ws
theorem zq5{K:vga}{m:Nat->Addr}{h:VH}{H:Hp}{v:V}{u:W}{ws:List W}(r:Rel K m h H)(q:VRep K m h.n H v u)(e:seqW h u=some ws):∃b a P,v=.ref a/\Src K b a u P/\P m h.n H/\∃xs,SqB b K H a xs:=by
 cases q with
 |non=>cases e
 |bl b=>cases e
 |int b=>cases e
 |str b=>cases e
 |tup sq rs=>exact⟨true,_,λm n H=>SqT K H _ _/\VReps K m n H _ _,rfl,⟨λm n H m' n' H' hn hm kt kf ⟨q1,q2⟩=>⟨zde kt kf q1,q2.mono hn hm kt kf⟩,λm h H ws _ ⟨q1,q2⟩ z=>by cases z;exact⟨_,q1,q2⟩⟩,⟨sq,rs⟩,_,sq⟩
 |fz sq rs=>exact⟨false,_,λm n H=>Fz K H _ _/\VReps K m n H _ _,rfl,⟨λm n H m' n' H' hn hm kt kf ⟨q1,q2⟩=>⟨zmg kf q1,q2.mono hn hm kt kf⟩,λm h H ws _ ⟨q1,q2⟩ z=>by cases z;exact⟨_,q1.sq,q2⟩⟩,⟨sq,rs⟩,_,sq.sq⟩
 |ref hi=>
  rename_i l
  have key:∀m (h:VH) H ws,Rel K m h H->seqW h (.ref l)=some ws->∃vs,H (m l)=some (.lst vs)/\VReps K m h.n H vs ws:=λm h H ws r z=>by
   cases g:h.get l with
   |none=>simp[seqW,g]at z
   |some o=>
    cases o with
    |dk _=>simp[seqW,g]at z
    |dm _=>simp[seqW,g]at z
    |dt _ _=>simp[seqW,g]at z
    |lst ws'=>
     have:ws'=ws:=by simpa[seqW,g]using z
     subst this
     exact r.lst g
  obtain⟨vs,p1,_⟩:=key m h H ws r e
  refine⟨false,_,λm' n _=>l<n/\m l=m' l,rfl,⟨λm1 n H m' n' H' hn hm kt kf ⟨q1,q2⟩=>⟨vah q1 hn,by rw[hm l q1];exact q2⟩,λm1 h H ws r' ⟨q1,q2⟩ z=>?_⟩,⟨hi,rfl⟩,vs,SqL.of p1⟩
  obtain⟨vs,g1,g2⟩:=key m1 h H ws r' z
  rw[q2]
  exact⟨vs,SqL.of g1,g2⟩
theorem zml{u v:W}{h:VH}{i:Nat}{o:Option W}(q:nxt .zip (.tup [u,v]) i h=some o):∃ws zs,seqW h u=some ws/\seqW h v=some zs/\o=(match ws[i]?,zs[i]? with|some a,some b=>some (.tup [a,b])|_,_=>none):=by
 simp only[nxt]at q
 split at q
 .rename_i ws zs h1 h2
  cases q
  exact⟨ws,zs,h1,h2,rfl⟩
 .cases q
theorem zw5{K:vga}{b c:Bool}{a1 a2:Addr}{u v:W}{P1 P2:(Nat->Addr)->Nat->Hp->Prop}(s1:Src K b a1 u P1)(s2:Src K c a2 v P2):ItOk K (nxt .zip (.tup [u,v])) (IteZ K b c a1 a2) (λm n H=>P1 m n H/\P2 m n H):=by
 refine⟨λm n H m' n' H' hn hm kt kf ⟨q1,q2⟩=>⟨s1.1 m n H m' n' H' hn hm kt kf q1,s2.1 m n H m' n' H' hn hm kt kf q2⟩,λm h H r ⟨q1,q2⟩ i=>⟨λw e=>?_,λe=>?_⟩⟩
 .obtain⟨ws,zs,e1,e2,e3⟩:=zml e
  obtain⟨xs,g1,g2⟩:=s1.2 m h H ws r q1 e1
  obtain⟨ys,g3,g4⟩:=s2.2 m h H zs r q2 e2
  cases z1:ws[i]? with
  |none=>rw[z1]at e3;cases e3
  |some w1=>
   cases z2:zs[i]? with
   |none=>rw[z1,z2]at e3;cases e3
   |some w2=>
    rw[z1,z2]at e3;cases e3
    obtain⟨v1,k1,k2⟩:=g2.get z1
    obtain⟨v2,k3,k4⟩:=g4.get z2
    refine⟨⟨xs,ys,v1,v2,g1,g3,k1,k3⟩,λy H3 ⟨T,x3,y3,f1,f2,f3,f4,f5⟩=>?_⟩
    subst f1 f3
    have t1:=f4 xs g1
    have t2:=f5 ys g3
    rw[k1]at t1;cases t1
    rw[k3]at t2;cases t2
    obtain⟨st,r'⟩:=r.more (u:=.tup [v1,v2]) f2
    exact⟨st,r',.tup (SqT.of zan) (.cons (k2.stp st) (.cons (k4.stp st) .nil))⟩
 .obtain⟨ws,zs,e1,e2,e3⟩:=zml e
  obtain⟨xs,g1,g2⟩:=s1.2 m h H ws r q1 e1
  obtain⟨ys,g3,g4⟩:=s2.2 m h H zs r q2 e2
  refine⟨xs,ys,g1,g3,?_⟩
  cases z1:ws[i]? with
  |none=>exact .inl (by rw[g2.length];exact va6.mp z1)
  |some w1=>
   cases z2:zs[i]? with
   |none=>exact .inr (by rw[g4.length];exact va6.mp z2)
   |some w2=>rw[z1,z2]at e3;cases e3
theorem zw6{elts:List Expr}{kx:Nat}{tp:Pos}(ha:SA X [a,b] fa)(hs:zay a=true)(hs2:zay b=true)(hg:Gl X "zip")(hm:X.mg "zip" = none):PI X (.Tuple elts kx tp) (.Call (.Name "zip" p) [a,b] [] pos) (lftI X.K .zip fa):=λpins s σ H R I z9=>z9.el λρ h m x h' f r ee o en k=>by
 have hx:∃u v,x=.tup [u,v]:=by
  simp only[nxt]at en
  split at en
  .exact⟨_,_,rfl⟩
  .cases en
 obtain⟨u,v,rfl⟩:=hx
 obtain⟨ws,zs,e1,e2,_⟩:=zml en
 refine zw4 hg hm ha (by rw[zaj hs,zaj hs2];rfl) (zaj hs2) pins s σ H R I (.mk f r ee λvs H' m' s' r' q=>?_)
 obtain⟨v1,v2,rfl,q1,q2⟩:=reps2 q
 obtain⟨b1,a1,P1,rfl,o1,p1,x1⟩:=zq5 r' q1 e1
 obtain⟨b2,a2,P2,rfl,o2,p2,x2⟩:=zq5 r' q2 e2
 exact⟨b1,b2,a1,a2,rfl,x1,x2,k _ _ H' m' s' r' (zw5 o1 o2) ⟨p1,p2⟩⟩
end
section
variable{X:Cx}{a b c e o:Expr}{es:List Expr}{fa fb fc fo fr:FE}{pos p:Pos}{x:Str}
noncomputable def lftG(K:vga)(t:Tg):TG:=λv σ H Q=>∃ρ h m w ρ',Fr K m h.n H σ ρ/\Rel K m h H/\VRep K m h.n H v w/\tgW t w h ρ=some ρ'/\∀σ',Fr K m h.n H σ' ρ'->Q σ' H
theorem lftG.el{K:vga}{v:V}{σ:L2.St}{H:Hp}{P:Prop}{tg:Tg}{Q}(q:lftG K tg v σ H Q)(k:∀ρ h m w ρ',Fr K m h.n H σ ρ->Rel K m h H->VRep K m h.n H v w->tgW tg w h ρ=some ρ'->(∀σ',Fr K m h.n H σ' ρ'->Q σ' H)->P):P:=by
 obtain⟨ρ,h,m,w,h',f,r,e,eo,k'⟩:=q
 exact k ρ h m w h' f r e eo k'
theorem lftG.mk{K:vga}{v:V}{σ:L2.St}{H:Hp}{m:Nat->Addr}{ρ ρ':En}{h:VH}{w:W}{tg:Tg}{Q}(f:Fr K m h.n H σ ρ)(r:Rel K m h H)(e:VRep K m h.n H v w)(eo:tgW tg w h ρ=some ρ')(k:∀σ',Fr K m h.n H σ' ρ'->Q σ' H):lftG K tg v σ H Q:=⟨ρ,h,m,w,ρ',f,r,e,eo,k⟩
theorem zq6{i:Nat}(hN:X.N.Nodup)(hi:X.N[i]?=some x)(hx:Loc X.env.scope x)(hf:X.fn x=true\/X.env.scope.names.lookup x=some .local):PG X (.Name x pos) (lftG X.K (.one i)):=λpins s σ H v u Q I ru z9=>z9.el λρ h m w ρ' f r q e k=>by
 cases e
 exact zlc hN hi hx hf pins s σ H v u Q I ru (k _ (f.set q i))
noncomputable def NmOk(X:Cx)(e:Expr)(i:Nat):Prop:=∃x p,e=.Name x p/\X.N[i]?=some x/\Loc X.env.scope x/\(X.fn x=true\/X.env.scope.names.lookup x=some .local)
noncomputable def lftGs(K:vga)(is:List Nat):TGs:=λvs σ H Q=>∃ρ m n ws ρ',Fr K m n H σ ρ/\VReps K m n H vs ws/\zaz is ws ρ=some ρ'/\∀σ',Fr K m n H σ' ρ'->Q σ' H
theorem zq7(hN:X.N.Nodup):∀{es:List Expr} {is:List Nat},Paired (NmOk X) es is->PGs X es (lftGs X.K is)/\(assignEach es X.env).length=es.length/\(assignEach es X.env).findIdx? (·.1)=none
 |_,_,.nil=>by
  refine⟨λpins s σ H vs us Q I ru ⟨ρ,m,n,ws,ρ',f,q,e,k⟩=>?_,rfl,rfl⟩
  cases ws with
  |nil=>cases e;cases q;exact zld pins s σ H [] us Q I ru ⟨rfl,k _ f⟩
  |cons _ _=>cases e
 |e::es,i::is,.cons ⟨x,p,he,hi,hx,hf⟩ t=>by
  subst he
  obtain⟨h1,h2,h3⟩:=zq7 hN t
  refine⟨λpins s σ H vs us Q I ru ⟨ρ,m,n,ws,ρ',f,q,e,k⟩=>?_,?_,?_⟩
  .cases q with
   |nil=>cases e
   |cons q qs=>
    exact zfd (zlc hN hi hx hf) h1 rfl pins s σ H _ us Q I ru ⟨_,_,rfl,ρ.set i (some _),m,n,_,ρ',f.set q i,qs,e,k⟩
  .show(assignEach es X.env).length+1=es.length+1
   rw[h2]
  .show List.findIdx? _ ((false,_)::assignEach es X.env)=none
   rw[List.findIdx?_cons,h3];rfl
theorem zeu:∀{is:List Nat} {ws:List W} {ρ ρ':En},zaz is ws ρ=some ρ'->ws.length=is.length
 |[],[],_,_,_=>rfl
 |[],_::_,_,_,e=>by cases e
 |_::_,[],_,_,e=>by cases e
 |_::_,_::_,_,_,e=>by
  rw[vaj,vaj,zeu (by simpa only[zaz]using e)]
theorem zw7{t:TGs}{n k:Nat}(hc:X.calm=true)(h:PGs X es t)(hn:(assignEach es X.env).length=n)(hst:(assignEach es X.env).findIdx? (·.1)=none) :
 PG X (.Tuple es k pos) (λv σ H Q=>∃a xs,v=.ref a/\SqL X.K H a xs/\xs.length=n/\t xs σ H Q):=by
 intro pins s σ H v u Q I r hw
 obtain⟨a,xs,rfl,hq,hl,hw⟩:=hw
 cases r
 obtain⟨its,rv,ht,hz⟩:=I.list hq
 rw[assign_Tuple]
 refine vaa (vff ?_)
 unfold unpack
 have hsz:(assignEach es X.env).length=its.toArray.size:=by rw[hn,<-hl,rv.length,vam]
 rw[hst,hsz]
 refine vaa (vck (PySem.W.kun_itemsOf (I.ok.hd hc) ht.isList λh' hx=>?_))
 have I1:Inv X pins σ H {s with heap:=h'}:=I.kept (t':=s.toks) λb o e=>hx b o (vaz (vap e)) e
 exact h pins _ σ H xs _ Q I1 (by simpa using rv) hw
theorem zhy{is:List Nat}{k:Nat}(hc:X.calm=true)(hN:X.N.Nodup)(hs:Paired (NmOk X) es is):PG X (.Tuple es k pos) (lftG X.K (.many is)):=λpins s σ H v u Q I ru z9=>z9.el λρ h m w ρ' f r q e k=>by
 obtain⟨h1,h2,h3⟩:=zq7 hN hs
 simp only[tgW]at e
 cases z:seqW h w with
 |none=>rw[z]at e;cases e
 |some ws=>
  rw[z]at e
  have e:zaz is ws ρ=some ρ':=e
  obtain⟨p,vs,rfl,hq,qs⟩:=zdw r q z
  have hl:vs.length=es.length:=by rw[qs.length,zeu e,hs.length]
  rcases hq with hq|hq
  .exact zw7 hc h1 h2 h3 pins s σ H _ u Q I ru ⟨p,vs,rfl,hq,hl,ρ,m,h.n,ws,ρ',f,qs,e,k⟩
  .exact zqs hc h1 h2 h3 pins s σ H _ u Q I ru ⟨p,vs,rfl,hq,hl,ρ,m,h.n,ws,ρ',f,qs,e,k⟩
theorem zw8{is:List Nat}{j k k':Nat}{p':Pos}{en:Expr}(hc:X.calm=true)(hN:X.N.Nodup)(hs:Paired (NmOk X) es is)(hj:NmOk X en j):PG X (.Tuple [.Tuple es k' p',en] k pos) (lftG X.K (.two is j)):=λpins s σ H v u Q I ru z9=>z9.el λρ h m w ρ' f r q e kk=>by
 obtain⟨x,px,rfl,g1,g2,g3⟩:=hj
 simp only[tgW]at e
 split at e
 .rename_i wa wb
  cases z:seqW h wa with
  |none=>rw[z]at e;cases e
  |some ws=>
   rw[z]at e
   dsimp only at e
   cases z2:zaz is ws ρ with
   |none=>rw[z2]at e;cases e
   |some ρ1=>
    rw[z2]at e
    cases e
    cases q with
    |tup s1 s2=>
     obtain⟨va,vb,rfl,q1,q2⟩:=reps2 s2
     refine zqs hc (zfd (zhy hc hN hs) (zfd (zq6 hN g1 g2 g3) zld)) rfl rfl pins s σ H _ u Q I ru ⟨_,_,rfl,s1,rfl,va,[vb],rfl,?_⟩
     refine .mk f r q1 (show tgW (.many is) wa h ρ=some ρ1 by simp only[tgW,z];exact z2) λσ1 f1=>?_
     refine⟨vb,[],rfl,.mk f1 r q2 rfl λσ2 f2=>?_⟩
     exact⟨rfl,kk σ2 f2⟩
 .cases e
theorem zpl{K:vga}{m:Nat->Addr}{n:Nat}{H:Hp}{σ:L2.St}{ρ:En}{ow fr:List Str}{ix:List Nat}(f:Fr K m n H σ ρ):Fr K m n H (cσ ow fr ix σ) (inner ow.length ix ρ):=by
 unfold cσ inner
 refine⟨by simp,λi w e=>?_⟩
 by_cases hi:i<ow.length
 .rw[vbx (by simpa using hi)]at e
  rw[vcr]at e
  split at e<;>cases e
 .rw[va0 (by simpa using vb9.mp hi)]at e
  rw[va0 (by simpa using vb9.mp hi)]
  simp only[vcn,vaf]at e ⊢
  rw[vas]at e ⊢
  cases z:ix[i-ow.length]? with
  |none=>rw[z]at e;cases e
  |some j=>
   rw[z]at e
   simp only[vaw,vcu]at e ⊢
   have e3:ρ[j]?=some (some w):=by
    cases q:ρ[j]? with
    |none=>rw[q]at e;cases e
    |some o=>rw[q]at e;rw[<-e];rfl
   obtain⟨v,h1,h2⟩:=f.val j w e3
   exact⟨v,by rw[h1];rfl,h2⟩
theorem zhz{nx:Nat->VH->Option (Option W)}{tg:W->VH->En->Option En}{c e:FE}:∀{f i:Nat} {ρ:En} {h:VH} {acc ys:List W} {h':VH},lcG nx tg c e f i ρ h acc=.ok ys h'->acc.length<=ys.length
 |0,_,_,_,_,_,_,q=>by cases q
 |f+1,i,ρ,h,acc,ys,h',q=>by
  simp only[lcG]at q
  split at q
  .cases q
  .cases q;simp
  .split at q
   .cases q
   .refine zac q λb h1 e1 e2=>?_
    split at e2
    .refine zac e2 λy h2 e3 e4=>?_
     have:=zhz e4
     rw[vaj]at this
     omega
    .exact zhz e2
    .cases e2
theorem zw9{nx:Nat->VH->Option (Option W)}{tg:W->VH->En->Option En}{c e:FE}{f i:Nat}{ρ:En}{h:VH}{acc ys:List W}{h':VH}(q:lcG nx tg c e (f+1) i ρ h acc=.ok ys h'):∃o,nx i h=some o:=by
 simp only[lcG]at q
 split at q
 .cases q
 .exact⟨_,by assumption⟩
 .exact⟨_,by assumption⟩
theorem zpm{H:Hp}{a:Addr}{o:HO}(h:H a=some o):upd H a o=H:=by
 funext b
 unfold upd
 split
 .rename_i e;rw[e,h]
 .rfl
noncomputable abbrev gLc(kd:Kd)(fa:FE)(t:Tg)(ow:Nat)(ix:List Nat)(fc fe:FE):FE:=λρ h=>(fa ρ h).bind λx h=>(lcG (nxt kd x) (tgW t) fc fe fuel 0 (inner ow ix ρ) h []).bind λys h=>if Nat.ble ys.length big then .ok (.ref h.n) (h.new (.lst ys))else .no
theorem lc_ok{K:vga}{kd:Kd}{t:Tg}{ow fr:List Str}{ix:List Nat}{fe:FE}{σ:L2.St}{H:Hp}{Q:VK}(q:lft K (gLc kd fa t ow.length ix fc fe) σ H Q):tLC K (cσ ow fr ix) (lftI K kd fa) (lftG K t) (lftT K fc) (lft K fe) σ H Q:=by
 refine q.el λρ h m w h' f r e k=>?_
 refine zac e λx h1 e1 e2=>?_
 refine zac e2 λys h2 e3 e4=>?_
 split at e4
 case isFalse=>cases e4
 rename_i hz
 cases e4
 have hz:=vbh hz
 refine(.mk f r e1 ?_ λJ P H1 m1 s1 r1 J1 p1 D hD hK=>?_)
 .exact zw9 (f:=999999) e3
 obtain⟨st0,r0⟩:=r1.more (u:=.lst []) hD
 have p0:=J1.1 m1 h1.n H1 m1 h1.n (upd H1 D (.lst [])) (vad _) (λ_ _=>rfl) (λb vs q=>st0.tup b vs q) (λb o u q=>st0.frz b o u q) p1
 refine⟨λi fl σ' H' vs=>∃ρ' h3 m3 acc,lcG (nxt kd x) (tgW t) fc fe fl i ρ' h3 acc=.ok ys h2/\Fr K m3 h3.n H' σ' ρ'/\Rel K m3 h3 H'/\H' D=some (.lst vs)/\VReps K m3 h3.n H' vs acc.reverse/\(∀i,i<h3.n->m3 i≠D)/\Stp m1 h1.n H1 m3 h3.n H'/\P m3 h3.n H',
  ⟨fuel,inner ow.length ix ρ,h1,m1,[],e3,zpl ((f.stp s1).stp st0),r0,zan,.nil,r1.out hD,st0,p0⟩,?_⟩
 rintro i fl σ' H' vs ⟨ρ',h3,m3,acc,e5,f3,r3,d3,q3,o3,s3,p3⟩
 refine⟨d3,?_⟩
 cases fl with
 |zero=>cases e5
 |succ fl=>
  simp only[lcG]at e5
  obtain⟨j1,j2⟩:=J1.2 m3 h3 H' r3 p3 i
  split at e5
  .cases e5
  .rename_i hn
   cases e5
   refine .inl ⟨j2 hn,?_⟩
   obtain⟨st,r'⟩:=r3.adopt (o:=.lst acc.reverse) (u:=.lst vs) o3 d3 (λ_ z=>nomatch z) (λ_ _ z=>nomatch z) (s1.trans s3) (by
    cases z:H D with
    |none=>rfl
    |some o=>
     have:=s1.keep D o (λi hi z2=>(r1.out hD) i (vah hi s1.le) ((s1.same i hi).trans z2)) z
     rw[hD]at this;cases this) λ_ mv=>⟨_,zan,q3.map mv⟩
   rw[zpm d3]at st r'
   refine k _ _ _ st r' ?_
   have:VRep K (λi=>if i=h2.n then D else m3 i) (h2.n+1) H' (.ref ((λi=>if i=h2.n then D else m3 i) h2.n)) (.ref h2.n):=.ref (vbc _)
   simp only[va8]at this
   exact this
  .rename_i w hn
   obtain⟨j3,j4⟩:=j1 w hn
   refine .inr ⟨j3,λy H4 hy=>?_⟩
   obtain⟨s4,r4,q4⟩:=j4 y H4 hy
   split at e5
   .cases e5
   .rename_i ρ5 ht
    refine⟨ρ',h3,m3,w,ρ5,f3.stp s4,r4,q4,ht,λσ5 f5=>?_⟩
    refine zac e5 λbv h6 e6 e7=>?_
    have d4:H4 D=some (.lst vs):=s4.keep D _ o3 d3
    have s14:=s3.trans s4
    have p4:=J1.1 m3 h3.n H' m3 h3.n H4 (vad _) (λ_ _=>rfl) (λb vs q=>s4.tup b vs q) (λb o u q=>s4.frz b o u q) p3
    cases bv<;>try cases e7
    rename_i bb
    refine⟨ρ5,h3,m3,bb,h6,f5,r4,e6,λH6 m6 s6 r6=>?_⟩
    have o6:=s6.out o3 d4
    have d6:H6 D=some (.lst vs):=s6.keep D _ o3 d4
    have p6:=J1.1 m3 h3.n H4 m6 h6.n H6 s6.le s6.same (λb vs q=>s6.tup b vs q) (λb o u q=>s6.frz b o u q) p4
    cases bb with
    |false=>
     simp only[vak,va7]
     exact⟨fl,vbc _,ρ5,h6,m6,acc,e7,f5.stp s6,r6,d6,(q3.stp s4).stp s6,o6,s14.trans s6,p6⟩
    |true=>
     simp only[va8]
     refine zac e7 λy7 h7 e8 e9=>?_
     refine⟨ρ5,h6,m6,y7,h7,f5.stp s6,r6,e8,λv7 H7 m7 s7 r7 q7=>?_⟩
     have o7:=s7.out o6 d6
     have d7:H7 D=some (.lst vs):=s7.keep D _ o6 d6
     have p7:=J1.1 m6 h6.n H6 m7 h7.n H7 s7.le s7.same (λb vs q=>s7.tup b vs q) (λb o u q=>s7.frz b o u q) p6
     have q37:=((q3.stp s4).stp s6).stp s7
     have hlen:=zhz e9
     rw[vaj]at hlen
     refine⟨d7,?_,fl,vbc _,ρ5,h7,m7,y7::acc,e9,?_⟩
     .rw[q37.length,vdm]
      have:big=sizeLine:=rfl
      omega
     .obtain⟨st8,r8,mv⟩:=r7.side (u:=.lst (vs++[v7])) d7 (λ_ z=>nomatch z) (λ_ _ z=>nomatch z) o7 ((s14.trans s6).trans s7) hD
      have kt:∀b us,H7 b=some (.tup us)->upd H7 D (.lst (vs++[v7])) b=some (.tup us):=λb us q=>by rw[zae (ne_of q d7 λz=>nomatch z)];exact q
      have kf:∀b o u,H7 b=some (.frz o u)->upd H7 D (.lst (vs++[v7])) b=some (.frz o u):=λb o u q=>by rw[zae (ne_of q d7 λz=>nomatch z)];exact q
      refine⟨⟨(f5.stp s6).len,λi w e=>let⟨v,h1,h2⟩:=((f5.stp s6).stp s7).val i w e;⟨v,h1,mv h2⟩⟩,r8,zan,?_,o7,st8,J1.1 m7 h7.n H7 m7 h7.n _ (vad _) (λ_ _=>rfl) kt kf p7⟩
      rw[List.reverse_cons]
      exact(q37.map mv).append (.cons (mv q7) .nil)
end
noncomputable def Grow(h h':VH):Prop:=h.n<=h'.n/\h'.lo<=h.lo/\∀i,i<h.n->i<h'.lo->h'.get i=h.get i
theorem Grow.refl{h:VH}:Grow h h:=⟨vad _,vad _,λ_ _ _=>rfl⟩
theorem Grow.trans{h h1 h2:VH}(a:Grow h h1)(b:Grow h1 h2):Grow h h2:=⟨vbo a.1 b.1,vbo b.2.1 a.2.1,λi hi hl=>(b.2.2 i (vah hi a.1) hl).trans (a.2.2 i hi (vah hl b.2.1))⟩
theorem Grow.new{h:VH}{o:VO}:Grow h (h.new o):=⟨vci _,vad _,λi hi _=>zab hi⟩
theorem Grow.set{h:VH}{i:Nat}{o:VO}(hi:i<h.n):Grow h (h.set i o):=by
 refine⟨vad _,?_,λj hj hl=>zcw hi ?_⟩
 .show(if Nat.blt i h.lo then i else h.lo)<=h.lo
  split
  .rename_i q;exact vdh (zap.mp q)
  .exact vad _
 .have hl:j< (if Nat.blt i h.lo then i else h.lo):=hl
  split at hl
  .omega
  .rename_i q
   intro z
   rw[z]at hl
   exact q (zap.mpr hl)
noncomputable def Gr{α:Type}(r:Res α)(h:VH):Prop:=∀a h',r=.ok a h'->Grow h h'
section
variable{α β:Type}{h:VH}
theorem Gr.ok{a:α}:Gr (Res.ok a h) h:=λ_ _ e=>by cases e;exact .refl
theorem Gr.no:Gr (Res.no:Res α) h:=λ_ _ e=>by cases e
theorem Gr.of{o:Option α}:Gr (Res.of o h) h:=λ_ _ e=>by cases o with|none=>cases e|some a=>cases e;exact .refl
theorem Gr.new{a:α}{o:VO}:Gr (Res.ok a (h.new o)) h:=λ_ _ e=>by cases e;exact .new
theorem Gr.set{a:α}{o o':VO}{i:Nat}(g:h.get i=some o'):Gr (Res.ok a (h.set i o)) h:=λ_ _ e=>by cases e;exact .set (zah g)
theorem Gr.bind{r:Res α}{f:α->VH->Res β}(a:Gr r h)(b:∀x h1,Gr (f x h1) h1):Gr (r.bind f) h:=λy h' e=>by
 cases r with
 |ok x h1=>exact(a x h1 rfl).trans (b x h1 y h' e)
 |ex _ _=>cases e
 |no=>cases e
end
theorem gr_op{o:Op}{x y:W}{h:VH}:Gr (opW o x y h) h:=by
 unfold opW
 split
 .exact .of
 .split
  .split
   .exact .new
   .exact .no
  .exact .no
 .split
  .split
   .exact .new
   .exact .no
  .exact .no
 .exact .no
theorem gr_ip{o:Op}{x y:W}{h:VH}:Gr (ipW o x y h) h:=by
 unfold ipW
 split
 .split
  .exact .ok
  .exact .no
 .exact .no
theorem zxa{x:W}{l u:Option Int}{h:VH}:Gr (slcW x l u h) h:=by
 unfold slcW
 split
 .exact .ok
 .split
  .exact .new
  .exact .no
 .exact .no
theorem gr_bi{b:Bi}{xs:List W}{h:VH}:Gr (biW b xs h) h:=by
 cases b<;>simp only[biW]
 .unfold lenW;split<;>first|exact .of|exact .no
 .unfold listW
  split
  .split
   .exact .new
   .split
    .exact .new
    .exact .no
  .exact .no
 .unfold zb3;split<;>first|exact .of|exact .no
 .unfold intW;split<;>first|exact .ok|exact .no
 .unfold absW;split<;>first|exact .ok|exact .no
 .unfold maxW;split<;>first|exact .ok|exact .no
 .unfold minW;split<;>first|exact .ok|exact .no
 .unfold allW
  split
  .split
   .exact .of
   .exact .no
  .exact .no
 .unfold lrngW
  split
  .split
   .exact .new
   .exact .no
  .exact .no
 .unfold sumW
  split
  .split
   .exact .of
   .exact .no
  .exact .no
 .unfold dvmW
  split
  .split
   .exact .ok
   .exact .no
  .exact .no
 .unfold srtW
  split
  .split
   .split
    .split
     .exact .new
     .exact .no
    .exact .no
   .exact .no
  .exact .no
 .unfold dm0W
  split
  .exact .new
  .exact .no
 .unfold frzW
  split
  .split
   .rename_i g;exact .set g
   .exact .no
  .exact .no
theorem zxb{x w:W}{l u:Option Int}{h:VH}:Gr (ptsW x w l u h) h:=by
 unfold ptsW
 split
 .split
  .split
   .exact .no
   .split
    .rename_i g _ _ _;exact .set g
    .exact .no
  .exact .no
 .exact .no
theorem gr_mt{m:Mt}{o:W}{xs:List W}{h:VH}:Gr (mtW m o xs h) h:=by
 unfold mtW
 split
 .split
  .split
   .rename_i g _;exact .set g
   .exact .no
  .exact .no
 .split
  .exact .ok
  .exact .ok
  .exact .no
 .exact .of
 .exact .no
theorem zmm{nx:Nat->VH->Option (Option W)}{tg:W->VH->En->Option En}{c e:En->VH->Res W}(hc:∀ρ h,Gr (c ρ h) h)(he:∀ρ h,Gr (e ρ h) h):∀(f i:Nat) (ρ:En) (h:VH) (acc:List W),Gr (lcI nx tg c e f i ρ h acc) h
 |0,_,_,_,_=>.no
 |f+1,i,ρ,h,acc=>by
  simp only[lcI]
  split
  .exact .no
  .exact .ok
  .split
   .exact .no
   .refine .bind (hc _ _) λb h1=>?_
    split
    .exact .bind (he _ _) λy h2=>zmm hc he f _ _ _ _
    .exact zmm hc he f _ _ _ _
    .exact .no
theorem zmn{nx:Nat->VH->Option (Option W)}{tg:W->VH->En->Option En}{c:En->VH->Res W}{e:En->VH->List W->Res (En×List W)}(hc:∀ρ h,Gr (c ρ h) h)(he:∀ρ h acc,Gr (e ρ h acc) h):∀(f i:Nat) (ρ:En) (h:VH) (acc:List W),Gr (lcO nx tg c e f i ρ h acc) h
 |0,_,_,_,_=>.no
 |f+1,i,ρ,h,acc=>by
  simp only[lcO]
  split
  .exact .no
  .exact .ok
  .split
   .exact .no
   .refine .bind (hc _ _) λb h1=>?_
    split
    .exact .bind (he _ _ _) λy h2=>zmn hc he f _ _ _ _
    .exact zmn hc he f _ _ _ _
    .exact .no
theorem gr_lc{nx:Nat->VH->Option (Option W)}{tg:W->VH->En->Option En}{c e:En->VH->Res W}(hc:∀ρ h,Gr (c ρ h) h)(he:∀ρ h,Gr (e ρ h) h):∀(f i:Nat) (ρ:En) (h:VH) (acc:List W),Gr (lcG nx tg c e f i ρ h acc) h
 |0,_,_,_,_=>.no
 |f+1,i,ρ,h,acc=>by
  simp only[lcG]
  split
  .exact .no
  .exact .ok
  .split
   .exact .no
   .refine .bind (hc _ _) λb h1=>?_
    split
    .exact .bind (he _ _) λy h2=>gr_lc hc he f _ _ _ _
    .exact gr_lc hc he f _ _ _ _
    .exact .no
theorem gr_dc{nx:Nat->VH->Option (Option W)}{tg:W->VH->En->Option En}{c e v:En->VH->Res W}(hc:∀ρ h,Gr (c ρ h) h)(he:∀ρ h,Gr (e ρ h) h)(hv:∀ρ h,Gr (v ρ h) h):∀(f i:Nat) (ρ:En) (h:VH) (acc:List (L2.Key×W)),Gr (dcG nx tg c e v f i ρ h acc) h
 |0,_,_,_,_=>.no
 |f+1,i,ρ,h,acc=>by
  simp only[dcG]
  split
  .exact .no
  .exact .ok
  .split
   .exact .no
   .refine .bind (hc _ _) λb h1=>?_
    split
    .refine .bind (he _ _) λy h2=>.bind (hv _ _) λz h3=>?_
     split
     .split
      .exact gr_dc hc he hv f _ _ _ _
      .exact .no
     .exact .no
    .exact gr_dc hc he hv f _ _ _ _
    .exact .no
theorem zmo{nx:Nat->VH->Option (Option W)}{tg:W->VH->En->Option En}{b:En->VH->Res Fl}(hb:∀ρ h,Gr (b ρ h) h):∀(f i:Nat) (ρ:En) (h:VH),Gr (forG nx tg b f i ρ h) h
 |0,_,_,_=>.no
 |f+1,i,ρ,h=>by
  simp only[forG]
  split
  .exact .no
  .exact .ok
  .split
   .exact .no
   .refine .bind (hb _ _) λfl h1=>?_
    split
    .exact zmo hb f _ _ _
    .exact zmo hb f _ _ _
    .exact .ok
    .exact .ok
theorem zmp{c:En->VH->Res W}{b:En->VH->Res Fl}(hc:∀ρ h,Gr (c ρ h) h)(hb:∀ρ h,Gr (b ρ h) h):∀(f:Nat) (ρ:En) (h:VH),Gr (whlG c b f ρ h) h
 |0,_,_=>.no
 |f+1,ρ,h=>by
  simp only[whlG]
  refine .bind (hc _ _) λt h1=>?_
  split
  .exact .ok
  .refine .bind (hb _ _) λfl h2=>?_
   split
   .exact zmp hc hb f _ _
   .exact zmp hc hb f _ _
   .exact .ok
   .exact .ok
  .exact .no
section
variable{cl:Call}
theorem gr_ev(hcl:∀f ws h,Gr (cl f ws h) h):∀(e:E) (ρ:En) (h:VH),Gr (ev cl e ρ h) h:=by
 intro e
 induction e with
 |var i=>intro ρ h;exact .of
 |cst w=>intro ρ h;exact .ok
 |nil=>intro ρ h;exact .ok
 |cons a r i1 i2=>intro ρ h;simp only[ev];refine .bind (i1 _ _) λx h1=>.bind (i2 _ _) λy h2=>?_;split<;>first|exact .ok|exact .no
 |tup a i1=>intro ρ h;simp only[ev];refine .bind (i1 _ _) λx h1=>?_;split<;>first|(split<;>first|exact .ok|exact .no)|exact .no
 |lst a i1=>intro ρ h;simp only[ev];refine .bind (i1 _ _) λx h1=>?_;split<;>first|(split<;>first|exact .new|exact .no)|exact .no
 |dsp a i1=>
  intro ρ h;simp only[ev];refine .bind (i1 _ _) λx h1=>?_
  split
  .split
   .split
    .exact .new
    .exact .no
   .unfold dspD
    split
    .split
     .exact .new
     .exact .no
    .exact .no
  .exact .no
 |op o a b i1 i2=>intro ρ h;simp only[ev];exact .bind (i1 _ _) λx h1=>.bind (i2 _ _) λy h2=>gr_op
 |neg a i1=>intro ρ h;simp only[ev];refine .bind (i1 _ _) λx h1=>?_;split<;>first|exact .ok|exact .no
 |cmp c a b i1 i2=>intro ρ h;simp only[ev];exact .bind (i1 _ _) λx h1=>.bind (i2 _ _) λy h2=>.of
 |chn c d a b e i1 i2 i3=>
  intro ρ h;simp only[ev];refine .bind (i1 _ _) λx h1=>.bind (i2 _ _) λy h2=>?_
  split
  .exact .bind (i3 _ _) λz h3=>.of
  .exact .ok
  .exact .no
 |not a i1=>intro ρ h;simp only[ev];refine .bind (i1 _ _) λx h1=>?_;split<;>first|exact .ok|exact .no
 |and a b i1 i2=>intro ρ h;simp only[ev];refine .bind (i1 _ _) λx h1=>?_;split<;>first|exact i2 _ _|exact .ok|exact .no
 |or a b i1 i2=>intro ρ h;simp only[ev];refine .bind (i1 _ _) λx h1=>?_;split<;>first|exact i2 _ _|exact .ok|exact .no
 |tru a i1=>intro ρ h;simp only[ev];exact .bind (i1 _ _) λx h1=>.of
 |ite c a b i1 i2 i3=>
  intro ρ h;simp only[ev];refine .bind (i1 _ _) λx h1=>?_
  split
  .exact i2 _ _
  .exact i3 _ _
  .exact .no
 |idx a b i1 i2=>intro ρ h;simp only[ev];exact .bind (i1 _ _) λx h1=>.bind (i2 _ _) λy h2=>.of
 |slc a bl lo bh hi i1 i2 i3=>
  intro ρ h;simp only[ev];refine .bind (i1 _ _) λx h1=>.bind (i2 _ _) λy h2=>.bind (i3 _ _) λz h3=>?_
  split
  .exact zxa
  .exact .no
 |call f a i1=>intro ρ h;simp only[ev];refine .bind (i1 _ _) λx h1=>?_;split<;>first|exact hcl _ _ _|exact .no
 |bi b a i1=>intro ρ h;simp only[ev];refine .bind (i1 _ _) λx h1=>?_;split<;>first|exact gr_bi|exact .no
 |isi t a i1=>intro ρ h;simp only[ev];exact .bind (i1 _ _) λx h1=>.of
 |mt m o a i1 i2=>
  intro ρ h;simp only[ev];refine .bind (i1 _ _) λx h1=>?_
  split
  .refine .bind (i2 _ _) λy h2=>?_
   split<;>first|exact gr_mt|exact .no
  .exact .no
 |lc k a t ow ix c e i1 i2 i3=>
  intro ρ h;simp only[ev]
  refine .bind (i1 _ _) λx h1=>.bind (gr_lc i2 i3 _ _ _ _ _) λys h2=>?_
  split
  .exact .new
  .exact .no
 |lc2 k a t ow ix c k2 a2 t2 c2 e i1 i2 i3 i4 i5=>
  intro ρ h;simp only[ev]
  refine .bind (i1 _ _) λx h1=>.bind (zmn i2 (λρ h acc=>.bind (i3 _ _) λy h2=>zmm i4 i5 _ _ _ _ _) _ _ _ _ _) λys h2=>?_
  split
  .exact .new
  .exact .no
 |dc k a t ow ix c e v i1 i2 i3 i4=>
  intro ρ h;simp only[ev]
  exact .bind (i1 _ _) λx h1=>.bind (gr_dc i2 i3 i4 _ _ _ _ _) λys h2=>.new
theorem zjb(hcl:∀f ws h,Gr (cl f ws h) h):∀(s:S) (ρ:En) (h:VH),Gr (exs cl s ρ h) h:=by
 have ge:=gr_ev hcl
 intro s
 induction s with
 |skip=>intro ρ h;exact .ok
 |seq a b i1 i2=>intro ρ h;simp only[exs];refine .bind (i1 _ _) λfl h1=>?_;split<;>first|exact i2 _ _|exact .ok
 |set i e=>intro ρ h;simp only[exs];exact .bind (ge _ _ _) λw h1=>.ok
 |unp is e=>intro ρ h;simp only[exs];exact .bind (ge _ _ _) λw h1=>.of
 |aug i o e=>
  intro ρ h;simp only[exs]
  split
  .exact .bind (ge _ _ _) λy h1=>.bind gr_ip λz h2=>.ok
  .exact .no
 |put o i v=>
  intro ρ h;simp only[exs]
  refine .bind (ge _ _ _) λw h1=>.bind (ge _ _ _) λx h2=>.bind (ge _ _ _) λy h3=>?_
  split
  .split
   .split
    .rename_i g _ _ _;exact .set g
    .exact .no
   .unfold putM
    split
    .split
     .rename_i g _;exact .set g
     .exact .no
    .exact .no
  .unfold putD
   split
   .split
    .rename_i g _ _;exact .set g
    .exact .no
   .exact .no
  .exact .no
 |pts o bl lo bh hi v=>
  intro ρ h;simp only[exs]
  refine .bind (ge _ _ _) λw h1=>.bind (ge _ _ _) λx h2=>.bind (ge _ _ _) λl h3=>.bind (ge _ _ _) λu h4=>?_
  split
  .exact .bind zxb λ_ h5=>.ok
  .exact .no
 |ite c a b i1 i2=>
  intro ρ h;simp only[exs];refine .bind (ge _ _ _) λx h1=>?_
  split
  .exact i1 _ _
  .exact i2 _ _
  .exact .no
 |ret e=>intro ρ h;simp only[exs];exact .bind (ge _ _ _) λw h1=>.ok
 |expr e=>intro ρ h;simp only[exs];exact .bind (ge _ _ _) λw h1=>.ok
 |brk=>intro ρ h;exact .ok
 |cnt=>intro ρ h;exact .ok
 | «for» k a t b i1=>intro ρ h;simp only[exs];exact .bind (ge _ _ _) λx h1=>zmo i1 _ _ _ _
 |whl c b i1=>intro ρ h;simp only[exs];exact zmp (ge c) i1 _ _ _
 |no=>intro ρ h;exact .no
end
theorem zjc(F:Nat->Option Fn):∀(k f:Nat) (ws:List W) (h:VH),Gr (run F k f ws h) h
 |0,_,_,_=>.no
 |k+1,f,ws,h=>by
  intro a h' e
  simp only[run]at e
  split at e
  .rename_i fn hf
   split at e
   .rename_i hl
    generalize hr:exs (run F k) fn.body (ws.map some++vgc (fn.n-fn.ps) none) ⟨h.n,h.n,h.os⟩=r at e
    have g:=zjb (zjc F k) fn.body (ws.map some++vgc (fn.n-fn.ps) none) ⟨h.n,h.n,h.os⟩
    rw[hr]at g
    have lv:∀w h1,Grow ⟨h.n,h.n,h.os⟩ h1->leave h w h1=.ok a h'->Grow h h':=by
     intro w h1 g1 e1
     unfold leave at e1
     split at e1
     .cases e1;exact .refl
     .cases e1
      refine⟨g1.1,?_,λi hi hlo=>?_⟩
      .show(if Nat.ble h.lo h1.lo then h.lo else h1.lo)<=h.lo
       split
       .exact vad _
       .rename_i q
        exact Nat.le_of_not_le λz=>q (veq.mpr z)
      .have hlo:i< (if Nat.ble h.lo h1.lo then h.lo else h1.lo):=hlo
       have hh:i<h1.lo:=by
        split at hlo
        .rename_i q;exact vah hlo (vbh q)
        .exact hlo
       exact g1.2.2 i hi hh
    cases r with
    |no=>cases e
    |ex _ _=>cases e
    |ok fl h1=>
     have g1:=g fl h1 rfl
     simp only[Res.bind]at e
     split at e
     .exact lv _ _ g1 e
     .exact lv _ _ g1 e
     .cases e
   .cases e
  .cases e
noncomputable def FlOk(K:vga)(m:Nat->Addr)(n:Nat)(H:Hp)(D:Ends):Fl->Prop
 |.nx ρ=>∀σ,Fr K m n H σ ρ->D.nx σ H
 |.bk ρ=>∀σ,Fr K m n H σ ρ->D.bk σ H
 |.ct ρ=>∀σ,Fr K m n H σ ρ->D.ct σ H
 |.rt w=>∀v,VRep K m n H v w->D.rt v H
noncomputable def lftS(K:vga)(f:FS):TS:=λD σ H=>∃ρ h m fl h',Fr K m h.n H σ ρ/\Rel K m h H/\f ρ h=.ok fl h'/\∀H' m',Stp m h.n H m' h'.n H'->Rel K m' h' H'->FlOk K m' h'.n H' D fl
theorem lftS.el{K:vga}{D:Ends}{σ:L2.St}{H:Hp}{P:Prop}{fa:FS}(q:lftS K fa D σ H)(k:∀ρ h m fl h',Fr K m h.n H σ ρ->Rel K m h H->fa ρ h=.ok fl h'->(∀H' m',Stp m h.n H m' h'.n H'->Rel K m' h' H'->FlOk K m' h'.n H' D fl)->P):P:=by
 obtain⟨ρ,h,m,w,h',f,r,e,k'⟩:=q
 exact k ρ h m w h' f r e k'
theorem lftS.mk{K:vga}{D:Ends}{σ:L2.St}{H:Hp}{m:Nat->Addr}{ρ:En}{h h':VH}{fl:Fl}{fa:FS}(f:Fr K m h.n H σ ρ)(r:Rel K m h H)(e:fa ρ h=.ok fl h')(k:∀H' m',Stp m h.n H m' h'.n H'->Rel K m' h' H'->FlOk K m' h'.n H' D fl):lftS K fa D σ H:=⟨ρ,h,m,fl,h',f,r,e,k⟩
noncomputable abbrev SS(X:Cx)(st:Stmt)(f:FS):Prop:=PS X st (lftS X.K f)
noncomputable abbrev SSs(X:Cx)(st:List Stmt)(f:FS):Prop:=PSs X st (lftS X.K f)
section
variable{X:Cx}{a b c e o:Expr}{es:List Expr}{fa fb fc fo fr:FE}{pos p:Pos}{x:Str}{st:Stmt}{sts:List Stmt}{ga gb:FS}
noncomputable abbrev gSkip:FS:=λρ h=>.ok (.nx ρ) h
noncomputable abbrev gSeq(ga gb:FS):FS:=λρ h=>(ga ρ h).bind λfl h=>match fl with|.nx ρ=>gb ρ h|fl=>.ok fl h
theorem zs6:SSs X [] gSkip:=zr1.imp λD σ H z9=>z9.el λρ h m fl h' f r e k=>by cases e;exact k H m .refl r σ f
theorem zs7:SS X (.Pass pos) gSkip:=zr2.imp λD σ H z9=>z9.el λρ h m fl h' f r e k=>by cases e;exact k H m .refl r σ f
theorem zxc:SS X (.Break pos) (λρ h=>.ok (.bk ρ) h):=zoq.imp λD σ H z9=>z9.el λρ h m fl h' f r e k=>by cases e;exact k H m .refl r σ f
theorem zxd:SS X (.Continue pos) (λρ h=>.ok (.ct ρ) h):=zho.imp λD σ H z9=>z9.el λρ h m fl h' f r e k=>by cases e;exact k H m .refl r σ f
theorem zpn(h1:SS X st ga)(h2:SSs X sts gb):SSs X (st::sts) (gSeq ga gb):=(zop h1 h2).imp λD σ H z9=>z9.el λρ h m fl h' f r e k=>by
 refine zac e λfl1 h1 e1 e2=>?_
 refine(.mk f r e1 λH1 m1 s1 r1=>?_)
 cases fl1 with
 |nx ρ1=>exact λσ1 f1=>⟨ρ1,h1,m1,fl,h',f1,r1,e2,λH' m' s' r'=>k H' m' (s1.trans s') r'⟩
 |bk ρ1=>cases e2;exact k H1 m1 s1 r1
 |ct ρ1=>cases e2;exact k H1 m1 s1 r1
 |rt w=>cases e2;exact k H1 m1 s1 r1
theorem ss_no:SS X st (λ_ _=>.no):=zor.imp λD σ H z9=>z9.el λρ h m fl h' f r e k=>by cases e
noncomputable def zjd:Expr->Bool
 |.ListComp .. |.SetComp .. |.DictComp ..=>false
 |_=>true
theorem zfo{e:Expr}{t:Option Expr}{l:Nat}{env:Env}(h:zjd e=true):swapsWith e t l env=pure false:=by
 cases e<;>first|rfl|cases h
theorem zs8(he:SE X e fa)(hs:zjd e=true):SS X (.Expr e pos) (λρ h=>(fa ρ h).bind λ_ h=>.ok (.nx ρ) h):=(zr3 he (zfo hs)).imp λD σ H z9=>z9.el λρ h m fl h' f r e k=>by
 refine zac e λw h1 e1 e2=>?_
 cases e2
 exact(.mk f r e1 λv H1 m1 s1 r1 q1=>k H1 m1 s1 r1 σ (f.stp s1))
theorem zxe(he:SE X e fa):SS X (.Return (some e) pos) (λρ h=>(fa ρ h).bind λw h=>.ok (.rt w) h):=(zuu he).imp λD σ H z9=>z9.el λρ h m fl h' f r e k=>by
 refine zac e λw h1 e1 e2=>?_
 cases e2
 exact(.mk f r e1 λv H1 m1 s1 r1 q1=>k H1 m1 s1 r1 v q1)
theorem zs9:SS X (.Return none pos) (λρ h=>(Res.ok W.non h).bind λw h=>.ok (.rt w) h):=zr4.imp λD σ H z9=>z9.el λρ h m fl h' f r e k=>by
 cases e
 exact k H m .refl r .non .non
noncomputable abbrev gSet(i:Nat)(fa:FE):FS:=λρ h=>(fa ρ h).bind λw h=>.ok (.nx (ρ.set i (some w))) h
theorem zq8{K:vga}{i:Nat}{D:Ends}{σ:L2.St}{H:Hp}(q:lftS K (gSet i fa) D σ H):lft K fa σ H λv H1=>gName i v σ H1 D.nx:=by
 refine q.el λρ h m fl h' f r e k=>?_
 refine zac e λw h1 e1 e2=>?_
 cases e2
 exact(.mk f r e1 λv H1 m1 s1 r1 q1=>k H1 m1 s1 r1 _ ((f.stp s1).set q1 i))
theorem zmq{i:Nat}{pos':Pos}(hN:X.N.Nodup)(hi:X.N[i]?=some x)(hx:Loc X.env.scope x)(hf:X.fn x=true\/X.env.scope.names.lookup x=some .local)(he:SE X e fa)
 (hs:swapsWith e (some (.Name x pos')) pos.line X.env=pure false):SS X (.Assign [.Name x pos'] e pos) (gSet i fa):=(zux hN hi hx he hs hf).imp λD σ H q=>zq8 q
theorem zpo{i:Nat}{pos' lp:Pos}{ow fr:List Str}{ix:List Nat}{scope:Scope}{tg iter elt:Expr}{ifs:List Expr}{kd:Kd}{t:Tg}{fe:FE}(hN:X.N.Nodup)(hi:X.N[i]?=some x)(hx:Loc X.env.scope x)(hf:X.fn x=true\/X.env.scope.names.lookup x=some .local)
 (S:CompScope X ow fr ix scope) (hc:X.calm=true) (hI:PI X tg iter (lftI X.K kd fa)) (hg:∀C s₀ H₀ ex,PG (X.comp (ow++fr) scope C s₀ H₀ ex) tg (lftG X.K t)) (ht:∀C s₀ H₀ ex,PTs (X.comp (ow++fr) scope C s₀ H₀ ex) ifs (lftT X.K fc))
 (he:∀C s₀ H₀ ex,PE (X.comp (ow++fr) scope C s₀ H₀ ex) elt (lft X.K fe)) (hsw:swapsWith (.ListComp elt [⟨tg,iter,ifs,0⟩] scope lp) (some (.Name x pos')) pos.line X.env=pure true) (hs:∀x,foldedSetIterable iter X.env x=pure x) :
 SS X (.Assign [.Name x pos'] (.ListComp elt [⟨tg,iter,ifs,0⟩] scope lp) pos) (gSet i (gLc kd fa t ow.length ix fc fe)):=
 (zo4 hN hi hx S hc hI hg ht he hsw hf hs).imp λD σ H q=>lc_ok (zq8 q)
theorem se_lc{lp:Pos}{ow fr:List Str}{ix:List Nat}{scope:Scope}{tg iter elt:Expr}{ifs:List Expr}{kd:Kd}{t:Tg}{fe:FE}
 (S:CompScope X ow fr ix scope) (hc:X.calm=true) (hI:PI X tg iter (lftI X.K kd fa)) (hg:∀C s₀ H₀ ex,PG (X.comp (ow++fr) scope C s₀ H₀ ex) tg (lftG X.K t)) (ht:∀C s₀ H₀ ex,PTs (X.comp (ow++fr) scope C s₀ H₀ ex) ifs (lftT X.K fc))
 (he:∀C s₀ H₀ ex,PE (X.comp (ow++fr) scope C s₀ H₀ ex) elt (lft X.K fe)) (hs:∀x,foldedSetIterable iter X.env x=pure x) :
 SE X (.ListComp elt [⟨tg,iter,ifs,0⟩] scope lp) (gLc kd fa t ow.length ix fc fe):=(pe_lc S hc hI hg ht he hs).imp λσ H Q q=>lc_ok q
noncomputable def noTup:Expr->Bool
 |.Tuple ..=>false
 |_=>true
theorem zmr{es:List Expr}{k:Nat}{e:Expr}{l:Nat}{p:Pos}{env:Env}:swapsWithSole [.Tuple es k p] e l env=pure false:=by
 cases e<;>rfl
theorem zkr{es:List Expr}{k:Nat}{p:Pos}{e:Expr}{env:Env}(h:noTup e=true):swappedStores [.Tuple es k p] e env=pure none:=by
 cases e<;>first|rfl|cases h
theorem zxf{is:List Nat}{k:Nat}(hc:X.calm=true)(hN:X.N.Nodup)(hs:Paired (NmOk X) es is)(he:SE X e fa)(ht:noTup e=true) :
 SS X (.Assign [.Tuple es k p] e pos) (λρ h=>(fa ρ h).bind λw h=>.of ((tgW (.many is) w h ρ).map .nx) h):=(zqt he (zhy hc hN hs) zmr (zkr ht) rfl).imp λD σ H z9=>z9.el λρ h m fl h' f r e k=>by
 refine zac e λw h1 e1 e2=>?_
 obtain⟨e2,e3⟩:=of_ok e2
 subst e3
 cases z:tgW (.many is) w h' ρ with
 |none=>rw[z]at e2;cases e2
 |some ρ'=>
  rw[z]at e2;cases e2
  exact(.mk f r e1 λv H1 m1 s1 r1 q1=>(.mk (f.stp s1) r1 q1 z λσ' f'=>k H1 m1 s1 r1 σ' f'))
noncomputable def zdy:Expr->Bool
 |.Slice ..=>false
 |_=>true
theorem zks{o i:Expr}{p:Pos}{env:Env}(h:zdy i=true)(v:Value):assign (.Subscript o i p) env v=(do
 let ov <-holding [v] (eval o env)
 let iv <-holding [v,ov] (eval i env)
 standAt p
 holding [v,ov,iv] (setItem ov iv v)
 release [v,ov,iv] []):=by
 cases i<;>first|rfl|cases h
noncomputable abbrev gPut(fo fi fv:FE):FS:=λρ h=>(fv ρ h).bind λw h=>(fo ρ h).bind λx h=>(fi ρ h).bind λy h=>match x,y with
 |.ref a,.int j=>(match h.get a with
  |some (.lst ws)=>(match L2.ixN ws.length j with
   |some k=>.ok (.nx ρ) (h.set a (.lst (ws.set k w)))
   |none=>.no)
  |_=>putM ρ a j w h)
 |.ref a,y=>putD ρ a y w h
 |_,_=>.no
theorem zms{o i e:Expr}{l:Nat}{p:Pos}{env:Env}:swapsWithSole [.Subscript o i p] e l env=pure false:=by
 cases e<;>rfl
theorem zh0{o i e:Expr}{p:Pos}{env:Env}:swappedStores [.Subscript o i p] e env=pure none:=by
 cases e<;>rfl
theorem zgt{α β:Type}{f:α->Option β}:∀{as:List α} {bs:List β} {a:α} {b:β},mapO f as=some bs->f a=some b->mapO f (as++[a])=some (bs++[b])
 |[],_,_,_,e,h=>by cases e;simp[mapO,h]
 |x::as,bs,a,b,e,h=>by
  simp only[mapO]at e
  cases z:f x with
  |none=>rw[z]at e;cases e
  |some y=>
   rw[z]at e
   simp only at e
   cases z2:mapO f as with
   |none=>rw[z2]at e;cases e
   |some ys=>
    rw[z2]at e;cases e
    rw[vc1]
    simp only[mapO,z,zgt z2 h,vc1]
noncomputable def rSetM:V->V->V->Hp->(Hp->Prop)->Prop:=λo i v H Q=>∃a kvs j,o=.ref a/\i=.int j/\H a=some (.dK kvs)/\kvs.length<sizeLine/\Q (upd H a (.dK (putK kvs (.inl j) v)))
theorem zxg(hu:X.A.units+2<cLine):PSet X rSetM:=by
 intro pins s σ H o i v ov iv u Q I ro ri rv h
 obtain⟨a,kvs,j,rfl,rfl,e,hl,q⟩:=h
 cases ro
 exact zlz (Nat.lt_of_succ_lt hu) I (DPut.k (k:=.inl j) e hl) ri rv λs' I'=>⟨_,I',q⟩
theorem zxh(hu:X.A.units+2<cLine)(ho:SE X o fo)(hi:SE X a fa)(hv:SE X e fb)(hs:zdy a=true):SS X (.Assign [.Subscript o a p] e pos) (gPut fo fa fb):=
 (zqt hv (zuw ho hi (zo1.or ((zv4 hu).or (zxg hu))) (zks hs)) zms zh0 rfl).imp λD σ H z9=>z9.el λρ h m fl h' f r e k=>by
   refine zac e λw h1 e1 e2=>?_
   refine zac e2 λx h2 e3 e4=>?_
   refine zac e4 λy h3 e5 e6=>?_
   refine(.mk f r e1 λv H1 m1 s1 r1 q1=>(.mk (f.stp s1) r1 e3 λvo H2 m2 s2 r2 q2=>(.mk ((f.stp s1).stp s2) r2 e5 λvi H3 m3 s3 r3 q3=>?_)))
   split at e6
   .rename_i l j
    split at e6
    .rename_i ws g
     split at e6
     .rename_i kk hk
      cases e6
      cases q3
      have q2':=q2.stp s3
      cases q2'
      obtain⟨vs,p1,p2⟩:=r3.lst g
      refine .inl ⟨m3 l,vs,j,kk,rfl,rfl,p1,by rw[p2.length];exact hk,?_⟩
      have qv:=((q1.stp s2).stp s3)
      obtain⟨st,r'⟩:=r3.write (i:=l) (o:=.lst (ws.set kk w)) (u:=.lst (vs.set kk v)) (zah g) p1 (λ_ z=>nomatch z) (λ_ _ z=>nomatch z) λst=>⟨_,zan,VReps.set (qv.stp st) kk (p2.stp st)⟩
      exact k _ m3 (((s1.trans s2).trans s3).trans st) r' σ ((((f.stp s1).stp s2).stp s3).stp st)
     .cases e6
    .unfold putM at e6
     split at e6
     .rename_i kvs g
      split at e6
      .rename_i hb
       cases e6
       cases q3
       have q2':=q2.stp s3
       cases q2'
       obtain⟨vs,p1,p2⟩:=r3.dm g
       have hlt:vs.length<sizeLine:=by rw[p2.length,vc7];exact zap.mp hb
       refine .inr <| .inr ⟨m3 l,vs,j,rfl,rfl,p1,hlt,?_⟩
       have qv:=((q1.stp s2).stp s3)
       obtain⟨st,r'⟩:=r3.write (i:=l) (o:=.dm (putKW kvs (.inl j) w)) (u:=.dK (putK vs (.inl j) v)) (zah g) p1 (λ_ z=>nomatch z) (λ_ _ z=>nomatch z) λst=>⟨_,zan,KReps.put (qv.stp st) _ (p2.stp st)⟩
       exact k _ m3 (((s1.trans s2).trans s3).trans st) r' σ ((((f.stp s1).stp s2).stp s3).stp st)
      .cases e6
     .cases e6
   .rename_i l _
    unfold putD at e6
    split at e6
    .rename_i ks ws dk g hd
     split at e6
     .rename_i hc
      cases e6
      rw[vab]at hc
      have q2':=q2.stp s3
      cases q2'
      obtain⟨xs,p1,p2,p3,p4⟩:=r3.dt g
      obtain⟨b,rfl,kk⟩:=zfi q3 hd
      have hl:=p3.length
      rw[vaf]at hl
      have hlt:xs.length<sizeLine:=by rw[hl,vc7];exact zap.mp hc.2
      have qv:=((q1.stp s2).stp s3)
      have hf:findX xs dk=none:=by
       rcases zfj dk p2 p4 with⟨z,_⟩|⟨p,w',z,z2,_⟩
       .exact z
       .rw[z2]at hc;exact absurd hc.1 (by simp)
      have hp:putX xs dk b v=xs++[(dk,b,v)]:=by unfold putX;rw[hf];rfl
      obtain⟨u0,hu0,hn,hff,hmu⟩:∃u0:HO,H3 (m3 l)=some u0/\(∀t,u0≠HO.tup t)/\(∀o t,u0≠HO.frz o t)/\Mut (some u0):=by
       rcases p1 with p1|⟨_,p1⟩
       .exact⟨_,p1,(λ_ z=>nomatch z),(λ_ _ z=>nomatch z),True.intro⟩
       .exact⟨_,p1,(λ_ z=>nomatch z),(λ_ _ z=>nomatch z),True.intro⟩
      refine .inr <| .inl ⟨m3 l,b,xs,dk,rfl,rfl,dt_DT p1 p2 p3,by rw[hu0];exact hmu,kk,hlt,?_⟩
      obtain⟨st,r'⟩:=r3.write (i:=l) (o:=.dt (ks++[y]) (ws++[w])) (u:=dtH (putX xs dk b v) (m3 l)) (zah g) hu0 hn hff λst=>by
       rw[hp]at st ⊢
       refine⟨xs++[(dk,b,v)],.inl zan,?_,?_,?_⟩
       .rw[vbv,zgt p2 hd];rfl
       .rw[vbv];exact(p3.stp st).append (.cons (q3.stp st) .nil)
       .rw[vbv];exact(p4.stp st).append (.cons (qv.stp st) .nil)
      exact k _ m3 (((s1.trans s2).trans s3).trans st) r' σ ((((f.stp s1).stp s2).stp s3).stp st)
     .cases e6
    .cases e6
   .cases e6
noncomputable def ipOf:Operator->Option Op
 |.Add=>some .add
 |_=>none
noncomputable def rIp:Op->R2
 |.add=>ipI λi j=>i+j
 |_=>λ_ _ _ _=>False
theorem ip_ok{O:Operator}{o:Op}(e:ipOf O=some o):PIp X O (rIp o):=by
 cases O<;>cases e
 exact zuz
theorem zxi{K:vga}{O:Operator}{o:Op}(e:ipOf O=some o):OpV K (rIp o) (ipW o):=by
 intro m h H v u x y w h' Q r qv qu e2 k
 unfold ipW at e2
 split at e2
 .rename_i i j
  cases qv;cases qu
  split at e2
  .cases e2;exact⟨i,j,rfl,rfl,Wants.here k r (.int _)⟩
  .cases e2
 .cases e2
noncomputable abbrev gAug(i:Nat)(o:Op)(fa:FE):FS:=λρ h=>match(ρ[i]?).join with
 |some x=>(fa ρ h).bind λy h=>(ipW o x y h).bind λz h=>.ok (.nx (ρ.set i (some z))) h
 |none=>.no
theorem zxj{i:Nat}{pos':Pos}{O:Operator}{o:Op}(eo:ipOf O=some o)(hN:X.N.Nodup)(hi:X.N[i]?=some x)(hx:Loc X.env.scope x)(hf:X.fn x=true\/X.env.scope.names.lookup x=some .local)(he:SE X e fa) :
 SS X (.AugAssign (.Name x pos') O e pos) (gAug i o fa):=(zuy hN hi hx he (ip_ok eo) hf).imp λD σ H z9=>z9.el λρ h m fl h' f r e k=>by
 have e:gAug i o fa ρ h=.ok fl h':=e
 simp only[gAug]at e
 cases z:(ρ[i]?).join with
 |none=>rw[z]at e;cases e
 |some x=>
  rw[z]at e
  simp only at e
  refine zac e λy h1 e1 e2=>?_
  refine zac e2 λw h2 e3 e4=>?_
  cases e4
  have e5:ρ[i]?=some (some x):=by
   cases q:ρ[i]? with
   |none=>rw[q]at z;cases z
   |some o=>rw[q]at z;rw[<-z];rfl
  obtain⟨v,p1,p2⟩:=f.val i x e5
  refine⟨v,p1,ρ,h,m,y,h1,f,r,e1,λu H1 m1 s1 r1 q1=>zxi eo m1 h1 H1 v u x y w h' _ r1 (p2.stp s1) q1 e3 λv' H' m' s' r' q'=>?_⟩
  exact k H' m' (s1.trans s') r' _ (((f.stp s1).stp s').set q' i)
noncomputable abbrev gIf(fc:FE)(ga gb:FS):FS:=λρ h=>(fc ρ h).bind λx h=>match x with|.bl true=>ga ρ h|.bl false=>gb ρ h|_=>.no
variable{sa sb:List Stmt}
theorem zxk(hc:ST X c fc)(ha:SSs X sa ga)(hb:SSs X sb gb):SS X (.If c sa sb pos) (gIf fc ga gb):=(ps_if hc ha hb).imp λD σ H z9=>z9.el λρ h m fl h' f r e k=>by
 refine zac e λx h1 e1 e2=>?_
 cases x<;>try cases e2
 rename_i c
 refine(.mk f r e1 λH1 m1 s1 r1=>?_)
 cases c with
 |true=>rw[if_pos rfl];exact(.mk (f.stp s1) r1 e2 λH' m' s' r'=>k H' m' (s1.trans s') r')
 |false=>simp only[vak,va7];exact(.mk (f.stp s1) r1 e2 λH' m' s' r'=>k H' m' (s1.trans s') r')
theorem zta{nx:Nat->VH->Option (Option W)}{tg:W->VH->En->Option En}{g:FS}{f i:Nat}{ρ:En}{h:VH}{fl:Fl}{h':VH}(q:forG nx tg g (f+1) i ρ h=.ok fl h'):∃o,nx i h=some o:=by
 simp only[forG]at q
 split at q
 .cases q
 .exact⟨_,by assumption⟩
 .exact⟨_,by assumption⟩
noncomputable abbrev gFor(kd:Kd)(fa:FE)(t:Tg)(g:FS):FS:=λρ h=>(fa ρ h).bind λx h=>forG (nxt kd x) (tgW t) g fuel 0 ρ h
theorem zxl{K:vga}{kd:Kd}{t:Tg}{D:Ends}{σ:L2.St}{H:Hp}(q:lftS K (gFor kd fa t ga) D σ H):tFor (lftI K kd fa) (lftG K t) (lftS K ga) D σ H:=by
 refine q.el λρ h m fl h' f r e k=>?_
 refine zac e λx h1 e1 e2=>?_
 refine(.mk f r e1 (zta (f:=999999) e2) λJ P H1 m1 s1 r1 J1 p1=>?_)
 refine⟨λi fu σ' H'=>∃ρ' h3 m3,forG (nxt kd x) (tgW t) ga fu i ρ' h3=.ok fl h'/\Fr K m3 h3.n H' σ' ρ'/\Rel K m3 h3 H'/\Stp m1 h1.n H1 m3 h3.n H'/\P m3 h3.n H',⟨fuel,ρ,h1,m1,e2,f.stp s1,r1,.refl,p1⟩,?_⟩
 rintro i fu σ' H' ⟨ρ',h3,m3,e3,f3,r3,s3,p3⟩
 cases fu with
 |zero=>cases e3
 |succ fu=>
  simp only[forG]at e3
  obtain⟨j1,j2⟩:=J1.2 m3 h3 H' r3 p3 i
  split at e3
  .cases e3
  .rename_i hn
   cases e3
   exact .inl ⟨j2 hn,k H' m3 (s1.trans s3) r3 σ' f3⟩
  .rename_i w hn
   obtain⟨j3,j4⟩:=j1 w hn
   split at e3
   .cases e3
   .rename_i ρ4 ht
    refine zac e3 λfl5 h5 e5 e6=>?_
    refine .inr ⟨j3,λσ6 H6=>∃ρ6 m6,forG (nxt kd x) (tgW t) ga fu (i+1) ρ6 h5=.ok fl h'/\Fr K m6 h5.n H6 σ6 ρ6/\Rel K m6 h5 H6/\Stp m1 h1.n H1 m6 h5.n H6/\P m6 h5.n H6,λσ6 H6 ⟨ρ6,m6,a1,a2,a3,a4,a5⟩=>⟨fu,vbc _,ρ6,h5,m6,a1,a2,a3,a4,a5⟩,λy H4 hy=>?_⟩
    obtain⟨s4,r4,q4⟩:=j4 y H4 hy
    refine⟨ρ',h3,m3,w,ρ4,f3.stp s4,r4,q4,ht,λσ5 f5=>⟨ρ4,h3,m3,fl5,h5,f5,r4,e5,λH6 m6 s6 r6=>?_⟩⟩
    have p4:=J1.1 m3 h3.n H' m3 h3.n H4 (vad _) (λ_ _=>rfl) (λb vs q=>s4.tup b vs q) (λb o u q=>s4.frz b o u q) p3
    have p6:=J1.1 m3 h3.n H4 m6 h5.n H6 s6.le s6.same (λb vs q=>s6.tup b vs q) (λb o u q=>s6.frz b o u q) p4
    have s16:=(s3.trans s4).trans s6
    cases fl5 with
    |nx ρ6=>exact λσ6 f6=>⟨ρ6,m6,e6,f6,r6,s16,p6⟩
    |ct ρ6=>exact λσ6 f6=>⟨ρ6,m6,e6,f6,r6,s16,p6⟩
    |bk ρ6=>cases e6;exact λσ6 f6=>k H6 m6 (s1.trans s16) r6 σ6 f6
    |rt w6=>cases e6;exact λv6 q6=>k H6 m6 (s1.trans s16) r6 v6 q6
theorem zxm{kd:Kd}{t:Tg}{tg iter:Expr}(hp:PassesOwn (model X.prog X.w) X.A X.env X.xe)(hc:X.calm=true)(hI:PI X tg iter (lftI X.K kd fa))(hg:PG X tg (lftG X.K t))(hb:SSs X sa ga)(hs:∀x,foldedSetIterable iter X.env x=pure x) :
 SS X (.For tg iter sa [] pos) (gFor kd fa t ga):=(zu2 hp hc hI hg hb hs).imp λD σ H q=>zxl q
theorem zxn(hp:PassesOwn (model X.prog X.w) X.A X.env X.xe)(hc:ST X c fc)(hb:SSs X sa ga):SS X (.While c sa [] pos) (λρ h=>whlG fc ga fuel ρ h):=(zos hp hc hb).imp λD σ H z9=>z9.el λρ h m fl h' f r e k=>by
 refine⟨λfu σ' H'=>∃ρ' h3 m3,whlG fc ga fu ρ' h3=.ok fl h'/\Fr X.K m3 h3.n H' σ' ρ'/\Rel X.K m3 h3 H'/\Stp m h.n H m3 h3.n H',⟨fuel,ρ,h,m,e,f,r,.refl⟩,?_⟩
 rintro fu σ' H' ⟨ρ',h3,m3,e3,f3,r3,s3⟩
 cases fu with
 |zero=>cases e3
 |succ fu=>
  simp only[whlG]at e3
  refine zac e3 λx h4 e4 e5=>?_
  cases x<;>try cases e5
  rename_i b
  refine⟨ρ',h3,m3,b,h4,f3,r3,e4,λH4 m4 s4 r4=>?_⟩
  cases b with
  |false=>cases e5;simp only[vak,va7];exact k H4 m4 (s3.trans s4) r4 σ' (f3.stp s4)
  |true=>
   simp only[va8]
   refine zac e5 λfl5 h5 e6 e7=>?_
   refine⟨λσ6 H6=>∃ρ6 m6,whlG fc ga fu ρ6 h5=.ok fl h'/\Fr X.K m6 h5.n H6 σ6 ρ6/\Rel X.K m6 h5 H6/\Stp m h.n H m6 h5.n H6,λσ6 H6 ⟨ρ6,m6,a1,a2,a3,a4⟩=>⟨fu,vbc _,ρ6,h5,m6,a1,a2,a3,a4⟩,?_⟩
   refine⟨ρ',h4,m4,fl5,h5,f3.stp s4,r4,e6,λH6 m6 s6 r6=>?_⟩
   have s16:=(s3.trans s4).trans s6
   cases fl5 with
   |nx ρ6=>exact λσ6 f6=>⟨ρ6,m6,e7,f6,r6,s16⟩
   |ct ρ6=>exact λσ6 f6=>⟨ρ6,m6,e7,f6,r6,s16⟩
   |bk ρ6=>cases e7;exact λσ6 f6=>k H6 m6 s16 r6 σ6 f6
   |rt w6=>cases e7;exact λv6 q6=>k H6 m6 s16 r6 v6 q6
end
theorem zcj{n:Str}:∀{ps:List Str} {us:List Value},us.length=ps.length->n∈ps->((ps.zip us).lookup n).isSome=true
 |[],_,_,h=>by cases h
 |p::ps,[],hl,_=>by cases hl
 |p::ps,u::us,hl,h=>by
  rw[vb4,va5]
  by_cases e:(n==p)=true
  .rw[e];rfl
  .have e':(n==p)=false:=by simpa using e
   rw[e']
   refine zcj (by simpa using hl) ?_
   rcases vau.mp h with z|z
   .rw[z]at e';simp at e'
   .exact z
theorem zpp{n:Str}{u:Value}{p:Str}{ps:List Str}{us:List Value}(h:n≠p):((p,u)::ps.zip us).lookup n=(ps.zip us).lookup n:=by
 rw[va5]
 have e':(n==p)=false:=by simpa using h
 rw[e']
theorem zje{α β:Type}{f g:α->Option β}:∀{l:List α},(∀a∈l,f a=g a)->l.filterMap f=l.filterMap g
 |[],_=>rfl
 |a::r,h=>by
  rw[vcv,vcv,h a vai,zje λb hb=>h b (vag _ hb)]
theorem zfp:∀{ps:List Str} {us:List Value},us.length=ps.length->ps.Nodup->ps.filterMap (λn=>((ps.zip us).lookup n).map (n,·))=ps.zip us
 |[],_,_,_=>rfl
 |p::ps,[],hl,_=>by cases hl
 |p::ps,u::us,hl,hn=>by
  obtain⟨h1,h2⟩:=vcx.mp hn
  rw[vb4,vcv]
  have e:((p,u)::ps.zip us).lookup p=some u:=by rw[va5];simp
  rw[e]
  simp only[vaw]
  congr 1
  have ih:=zfp (ps:=ps) (us:=us) (by simpa using hl) h2
  refine Eq.trans ?_ ih
  exact zje λn hn'=>by
   have hne:n≠p:=λz=>h1 (by rw[<-z];exact hn')
   rw[zpp hne]
theorem zev{x qual:Str}{args:List Arg}{body:List Stmt}{sc:Scope}{kV doc pm:Value}{an:Option Addr}{cdv ct:Value}{us:List Value}{df:List Expr}(hl:us.length=(args.map (·.arg)).length)(hn:(args.map (·.arg)).Nodup) :
 bindArgs (PySem.W.fnOf x qual ⟨[],args,none,[],[],none,df⟩ body sc .none kV doc pm an cdv ct) ⟨us,[]⟩=pure ((args.map (·.arg)).zip us):=by
 have hs:seqItems? Value.none=pure none:=rfl
 have hm:((args.map (·.arg)).filter λn=>(((args.map (·.arg)).zip us).lookup n).isNone)=[]:=by
  rw[List.filter_eq_nil_iff]
  intro n hn'
  have:=zcj hl hn'
  cases q:((args.map (·.arg)).zip us).lookup n with
  |none=>rw[q]at this;cases this
  |some v=>simp
 unfold bindArgs
 simp only[PySem.W.fnOf,vdj,vcc,vcw,hs,vfj]
 have hg:¬(us.length> (args.map (·.arg)).length):=by omega
 have h0:(#[]:Array Value).toList=[]:=rfl
 simp only[Option.getD_none,h0,vdp,vfj,List.drop_nil,veb,Nat.sub_zero,List.take_length,hm,List.isEmpty_nil,vcm,List.drop_length,List.zip_nil_right,List.zip_nil_left,vay hg,vd6,vak,va7,zfp hl hn]
theorem zgu{z:Str}:∀{qs:List Str} {us:List Value},us.length=qs.length->(qs++[z]).zip us=qs.zip us
 |[],[],_=>rfl
 |[],_::_,h=>by cases h
 |_::_,[],h=>by cases h
 |q::qs,u::us,h=>by
  rw[vc1,vb4,vb4,zgu (by simpa using h)]
theorem zfq{z:Str}{v:Value}:∀{qs:List Str} {us:List Value},us.length=qs.length->(qs++[z]).zip (us++[v])=qs.zip us++[(z,v)]
 |[],[],_=>rfl
 |[],_::_,h=>by cases h
 |_::_,[],h=>by cases h
 |q::qs,u::us,h=>by
  rw[vc1,vc1,vb4,vb4,zfq (by simpa using h),vc1]
theorem zmt{z:Str}:∀{qs:List Str} {us:List Value},z∉qs->(qs.zip us).lookup z=none
 |[],_,_=>rfl
 |_::_,[],_=>rfl
 |q::qs,u::us,h=>by
  rw[vb4,va5]
  have e':(z==q)=false:=by simpa using(λe=>h (by rw[e];exact vai))
  rw[e']
  exact zmt λe=>h (vag _ e)
section
variable{x qual:Str}{args:List Arg}{df:List Expr}{body:List Stmt}{sc:Scope}{kV doc pm:Value}{an:Option Addr}{cdv ct:Value}{t:Addr}{o:Obj}{n:Nat}{s:Shared}{us:List Value}{qs:List Str}{z:Str}
theorem zq9(qs:List Str)(z:Str):List.drop ([Value.none].length- (qs++[z]).length) [Value.none]=[Value.none]:=by
 rw[vax,vco,vco,show 1- (qs.length+1)=0 by omega];rfl
theorem len_d(qs:List Str)(z:Str):(qs++[z]).length - [Value.none].length=qs.length:=by simp
theorem zkt(ha:args.map (·.arg)=qs++[z])(hn:(qs++[z]).Nodup)(ho:s.heap.get? t=some o)(hd:o.data=.seq #[.none] n)(hl:us.length=(qs++[z]).length) :
 BindsTo s (PySem.W.fnOf x qual ⟨[],args,none,[],[],none,df⟩ body sc (.ref t) kV doc pm an cdv ct) ⟨us,[]⟩ ((qs++[z]).zip us):=by
 apply BindsTo.of_defaults (items:=#[.none]) (n:=n) rfl ho hd
 .unfold bindArgs
  simp only[PySem.W.fnOf,vdj,vcc,vcw,vdp,vfj,ha]
  rfl
 .have hm:(qs.filter λn=>(((qs++[z]).zip us).lookup n).isNone)=[]:=by
   rw[List.filter_eq_nil_iff]
   intro n hn'
   have:=zcj (n:=n) hl (vda _ hn')
   cases q:((qs++[z]).zip us).lookup n with
   |none=>rw[q]at this;cases this
   |some v=>simp
  have hz:(((qs++[z]).zip us).lookup z).isNone=false:=by
   have:=zcj (n:=z) hl (va9 _ (vce.mpr rfl))
   cases q:((qs++[z]).zip us).lookup z with
   |none=>rw[q]at this;cases this
   |some v=>rfl
  have hg:¬(us.length> (qs++[z]).length):=by omega
  simp only[vew,zq9,len_d,List.take_left',List.take_left,List.drop_left,List.drop_left',hm,vay hg,vd6,vak,va7,List.isEmpty_nil,vcm,vb4,List.zip_nil_right,vef,vdp,hz,vfj,zfp hl hn]
theorem zku(ha:args.map (·.arg)=qs++[z])(hn:(qs++[z]).Nodup)(ho:s.heap.get? t=some o)(hd:o.data=.seq #[.none] n)(hl:us.length=qs.length) :
 BindsTo s (PySem.W.fnOf x qual ⟨[],args,none,[],[],none,df⟩ body sc (.ref t) kV doc pm an cdv ct) ⟨us,[]⟩ ((qs++[z]).zip (us++[.none])):=by
 apply BindsTo.of_defaults (items:=#[.none]) (n:=n) rfl ho hd
 .unfold bindArgs
  simp only[PySem.W.fnOf,vdj,vcc,vcw,vdp,vfj,ha]
  rfl
 .have hm:(qs.filter λn=>((qs.zip us).lookup n).isNone)=[]:=by
   rw[List.filter_eq_nil_iff]
   intro n hn'
   have:=zcj (n:=n) hl hn'
   cases q:(qs.zip us).lookup n with
   |none=>rw[q]at this;cases this
   |some v=>simp
  have hzq:z∉qs:=λh=>(List.nodup_append.mp hn).2.2 z h z (vce.mpr rfl) rfl
  have hz:((qs.zip us).lookup z).isNone=true:=by rw[zmt hzq];rfl
  have hg:¬(us.length> (qs++[z]).length):=by rw[vax];omega
  have hl2:(us++[Value.none]).length=(qs++[z]).length:=by rw[vax,vax,hl];rfl
  have ha2:=zfp hl2 hn
  rw[zfq hl]at ha2
  simp only[vew,zq9,len_d,zgu hl,zfq hl,List.take_left',List.take_left,List.drop_left,List.drop_left',hm,vay hg,vd6,vak,va7,List.isEmpty_nil,vcm,vb4,List.zip_nil_right,vef,vdp,hz,va8,vfj,ha2]
end
structure FunD(K:vga)(x qual:Str)(st:Stmt)(f:Addr)(fd:FuncData):Prop where
 ex:∃(oc:Value) (od:Option Addr) (dV kV doc pm:Value) (an:Option Addr) (cdv ct:Value) (osl:Array (Option Value)),fd=PySem.W.fnOf x qual (zsj st) (zdq st) (zas st) dV kV doc pm an cdv ct/\K.lookup f=some ⟨oc,od,.func fd,osl⟩/\PySem.W.codeIn K cdv qual=true
 kp:PySem.W.keepIn K (.ref f)=true
theorem FunD.ok{P:Program}{w:World}{K:vga}{mg:Str->Option Value}{base:Heap}{x qual:Str}{st:Stmt}{f:Addr}{fd:FuncData}{N ps:List Str}{k:Nat}{sp:Sp}(F:FunD K x qual st f fd)(S:FnScope N ps (zas st))(len:∀vs H Q E,sp vs H Q E->vs.length=ps.length)
 (hbody:∀(cdv:Value)(A:Around)(outer:List Env)(s:Shared)(H:Hp)(vs:List V)(Q:VK)(E:XK),Room k (A.deeper (envOfC qual (zas st) s.heap.objs.size f cdv))->sp vs H Q E->∃t,PSs (cxOf CX0 P w K mg base N qual (zas st) f cdv A outer s H E).nox (zdq st) t/\t {nx:=λ_ H'=>Q .non H',rt:=Q} (start N vs) H):FnOk P w K mg base CX0 (k+1) f fd ps sp:=
 let⟨_,_,_,_,_,_,_,cdv,_,_,e,lk,hcd⟩:=F.ex
 by subst e;exact fn_of lk hcd S len λA outer s H vs Q E hr hsp=>let⟨t,h,q⟩:=hbody cdv A outer s H vs Q E hr hsp;⟨t,h.nox,q⟩
section
variable{K:vga}{m m':Nat->Addr}{n n':Nat}{h h':VH}{H H':Hp}
mutual
theorem VRep.refsLt:∀{v:V} {w:W},VRep K m n H v w->W.lt n w=true
 |_,_,.non=>rfl
 |_,_,.bl _=>rfl
 |_,_,.int _=>rfl
 |_,_,.str _=>rfl
 |_,_,.tup _ r=>VReps.refsLt r
 |_,_,.fz _ r=>VReps.refsLt r
 |_,_,.ref q=>zap.mpr q
theorem VReps.refsLt:∀{vs:List V} {ws:List W},VReps K m n H vs ws->W.lts n ws=true
 |_,_,.nil=>rfl
 |_,_,.cons q r=>by
  show(W.lt n _&&W.lts n _)=true
  rw[VRep.refsLt q,VReps.refsLt r];rfl
end
mutual
theorem VRep.cut:∀{v:V} {w:W},VRep K m n' H v w->W.lt n w=true->VRep K m n H v w
 |_,_,.non,_=>.non
 |_,_,.bl b,_=>.bl b
 |_,_,.int b,_=>.int b
 |_,_,.str b,_=>.str b
 |_,_,.tup q r,e=>.tup q (VReps.cut r e)
 |_,_,.fz q r,e=>.fz q (VReps.cut r e)
 |_,_,.ref q,e=>.ref (zap.mp e)
theorem VReps.cut:∀{vs:List V} {ws:List W},VReps K m n' H vs ws->W.lts n ws=true->VReps K m n H vs ws
 |_,_,.nil,_=>.nil
 |_,_,.cons q r,e=>by
  have e:(W.lt n _&&W.lts n _)=true:=e
  rw[vab]at e
  exact .cons (VRep.cut q e.1) (VReps.cut r e.2)
end
theorem KReps.cut{m':Nat->Addr}{n1:Nat}{H':Hp}:∀{vs us:List (Key×V)} {ws:List (Key×W)},KReps K m n' H vs ws->KReps K m' n H' us ws->KReps K m n H vs ws
 |_,_,_,.nil,_=>.nil
 |_,_,_,.cons q r,.cons q2 r2=>.cons (q.cut q2.refsLt) (KReps.cut (n1:=n1) r r2)
theorem zra{lo:Nat}(r:Rel K m h H):Rel K m ⟨h.n,lo,h.os⟩ H:=⟨r.obj,r.inj,r.len⟩
theorem zjf{w w2:W}{h1 h2:VH}{v:V}{Q:VK}(r:Rel K m h H)(s:Stp m h.n H m' h1.n H')(r1:Rel K m' h1 H')(q:VRep K m' h1.n H' v w)(g:Grow ⟨h.n,h.n,h.os⟩ h1)(e:leave h w h1=.ok w2 h2)(k:Wants K m h.n H w2 h2 Q):Q v H':=by
 unfold leave at e
 split at e
 .rename_i hc
  cases e
  rw[vab]at hc
  have hlo:=vbh hc.1
  refine k v H' m' ⟨vad _,s.same,λi a b=>absurd b (vb9.mpr a),λi j a b=>absurd b (vb9.mpr a),s.tup,s.frz,s.keep⟩ ⟨λi hi=>?_,λi j hi hj=>r1.inj i j (vah hi s.le) (vah hj s.le),r.len⟩ (q.cut hc.2)
  have hg:h1.get i=h.get i:=g.2.2 i hi (vah hi hlo)
  obtain⟨o,p1,p2⟩:=r1.obj i (vah hi s.le)
  rw[hg]at p1
  refine⟨o,p1,?_⟩
  have p3:=r.at_ p1
  cases o with
  |lst ws=>
   obtain⟨vs,a1,a2⟩:=p2
   obtain⟨us,b1,b2⟩:=p3
   exact⟨vs,a1,a2.cut b2.refsLt⟩
  |dk ws=>
   obtain⟨vs,a1,a2⟩:=p2
   obtain⟨us,b1,b2⟩:=p3
   exact⟨vs,a1,KReps.cut (n1:=0) a2 b2⟩
  |dm ws=>
   obtain⟨vs,a1,a2⟩:=p2
   obtain⟨us,b1,b2⟩:=p3
   exact⟨vs,a1,KReps.cut (n1:=0) a2 b2⟩
  |dt ks ws=>
   obtain⟨xs,a1,a0,a2,a3⟩:=p2
   obtain⟨us,b1,b0,b2,b3⟩:=p3
   exact⟨xs,a1,a0,a2.cut b2.refsLt,a3.cut b3.refsLt⟩
 .cases e
  exact k v H' m' s (zra r1) q
theorem zpq{N:List Str}{vs:List V}{ws:List W}(q:VReps K m n H vs ws):Fr K m n H (L2.start N vs) (ws.map some++vgc (N.length-ws.length) none):=by
 unfold L2.start
 refine⟨by simp[q.length],λi w e=>?_⟩
 by_cases hi:i<ws.length
 .rw[vbx (by simpa using hi)]at e
  rw[vbx (by simpa[q.length]using hi)]
  rw[vas]at e ⊢
  cases z:ws[i]? with
  |none=>rw[z]at e;cases e
  |some w'=>
   rw[z]at e
   cases e
   obtain⟨v,h1,h2⟩:=q.get z
   exact⟨v,by rw[h1];rfl,h2⟩
 .rw[va0 (by simpa using vb9.mp hi)]at e
  rw[vcr]at e
  split at e<;>cases e
end
theorem zh6{F:Nat->Option Fn}{k idx:Nat}{ws:List W}{h h':VH}{w:W}{fn:Fn}(hF:F idx=some fn)(e:run F k idx ws h=.ok w h'):ws.length=fn.ps:=by
 cases k with
 |zero=>cases e
 |succ k=>
  simp only[run,hF]at e
  split at e
  .rename_i hl;exact vdw hl
  .cases e
theorem zrb{P:Program}{w:World}{K:vga}{mg:Str->Option Value}{base:Heap}{F:Nat->Option Fn}{k idx:Nat}{fn:Fn}{x qual:Str}{st:Stmt}{f:Addr}{fd:FuncData}{N ps:List Str}(hF:F idx=some fn)(Fu:FunD K x qual st f fd)(S:FnScope N ps (zas st))
 (hn:fn.n=N.length) (hp:fn.ps=ps.length)
 (hbody:∀(cdv:Value)(A:Around)(outer:List Env)(s:Shared)(H:Hp)(E:XK),Room k (A.deeper (envOfC qual (zas st) s.heap.objs.size f cdv))->SSs (cxOf CX0 P w K mg base N qual (zas st) f cdv A outer s H E).nox (zdq st) (exs (run F k) fn.body)) :
 FnOk P w K mg base CX0 (k+1) f fd ps (spV K ps.length (run F (k+1) idx)):=by
 refine Fu.ok S (λvs H Q E h=>h.1) λcdv A outer s H vs Q E hr hsp=>?_
 refine⟨_,hbody cdv A outer s H E hr,?_⟩
 obtain⟨hl,h,m,ws,w2,h2,r,q,e,k2⟩:=hsp
 have hws:=zh6 hF e
 simp only[run,hF]at e
 split at e
 .refine zac e λfl h1 e1 e2=>?_
  have g:=zjb (zjc F k) _ _ _ _ _ e1
  have hN:fn.n-fn.ps=N.length-ws.length:=by rw[hn,hws]
  rw[hN]at e1
  refine⟨_,⟨h.n,h.n,h.os⟩,m,fl,h1,zpq q,zra r,e1,λH' m' s' r'=>?_⟩
  cases fl with
  |nx ρ=>exact λσ' f'=>zjf r s' r' .non g e2 k2
  |rt w3=>exact λv q3=>zjf r s' r' q3 g e2 k2
  |bk _=>cases e2
  |ct _=>cases e2
 .cases e
theorem zmu{P:Program}{w:World}{K:vga}{mg:Str->Option Value}{base:Heap}{F:Nat->Option Fn}{idx:Nat}{f:Addr}{fd:FuncData}{ps:List Str}:FnOk P w K mg base CX0 0 f fd ps (spV K ps.length (run F 0 idx)):=
 ⟨λvs H Q E h=>h.1,λA outer s H args us vs Q E hr he hb hv hs=>by obtain⟨_,h,m,ws,w2,h2,r,q,e,k2⟩:=hs;cases e⟩
noncomputable def refAt(K:vga)(x:Str):Option Addr:=(match PySem.W.nsIn K mainGlobals x with
 |some (some (.ref f))=>some f
 |_=>none)
theorem zjg{K:vga}{x:Str}{f:Addr}(h:refAt K x=some f):PySem.W.nsIn K mainGlobals x=some (some (.ref f)):=by
 unfold refAt at h
 split at h
 .rename_i g e;cases h;exact e
 .cases h
end RF
namespace L2
open PySem PySem.Spec PyProof.Rows
theorem zh7:∀{ls:List Int} {us:List Value},Vals (ls.map .int) us->IntsAre us ls
 |[],_,.nil=>.nil
 |x::r,_,.cons ⟨t,e⟩ h=>by subst e;exact .cons x t (zh7 h)
theorem ztb:∀{ls:List Int} {us:List Value},IntsAre us ls->Vals (ls.map .int) us:=by
 intro ls us h
 induction h with
 |nil=>exact .nil
 |cons x t _ ih=>exact .cons ⟨t,rfl⟩ ih
section
variable{X:Cx}
theorem zpr(hc:X.calm=true):CallR X (.builtin "sum") (λxs H Q=>∃(p:Addr) (ns:List Int),xs=[.ref p]/\SqL X.K H p (ns.map .int)/\Q (.int ns.sum) H):=by
 intro pins s σ H xs us Q I r h
 obtain⟨p,ns,rfl,hq,q⟩:=h
 obtain⟨u,rfl,ru⟩:=vals1 r
 cases ru
 obtain⟨its,rv,pl,hz⟩:=I.list hq
 have hL:s.heap.IsList p its.toArray:=pl.isList
 have hi:=zh7 rv
 obtain⟨ys,hx⟩:=hi.allInts.items
 have hl':s.heap.IsList p (intItems ys):=hx▸hL
 refine sum_intListG (I.ok.hd hc) hl' λh' tk t' hk=>?_
 have e1:ns=ys.toList.map (·.1):=by
  rw[<-nums_intItems,<-hx]
  exact(show numsOf its.toArray.toList=ns from hi.numsOf).symm
 have e2:preSum (numAt ys) ys.size=ns.sum:=by
  rw[preSum_eq,List.take_of_length_le (by simp),e1]
 rw[e2]
 exact⟨.int ns.sum,H,I.kept (t':=tk) hk,⟨_,rfl⟩,q⟩
theorem zkv:CallR X (.builtin "sorted") (λxs H Q=>∃(p:Addr) (ns:List Int),xs=[.ref p]/\SqL X.K H p (ns.map .int)/\ns.length<64/\∀(l:Addr) (ms:List Int),H l=none->ms.Perm ns->ms.Pairwise (· <= ·)->Q (.ref l) (upd H l (.lst (ms.map .int)))):=by
 intro pins s σ H xs us Q I r h
 obtain⟨p,ns,rfl,hq,h64,q⟩:=h
 obtain⟨u,rfl,ru⟩:=vals1 r
 cases ru
 obtain⟨its,rv,pl,hz⟩:=I.list hq
 have hL:s.heap.IsList p its.toArray:=pl.isList
 have hlen:=rv.length
 rw[vaf]at hlen
 refine sorted_ints hL (zh7 rv) (by omega) λout ms a1 a2 a3=>?_
 obtain⟨e,he⟩:=sortedAll_at s.heap its out
 refine⟨.ref _,_,I.laid (t':=s.toks) (λb o z=>sortedAll_old z) (vci _) (show ObjOk X.prog X.w _ _ _ (.lst (ms.map .int))from⟨?_,out.toList,e,ztb a1,?_⟩),rfl,q _ ms (I.hok.fresh (vci _)) a2 a3⟩
 .rw[vaf,a2.length_eq,vc7];omega
 .exact he
end
end L2
namespace KO
open PySem PySem.W PyProof.Rows
variable{r:Nat->Int}
noncomputable def kev(r:Nat->Int){α:Type}:KasT α->α
 |.ret a=>a
 |.ask i j k=>kev r (k (decide (r i<r j)))
theorem zbv{α β:Type}{f:α->KasT β}:∀t:KasT α,kev r (t.bind f)=kev r (f (kev r t))
 |.ret _=>rfl
 |.ask i j k=>zbv (k (decide (r i<r j)))
noncomputable def J(r:Nat->Int)(p:Array Nat)(i:Nat):Int:=r ((p[i]?).getD 0)
theorem zew(p:Array Nat)(i:Nat):r (p.getD i 0)=J r p i:=by rw[Array.getD_eq_getD_getElem?];rfl
theorem zdz{p q:Array Nat}{i j:Nat}(h:p[i]?=q[j]?):J r p i=J r q j:=by unfold J;rw[h]
noncomputable def Up(r:Nat->Int)(p:Array Nat)(k:Nat):Prop:=∀i j,i<=j->j<k->J r p i<=J r p j
noncomputable def Dn(r:Nat->Int)(p:Array Nat)(k:Nat):Prop:=∀i j,i<j->j<k->J r p j<J r p i
noncomputable def Di(r:Nat->Int)(p:Array Nat):Prop:=∀i j,i<j->j<p.size->J r p i≠J r p j
theorem Up.one{p:Array Nat}:Up r p 1:=λi j a b=>by
 have:i=j:=by omega
 subst this
 exact ve6 _
theorem Up.succ{p:Array Nat}{n:Nat}(h:Up r p n)(h1:1<=n)(e:J r p (n-1)<=J r p n):Up r p (n+1):=λi j a b=>by
 by_cases x:j<n
 .exact h i j a x
 .have:j=n:=by omega
  subst this
  by_cases y:i=j
  .subst y;exact ve6 _
  .exact Int.le_trans (h i (j-1) (by omega) (by omega)) e
theorem Dn.succ{p:Array Nat}{n:Nat}(h:Dn r p n)(h1:1<=n)(e:J r p n<J r p (n-1)):Dn r p (n+1):=λi j a b=>by
 by_cases x:j<n
 .exact h i j a x
 .have:j=n:=by omega
  subst this
  by_cases y:i=j-1
  .subst y;exact e
  .exact Int.lt_trans e (h i (j-1) (by omega) (by omega))
theorem zfr{p:Array Nat}{k:Nat}(hs:Up r p k):∀(f l h:Nat),l<=h->h<=k->h-l<=f->(∀i,i<l->J r p i<=J r p k)->(∀i,h<=i->i<k->J r p k<J r p i)->
 kev r (kas_place p k f l h)<=k/\(∀i,i<kev r (kas_place p k f l h)->J r p i<=J r p k)/\(∀i,kev r (kas_place p k f l h)<=i->i<k->J r p k<J r p i)
 |0,l,h,a,b,c,d,e=>by
  have:l=h:=by omega
  subst this
  exact⟨b,d,e⟩
 |f+1,l,h,a,b,c,d,e=>by
  unfold kas_place
  by_cases g:l>=h
  .rw[if_pos g]
   have:l=h:=by omega
   subst this
   exact⟨b,d,e⟩
  .rw[if_neg g]
   show kev r (if decide (r (p.getD k 0)<r (p.getD ((l+h)/2) 0))=true then _ else _)<=k/\_
   simp only[kev,zew]
   by_cases x:J r p k<J r p ((l+h)/2)
   .rw[va1 x]
    simp only[va8]
    exact zfr hs f l ((l+h)/2) (by omega) (by omega) (by omega) d λi y z=>Int.lt_of_lt_of_le x (hs _ _ y z)
   .rw[vay x]
    simp only[vak,va7]
    exact zfr hs f ((l+h)/2+1) h (by omega) b (by omega) (λi y=>Int.le_trans (hs i ((l+h)/2) (by omega) (by omega)) (Int.not_lt.mp x)) e
theorem zjh{p:Array Nat}{src d:Nat}(hs:src<p.size)(hd:d<=src)(k:Nat) :
 J r (bubble p src d) k=if k=src-d then J r p src else if src-d<k/\k<=src then J r p (k-1)else J r p k:=by
 have e:=getElem?_bubble hs d hd k
 by_cases h1:k=src-d
 .rw[if_pos h1]at e ⊢;exact zdz e
 .rw[if_neg h1]at e ⊢
  by_cases h2:src-d<k/\k<=src
  .rw[if_pos h2]at e ⊢;exact zdz e
  .rw[if_neg h2]at e ⊢;exact zdz e
theorem J_rev{p:Array Nat}{j:Nat}(hj:j<=p.size)(k:Nat):J r (kas_rev p 0 j) k=if k<j then J r p (j-1-k)else J r p k:=by
 have e:=getElem?_mirror_all (i:=0) hj k
 unfold kas_rev
 by_cases h1:k<j
 .rw[if_pos ⟨vbb _,h1⟩]at e
  rw[if_pos h1]
  rw[vfb]at e
  exact zdz e
 .rw[if_neg (λz=>h1 z.2)]at e
  rw[if_neg h1]
  exact zdz e
theorem zxo{p:Array Nat}{k l:Nat}(hk:k<p.size)(hl:l<=k)(hs:Up r p k)(lo:∀i,i<l->J r p i<=J r p k)(hi:∀i,l<=i->i<k->J r p k<J r p i):Up r (bubble p k (k-l)) (k+1):=by
 intro i j hij hj
 rw[zjh hk (by omega),zjh hk (by omega),show k- (k-l)=l by omega]
 repeat' split
 all_goals first
  |(exfalso;omega)
  |exact ve6 _
  |exact lo _ (by omega)
  |exact Int.le_of_lt (hi _ (by omega) (by omega))
  |exact hs _ _ (by omega) (by omega)
theorem zrc:∀(f:Nat) (p:Array Nat) (k:Nat),k+f<=p.size->Up r p k->(kev r (kas_bin f p k)).Perm p/\Up r (kev r (kas_bin f p k)) (k+f)
 |0,p,k,_,h=>⟨vej _,h⟩
 |f+1,p,k,z,h=>by
  unfold kas_bin
  rw[zbv]
  obtain⟨a,b,c⟩:=zfr h k 0 k (vbb _) (vad _) (by omega) (λi y=>by omega) (λi y1 y2=>by omega)
  generalize kev r (kas_place p k k 0 k)=l at a b c
  obtain⟨x,y⟩:=zrc f (bubble p k (k-l)) (k+1) (by rw[bubble_size];omega) (zxo (by omega) a h b c)
  refine⟨x.trans (bubble_perm _ _ _),?_⟩
  rw[show k+ (f+1)=k+1+f by omega]
  exact y
theorem zmv{p:Array Nat}:∀(f n:Nat),1<=n->Up r p n->n<=kev r (kas_asc p f n)/\kev r (kas_asc p f n)<=n+f/\Up r p (kev r (kas_asc p f n))/\(kev r (kas_asc p f n)<n+f->J r p (kev r (kas_asc p f n))<J r p (kev r (kas_asc p f n)-1))
 |0,n,a,h=>⟨vad _,vad _,h,λx=>absurd x (vca _)⟩
 |f+1,n,a,h=>by
  have e:kev r (kas_asc p (f+1) n)=if J r p n<J r p (n-1)then n else kev r (kas_asc p f (n+1)):=by
   show kev r (if decide (r (p.getD n 0)<r (p.getD (n-1) 0))=true then KasT.ret n else kas_asc p f (n+1))=_
   simp only[zew,vav]
   split<;>rfl
  rw[e]
  by_cases x:J r p n<J r p (n-1)
  .rw[if_pos x]
   exact⟨vad _,by omega,h,λ_=>x⟩
  .rw[if_neg x]
   obtain⟨b,c,d,g⟩:=zmv f (n+1) (by omega) (h.succ a (Int.not_lt.mp x))
   exact⟨by omega,by omega,d,λy=>g (by omega)⟩
theorem zmw{p:Array Nat}(di:Di r p):∀(f n:Nat),1<=n->n+f<=p.size->Dn r p n->∃m,kev r (kas_desc f p n 0)=(p,m,0)/\n<=m/\m<=n+f/\Dn r p m
 |0,n,a,b,h=>⟨n,rfl,vad _,vad _,h⟩
 |f+1,n,a,b,h=>by
  by_cases x:J r p n<J r p (n-1)
  .obtain⟨m,e,c,d,g⟩:=zmw di f (n+1) (by omega) (by omega) (h.succ a x)
   refine⟨m,?_,by omega,by omega,g⟩
   rw[<-e]
   show kev r (if decide (r (p.getD n 0)<r (p.getD (n-1) 0))=true then _ else _)=_
   simp only[zew]
   rw[va1 x]
   rfl
  .have y:J r p (n-1)<J r p n:=by
    have:=di (n-1) n (by omega) (by omega)
    omega
   refine⟨n,?_,vad _,by omega,h⟩
   show kev r (if decide (r (p.getD n 0)<r (p.getD (n-1) 0))=true then _ else KasT.ask (p.getD (n-1) 0) (p.getD n 0) _)=_
   simp only[zew]
   rw[vay x]
   simp only[vak,va7]
   simp only[kev,zew]
   rw[va1 y]
   rfl
theorem ztc{p:Array Nat}{m n:Nat}(h1:1<=m)(hm:m<=n)(hn:n<=p.size)(h:Dn r p m):∃q k,kev r (kas_tail3 m n p)=(k,q)/\q.Perm p/\1<=k/\k<=n/\Up r q k:=by
 have u:Up r (kas_rev p 0 m) m:=by
  intro i j a b
  rw[J_rev (by omega),J_rev (by omega),if_pos (by omega),if_pos b]
  by_cases e:i=j
  .subst e;exact ve6 _
  .exact Int.le_of_lt (h _ _ (by omega) (by omega))
 obtain⟨b,c,d,_⟩:=zmv (n-m) m h1 u
 refine⟨kas_rev p 0 m,_,?_,ve7 _ _ _ _,vbo h1 b,by omega,d⟩
 unfold kas_tail3
 rw[zbv]
 rfl
theorem zji{p:Array Nat}(di:Di r p){n:Nat}(h2:2<=n)(hn:n<=p.size):∃q k,kev r (kas_count n p)=(k,q)/\q.Perm p/\1<=k/\k<=n/\Up r q k:=by
 unfold kas_count
 rw[zbv]
 obtain⟨b,c,d,e⟩:=zmv (p:=p) (n-1) 1 (vad _) Up.one
 generalize kev r (kas_asc p (n-1) 1)=m at b c d e
 by_cases x:m=n
 .rw[if_pos (by simpa using x)]
  exact⟨p,m,rfl,vej _,b,by omega,d⟩
 .rw[if_neg (by simpa using x)]
  by_cases y:m>1
  .rw[if_pos y]
   have z:J r p 0<J r p (m-1):=by
    have a1:=d 0 (m-1) (vbb _) (by omega)
    have a2:=di 0 (m-1) (by omega) (by omega)
    omega
   simp only[kev,zew]
   rw[va1 z]
   exact⟨p,m,rfl,vej _,b,by omega,d⟩
  .rw[if_neg y]
   have:m=1:=by omega
   subst this
   unfold kas_descPart
   rw[zbv]
   have d1:Dn r p 1:=λi j a b=>by omega
   obtain⟨m,e1,f1,f2,f3⟩:=zmw di (n- (1+1)) (1+1) (by omega) (by omega) (d1.succ (vad _) (e (by omega)))
   rw[e1]
   simp only[vca,gt_iff_lt,va7]
   exact ztc (by omega) (by omega) hn f3
theorem sort_ok{n:Nat}(h2:2<=n)(di:∀i j,i<j->j<n->r i≠r j):(kev r (kas_sort n)).Perm (List.range n).toArray/\Up r (kev r (kas_sort n)) n:=by
 have hz:(List.range n).toArray.size=n:=by simp
 have hd:Di r (List.range n).toArray:=by
  intro i j a b
  rw[hz]at b
  unfold J
  rw[vdx,vdx,vbd (by omega),vbd b]
  exact di i j a b
 unfold kas_sort
 rw[zbv]
 obtain⟨q,k,e,a,b,c,d⟩:=zji hd h2 (Nat.le_of_eq hz.symm)
 rw[e]
 show(kev r (if k<n then kas_bin (n-max k 1) q (max k 1)else KasT.ret q)).Perm _/\Up r (kev r (if k<n then kas_bin (n-max k 1) q (max k 1)else KasT.ret q)) n
 rw[show max k 1=k by omega]
 have hq:q.size=n:=by rw[a.size_eq,hz]
 by_cases x:k<n
 .rw[if_pos x]
  obtain⟨f,g⟩:=zrc (n-k) q k (by omega) d
  exact⟨f.trans a,by rw[show k+ (n-k)=n by omega]at g;exact g⟩
 .rw[if_neg x]
  have:k=n:=by omega
  subst this
  exact⟨a,d⟩
end KO
namespace KO
open PySem PySem.W PyProof.Rows
variable{r:Nat->Int}
noncomputable def Ask(r:Nat->Int)(n:Nat){α:Type}:KasT α->Prop
 |.ret _=>True
 |.ask i j k=>i<n/\j<n/\Ask r n (k (decide (r i<r j)))
theorem zbw{n:Nat}{α β:Type}{f:α->KasT β}:∀{t:KasT α},Ask r n t->Ask r n (f (kev r t))->Ask r n (t.bind f)
 |.ret _,_,h=>h
 |.ask _ _ _,g,h=>⟨g.1,g.2.1,zbw g.2.2 h⟩
noncomputable def Ln(n:Nat)(p:Array Nat):Prop:=0<n/\∀x∈p,x<n
theorem Ln.at_{n:Nat}{p:Array Nat}(h:Ln n p)(i:Nat):p.getD i 0<n:=by
 rw[Array.getD_eq_getD_getElem?]
 cases e:p[i]? with
 |none=>exact h.1
 |some x=>
  obtain⟨hi,e⟩:=Array.getElem?_eq_some_iff.mp e
  subst e
  exact h.2 _ (Array.getElem_mem hi)
theorem Ln.perm{n:Nat}{p q:Array Nat}(h:Ln n p)(e:q.Perm p):Ln n q:=⟨h.1,λx hx=>h.2 x (e.mem_iff.mp hx)⟩
variable{n:Nat}
theorem zd0{p:Array Nat}(L:Ln n p){k:Nat}:∀f l h,Ask r n (kas_place p k f l h)
 |0,_,_=>trivial
 |f+1,l,h=>by
  unfold kas_place
  split
  .trivial
  .refine⟨L.at_ _,L.at_ _,?_⟩
   dsimp only
   split
   .exact zd0 L _ _ _
   .exact zd0 L _ _ _
theorem zmx:∀(f:Nat) (p:Array Nat) (k:Nat),Ln n p->Ask r n (kas_bin f p k)
 |0,_,_,_=>trivial
 |f+1,p,k,L=>by
  unfold kas_bin
  exact zbw (zd0 L _ _ _) (zmx f _ _ (L.perm (bubble_perm _ _ _)))
theorem zh8{p:Array Nat}(L:Ln n p):∀f k,Ask r n (kas_asc p f k)
 |0,_=>trivial
 |f+1,k=>by
  unfold kas_asc
  refine⟨L.at_ _,L.at_ _,?_⟩
  dsimp only
  split
  .trivial
  .exact zh8 L f _
theorem zdf:∀(f:Nat) (p:Array Nat) (k q:Nat),Ln n p->Ask r n (kas_desc f p k q)
 |0,_,_,_,_=>trivial
 |f+1,p,k,q,L=>by
  unfold kas_desc
  refine⟨L.at_ _,L.at_ _,?_⟩
  dsimp only
  split
  .split
   .exact zdf f _ _ _ (L.perm (ve7 _ _ _ _))
   .exact zdf f _ _ _ L
  .refine⟨L.at_ _,L.at_ _,?_⟩
   dsimp only
   split
   .trivial
   .exact zdf f _ _ _ L
theorem zck:∀(f:Nat) (p:Array Nat) (k q:Nat),(kev r (kas_desc f p k q)).1.Perm p
 |0,p,_,_=>vej _
 |f+1,p,k,q=>by
  unfold kas_desc
  simp only[kev]
  split
  .split
   .exact(zck f _ _ _).trans (ve7 _ _ _ _)
   .exact zck f _ _ _
  .simp only[kev]
   split
   .exact vej _
   .exact zck f _ _ _
theorem zjj{p:Array Nat}(L:Ln n p)(m k:Nat):Ask r n (kas_tail3 m k p):=by
 unfold kas_tail3
 exact zbw (zh8 (L.perm (ve7 _ _ _ _)) _ _) trivial
theorem zrd{p:Array Nat}(L:Ln n p)(m k:Nat):Ask r n (kas_descPart m k p):=by
 unfold kas_descPart
 refine zbw (zdf _ _ _ _ L) ?_
 have L2:=L.perm (zck (r:=r) (k- (m+1)) p (m+1) 0)
 split
 .exact zjj (L2.perm (ve7 _ _ _ _)) _ _
 .exact zjj L2 _ _
theorem zmy{p:Array Nat}(L:Ln n p)(k:Nat):Ask r n (kas_count k p):=by
 unfold kas_count
 refine zbw (zh8 L _ _) ?_
 split
 .trivial
 .split
  .refine⟨L.at_ _,L.at_ _,?_⟩
   dsimp only
   split
   .trivial
   .exact zrd (L.perm (ve7 _ _ _ _)) _ _
  .exact zrd L _ _
theorem ask_sort(h2:2<=n)(di:∀i j,i<j->j<n->r i≠r j):Ask r n (kas_sort n):=by
 have hz:(List.range n).toArray.size=n:=by simp
 have hd:Di r (List.range n).toArray:=by
  intro i j a b
  rw[hz]at b
  unfold J
  rw[vdx,vdx,vbd (by omega),vbd b]
  exact di i j a b
 have L:Ln n (List.range n).toArray:=⟨by omega,λx hx=>by simpa using hx⟩
 unfold kas_sort
 refine zbw (zmy L _) ?_
 obtain⟨q,k,e,a,_⟩:=zji hd h2 (Nat.le_of_eq hz.symm)
 rw[e]
 show Ask r n (if k<n then kas_bin (n-max k 1) q (max k 1)else KasT.ret q)
 split
 .exact zmx _ _ _ (L.perm a)
 .trivial
theorem kas_of{α:Type}{cmp:Nat->Nat->(Bool->Shared->Prop)->Shared->Prop}{s:Shared}(hc:∀i j C,i<n->j<n->C (decide (r i<r j)) s->cmp i j C s):∀{t:KasT α} {Q:α->Shared->Prop},Ask r n t->Q (kev r t) s->t.kasWp cmp Q s
 |.ret _,_,_,q=>q
 |.ask i j k,Q,g,q=>hc i j _ g.1 g.2.1 (kas_of hc g.2.2 q)
end KO
namespace L2
open PySem PySem.Spec PyProof.Rows PySem.W
section
variable{X:Cx}{pins:List (Addr×Obj)}{σ:St}{H:Hp}{s:Shared}{h':Heap}
theorem Inv.laidL{a:Addr}{o:HO}{t':Nat}(I:Inv X pins σ H s)(k:∀b u,b≠X.env.locals->s.heap.get? b=some u->h'.get? b=some u)(ns:∀m,s.heap.Ns X.env.locals m->h'.Ns X.env.locals m)(hp:s.heap.objs.size<=a)
 (new:ObjOk X.prog X.w (upd H a o) h' a o):Inv X pins σ (upd H a o) {s with heap:=h',toks:=t'}:=by
 have hn:H a=none:=I.hok.fresh hp
 have nl:∀b u,H b=some u->b≠X.env.locals:=λb u e z=>by rw[z,I.free]at e;cases e
 refine I.step (g':=s.gens) (d':=s.drawn) (ch:=[]) (λ_ z=>nomatch z) (λb u h1 _ _ e _=>k b u h1 e) (λb u h1 _ _ e _=>⟨u.slots,k b u h1 e⟩)
  (λb u _ q n=>by rw[zae (vaz (vah (vap q) hp))];exact n) (λb u _ e=>?_)
  (λb xs q=>by rw[zae (zad q hn)];exact q) (λb u xs q=>by rw[zae (zad q hn)];exact q) (λb ps q=>⟨#[],by rw[zae (zad q hn),q];simp⟩) ns (λb u e=>?_) I.bare
 .by_cases z:b=X.env.locals
  .obtain⟨m,hm,_⟩:=I.loc
   obtain⟨o',_,_,g,_⟩:=ns m hm
   exact⟨o',by rw[z];exact g⟩
  .exact⟨u,k b u z e⟩
 .by_cases z:b=a
  .subst z
   rw[zan]at e
   cases e
   exact new
  .rw[zae z]at e
   refine(I.hok b u e).stay (λc v hc q=>k c v ?_ q) (λc q=>by rw[zae (zad q hn)];exact q) λc xs q=>by rw[zae (zad q hn)];exact q
   rcases hc with hc|hc
   .rw[hc];exact nl b u e
   .exact nl c _ hc
noncomputable def zjk(h:Heap)(L:Addr):List (Addr×Obj):=(List.range h.objs.size).filterMap λb=>if b=L then none else(h.get? b).map λo=>(b,o)
theorem zba{h:Heap}{L b:Addr}{o:Obj}:(b,o)∈zjk h L↔b≠L/\h.get? b=some o:=by
 unfold zjk
 rw[List.mem_filterMap]
 constructor
 .rintro⟨c,_,e⟩
  split at e
  .cases e
  .rename_i hne
   cases g:h.get? c with
   |none=>rw[g]at e;cases e
   |some u=>
    rw[g]at e
    cases e
    exact⟨hne,g⟩
 .rintro⟨h1,h2⟩
  exact⟨b,vb5.mpr (vap h2),by rw[if_neg h1,h2];rfl⟩
theorem zxp{h:Heap}{L:Addr}{m m':Str->Option Value}(a:h.Ns L m)(b:h.Ns L m'):m'=m:=by
 obtain⟨o,es,ep,g,d,_,f⟩:=a
 obtain⟨o',es',ep',g',d',_,f'⟩:=b
 rw[g]at g';cases g'
 rw[d]at d';cases d'
 funext x
 rw[<-f,<-f']
end
section
variable{prog:Program}{w:World}{A:Around}{E:Value->Shared->Prop}{s:Shared}{l:Addr}{vs:List Value}
noncomputable def h1(h:Heap)(vs:List Value):Heap:=((h.push (seqObj "list" #[] 0)).update h.objs.size (Obj.mapSeq (· ++ vs.toArray))).push (seqObj "list" vs.toArray 0)
theorem zh9{h:Heap}:((h.push (seqObj "list" #[] 0)).update h.objs.size (Obj.mapSeq (· ++ vs.toArray))).objs.size=h.objs.size+1:=by rw[Heap.size_update,size_push']
theorem h1_at{h:Heap}:(h1 h vs).get? (h.objs.size+1)=some (seqObj "list" vs.toArray 0):=by
 unfold h1
 rw[<-zh9 (vs:=vs)]
 exact vao _ rfl
theorem zre{h:Heap}{b:Addr}{o:Obj}(q:h.get? b=some o):(h1 h vs).get? b=some o:=by
 have hlt:b<h.objs.size:=vap q
 unfold h1
 rw[Heap.get?_push_ne _ _ _ (by rw[zh9];exact vaz (vch hlt)),Heap.get?_update_ne _ _ _ _ (vaz hlt),Heap.get?_push_ne _ _ _ (vaz hlt)]
 exact q
theorem zxq{h:Heap}{out:Array Value}:sortedHeap (h1 h vs) (h.objs.size+1) vs out=sortedAll h vs out:=by
 unfold sortedAll h1
 rfl
theorem zmz{Q:Value->Shared->Prop}(hl:s.heap.IsList l vs.toArray)(h64:vs.length<64)
 (h:∀P:PySem.Fin->Shared->Prop,(∀s',Q (.ref (s.heap.objs.size+1)) s'->P (.done (.ret .none)) s')->wpAny (model prog w) A.in1.in1 (Builtin.«list.sort» ⟨[.ref (s.heap.objs.size+1)],[]⟩) P E {s with heap:=h1 s.heap vs}) :
 wpAny (model prog w) A (call (.builtin "sorted") [.ref l]) Q E s:=by
 refine Calls.call_function_entry kind_sorted plain_sorted entry_sorted (args_sorted1 _) ?_
 unfold Builtin.«sorted»
 refine vaa (m:=checkCount "sorted" 1 1 _) (vae ?_)
 refine vaa (collect_list hl ?_ (by rw[vc7];omega))
 refine vaa (wpAny_newList ?_ (by rw[vc7];omega))
 show wpAny _ _ _ _ _ {s with heap:=h1 s.heap vs}
 rw[zh9]
 refine vaa (vck (vbj slot_list_sort ⟨_,h1_at,rfl⟩ entry_list_sort (h _ λs' q=>?_) (args_list_sort _)))
 exact⟨_,rfl,vae ⟨_,rfl,q⟩⟩
theorem zps{a:Addr}{n:Nat}{P:PySem.Fin->Shared->Prop}(ho:s.heap.get? a=some (seqObj "list" vs.toArray n))(h2:vs.length<2)(h:P (.done (.ret .none)) {s with heap:=sortedHeap s.heap a vs vs.toArray}) :
 wpAny (model prog w) A (Builtin.«list.sort» ⟨[.ref a],[]⟩) P E s:=by
 rw[list_sort_plain]
 have ha:a<s.heap.objs.size:=vap ho
 have hl:(vs.length:Nat)<=sizeLine:=by rw[vc7];omega
 refine vaa (listItems_at ho rfl ?_)
 refine vaa (listUpdate_at ho rfl ?_ (by rw[vam];exact hl) (vbb _))
 obtain⟨e1,ho1⟩:∃e1,(s.heap.update a (Obj.mapSeq λ_=>#[])).get? a=some (seqObj "list" #[] e1):=⟨_,get?_update_seq ho (λ_=>#[])⟩
 refine vaa (seqEpoch_at ho1 rfl ?_)
 refine vaa (wpAny_newTuple ?_ (by show vs.length<=_;exact hl))
 refine vaa (wpAny_newList ?_ (vbb _))
 refine vck ?_
 have ho6:(((s.heap.update a (Obj.mapSeq λ_=>#[])).push (seqObj "tuple" vs.toArray 0)).push (seqObj "list" #[] 0)).get? a=some (seqObj "list" #[] e1):=vac _ (vac _ ho1)
 show wpAny (model prog w) A _ P E {s with heap:=((s.heap.update a (Obj.mapSeq λ_=>#[])).push (seqObj "tuple" vs.toArray 0)).push (seqObj "list" #[] 0)}
 dsimp only
 have hs:vs.toArray.size<2:=by rw[vam];exact h2
 have hm:(arrOf (SortSt.mk' general' (vs.toArray.zip vs.toArray) #[] 7 none)).map (·.2)=vs.toArray:=by
  show(vs.toArray.zip vs.toArray).map (·.2)=vs.toArray
  simp only[List.zip_toArray,List.map_toArray]
  exact vdr _ (List.map_snd_zip (vad _))
 rw[if_pos hs,if_pos hs]
 refine vaa (vae ?_)
 rw[StateT.run_pure]
 refine vaa (vae ?_)
 dsimp only
 refine vaa (seqEpoch_at ho6 rfl ?_)
 rw[hm]
 refine vaa (listUpdate_at ho6 rfl ?_ (vbb _) (by rw[vam];first|exact hl|exact Nat.le_succ_of_le hl))
 simp only[bne_self_eq_false,vak,va7]
 exact vae h
end
section
variable{X:Cx}
theorem zc4{ts:List (Addr×Int×Int)}{i:Nat}(hi:i<ts.length):(ts.map (·.2.1)).getD i 0=ts[i].2.1:=by simp[hi]
theorem ztd{ts:List (Addr×Int×Int)}{vs:List Value}(r:Vals (ts.map λt=>V.ref t.1) vs):vs=ts.map λt=>Value.ref t.1:=by
 induction ts generalizing vs with
 |nil=>cases r;rfl
 |cons t ts ih=>
  cases r with
  |cons a b=>
   cases a
   rw[ih b]
   rfl
theorem zpt{prog:Program}{w:World}{A:Around}{s:Shared}{a b c d:Int}{t1 t2 t3 t4:Tok}{Q:Bool->Shared->Prop}(e:a=c->b=d)(h:Q (decide (a<c)) s) :
 KatLex prog w A true false Q [(.int a t1,.int c t3),(.int b t2,.int d t4)] 0 s:=by
 refine kat_cons (vev ?_)
 by_cases z:a=c
 .have e':(a==c)=true:=by simpa using z
  rw[e']
  refine kat_yes (kat_cons (vev ?_))
  have e2:(b==d)=true:=by simpa using e z
  rw[e2]
  refine kat_yes (kat_nil ?_)
  rw[show decide (a<c)=false from vay (by omega)]at h
  exact h
 .have e':(a==c)=false:=by simpa using z
  rw[e']
  exact kat_no (oneLt_int h)
noncomputable abbrev dT:Addr×Int×Int:=(0,0,0)
theorem zkw{α:Type}(d:α)(ts:List α):(List.range ts.length).map (λi=>ts.getD i d)=ts:=by
 refine List.ext_getElem (by simp) λi h1 h2=>?_
 simp[h2]
theorem zxr{ts:List (Addr×Int×Int)}{is:List Nat}(h:∀i∈is,i<ts.length):is.map (λi=>(ts.map λt=>Value.ref t.1).getD i Value.none)=(is.map λi=>ts.getD i dT).map λt=>Value.ref t.1:=by
 rw[vct]
 refine vd9 λi hi=>?_
 have:=h i hi
 simp[this]
theorem us_up{ts:List (Addr×Int×Int)}{p:Array Nat}(hb:∀i∈p.toList,i<ts.length)(h:KO.Up (λi=>(ts.map (·.2.1)).getD i 0) p p.size):(p.toList.map λi=>ts.getD i dT).Pairwise λa b=>a.2.1<=b.2.1:=by
 rw[List.pairwise_map,List.pairwise_iff_getElem]
 intro i j hi hj hij
 have x:=h i j (vdh hij) (by simpa using hj)
 have hi':i<p.size:=by simpa using hi
 have hj':j<p.size:=by simpa using hj
 unfold KO.J at x
 rw[Array.getElem?_eq_getElem hi',Array.getElem?_eq_getElem hj']at x
 have b1:=hb p[i] (by simp)
 have b2:=hb p[j] (by simp)
 simpa[b1,b2]using x
noncomputable def zex(h:Heap)(t:Addr×Int×Int):Prop:=∃o n t1 t2,h.get? t.1=some o/\o.cls=.type "tuple"/\o.data=.seq #[.int t.2.1 t1,.int t.2.2 t2] n
theorem zm0{h:Heap}:∀{ts:List (Addr×Int×Int)},(∀t∈ts,zex h t)->∃fs,KatTups h (ts.map λt=>Value.ref t.1) fs/\fs.length=ts.length/\∀v∈fs,∃i t,v=.int i t
 |[],_=>⟨[],trivial,rfl,λv h=>nomatch h⟩
 |t::ts,g=>by
  obtain⟨fs,a,b,c⟩:=zm0 λx hx=>g x (vag _ hx)
  obtain⟨o,n,t1,t2,e1,e2,e3⟩:=g t (vai ..)
  refine⟨.int t.2.1 t1::fs,KatTups.cons e1 e2 e3 rfl a,by rw[vaj,vaj,b],λv hv=>?_⟩
  rcases vau.mp hv with hv|hv
  .exact⟨_,_,hv⟩
  .exact c v hv
theorem zte{pins:List (Addr×Obj)}{σ:St}{H:Hp}{s:Shared}{t:Addr×Int×Int}(I:Inv X pins σ H s)(h:SqT X.K H t.1 [.int t.2.1,.int t.2.2]):zex s.heap t:=by
 obtain⟨its,rv,pt,_⟩:=I.tuple h
 obtain⟨o,a,b,n,d⟩:=pt
 obtain⟨u,v,e,⟨t1,e1⟩,⟨t2,e2⟩⟩:=vals2 rv
 subst e e1 e2
 exact⟨o,n,t1,t2,a,b,d⟩
theorem zex.ne{h:Heap}{t:Addr×Int×Int}{L:Addr}{m:Str->Option Value}(p:zex h t)(n:h.Ns L m):t.1≠L:=λz=>by
 obtain⟨o,_,_,_,a,_,d⟩:=p
 obtain⟨o',_,_,a',d',_⟩:=n
 rw[z,a']at a
 cases a
 rw[d']at d
 cases d
theorem zdg{ts:List (Addr×Int×Int)}(nd:(ts.map (·.2.1)).Nodup):∀i j,i<j->j<ts.length->(ts.map (·.2.1)).getD i 0≠(ts.map (·.2.1)).getD j 0:=λi j a b e=>by
 rw[zc4 (by omega),zc4 b]at e
 have:=List.pairwise_iff_getElem.mp nd i j (by simpa using Nat.lt_trans a b) (by simpa using b) a
 simp at this
 exact this e
theorem zxs{α:Type}{R:α->α->Prop}:∀{ts:List α},ts.length<2->ts.Pairwise R
 |[],_=>.nil
 |[_],_=>List.pairwise_singleton ..
 |_::_::_,h=>absurd h (by simp)
theorem ztf{pins:List (Addr×Obj)}{σ:St}{H:Hp}{s:Shared}{xs:List V}{vs:List Value}(I:Inv X pins σ H s)(rv:Vals xs vs)(lz:xs.length<=sizeLine) :
 ∃H',Inv X pins σ H' {s with heap:=sortedAll s.heap vs vs.toArray}/\H (s.heap.objs.size+1)=none/\True/\H'=upd H (s.heap.objs.size+1) (.lst xs):=by
 obtain⟨e,he⟩:=sortedAll_at s.heap vs vs.toArray
 exact⟨_,I.laid (t':=s.toks) (λb o z=>sortedAll_old z) (vci _) (show ObjOk X.prog X.w _ _ _ (.lst xs)from⟨lz,vs,e,rv,he⟩),I.hok.fresh (vci _),trivial,rfl⟩
theorem zkx:CallR X (.builtin "sorted") (λxs H Q=>∃(p:Addr) (ts:List (Addr×Int×Int)),xs=[.ref p]/\SqL X.K H p (ts.map λt=>V.ref t.1)/\(∀t∈ts,SqT X.K H t.1 [.int t.2.1,.int t.2.2])/\(ts.map (·.2.1)).Nodup/\ts.length<64/\
 ∀(l:Addr)(us:List (Addr×Int×Int)),H l=none->us.Perm ts->us.Pairwise (λa b=>a.2.1<=b.2.1)->Q (.ref l) (upd H l (.lst (us.map λt=>V.ref t.1)))):=by
 intro pins s σ H xs us Q I r h
 obtain⟨p,ts,rfl,hq,hT,nd,h64,q⟩:=h
 obtain⟨u,rfl,ru⟩:=vals1 r
 cases ru
 obtain⟨its,rv,pl,hz⟩:=I.list hq
 have hL:s.heap.IsList p its.toArray:=pl.isList
 have e:=ztd rv
 subst e
 obtain⟨m,hm,_⟩:=id I.loc
 have pa:∀t∈ts,zex s.heap t:=λt ht=>zte I (hT t ht)
 have lz:ts.length<=sizeLine:=by rw[vc7];omega
 refine zmz hL (by rw[vaf];exact h64) λP hP=>?_
 by_cases h2:ts.length<2
 .refine zps h1_at (by rw[vaf];exact h2) (hP _ ?_)
  dsimp only
  rw[zxq]
  obtain⟨H',I2,x1,x2,x3⟩:=ztf I rv (by rw[vaf];exact lz)
  subst x3
  refine⟨.ref (s.heap.objs.size+1),_,I2,rfl,q _ ts x1 (vfd _) (zxs h2)⟩
 .have hlen:(ts.map λt=>Value.ref t.1).length=ts.length:=vaf ..
  have hna:∀x∈zjk s.heap X.env.locals,x.1≠s.heap.objs.size+1:=λx hx=>vaz (vch (vap (zba.mp hx).2))
  have F:Fr {} X.env.locals (h1 s.heap (ts.map λt=>Value.ref t.1)) m:=by
   obtain⟨o,es,ep,g,w⟩:=hm
   exact⟨⟨o,es,ep,zre g,w⟩,λb o e=>(by cases e),vbb _⟩
  have N:News {} X.env.locals (h1 s.heap (ts.map λt=>Value.ref t.1)) (zjk s.heap X.env.locals):=λx hx=>⟨zre (zba.mp hx).2,(zba.mp hx).1,rfl⟩
  refine kat_list_sort F N h1_at (vdi (vch hm.lt)) rfl hna (by omega) (by omega) λe1 h' F' N'=>?_
  have k':∀b o,b≠X.env.locals->s.heap.get? b=some o->h'.get? b=some o:=λb o x1 x2=>(N' (b,o) (vag _ (zba.mpr ⟨x1,x2⟩))).1
  have pa':∀t∈ts,zex h' t:=λt ht=>by
   have ne:=(pa t ht).ne hm
   obtain⟨o,n,t1,t2,a,b⟩:=pa t ht
   exact⟨o,n,t1,t2,k' _ _ ne a,b⟩
  obtain⟨fs,f1,f2,f3⟩:=zm0 pa'
  refine kat_kind (T:=.type "int") f1 (by omega) (λv hv=>?_) rfl ?_
  .obtain⟨i,t,rfl⟩:=f3 v hv
   exact Looks.of_pure rfl
  rw[hlen]
  obtain⟨g1,g2⟩:=KO.sort_ok (r:=λi=>(ts.map (·.2.1)).getD i 0) (n:=ts.length) (by omega) (zdg nd)
  refine KO.kas_of (r:=λi=>(ts.map (·.2.1)).getD i 0) (n:=ts.length) (λi j C hi hj hC=>?_) (KO.ask_sort (by omega) (zdg nd)) ?_
  .obtain⟨o,n,t1,t2,a1,_,a3⟩:=pa' ts[i] (vc0 hi)
   obtain⟨o',n',t1',t2',b1,_,b3⟩:=pa' ts[j] (vc0 hj)
   have z1:(ts.map λt=>Value.ref t.1).getD i Value.none=.ref ts[i].1:=by simp[hi]
   have z2:(ts.map λt=>Value.ref t.1).getD j Value.none=.ref ts[j].1:=by simp[hj]
   unfold kas_ask
   rw[z1,z2]
   refine kat_lt a1 a3 b1 b3 (zpt (λz=>?_) ?_)
   .by_cases x:i=j
    .subst x;rfl
    .rcases Nat.lt_or_gt_of_ne x with y|y
     .exact absurd z (by rw[<-zc4 hi,<-zc4 hj];exact zdg nd i j y hj)
     .exact absurd z.symm (by rw[<-zc4 hi,<-zc4 hj];exact zdg nd j i y hi)
   .rw[<-zc4 hi,<-zc4 hj];exact hC
  .generalize KO.kev (λi=>(ts.map (·.2.1)).getD i 0) (kas_sort ts.length)=p' at g1 g2
   have pl':p'.toList.Perm (List.range ts.length):=by simpa using Array.perm_iff_toList_perm.mp g1
   have sz:p'.size=ts.length:=by rw[g1.size_eq];simp
   have hb:∀i∈p'.toList,i<ts.length:=λi hi=>vb5.mp (pl'.mem_iff.mp hi)
   refine KasFin.intro F' N' (UpdF.head hna) λh'' c F'' N''=>hP _ ?_
   have k'':∀b o,b≠X.env.locals->s.heap.get? b=some o->h''.get? b=some o:=λb o x1 x2=>(N'' (b,o) (vag _ (zba.mpr ⟨x1,x2⟩))).1
   have pu:(p'.toList.map λi=>ts.getD i dT).Perm ts:=by
    have:=pl'.map λi=>ts.getD i dT
    rw[zkw]at this
    exact this
   have ho:=(N'' _ (vai ..)).1
   rw[zxr hb]at ho
   refine⟨.ref _,_,I.laidL (t':=s.toks) k'' (λm' hm'=>by rw[zxp hm hm'];exact F''.ns) (vci _) (show ObjOk X.prog X.w _ _ _ (.lst ((p'.toList.map λi=>ts.getD i dT).map λt=>V.ref t.1))from⟨?_,_,c,?_,ho⟩),rfl,q _ _ (I.hok.fresh (vci _)) pu (us_up hb (by rw[sz];exact g2))⟩
   .rw[vaf,pu.length_eq];exact lz
   .generalize (p'.toList.map λi=>ts.getD i dT)=us
    induction us with
    |nil=>exact .nil
    |cons t us ih=>exact .cons rfl ih
end
end L2
namespace L2
open PySem PySem.Spec PyProof.Rows PySem.W
theorem zgv{P:Program}{w:World}:∀{kvs:List (Key×V)} {vs:List (Key×Value)} {us:List Value},KV kvs vs->us.length=vs.length->(∀(j:Nat) (v:Value),us[j]?=some v->∃k x,vs[j]?=some (k,x)/\(zau P w).is k v=true)->Vals (kvs.map λkv=>kV kv.1) us
 |[],_,[],_,_,_=>.nil
 |[],_,_::_,.nil,hl,_=>nomatch hl
 |_::_,_,[],.cons _ _,hl,_=>nomatch hl
 |a::r,b::t,u::us,.cons q qs,hl,h=>by
  refine .cons ?_ (zgv qs (by simpa using hl) λj v e=>by simpa using h (j+1) v (by simpa using e))
  obtain⟨k,x,e,hk⟩:=h 0 u rfl
  cases e
  obtain⟨e1,_⟩:=q
  show RelV (kV a.1) u
  rw[e1]
  exact is_kV hk
theorem zky{X:Cx}(hc:X.calm=true):CallR X (.type "list") (λxs H Q=>∃a kvs,xs=[.ref a]/\H a=some (.dK kvs)/\∀l,H l=none->Q (.ref l) (upd H l (.lst (kvs.map λkv=>kV kv.1)))):=by
 intro pins s σ H xs us Q I r h
 obtain⟨a,kvs,rfl,e,q⟩:=h
 obtain⟨u,rfl,rx⟩:=vals1 r
 cases rx
 obtain⟨hz,hd,vs,kv,dd⟩:=dk_of I.hok e
 obtain⟨ep,dd⟩:=dd.dictAt
 have hl:=kv.length
 refine kdl_call (kdl_dict hd) (I.ok.hd hc) dd (by omega) λh' tk acc c hk hS hacc=>?_
 have rv:Vals (kvs.map λkv=>kV kv.1) acc.toList:=zgv (P:=X.prog) (w:=X.w) kv (by rw[vdk];exact hacc.1) λj v e=>hacc.2 j v (by rw[<-Array.getElem?_toList];exact e)
 exact⟨.ref s.heap.objs.size,_,I.laid (t':=tk) hk (vad _) (show ObjOk X.prog X.w _ h' _ (.lst _)from⟨by rw[vaf];exact hz,acc.toList,c,rv,by rw[Array.toArray_toList];exact hS⟩),rfl,q _ (I.hok.fresh (vad _))⟩
end L2
namespace RF
open PySem PySem.Spec PyProof.Rows L2
section
variable{α:Type}{f:α->Int}
theorem zfs(x:α):∀l:List α,(insB f x l).Perm (x::l)
 |[]=>vfd _
 |y::r=>by
  unfold insB
  split
  .exact vfd _
  .exact((zfs x r).cons y).trans (List.Perm.swap ..)
theorem zbh:∀l:List α,(srtB f l).Perm l
 |[]=>vfd _
 |x::r=>(zfs x _).trans ((zbh r).cons x)
theorem zrf(x:α):∀{l:List α},l.Pairwise (λa b=>f a<=f b)->(insB f x l).Pairwise λa b=>f a<=f b
 |[],_=>List.pairwise_singleton ..
 |y::r,h=>by
  obtain⟨h1,h2⟩:=List.pairwise_cons.mp h
  unfold insB
  split
  .rename_i z
   have z:f x<=f y:=vba z
   refine List.pairwise_cons.mpr ⟨λa ha=>?_,h⟩
   rcases vau.mp ha with e|ha
   .rw[e];exact z
   .exact Int.le_trans z (h1 a ha)
  .rename_i z
   have z:¬f x<=f y:=λq=>z (va1 q)
   refine List.pairwise_cons.mpr ⟨λa ha=>?_,zrf x h2⟩
   rcases vau.mp ((zfs x r).mem_iff.mp ha)with e|ha
   .rw[e];omega
   .exact h1 a ha
theorem zm1:∀l:List α,(srtB f l).Pairwise λa b=>f a<=f b
 |[]=>.nil
 |x::r=>zrf x (zm1 r)
theorem zia{l m:List α}(hi:∀a b,a∈l->b∈l->f a=f b->a=b)(p:m.Perm l)(h:m.Pairwise λa b=>f a<=f b):m=srtB f l:=
 List.Perm.eq_of_pairwise (λa b ha hb x y=>hi a b (p.mem_iff.mp ha) ((zbh l).mem_iff.mp hb) (Int.le_antisymm x y)) h (zm1 l) (p.trans (zbh l).symm)
end
theorem nd_of:∀{l:List Int},ndB l=true->l.Nodup
 |[],_=>vfc
 |x::r,h=>by
  unfold ndB at h
  rw[vab]at h
  refine vcx.mpr ⟨λz=>?_,nd_of h.2⟩
  have:=h.1
  simp[z]at this
section
variable{K:vga}{m:Nat->Addr}{n:Nat}{H:Hp}
theorem zm2:∀{vs:List V} {ws:List W} {is:List Int},VReps K m n H vs ws->mapO iZ ws=some is->vs=is.map .int
 |_,_,_,.nil,e=>by cases e;rfl
 |_,_,_,.cons (w:=w) (ws:=ws) q r,e=>by
  unfold mapO at e
  cases z:iZ w with
  |none=>rw[z]at e;cases e
  |some b=>
   rw[z]at e
   cases z2:mapO iZ ws with
   |none=>rw[z2]at e;cases e
   |some cs=>
    rw[z2]at e;cases e
    unfold iZ at z
    split at z<;>cases z
    cases q
    rw[zm2 r z2];rfl
theorem zjl:∀is:List Int,VReps K m n H (is.map .int) (is.map .int)
 |[]=>.nil
 |i::r=>.cons (.int i) (zjl r)
theorem pl_ok:∀{vs:List V} {ws:List W} {ps:List (Int×Int)},VReps K m n H vs ws->mapO pW ws=some ps->∃ts:List (Addr×Int×Int),vs=ts.map (λt=>V.ref t.1)/\ts.map (·.2)=ps/\∀t∈ts,SqT K H t.1 [.int t.2.1,.int t.2.2]
 |_,_,_,.nil,e=>by cases e;exact⟨[],rfl,rfl,λt h=>nomatch h⟩
 |_,_,_,.cons (w:=w) (ws:=ws) q r,e=>by
  unfold mapO at e
  cases z:pW w with
  |none=>rw[z]at e;cases e
  |some b=>
   rw[z]at e
   cases z2:mapO pW ws with
   |none=>rw[z2]at e;cases e
   |some cs=>
    rw[z2]at e;cases e
    unfold pW at z
    split at z<;>cases z
    obtain⟨ts,e1,e2,e3⟩:=pl_ok r z2
    cases q with
    |tup s1 s2=>
     obtain⟨x,y,rfl,q1,q2⟩:=reps2 s2
     cases q1
     cases q2
     refine⟨(_,_,_)::ts,by rw[e1];rfl,vdr (_ :: ·) e2,λt ht=>?_⟩
     rcases vau.mp ht with e|ht
     .rw[e];exact s1
     .exact e3 t ht
theorem zgw:∀ts:List (Addr×Int×Int),(∀t∈ts,SqT K H t.1 [.int t.2.1,.int t.2.2])->VReps K m n H (ts.map λt=>V.ref t.1) ((ts.map (·.2)).map wP)
 |[],_=>.nil
 |t::r,h=>.cons (.tup (h t (vai ..)) (.cons (.int _) (.cons (.int _) .nil))) (zgw r λx hx=>h x (vag _ hx))
end
theorem zxt{K:vga}:CallV K (λxs H Q=>∃(p:Addr) (ns:List Int),xs=[.ref p]/\SqL K H p (ns.map .int)/\Q (.int ns.sum) H) sumW:=by
 intro m h H vs xs w h' Q r q e k
 unfold sumW at e
 split at e<;>try cases e
 rename_i i
 split at e<;>try cases e
 rename_i ws g
 obtain⟨v,rfl,q1⟩:=reps1 q
 obtain⟨e,rfl⟩:=of_ok e
 cases z:mapO iZ ws with
 |none=>rw[z]at e;cases e
 |some is=>
  rw[z]at e;cases e
  cases q1
  obtain⟨us,p1,p2⟩:=r.lst g
  refine⟨_,is,rfl,?_,Wants.here k r (.int _)⟩
  rw[<-zm2 p2 z]
  exact .inl (.inl p1)
theorem zxu{K:vga}:CallV K (λxs H Q=>∃i j,xs=[.int i,.int j]/\CDiv i j/\∀p,H p=none->Q (.ref p) (upd H p (.tup [.int (i/j),.int (i % j)]))) dvmW:=by
 intro m h H vs xs w h' Q r q e k
 unfold dvmW at e
 split at e<;>try cases e
 rename_i i j
 split at e<;>try cases e
 rename_i z
 rw[vab,vav,vav]at z
 obtain⟨v,u,rfl,q1,q2⟩:=reps2 q
 cases q1
 cases q2
 exact⟨i,j,rfl,z,λp hp=>Wants.tuple k r (.cons (.int _) (.cons (.int _) .nil)) hp⟩
noncomputable def rSrt(K:vga):List V->Hp->VK->Prop:=λxs H Q=>
 (∃(p:Addr) (ns:List Int),xs=[.ref p]/\SqL K H p (ns.map .int)/\ns.length<64/\∀(l:Addr)(ms:List Int),H l=none->ms.Perm ns->ms.Pairwise (· <= ·)->Q (.ref l) (upd H l (.lst (ms.map .int))))\/
 ∃(p:Addr) (ts:List (Addr×Int×Int)),xs=[.ref p]/\SqL K H p (ts.map λt=>V.ref t.1)/\(∀t∈ts,SqT K H t.1 [.int t.2.1,.int t.2.2])/\(ts.map (·.2.1)).Nodup/\ts.length<64/\
  ∀(l:Addr)(us:List (Addr×Int×Int)),H l=none->us.Perm ts->us.Pairwise (λa b=>a.2.1<=b.2.1)->Q (.ref l) (upd H l (.lst (us.map λt=>V.ref t.1)))
theorem zpu{X:Cx}:CallR X (.builtin "sorted") (rSrt X.K):=by
 intro pins s σ H xs us Q I r h
 rcases h with h|h
 .exact zkv pins s σ H xs us Q I r h
 .exact zkx pins s σ H xs us Q I r h
theorem zxv{K:vga}:CallV K (rSrt K) srtW:=by
 intro m h H vs xs w h' Q r q e k
 unfold srtW at e
 split at e<;>try cases e
 rename_i i
 split at e<;>try cases e
 rename_i ws g
 split at e<;>try cases e
 rename_i h64
 have h64:ws.length<64:=Nat.lt_of_succ_le (vbh h64)
 obtain⟨v,rfl,q1⟩:=reps1 q
 cases z:srtL ws with
 |none=>rw[z]at e;cases e
 |some ys=>
  rw[z]at e
  cases e
  cases q1
  obtain⟨us,p1,p2⟩:=r.lst g
  have hlen:=p2.length
  unfold srtL at z
  cases z1:mapO iZ ws with
  |some is=>
   rw[z1]at z
   cases z
   have ev:=zm2 p2 z1
   subst ev
   refine .inl ⟨_,is,rfl,.inl (.inl p1),by rw[vaf]at hlen;omega,λl ms hl hp hu=>?_⟩
   have:ms=srtB id is:=zia (f:=id) (λa b _ _ x=>x) hp hu
   subst this
   exact Wants.list k r (zjl _) hl
  |none=>
   rw[z1]at z
   cases z2:mapO pW ws with
   |none=>rw[z2]at z;cases z
   |some ps=>
    rw[z2]at z
    dsimp only at z
    split at z<;>cases z
    rename_i nd
    obtain⟨ts,e1,e2,e3⟩:=pl_ok p2 z2
    subst e1 e2
    have nd:=nd_of nd
    rw[vct]at nd
    refine .inr ⟨_,ts,rfl,.inl (.inl p1),e3,nd,by rw[vaf]at hlen;omega,λl us hl hp hu=>?_⟩
    have hm:us.map (·.2)=srtB (λp:Int×Int=>p.1) (ts.map (·.2)):=by
     refine zia (f:=λp:Int×Int=>p.1) (λa b ha hb x=>?_) (hp.map _) (List.pairwise_map.mpr hu)
     obtain⟨t,ht,rfl⟩:=va3.mp ha
     obtain⟨t',ht',rfl⟩:=va3.mp hb
     obtain⟨i,hi,rfl⟩:=List.getElem_of_mem ht
     obtain⟨j,hj,rfl⟩:=List.getElem_of_mem ht'
     have pw:=List.pairwise_iff_getElem.mp nd
     by_cases y:i=j
     .subst y;rfl
     .rcases Nat.lt_or_gt_of_ne y with y|y
      .have:=pw i j (by simpa using hi) (by simpa using hj) y
       simp at this
       exact absurd x this
      .have:=pw j i (by simpa using hj) (by simpa using hi) y
       simp at this
       exact absurd x.symm this
    rw[<-hm]at k
    exact Wants.list k r (zgw us λt ht=>e3 t (hp.mem_iff.mp ht)) hl
section
variable{K:vga}{m:Nat->Addr}{h:VH}{H:Hp}
theorem zxw{a:Addr}{u:HO}(e:H a=some u):upd H a u=H:=by
 funext b
 by_cases z:b=a
 .subst z;rw[zan,e]
 .rw[zae z]
theorem Rel.thaw(r:Rel K m h H){i:Nat}{kvs:List (Key×W)}(g:h.get i=some (.dm kvs)):Rel K m (h.set i (.dk kvs)) H:=by
 obtain⟨vs,p1,p2⟩:=r.dm g
 obtain⟨_,r'⟩:=r.write (i:=i) (o:=.dk kvs) (u:=.dK vs) (zah g) p1 (λ_ z=>nomatch z) (λ_ _ z=>nomatch z) λst=>⟨vs,.inl zan,p2.stp st⟩
 rw[zxw p1]at r'
 exact r'
theorem Wants.dictM{Q:VK}(k:Wants K m h.n H (.ref h.n) (h.new (.dm [])) Q)(r:Rel K m h H){p:Addr}(hp:H p=none):Q (.ref p) (upd H p (.dK [])):=by
 obtain⟨st,r'⟩:=r.alloc (o:=.dm []) (u:=.dK []) hp (λ_ z=>nomatch z) (λst=>⟨[],zan,.nil⟩)
 refine k _ _ _ st r' ?_
 have:VRep K (λi=>if i=h.n then p else m i) (h.n+1) (upd H p (.dK [])) (.ref ((λi=>if i=h.n then p else m i) h.n)) (.ref h.n):=.ref (vbc _)
 simp only[va8]at this
 exact this
end
section
variable{X:Cx}{e:Expr}{fa:FE}{pos:Pos}
theorem zxx:SE X (.Dict [] [] pos) (gArg aNil dm0W):=zi4.imp λσ H Q z9 p hp=>z9.el λρ h m w h' f r e k=>by
 cases e
 exact Wants.dictM k r hp
theorem zxy(he:SE X e fa):SE X e (gArg (aCons fa aNil) frzW):=he.imp λσ H Q z9=>z9.el λρ h m w h' f r e k=>by
 refine zac e λy h1 e1 e2=>?_
 refine zac e1 λx h2 e3 e4=>?_
 cases e4
 refine(.mk f r e3 λv H1 m1 s1 r1 q1=>?_)
 dsimp only at e2
 unfold frzW at e2
 split at e2
 .rename_i i heq
  cases heq
  split at e2
  .rename_i kvs g
   cases e2
   exact k v H1 m1 s1 (r1.thaw g) q1
  .cases e2
 .cases e2
end
set_option genInjectivity false in
structure CC where
 N:List Str
 names:List (Str×NameKind)
 fnAll:Bool
noncomputable def zc5:List Str->Str->Nat->Option Nat
 |[],_,_=>none
 |y::r,x,i=>if y==x then some i else zc5 r x (i+1)
theorem zgx:∀{N:List Str} {x:Str} {k i:Nat},zc5 N x k=some i->∃j,i=k+j/\N[j]?=some x
 |[],_,_,_,e=>by cases e
 |y::r,x,k,i,e=>by
  unfold zc5 at e
  split at e
  .rename_i h
   cases e
   exact⟨0,rfl,by simpa using h⟩
  .obtain⟨j,h1,h2⟩:=zgx e
   exact⟨j+1,by omega,by simpa using h2⟩
theorem zm3{N:List Str}{x:Str}{i:Nat}(e:zc5 N x 0=some i):N[i]?=some x:=by
 obtain⟨j,h1,h2⟩:=zgx e
 rw[show i=j by omega];exact h2
noncomputable def visK:Option NameKind->Bool
 |some .local|some .cell|some .free=>true
 |_=>false
noncomputable def locK(all:Bool):Option NameKind->Bool
 |some .local=>true
 |some .cell=>all
 |_=>false
noncomputable def okN(x:Str):Bool:=!(x==("__debug__" : Str)) && !(x==("__classdict__" : Str)) && !(x==("__name__" : Str)) && !(x==("" : Str))
theorem zxz{x:Str}(h:okN x=true):x≠"":=by
 unfold okN at h
 simp only[vab,Bool.not_eq_true']at h
 exact λz=>by rw[z]at h;simp at h
theorem zey{x:Str}(h:okN x=true):(x==("__debug__" : Str))=false/\(x==("__classdict__" : Str))=false/\x≠"__name__":=by
 unfold okN at h
 simp only[vab,Bool.not_eq_true']at h
 exact⟨h.1.1.1,h.1.1.2,λz=>by rw[z]at h;simp at h⟩
noncomputable def cstW(K:vga):Nat->Value->Option W
 |0,_=>none
 |n+1,v=>match v with
  |.none=>some .non
  |.bool b=>some (.bl b)
  |.int i _=>some (.int i)
  |.str x _=>some (.str x)
  |.ref a=>(match K.lookup a with
   |some o=>(match o.cls,o.dict,o.data with
    |.type t,none,.seq its _=>if t == "tuple" && Nat.ble its.size 1000 then(mapO (cstW K n) its.toList).map .tup else none
    |_,_,_=>none)
   |none=>none)
  |_=>none
theorem zm4{K:vga}{f:Value->Option W}(ih:∀v w,f v=some w->∃x,RelV x v/\∀m n H,VRep K m n H x w):∀{us:List Value} {ws:List W},mapO f us=some ws->∃xs,Vals xs us/\∀m n H,VReps K m n H xs ws
 |[],_,e=>by cases e;exact⟨[],.nil,λ_ _ _=>.nil⟩
 |u::us,ws,e=>by
  unfold mapO at e
  split at e
  .rename_i b hb
   split at e
   .rename_i bs hbs
    cases e
    obtain⟨x,h1,h2⟩:=ih u b hb
    obtain⟨xs,h3,h4⟩:=zm4 ih hbs
    exact⟨x::xs,.cons h1 h3,λm n H=>.cons (h2 m n H) (h4 m n H)⟩
   .cases e
  .cases e
theorem zrg{K:vga}:∀(n:Nat) (v:Value) (w:W),cstW K n v=some w->∃x,RelV x v/\∀m n H,VRep K m n H x w
 |0,_,_,e=>by cases e
 |n+1,v,w,e=>by
  unfold cstW at e
  split at e
  .cases e;exact⟨.non,rfl,λ_ _ _=>.non⟩
  .cases e;exact⟨.bl _,rfl,λ_ _ _=>.bl _⟩
  .cases e;exact⟨.int _,⟨_,rfl⟩,λ_ _ _=>.int _⟩
  .cases e;exact⟨.str _,⟨_,rfl⟩,λ_ _ _=>.str _⟩
  .rename_i a
   split at e
   .rename_i o ho
    split at e
    .rename_i t its nn hc hdd hd
     split at e
     .rename_i hz
      rw[vab]at hz
      have ht:t = "tuple":=by simpa using hz.1
      subst ht
      cases z:mapO (cstW K n) its.toList with
      |none=>rw[z]at e;cases e
      |some ws=>
       rw[z]at e
       cases e
       obtain⟨xs,h3,h4⟩:=zm4 (zrg n) z
       exact⟨.ref a,rfl,λm n H=>.tup (.inr ⟨o,its,nn,ho,hc,hdd,hd,vdh (zgo (vbh hz.2)),h3⟩) (h4 m n H)⟩
     .cases e
    .cases e
   .cases e
  .cases e
noncomputable def cL(f:Expr->Option E):List Expr->Option E
 |[]=>some .nil
 |e::es=>match f e,cL f es with
  |some a,some r=>some (.cons a r)
  |_,_=>none
noncomputable def fnAt(K:vga)(x:Str):Option (Addr×Obj×FuncData):=match refAt K x with
 |some f=>(match K.lookup f with
  |some o=>(match o.data with
   |.func fd=>some (f,o,fd)
   |_=>none)
  |none=>none)
 |none=>none
noncomputable def za7:Arguments->Option (List Arg)
 |⟨[],args,none,[],[],none,_⟩=>some args
 |_=>none
noncomputable def isNone:Value->Bool
 |.none=>true
 |_=>false
noncomputable def zft:Data->Bool
 |.seq xs _=>(match xs.toList with
  |[v]=>isNone v
  |_=>false)
 |_=>false
noncomputable def noneD(K:vga):Value->Bool
 |.ref t=>(match K.lookup t with
  |some o=>zft o.data
  |none=>false)
 |_=>false
noncomputable def zd1(K:vga)(x:Str)(n:Nat):Bool:=match fnAt K x with
 |some (_,_,fd)=>noneD K fd.defaults&&Nat.beq (n+1) fd.params.args.length
 |none=>false
noncomputable def hasD(K:vga)(x:Str):Bool:=match fnAt K x with
 |some (_,_,fd)=>noneD K fd.defaults
 |none=>false
theorem zkz{K:vga}{x:Str}{n:Nat}(h:zd1 K x n=true):hasD K x=true:=by
 unfold zd1 at h
 unfold hasD
 split at h
 .rw[vab]at h;exact h.1
 .cases h
noncomputable def padE:E->E
 |.nil=>.cons (.cst .non) .nil
 |.cons a r=>.cons a (padE r)
 |e=>e
noncomputable def argsE:E->Bool
 |.nil=>true
 |.cons _ r=>argsE r
 |_=>false
theorem zx0{cl:Call}:∀{a:E},argsE a=true->∀(ρ:En) (h:VH),ev cl (padE a) ρ h=(ev cl a ρ h).bind λy h=>match y with|.tup ys=>.ok (.tup (ys++[.non])) h|_=>.no:=by
 intro a
 induction a with
 |nil=>intro _ ρ h;rfl
 |cons x r _ ih=>
  intro ha ρ h
  have ih:=ih ha
  simp only[padE,ev]
  cases ev cl x ρ h with
  |no=>rfl
  |ex _ _=>rfl
  |ok w h1=>
   show Res.bind (ev cl (padE r) ρ h1) _=Res.bind (Res.bind (ev cl r ρ h1) _) _
   rw[ih]
   cases ev cl r ρ h1 with
   |no=>rfl
   |ex _ _=>rfl
   |ok y h2=>cases y<;>rfl
 |_=>intro ha;cases ha
theorem zm5{f:Expr->Option E}:∀{es:List Expr} {a:E},cL f es=some a->argsE a=true
 |[],_,h=>by cases h;rfl
 |e::es,a,h=>by
  unfold cL at h
  split at h
  .rename_i x r h1 h2
   cases h
   show argsE r=true
   exact zm5 h2
  .cases h
noncomputable def cPs(f:Expr->Option E):List (Option Expr)->List Expr->Option E
 |[],[]=>some .nil
 |some k::ks,v::vs=>match f k,f v,cPs f ks vs with
  |some a,some b,some r=>some (.cons a (.cons b r))
  |_,_,_=>none
 |_,_=>none
noncomputable def cB(and:Bool)(f:Expr->Option E):List Expr->Option E
 |[]=>none
 |[a]=>f a
 |a::b::r=>match f a,cB and f (b::r)with
  |some x,some y=>some (if and then .and x y else .or x y)
  |_,_=>none
noncomputable def cO(f:Expr->Option E):Option Expr->Option (Bool×E)
 |none=>some (false,.cst .non)
 |some e=>(f e).map λc=>(true,c)
noncomputable def zd2(K:vga)(C:CC)(x:Str):Bool:=C.names.lookup x==some .globalImplicit&& (match PySem.W.nsIn K mainGlobals x with|some none=>true|_=>false)
noncomputable def tyOf(x:Str):Option Ty:=
 if x==("int" : Str)then some .int else if x==("bool" : Str)then some .bool else if x==("tuple" : Str)then some .tuple else if x==("list" : Str)then some .list else if x==("str" : Str)then some .str else if x==("dict" : Str)then some .dict else none
noncomputable def lrOf(f:Str)(args:List Expr):Option Expr:=if f==("list" : Str)then(match args with
 |[.Call (.Name g _) [a] [] _]=>if g==("range" : Str)then some a else none
 |_=>none)else none
noncomputable def biOf(x:Str):Option Bi:=
 if x==("len" : Str)then some .len else if x==("list" : Str)then some .list else if x==("tuple" : Str)then some .tuple else if x==("int" : Str)then some .int else if x==("abs" : Str)then some .abs else if x==("min" : Str)then some .min else if x==("all" : Str)then some .all else if x==("sum" : Str)then some .sum else if x==("divmod" : Str)then some .dvm else if x==("sorted" : Str)then some .srt else none
noncomputable def zrh:Expr->Bool
 |.Tuple ..=>true
 |_=>false
noncomputable def okW:Kd->Expr->Bool
 |.enm,t=>zrh t
 |.zip,t=>zrh t
 |_,_=>true
noncomputable def nmIx(C:CC):Expr->Option Nat
 |.Name x _=>if okN x&&locK C.fnAll (C.names.lookup x)then zc5 C.N x 0 else none
 |_=>none
noncomputable def cTg(C:CC):Expr->Option Tg
 |.Name x p=>(nmIx C (.Name x p)).map .one
 |.Tuple [.Tuple es _ _,e] _ _=>(match mapO (nmIx C) es,nmIx C e with
  |some is,some j=>some (.two is j)
  |_,_=>none)
 |.Tuple es _ _=>(mapO (nmIx C) es).map .many
 |_=>none
noncomputable def ownOf(sc:Scope):List Str:=(sc.names.filter λy=>y.2 == .local && !(y.1==(".0" : Str))).map (·.1)
noncomputable def za3(sc:Scope):List Str:=(sc.names.filter λy=>y.2 == .free).map (·.1)
noncomputable def zd3(C:CC)(sc:Scope)(ix:List Nat):Bool:=
 decide (sc.kind=.function)&&sc.names.all (λy=>decide (y.2≠.cell))&&sc.names.all (λy=>decide (y.2=.local->sc.names.lookup y.1=some .local)) &&
 (ownOf sc).all (λx=>decide (sc.names.lookup x=some .local))&&sc.names.all (λy=>decide (y.2=.free->C.names.lookup y.1=some .cell\/C.names.lookup y.1=some .free))&&decide (ix.length=(za3 sc).length) &&
 ((List.range (za3 sc).length).all λk=>match(za3 sc)[k]?,ix[k]? with
   |some x,some j=>decide (C.N[j]?=some x)&&decide (sc.names.lookup x=some .free)
   |_,_=>false)&&decide (ownOf sc++za3 sc).Nodup
noncomputable def inC(sc:Scope):CC:=⟨ownOf sc++za3 sc,sc.names,false⟩
noncomputable def zib:Expr->Bool
 |.Dict [] [] _=>true
 |_=>false
noncomputable def zic(x:Str):Bool:=x==("counts" : Str)||x==("_law_counts" : Str)
noncomputable def zpv(x:Str):Bool:=x==("rockers" : Str)
mutual
noncomputable def cE(K:vga)(T:List Str):Nat->CC->Expr->Option E
 |0,_,_=>none
 |n+1,C,e=>match e with
  |.Name x _=>if okN x then(if visK (C.names.lookup x)then(zc5 C.N x 0).map .var
   else if C.names.lookup x==some .globalImplicit then(match PySem.W.nsIn K mainGlobals x with
    |some (some v)=>(cstW K 8 v).map .cst
    |_=>none)else none)else none
  |.Constant c _ _=>(match c with
   |.int i=>some (.cst (.int i))
   |.bool b=>some (.cst (.bl b))
   |.none=>some (.cst .non)
   |.str x=>some (.cst (.str x))
   |_=>none)
  |.Tuple es _ _=>(cL (cE K T n C) es).map .tup
  |.List es _=>(cL (cE K T n C) es).map .lst
  |.Dict ks vs _=>(match ks,vs with
   |[],[]=>some (.dsp .nil)
   |_,_=>none)
  |.BinOp a O b _=>(match opOf O,cE K T n C a,cE K T n C b with
   |some o,some x,some y=>some (.op o x y)
   |_,_,_=>none)
  |.UnaryOp o a _=>(match o with
   |.Not=>(cE K T n C a).map .not
   |.USub=>(cE K T n C a).map .neg
   |_=>none)
  |.BoolOp o es _=>(match o with
   |.And=>cB true (cE K T n C) es
   |.Or=>cB false (cE K T n C) es)
  |.Compare a Os bs _=>(match Os,bs with
   |[O],[b]=>if zb4 b then(match cpOf O,cE K T n C a,cE K T n C b with
   |some c,some x,some y=>some (.cmp c x y)
   |_,_,_=>none)else none
   |[O,O'],[b,c]=>if zb4 c then(match cpOf O,cpOf O',cE K T n C a,cE K T n C b,cE K T n C c with
   |some o,some o',some x,some y,some z=>some (.chn o o' x y z)
   |_,_,_,_,_=>none)else none
   |_,_=>none)
  |.IfExp c a b _=>(match cT K T n C c,cE K T n C a,cE K T n C b with
   |some z,some x,some y=>some (.ite z x y)
   |_,_,_=>none)
  |.Subscript a b _=>(match b with
   |.Slice lo hi st _=>(match st with
    |none=>(match cE K T n C a,cO (cE K T n C) lo,cO (cE K T n C) hi with
   |some x,some (bl,l),some (bh,u)=>some (.slc x bl l bh u)
   |_,_,_=>none)
    |some _=>none)
   |b=>if zdy b then(match cE K T n C a,cE K T n C b with
   |some x,some y=>some (.idx x y)
   |_,_=>none)else none)
  |.Call fn args kw pos=>(match kw with
   |[]=>(match fn with
    |.Name f _=>if okN f&&C.names.lookup f==some .globalImplicit then(match PySem.W.nsIn K mainGlobals f with
     |some none=>if f==("isinstance" : Str)then(match args with
      |[a,.Name t _]=>(match tyOf t,cE K T n C a with
       |some ty,some x=>if okN t&&zd2 K C t then some (.isi ty x)else none
       |_,_=>none)
      |_=>none)
      else(match biOf f,args with
       |some b,_::_=>(cL (cE K T n C) args).map (.bi b)
       |_,_=>none)
     |some (some _)=>(match zc5 T f 0 with
      |some i=>if zd1 K f args.length && !args.isEmpty then(cL (cE K T n C) args).map (λa=>.call i (padE a))else(cL (cE K T n C) args).map (.call i)
      |none=>none)
     |none=>none)else none
    |.Attribute o mth ap=>if zfn o&& (ap.endLine==pos.line)then(match cE K T n C o,args with
     |some x,[a]=>if mth==("append" : Str)then(cE K T n C a).map λy=>.mt .append x (.cons y .nil)else none
     |some x,[a,b]=>if mth==("get" : Str)then(match cE K T n C a,cE K T n C b with
      |some y,some z=>some (.mt .get x (.cons y (.cons z .nil)))
      |_,_=>none)else none
     |_,_=>none)else none
    |_=>none)
   |_=>none)
  |.ListComp elt gs sc _=>(match gs with
   |[⟨tg,iter,ifs,0⟩]=>(match mapO (λx=>zc5 C.N x 0) (za3 sc)with
    |some ix=>if zd3 C sc ix then(match cW K T n C iter,cTg (inC sc) tg,(match ifs with|[]=>some (.cst (.bl true))|[c]=>cT K T n (inC sc) c|_=>none),cE K T n (inC sc) elt with
     |some (kd,a),some t,some c,some e=>if okW kd tg then some (.lc kd a t (ownOf sc).length ix c e)else none
     |_,_,_,_=>none)else none
    |none=>none)
   |_=>none)
  |_=>none
noncomputable def cT(K:vga)(T:List Str):Nat->CC->Expr->Option E
 |0,_,_=>none
 |n+1,C,e=>match e with
  |.Compare a Os bs _=>(match Os,bs with
   |[O],[b]=>if zb4 b then(match cpOf O,cE K T n C a,cE K T n C b with
   |some c,some x,some y=>some (.cmp c x y)
   |_,_,_=>none)else none
   |[O,O'],[b,c]=>if zb4 c then(match cpOf O,cpOf O',cE K T n C a,cE K T n C b,cE K T n C c with
   |some o,some o',some x,some y,some z=>some (.chn o o' x y z)
   |_,_,_,_,_=>none)else none
   |_,_=>none)
  |.UnaryOp o a _=>(match o with
   |.Not=>(cT K T n C a).map .not
   |_=>none)
  |.BoolOp o es _=>(match o with
   |.And=>cB true (cT K T n C) es
   |.Or=>cB false (cT K T n C) es)
  |.Name x p=>(cE K T n C (.Name x p)).map .tru
  |.Call f as ks p=>(cE K T n C (.Call f as ks p)).map .tru
  |.Subscript a b p=>(cE K T n C (.Subscript a b p)).map .tru
  |_=>none
noncomputable def cW(K:vga)(T:List Str):Nat->CC->Expr->Option (Kd×E)
 |0,_,_=>none
 |n+1,C,e=>match e with
  |.Call (.Name f p) args [] pos=>if f==("range" : Str)then(if zd2 K C f then(match args with
   |[a]=>(cE K T n C a).map λx=>(.rng1,.cons x .nil)
   |_=>none)else none)
   else if f==("enumerate" : Str)then(if zd2 K C f then(match args with
    |[a]=>(cE K T n C a).map λx=>(.enm,x)
    |_=>none)else none)
   else if f==("reversed" : Str)then(if zd2 K C f then(match args with
    |[a]=>(cE K T n C a).map λx=>(.rev,x)
    |_=>none)else none)
   else if f==("zip" : Str)then(if zd2 K C f then(match args with
    |[a,b]=>(match cE K T n C a,cE K T n C b with
     |some x,some y=>some (.zip,.cons x (.cons y .nil))
     |_,_=>none)
    |_=>none)else none)
   else(cE K T n C (.Call (.Name f p) args [] pos)).map λx=>(.seq,x)
  |.Set ..=>none
  |.Name x p=>(cE K T n C (.Name x p)).map λc=>if zic x then(.keys,.bi .frz (.cons c .nil))else(if zpv x then .keys else .seq,c)
  |e=>(cE K T n C e).map λx=>(.seq,x)
end
noncomputable def cSs(f:Stmt->Option S):List Stmt->Option S
 |[]=>some .skip
 |s::r=>match f s,cSs f r with
  |some a,some b=>some (.seq a b)
  |_,_=>none
noncomputable def cS(K:vga)(T:List Str)(d:Nat):Nat->CC->Stmt->Option S
 |0,_,_=>none
 |n+1,C,s=>match s with
  |.Pass _=>some .skip
  |.Break _=>some .brk
  |.Continue _=>some .cnt
  |.Raise ..=>some .no
  |.Return r _=>(match r with
   |none=>some (.ret (.cst .non))
   |some e=>(cE K T d C e).map .ret)
  |.Expr e _=>if zjd e then(cE K T d C e).map .expr else none
  |.Assign l e _=>(match l with
   |[t]=>(match t with
    |.Name x p=>(match nmIx C (.Name x p),cE K T d C e with
    |some i,some c=>some (.set i (if zic x&&zib e then .bi .dm0 .nil else c))
    |_,_=>none)
    |.Tuple ts _ _=>if noTup e then(match mapO (nmIx C) ts,cE K T d C e with
    |some is,some c=>some (.unp is c)
    |_,_=>none)else none
    |.Subscript o i _=>if zdy i then(match cE K T d C o,cE K T d C i,cE K T d C e with
    |some x,some y,some z=>some (.put x y z)
    |_,_,_=>none)else none
    |_=>none)
   |_=>none)
  |.AugAssign t O e _=>(match t with
   |.Name x p=>(match nmIx C (.Name x p),ipOf O,cE K T d C e with
    |some i,some o,some c=>some (.aug i o c)
    |_,_,_=>none)
   |_=>none)
  |.If c a b _=>(match cT K T d C c,cSs (cS K T d n C) a,cSs (cS K T d n C) b with
   |some z,some x,some y=>some (.ite z x y)
   |_,_,_=>none)
  |.For tg it b el _=>(match el with
   |[]=>(match cW K T d C it,cTg C tg,cSs (cS K T d n C) b with
    |some (kd,a),some t,some x=>if okW kd tg then some (.for kd a t x)else none
    |_,_,_=>none)
   |_=>none)
  |.While c b el _=>(match el with
   |[]=>(match cT K T d C c,cSs (cS K T d n C) b with
    |some z,some x=>some (.whl z x)
    |_,_=>none)
   |_=>none)
  |_=>none
structure XOk(X:Cx)(C:CC)(T:List Str)(F:Nat->Option Fn)(k:Nat):Prop where
 hN:X.N=C.N
 nd:C.N.Nodup
 vis:∀x,visK (C.names.lookup x)=true->Vis X.env.scope x
 loc:∀x,locK C.fnAll (C.names.lookup x)=true->Loc X.env.scope x/\(X.fn x=true\/X.env.scope.names.lookup x=some .local)
 gl:∀x,C.names.lookup x=some .globalImplicit->Gl X x
 cf:∀x,(C.names.lookup x=some .cell\/C.names.lookup x=some .free)->X.env.kindOf x=some .cell\/X.env.kindOf x=some .free
 calm:X.calm=true
 room:Room k X.A
 xe:X.xe=λ_ _=>False
 kfn:X.env.scope.kind=.function
 mgs:∀x v,PySem.W.nsIn X.K mainGlobals x=some (some v)->X.mg x=some v
 mgn:∀x,PySem.W.nsIn X.K mainGlobals x=some none->X.mg x=none
 fns:∀(i:Nat)(x:Str),T[i]?=some x->x≠""->∃f fd ps fn,refAt X.K x=some f/\FnOk X.prog X.w X.K X.mg X.base CX0 k f fd ps (spV X.K ps.length (run F k i))/\PySem.W.keepIn X.K (.ref f)=true/\Binds X.K fd ps []/\F i=some fn/\fn.ps=ps.length/\(hasD X.K x=true->Binds X.K fd ps [.none])
section
variable{X:Cx}{C:CC}{T:List Str}{F:Nat->Option Fn}{k:Nat}
theorem XOk.u65(O:XOk X C T F k):X.A.units+65<cLine:=by have:=O.room.un;omega
theorem XOk.u2(O:XOk X C T F k):X.A.units+2<cLine:=vee (Nat.add_le_add_left (by decide:2<=64) _) O.room.units
theorem XOk.u1(O:XOk X C T F k):X.A.units+1<cLine:=vee (Nat.add_le_add_left (by decide:1<=64) _) O.room.units
theorem zbr(O:XOk X C T F k){x:Str}(h:zd2 X.K C x=true):Gl X x/\X.mg x=none:=by
 unfold zd2 at h
 rw[vab]at h
 refine⟨O.gl x (by simpa using h.1),O.mgn x ?_⟩
 have h2:=h.2
 split at h2
 .assumption
 .cases h2
theorem nm_ok(O:XOk X C T F k){e:Expr}{i:Nat}(h:nmIx C e=some i):NmOk X e i:=by
 unfold nmIx at h
 split at h
 .split at h
  .rename_i hc
   rw[vab]at hc
   obtain⟨h1,h2⟩:=O.loc _ hc.2
   exact⟨_,_,rfl,by rw[O.hN];exact zm3 h,h1,h2⟩
  .cases h
 .cases h
theorem zjm(O:XOk X C T F k):∀{es:List Expr} {is:List Nat},mapO (nmIx C) es=some is->Paired (NmOk X) es is
 |[],_,h=>by cases h;exact .nil
 |e::es,is,h=>by
  unfold mapO at h
  split at h
  .rename_i b hb
   split at h
   .rename_i bs hbs
    cases h
    exact .cons (nm_ok O hb) (zjm O hbs)
   .cases h
  .cases h
theorem tg_ok(O:XOk X C T F k){e:Expr}{t:Tg}(h:cTg C e=some t):PG X e (lftG X.K t):=by
 unfold cTg at h
 split at h
 .rename_i x p
  cases z:nmIx C (.Name x p)with
  |none=>rw[z]at h;cases h
  |some i=>
   rw[z]at h;cases h
   obtain⟨x',p',e,h1,h2,h3⟩:=nm_ok O z
   cases e
   exact zq6 (O.hN▸O.nd) h1 h2 h3
 .split at h
  .rename_i is j z z2
   cases h
   obtain⟨x',p',e,h1,h2,h3⟩:=nm_ok O z2
   exact zw8 O.calm (O.hN▸O.nd) (zjm O z) ⟨x',p',e,h1,h2,h3⟩
  .cases h
 .rename_i es kx p _
  cases z:mapO (nmIx C) es with
  |none=>rw[z]at h;cases h
  |some is=>rw[z]at h;cases h;exact zhy O.calm (O.hN▸O.nd) (zjm O z)
 .cases h
theorem cL_ok{f:Expr->Option E}{cl:Call}(ih:∀e c,f e=some c->SE X e (ev cl c)/\zay e=true):∀{es:List Expr} {c:E},cL f es=some c->SA X es (ev cl c)/\es.all zay=true
 |[],_,h=>by cases h;exact⟨zmc,rfl⟩
 |e::es,c,h=>by
  unfold cL at h
  split at h
  .rename_i a r ha hr
   cases h
   obtain⟨h1,h2⟩:=ih e a ha
   obtain⟨h3,h4⟩:=cL_ok ih hr
   exact⟨zfh h1 h3 (zaj h2),by rw[vc5,h2,h4];rfl⟩
  .cases h
theorem cB_ok{f:Expr->Option E}{cl:Call}{pos:Pos}(ih:∀e c,f e=some c->SE X e (ev cl c)/\zay e=true):∀{es:List Expr} {c:E},(cB true f es=some c->SE X (.BoolOp .And es pos) (ev cl c))/\(cB false f es=some c->SE X (.BoolOp .Or es pos) (ev cl c))
 |[],_=>⟨(λh=>nomatch h),(λh=>nomatch h)⟩
 |[a],c=>⟨λh=>zq2 (ih a c h).1,λh=>zq2 (ih a c h).1⟩
 |a::b::r,c=>by
  refine⟨λh=>?_,λh=>?_⟩
  .unfold cB at h
   split at h
   .rename_i x y hx hy
    cases h
    exact zwm (ih a x hx).1 ((cB_ok ih).1 hy)
   .cases h
  .unfold cB at h
   split at h
   .rename_i x y hx hy
    cases h
    exact se_or (ih a x hx).1 ((cB_ok ih).2 hy)
   .cases h
theorem zjn{f:Expr->Option E}{cl:Call}{pos:Pos}(ih:∀e c,f e=some c->ST X e (ev cl c)):∀{es:List Expr} {c:E},(cB true f es=some c->SW X (.BoolOp .And es pos) (ev cl c))/\(cB false f es=some c->SW X (.BoolOp .Or es pos) (ev cl c))
 |[],_=>⟨(λh=>nomatch h),(λh=>nomatch h)⟩
 |[a],c=>⟨λh=>zq1 (ih a c h),λh=>zq1 (ih a c h)⟩
 |a::b::r,c=>by
  refine⟨λh=>?_,λh=>?_⟩
  .unfold cB at h
   split at h
   .rename_i x y hx hy
    cases h
    exact zwl (ih a x hx) ((zjn ih).1 hy)
   .cases h
  .unfold cB at h
   split at h
   .rename_i x y hx hy
    cases h
    exact sw_or (ih a x hx) ((zjn ih).2 hy)
   .cases h
theorem cO_ok{f:Expr->Option E}{cl:Call}(ih:∀e c,f e=some c->SE X e (ev cl c)/\zay e=true){o:Option Expr}{b:Bool}{c:E}(h:cO f o=some (b,c)):PO X o (lftO X.K b (ev cl c)):=by
 unfold cO at h
 split at h
 .cases h;exact zsz
 .rename_i e
  cases z:f e with
  |none=>rw[z]at h;cases h
  |some c'=>rw[z]at h;cases h;exact zs0 (ih _ _ z).1
theorem ztg{x:Str}{t:Ty}(h:tyOf x=some t):bootBuiltins x=some (.type (tyN t)):=by
 unfold tyOf at h
 split at h
 .rename_i e;cases h;rw[show x = "int" by simpa using e];exact PyProof.Rows.boot_int
 split at h
 .rename_i e;cases h;rw[show x = "bool" by simpa using e];decide +kernel
 split at h
 .rename_i e;cases h;rw[show x = "tuple" by simpa using e];exact PyProof.Rows.boot_tuple
 split at h
 .rename_i e;cases h;rw[show x = "list" by simpa using e];exact PyProof.Rows.boot_list
 split at h
 .rename_i e;cases h;rw[show x = "str" by simpa using e];decide +kernel
 split at h
 .rename_i e;cases h;rw[show x = "dict" by simpa using e];decide +kernel
 .cases h
theorem bi_ok{x:Str}{b:Bi}{e:Expr}{es:List Expr}{fa:FE}{p pos:Pos}(h:biOf x=some b)(hg:Gl X x)(hm:X.mg x=none)(hn:okN x=true)(hc:X.calm=true)(ha:SA X (e::es) fa)(hs:(e::es).all zay=true):SE X (.Call (.Name x p) (e::es) [] pos) (gArg fa (biW b)):=by
 obtain⟨n1,_,n2⟩:=zey hn
 unfold biOf at h
 split at h
 .rename_i z
  cases h
  have z:x = "len":=by simpa using z
  subst z
  exact zbg (zgj.or zma) zwr hg hm PySem.boot_len ha hs n2 n1
 split at h
 .rename_i z
  cases h
  have z:x = "list":=by simpa using z
  subst z
  exact zdx (zgk.or (zky hc)) zs1 hg hm PyProof.Rows.boot_list ha hs n2 n1
 split at h
 .rename_i z
  cases h
  have z:x = "tuple":=by simpa using z
  subst z
  exact zdx (zff.or (zmb hc)) zpe hg hm PyProof.Rows.boot_tuple ha hs n2 n1
 split at h
 .rename_i z
  cases h
  have z:x = "int":=by simpa using z
  subst z
  exact zdx zlk zws hg hm PyProof.Rows.boot_int ha hs n2 n1
 split at h
 .rename_i z
  cases h
  have z:x = "abs":=by simpa using z
  subst z
  exact zbg zox zwt hg hm (by decide +kernel) ha hs n2 n1
 split at h
 .rename_i z
  cases h
  have z:x = "min":=by simpa using z
  subst z
  exact zbg (zlj hc) zwu hg hm (by decide +kernel) ha hs n2 n1
 split at h
 .rename_i z
  cases h
  have z:x = "all":=by simpa using z
  subst z
  exact zbg (zpa hc) zwv hg hm (by decide +kernel) ha hs n2 n1
 split at h
 .rename_i z
  cases h
  have z:x = "sum":=by simpa using z
  subst z
  exact zbg (zpr hc) zxt hg hm (by decide +kernel) ha hs n2 n1
 split at h
 .rename_i z
  cases h
  have z:x = "divmod":=by simpa using z
  subst z
  exact zbg zhp zxu hg hm (by decide +kernel) ha hs n2 n1
 split at h
 .rename_i z
  cases h
  have z:x = "sorted":=by simpa using z
  subst z
  exact zbg zpu zxv hg hm (by decide +kernel) ha hs n2 n1
 .cases h
theorem zk0{b:Expr}(h:zdy b=true):zhq b:=λo i=>by cases b<;>first|rfl|cases h
end
section
variable{X:Cx}{C:CC}{T:List Str}{F:Nat->Option Fn}{k:Nat}
theorem za0{env:Env}{kd:NameKind}(hk:kd≠.free):∀{l:List (Str×NameKind)} {x:Str},l.lookup x=some kd->
 (l.map λ(n,k)=>if(k==NameKind.free&&env.scope.kind == .function&&env.kindOf n==some .cell)then(n,NameKind.cell)else(n,k)).lookup x=some kd
 |[],_,h=>by cases h
 |(n,j)::r,x,h=>by
  rw[van]
  simp only[va5]at h
  by_cases hx:(x==n)=true
  .simp only[hx]at h
   cases h
   have:(kd==NameKind.free)=false:=by simpa using hk
   simp only[this,vd6,vak,va7,va5,hx]
  .have hx':(x==n)=false:=by simpa using hx
   simp only[hx']at h
   have ih:=za0 (env:=env) hk (l:=r) (x:=x) h
   by_cases hc':(j==NameKind.free&&env.scope.kind == .function&&env.kindOf n==some .cell)=true
   .simp only[hc',va8,va5,hx'];exact ih
   .have hcf:(j==NameKind.free&&env.scope.kind == .function&&env.kindOf n==some .cell)=false:=by simpa using hc'
    simp only[hcf,vak,va7,va5,hx'];exact ih
theorem zez(O:XOk X C T F k){sc:Scope}{ix:List Nat}(h:zd3 C sc ix=true):CompScope X (ownOf sc) (za3 sc) ix sc/\(ownOf sc++za3 sc).Nodup:=by
 unfold zd3 at h
 simp only[vab,vav,vb1]at h
 obtain⟨⟨⟨⟨⟨⟨⟨h1,h2⟩,h3⟩,h4⟩,h5⟩,h6⟩,h7⟩,h8⟩:=h
 refine⟨⟨h1,h2,h3,h4,λy hy e=>O.cf _ (h5 y hy e),λq x e=>?_,h6⟩,h8⟩
 have hk:q< (za3 sc).length:=(vaq.mp e).1
 have:=h7 q (vb5.mpr hk)
 rw[e]at this
 cases z:ix[q]? with
 |none=>rw[z]at this;cases this
 |some j=>
  rw[z]at this
  simp only[vab,vav]at this
  exact⟨j,rfl,by rw[O.hN];exact this.1,this.2⟩
theorem zid(O:XOk X C T F k){sc:Scope}{ix:List Nat}(h:zd3 C sc ix=true)(D:Addr)(s₀:Shared)(H₀:Hp)(ex:List Addr):XOk (X.comp (ownOf sc++za3 sc) sc D s₀ H₀ ex) (inC sc) T F k:=by
 obtain⟨S,nd⟩:=zez O h
 refine⟨rfl,nd,λx hx=>?_,λx hx=>?_,λx hx=>?_,λx hx=>?_,O.calm,O.room,rfl,S.kind,O.mgs,O.mgn,O.fns⟩
 .have hx:visK (sc.names.lookup x)=true:=hx
  cases z:sc.names.lookup x with
  |none=>rw[z]at hx;cases hx
  |some kd=>
   cases kd with
   | «local»=>exact .inl (za0 (by decide) z)
   |cell=>exact .inr (.inl (za0 (by decide) z))
   |free=>
    have:=za9 (env:=X.env) O.kfn z
    by_cases hc:X.env.kindOf x=some .cell
    .rw[if_pos hc]at this;exact .inr (.inl this)
    .rw[if_neg hc]at this;exact .inr (.inr this)
   |globalExplicit=>rw[z]at hx;cases hx
   |globalImplicit=>rw[z]at hx;cases hx
 .have hx:locK false (sc.names.lookup x)=true:=hx
  cases z:sc.names.lookup x with
  |none=>rw[z]at hx;cases hx
  |some kd=>
   cases kd with
   | «local»=>exact⟨.inl (za0 (by decide) z),.inr (za0 (by decide) z)⟩
   |cell=>rw[z]at hx;cases hx
   |free=>rw[z]at hx;cases hx
   |globalExplicit=>rw[z]at hx;cases hx
   |globalImplicit=>rw[z]at hx;cases hx
 .exact za0 (by decide) hx
 .have hx:sc.names.lookup x=some .cell\/sc.names.lookup x=some .free:=hx
  rcases hx with z|z
  .exact .inl (za0 (by decide) z)
  .have:=za9 (env:=X.env) O.kfn z
   by_cases hc:X.env.kindOf x=some .cell
   .rw[if_pos hc]at this;exact .inl this
   .rw[if_neg hc]at this;exact .inr this
end
end RF
namespace L2
open PySem PySem.Spec PyProof.Rows
theorem za4:Slot "reversed" "__next__" "reversed.__next__":=
 .of (owner:="reversed") (n:="__next__") (by rw[ve8,vdy];kernel_rfl) (by decide +kernel) (by decide +kernel) (by decide +kernel)
  (by first|exact .inl (by decide +kernel)|exact .inr (by decide +kernel)) (by rw[vfe];kernel_rfl)
theorem zc6:Slot "reversed" "__iter__" "reversed.__iter__":=
 .of (owner:="reversed") (n:="__iter__") (by rw[ve8,vdy];kernel_rfl) (by decide +kernel) (by decide +kernel) (by decide +kernel)
  (by first|exact .inl (by decide +kernel)|exact .inr (by decide +kernel)) (by rw[vfe];kernel_rfl)
theorem zgy:Slot "reversed" "__init__" "object.__init__":=
 .of (owner:="object") (n:="__init__") (by rw[ve8,vdy];kernel_rfl) (by decide +kernel) (by decide +kernel) (by decide +kernel)
  (by first|exact .inl (by decide +kernel)|exact .inr (by decide +kernel)) (by rw[vfe];kernel_rfl)
theorem zjo:Manifest.owners.lookup (String.ofList ['d','e','s','r','e','v','e','r'].reverse)=some Manifest.sig_reversed:=by kernel_rfl
theorem zc7(a:Value):argsOk "reversed.__next__" ⟨[a],[]⟩:=by
 unfold argsOk;rw[signature?_of (id:="reversed.__next__") (n:=['_','_','t','x','e','n','_','_']) (o:=['d','e','s','r','e','v','e','r']) (by kernel_rfl) zjo];kernel_rfl
theorem zgz(a:Value):argsOk "reversed.__iter__" ⟨[a],[]⟩:=by
 unfold argsOk;rw[signature?_of (id:="reversed.__iter__") (n:=['_','_','r','e','t','i','_','_']) (o:=['d','e','s','r','e','v','e','r']) (by kernel_rfl) zjo];kernel_rfl
theorem zcl:entryFor table "reversed.__next__" = some Builtin.«reversed.__next__»:=entryFor_of_tree (by kernel_rfl)
theorem zfu:entryFor table "reversed.__iter__" = some Builtin.«dict_keyiterator.__iter__»:=
 entryFor_alias (id':="dict_keyiterator.__iter__") (by kernel_rfl) (by first|rfl|decide +kernel|(unfold String.splitOn;simp +decide [String.splitOnAux])) (by decide +kernel) (by kernel_rfl)
theorem zm6:TypeCalled "reversed" "reversed.__new__" "object.__init__":=
 ⟨by decide +kernel,by decide +kernel,⟨_,_,F.mro_reversed⟩,F.made_reversed,by decide +kernel,by rw[vfe];kernel_rfl,zgy⟩
theorem zk1:typeLookup (.type "tuple") "__reversed__" = pure none:=by rw[ve8,vdy];kernel_rfl
noncomputable def IsRv(h:Heap)(I t:Addr)(i:Int):Prop:=∃o,h.get? I=some o/\o.cls=.type "reversed"/\o.data=.fields #[.ref t,rawInt i]
noncomputable def rvObj(t:Addr)(i:Int):Obj:={cls:=.type "reversed",data:=.fields #[.ref t,rawInt i]}
section
variable{prog:Program}{w:World}{A:Around}{E:Value->Shared->Prop}{s:Shared}
theorem IsRv.typeIs{I t:Addr}{i:Int}(x:IsRv s.heap I t i):s.TypeIs (.ref I) "reversed":=let⟨o,ho,hc,_⟩:=x;⟨o,ho,hc⟩
theorem IsRv.mv{h h':Heap}{I t:Addr}{i:Int}(x:IsRv h I t i)(e:∀o,h.get? I=some o->h'.get? I=some o):IsRv h' I t i:=let⟨o,ho,r⟩:=x;⟨o,e _ ho,r⟩
theorem zm7{I t:Addr}{i:Int}{Q:Value->Shared->Prop}(hi:IsRv s.heap I t i)(h:Q (.ref I) s):wpAny (model prog w) A (pyIter (.ref I)) Q E s:=by
 refine wpAny_pyIter_slot hi.typeIs zc6 (vbj zc6 hi.typeIs zfu ?_ (zgz _))
 show wpAny _ _ (ret (.ref I)) _ _ s
 exact vae ⟨_,rfl,"reversed",_,hi.typeIs,za4.lookup,h⟩
theorem zth{I t:Addr}{i:Nat}{its:Array Value}{x:Value}{Q:Option Value->Shared->Prop}(hi:IsRv s.heap I t (i:Int))(ht:IsTup s.heap t its)(hx:its[i]?=some x)(hf:(its.size:Int)<2 ^ 63)
 (hQ:∀h' tk,IsRv h' I t ((i:Int)-1)->Heap.SameBut I s.heap h'->Q (some x) {s with heap:=h',toks:=tk}):wpAny (model prog w) A (pyNext (.ref I)) Q E s:=by
 obtain⟨o,ho,hc,hd⟩:=id hi
 have hlt:i<its.size:=by
  rcases vet i its.size with h|h
  .exact h
  .rw[Array.getElem?_eq_none h]at hx;cases hx
 unfold pyNext
 refine vaa (veh (vbf (name:=Str.ofString "__next__") hi.typeIs za4
  (vbj za4 hi.typeIs zcl ?_ (zc7 _))))
 unfold Builtin.«reversed.__next__»
 refine vaa (vdu (a:=(Value.ref I,[])) rfl ?_)
 try dsimp only
 refine vaa (vbs ho hd (x:=.ref t) rfl ?_)
 refine vaa (vbs ho hd (x:=rawInt (i:Int)) rfl ?_)
 show wpAny _ _ (if(i:Int)<0 then _ else _) _ _ s
 rw[if_neg (by omega)]
 refine vaa (vcp ht.typeIs slot_tuple_getitem.lookup ?_)
 rw[if_neg (by exact vbr)]
 refine vaa (wpAny_mkInt ?_)
 refine vaa (veh (getItem_tuple (s:={s with toks:=s.toks+1}) ht (by omega) (by omega) (vfm (by omega) (by omega)) (by simpa using hx) ?_))
 try dsimp only
 refine vaa (vbs ho hd (x:=rawInt (i:Int)) rfl ?_)
 refine vaa (vdo ho hd (by simp) ?_)
 first
 |refine vae ⟨x,rfl,vae (hQ _ _ ?_ (vb7 ..))⟩
 |refine vaa (vae (vae ⟨x,rfl,vae (hQ _ _ ?_ (vb7 ..))⟩))
 exact⟨_,vc3 _ ho (vdt (vcd hd _)),(Obj.cls_mapFields ..).trans hc,by
  rw[vcd hd];simp⟩
theorem zx1{I t:Addr}{i:Int}{Q:Option Value->Shared->Prop}(hA:A.handled=none)(hi:IsRv s.heap I t i)(hn:i<0)
 (hQ:∀h',Heap.ExtBut I s.heap h'->Q none {s with heap:=h'}):wpAny (model prog w) A (pyNext (.ref I)) Q E s:=by
 obtain⟨o,ho,hc,hd⟩:=id hi
 unfold pyNext
 refine vaa (veh (vbf (name:=Str.ofString "__next__") hi.typeIs za4
  (vbj za4 hi.typeIs zcl ?_ (zc7 _))))
 unfold Builtin.«reversed.__next__»
 refine vaa (vdu (a:=(Value.ref I,[])) rfl ?_)
 try dsimp only
 refine vaa (vbs ho hd (x:=.ref t) rfl ?_)
 refine vaa (vbs ho hd (x:=rawInt i) rfl ?_)
 show wpAny _ _ (if i<0 then _ else _) _ _ s
 rw[if_pos hn]
 refine vaa (ve1 ?_)
 refine vaa ?_
 show wpAny _ _ (setField (.ref I) 1 (rawInt (-1)) >>= _) _ _ _
 have o1:=vc3 (h:=s.heap) (Obj.mapFields (·.setIfInBounds 1 (rawInt (-1)))) ho (vdt (vcd hd _))
 refine vaa (vdo ho hd (by simp) ?_)
 refine vdo o1 (vcd hd _) (by simp) ?_
 first
 |show wpAny _ _ (newExc (.type "StopIteration") [] >>= _) _ _ _
 |(refine vaa ?_;show wpAny _ _ (newExc (.type "StopIteration") [] >>= _) _ _ _)
 refine vaa ?_
 simp only[newExc,newTuple]
 refine vaa (vbi ?_ (by size_fits))
 refine vaa (m:=firstArgMember _ _) (vdu (a:=Value.none) (by first|rfl|(simp only[firstArgMember];rfl)) ?_)
 refine vbi ?_ (by size_fits)
 simp only[raiseNew]
 refine vaa (wpAny_handled ?_)
 first|rw[show A.in1.handled=none from hA]|rw[hA]
 refine vaa (vae (wpAny_throw ?_))
 refine vaa (vcz (T:="StopIteration") (b:=true) ⟨_,vao _ rfl,rfl⟩ isSubtype_stop ?_)
 refine vae (hQ _ ?_)
 refine Heap.ExtBut.push (Heap.ExtBut.push ?_ _) _
 intro b ob hb e
 exact(vb7 ..).extBut b ob hb ((vb7 ..).extBut b ob hb e)
theorem zm8(l:Addr)(its:Array Value)(n:Nat)(dc:Option Addr)(sl:Array (Option Value))(hf:(its.size:Int)<2 ^ 63) :
 Meets (Builtin.«reversed.__new__» ⟨[.type "reversed",.ref l],[]⟩) (λ_ R s=>s.heap.get? l=some {cls:=.type "tuple",dict:=dc,data:=.seq its n,slots:=sl}/\
  ∀tk,R (.ok (.ret (.ref s.heap.objs.size))) {s with heap:=s.heap.push (rvObj l ((its.size:Int)-1)),toks:=tk}):=
 .of_wp λprog w A R s h=>by
  obtain⟨e,h⟩:=h
  have hl:IsTup s.heap l its:=⟨_,e,rfl,n,rfl⟩
  unfold Builtin.«reversed.__new__»
  refine vaa (vdu (newClass_reversed _) ?_)
  try dsimp only
  refine vaa (vdu (a:=()) (by first|rfl|kernel_rfl) ?_)
  refine vaa (vdu (a:=()) (by first|rfl|kernel_rfl) ?_)
  try dsimp only
  refine vaa (vcp hl.typeIs zk1 ?_)
  try dsimp only
  refine vaa ?_
  show wpAny _ _ (isInstance (.ref l) (.type "dict") >>= _) _ _ _
  refine vaa (vcz hl.typeIs F.sub_tuple_dict ?_)
  try dsimp only
  refine vaa (vcp hl.typeIs slot_tuple_getitem.lookup ?_)
  try dsimp only
  rw[if_pos (by decide)]
  refine vae ?_
  rw[if_neg (show ¬((!true)=true)from vbr)]
  refine vaa (len_tuple hl hf ?_)
  refine vaa (vdu (a:=some (its.size:Int)) rfl ?_)
  try dsimp only
  refine vaa ?_
  show wpAny _ _ (newObj (.type "reversed") (.fields #[.ref l,rawInt ((its.size:Int)-1)])) _ _ _
  exact vbi (vae ⟨_,rfl,h _⟩)
theorem zpw{l:Addr}{its:Array Value}{Q:Value->Shared->Prop}(hL:s.heap.IsTuple l its)(hf:(its.size:Int)<2 ^ 63)
 (h:∀tk,Q (.ref s.heap.objs.size) {s with heap:=s.heap.push (rvObj l ((its.size:Int)-1)),toks:=tk}) :
 wpAny (model prog w) A (call (.type "reversed") [.ref l]) Q E s:=by
 obtain⟨⟨c,dc,dt,sl⟩,e1,e2,n,e3⟩:=hL
 replace e2:c=.type "tuple":=e2
 replace e3:dt=.seq its n:=e3
 subst e2 e3
 refine vfi zm6 (by decide) (F.typeCall_reversed_1 _) (F.newCall_reversed_1 _) (λobj=>F.args_object_init_2 obj _) F.entry_reversed_new (zm8 l its n dc sl hf) ⟨e1,λtk=>?_⟩
 exact⟨⟨_,vao _ rfl,rfl⟩,h tk⟩
end
noncomputable def Itv(K:vga)(a:Addr)(n:Nat):It:=
 ⟨λi H=>∃xs x,SqT K H a xs/\xs.length=n/\xs.reverse[i]?=some x,λi H x H'=>H'=H/\∀xs,SqT K H a xs->xs.reverse[i]?=some x,λi _=>n<=i⟩
theorem zpx{P:Program}{w:World}{K:vga}{tg:Expr}(a it:Addr)(n:Nat)(hn:(n:Int)<2 ^ 63):Turn P w K tg (Itv K a n) [it] it (λi h=>IsRv h it a ((n:Int)-1- (i:Nat)))where
 mem:=by simp
 obj:=λi h st b hb=>by
  have e:b=it:=by simpa using hb
  subst e
  obtain⟨o,e,c,d⟩:=st
  exact⟨o,e,λv z=>by rw[d]at z;cases z⟩
 keep:=λi h h' st k=>st.mv λo e=>k it (by simp) o e
 item:=by
  intro X hP hw hK hc i pins s σ H E I hf st hg
  subst hP hw hK
  obtain⟨xs,x,hq,hl,hx⟩:=hg
  obtain⟨its,rv,p,hz⟩:=I.tuple hq
  have hlt:i<xs.length:=by
   have:=vaq.mp hx
   obtain⟨h1,_⟩:=this
   rwa [vdm]at h1
  rw[vdz hlt]at hx
  obtain⟨u,hu,ru⟩:=rv.get hx
  obtain⟨f0,f1,f2,f3,f4,f5⟩:=hf it (by simp)
  have ei:(n:Int)-1- (i:Int)=((xs.length-1-i:Nat):Int):=by omega
  rw[ei]at st
  have hsz:its.toArray.size=xs.length:=by rw[vam];exact rv.length.symm
  refine zth st (show IsTup s.heap a its.toArray from p) (x:=u) (by simpa using hu) (by rw[hsz,hl];exact hn) λh' tk st' sb=>?_
  have I1:Inv X pins σ H {s with heap:=h',toks:=tk}:=I.turned (t':=tk) (λb o hb e=>(sb.2 b hb).trans e) f0 f1 f3 f4 f5
  obtain⟨o,e,c,d⟩:=id st'
  have ej:((xs.length-1-i:Nat):Int)-1=(n:Int)-1- ((i+1:Nat):Int):=by omega
  rw[ej]at st'
  exact⟨u,rfl,go_of (s:={s with heap:=h',toks:=tk}) e c d (by decide) ⟨x,H,I1,ru,⟨rfl,λys hy=>by rw[I.tuple_inj hy hq,vdz hlt];exact hx⟩,st',λb hb=>(hf b hb).1⟩⟩
 done:=by
  intro X hP hw hK hc i pins s σ H E I hf st hg
  subst hP hw hK
  have hg:n<=i:=hg
  obtain⟨f0,f1,f2,f3,f4,f5⟩:=hf it (by simp)
  exact zx1 (I.ok.hd hc) st (by omega) λh' eb=>⟨rfl,I.turned (t':=s.toks) (λb o hb e=>eb b o hb e) f0 f1 f3 f4 f5⟩
 self:=λ_ _ _ _ _ st h=>zm7 st h
end L2
namespace RF
open PySem PySem.Spec PyProof.Rows L2
section
variable{X:Cx}{e:Expr}{fa:FE}{p pos:Pos}
theorem zx2{tg l:Expr}{ta:TA}(hg:Gl X "reversed")(hm:X.mg "reversed" = none)(ha:PA X [l] ta)(hs:starEach [l] X.env=[(false,eval l X.env)]) :
 PI X tg (.Call (.Name "reversed" p) [l] [] pos) (λσ H R=>ta σ H λvs H1=>∃a xs,vs=[.ref a]/\SqT X.K H1 a xs/\R (Itv X.K a xs.length) H1):=by
 intro pins s σ H R I h
 refine Call_ (zdm I hg hm PyProof.Rows.boot_reversed (vcb (thn (ha pos pins s σ H _ I h) λus s1 ⟨vs,H1,I1,r1,q1⟩=>?_) hs rfl))
 obtain⟨a,xs,e,hq,q⟩:=q1
 subst e
 obtain⟨u,rfl,ru⟩:=vals1 r1
 cases ru
 obtain⟨its,rv,pl,hz⟩:=I1.tuple hq
 have pl:s1.heap.IsTuple a its.toArray:=pl
 have hlen:its.toArray.size=xs.length:=by rw[vam];exact rv.length.symm
 have hfit:(xs.length:Int)<2 ^ 63:=by
  have:sizeLine<2 ^ 63:=by decide
  omega
 refine zpw pl (by rw[hlen];exact hfit) λtk=>zm7 (i:=(xs.length:Int)-1) ⟨_,vao _ rfl,rfl,by rw[<-hlen];rfl⟩ ?_
 have hf:∀b,s1.heap.objs.size<=b->FpOk X pins H1 b:=λb hb=>I1.fpOk hb (I1.hok.fresh hb)
 refine⟨s1.heap.objs.size,_,_,_,H1,rfl,I1.kept (t':=tk) λb o e=>vac _ e,zpx a _ xs.length hfit,⟨_,vao _ rfl,rfl,by rw[<-hlen];show _=Data.fields #[.ref a,rawInt (_-1- ((0:Nat):Int))];rw[show(its.toArray.size:Int)-1- ((0:Nat):Int)=(its.toArray.size:Int)-1 from by omega];rfl⟩,λb hb=>hf b ?_,q⟩
 have e':b=s1.heap.objs.size:=by simpa using hb
 rw[e'];exact vad _
theorem zri{ws:List W}{h:VH}{i:Nat}{o:Option W}(q:nxt .rev (.tup ws) i h=some o):o=ws.reverse[i]?:=by
 simp only[nxt]at q
 cases q;rfl
theorem VReps.rev{K:vga}{m:Nat->Addr}{n:Nat}{H:Hp}:∀{vs:List V} {ws:List W} {i:Nat} {w:W},VReps K m n H vs ws->ws.reverse[i]?=some w->∃v,vs.reverse[i]?=some v/\VRep K m n H v w:=by
 intro vs ws i w q e
 have hlt:i<ws.length:=by
  obtain⟨h1,_⟩:=vaq.mp e
  rwa [vdm]at h1
 rw[vdz hlt]at e
 obtain⟨v,h1,h2⟩:=q.get e
 exact⟨v,by rw[vdz (by rw[q.length];exact hlt),q.length];exact h1,h2⟩
theorem zx3{K:vga}{a:Addr}{vs:List V}{ws:List W}:ItOk K (nxt .rev (.tup ws)) (Itv K a vs.length) (λm n H=>SqT K H a vs/\VReps K m n H vs ws):=by
 refine⟨λm n H m' n' H' hn hm kt kf ⟨q1,q2⟩=>⟨zde kt kf q1,q2.mono hn hm kt kf⟩,λm h H r ⟨q1,q2⟩ i=>⟨λw e=>?_,λe=>?_⟩⟩
 .have e:=(zri e).symm
  obtain⟨v,h1,h2⟩:=q2.rev e
  refine⟨⟨vs,v,q1,rfl,h1⟩,λy H3 ⟨e3,y3⟩=>?_⟩
  subst e3
  have:=y3 vs q1
  rw[h1]at this;cases this
  exact⟨.refl,r,h2⟩
 .have e:=(zri e).symm
  have:=va6.mp e
  rw[vdm]at this
  show vs.length<=i
  rw[q2.length];exact this
theorem zx4{tg:Expr}(ha:SE X e fa)(hs0:zay e=true)(hg:Gl X "reversed")(hm:X.mg "reversed" = none):PI X tg (.Call (.Name "reversed" p) [e] [] pos) (lftI X.K .rev fa):=λpins s σ H R I z9=>z9.el λρ h m x h' f r ee o en k=>by
 have hx:∃ws,x=.tup ws:=by
  simp only[nxt]at en
  split at en
  .exact⟨_,rfl⟩
  .cases en
 obtain⟨ws,rfl⟩:=hx
 exact zx2 hg hm (zq4 ha hs0) (zaj hs0) pins s σ H R I (.mk f r ee λv H' m' s' r' q=>by
  cases q with
  |tup sq rs=>exact⟨_,_,rfl,sq,k _ _ H' m' s' r' zx3 ⟨sq,rs⟩⟩)
end
theorem map_some{α β:Type}{o:Option α}{f:α->β}{b:β}(h:o.map f=some b):∃a,o=some a/\b=f a:=by
 cases o with
 |none=>cases h
 |some a=>cases h;exact⟨a,rfl,rfl⟩
structure Snd(X:Cx)(C:CC)(T:List Str)(F:Nat->Option Fn)(k n:Nat):Prop where
 e:∀e c,cE X.K T n C e=some c->SE X e (ev (run F k) c)/\zay e=true
 t:∀e c,cT X.K T n C e=some c->ST X e (ev (run F k) c)
 w:∀e kd c tg,cW X.K T n C e=some (kd,c)->okW kd tg=true->PI X tg e (lftI X.K kd (ev (run F k) c))/\∀x,foldedSetIterable e X.env x=pure x
section
variable{X:Cx}{C:CC}{T:List Str}{F:Nat->Option Fn}{k n:Nat}
theorem snd_t(O:XOk X C T F k)(ih:Snd X C T F k n)(e:Expr)(c:E)(h:cT X.K T (n+1) C e=some c):ST X e (ev (run F k) c):=by
 unfold cT at h
 split at h
 .split at h
  .split at h
   .rename_i hs
    split at h
    .rename_i h1 h2 h3
     cases h
     exact zwg O.u65 h1 hs (ih.e _ _ h2).1 (ih.e _ _ h3).1
    .cases h
   .cases h
  .split at h
   .rename_i hs
    split at h
    .rename_i h1 h2 h3 h4 h5
     cases h
     exact zwi O.u65 h1 h2 hs (ih.e _ _ h3).1 (ih.e _ _ h4).1 (ih.e _ _ h5).1
    .cases h
   .cases h
  .cases h
 .split at h
  .obtain⟨a,h1,rfl⟩:=map_some h
   exact zwj (ih.t _ _ h1)
  .cases h
 .split at h
  .exact((zjn ih.t).1 h).pt
  .exact((zjn ih.t).2 h).pt
 .obtain⟨a,h1,rfl⟩:=map_some h
  exact zmd (ih.e _ _ h1).1 λ_=>rfl
 .obtain⟨a,h1,rfl⟩:=map_some h
  exact zmd (ih.e _ _ h1).1 λ_=>rfl
 .obtain⟨a,h1,rfl⟩:=map_some h
  exact zmd (ih.e _ _ h1).1 λ_=>rfl
 .cases h
theorem noSet{e:Expr}(h:∀a b c,e≠.Set a b c){env:Env}:∀x,foldedSetIterable e env x=pure x:=by
 intro x
 cases e<;>first|rfl|exact absurd rfl (h _ _ _)
theorem snd_w(O:XOk X C T F k)(ih:Snd X C T F k n)(e:Expr)(kd:Kd)(c:E)(tg:Expr)(h:cW X.K T (n+1) C e=some (kd,c))(hw:okW kd tg=true):PI X tg e (lftI X.K kd (ev (run F k) c))/\∀x,foldedSetIterable e X.env x=pure x:=by
 unfold cW at h
 split at h
 .rename_i f p args pos
  refine⟨?_,λx=>rfl⟩
  split at h
  .rename_i hf
   have hf:f = "range":=by simpa using hf
   subst hf
   split at h
   .rename_i ha
    obtain⟨g1,g2⟩:=zbr O ha
    split at h
    .rename_i a
     obtain⟨x,h1,h2⟩:=map_some h
     cases h2
     obtain⟨h3,h4⟩:=ih.e _ _ h1
     exact zs4 (zfh h3 zmc (zaj h4)) h4 g1 g2
    .cases h
   .cases h
  .split at h
   .rename_i hf
    have hf:f = "enumerate":=by simpa using hf
    subst hf
    split at h
    .rename_i ha
     obtain⟨g1,g2⟩:=zbr O ha
     split at h
     .rename_i a
      obtain⟨x,h1,h2⟩:=map_some h
      cases h2
      obtain⟨h3,h4⟩:=ih.e _ _ h1
      cases tg<;>first|exact zw3 h3 h4 g1 g2|cases hw
     .cases h
    .cases h
   .split at h
    .rename_i hf
     have hf:f = "reversed":=by simpa using hf
     subst hf
     split at h
     .rename_i ha
      obtain⟨g1,g2⟩:=zbr O ha
      split at h
      .rename_i a
       obtain⟨x,h1,h2⟩:=map_some h
       cases h2
       obtain⟨h3,h4⟩:=ih.e _ _ h1
       exact zx4 h3 h4 g1 g2
      .cases h
     .cases h
    .split at h
     .rename_i hf
      have hf:f = "zip":=by simpa using hf
      subst hf
      split at h
      .rename_i ha
       obtain⟨g1,g2⟩:=zbr O ha
       split at h
       .rename_i a b
        split at h
        .rename_i x y h1 h2
         cases h
         obtain⟨h3,h4⟩:=ih.e _ _ h1
         obtain⟨h5,h6⟩:=ih.e _ _ h2
         cases tg<;>first|exact zw6 (zfh h3 (zfh h5 zmc (zaj h6)) (zaj h4)) h4 h6 g1 g2|cases hw
        .cases h
       .cases h
      .cases h
     .obtain⟨x,h1,h2⟩:=map_some h
      cases h2
      exact zmh (ih.e _ _ h1).1
 .cases h
 .rename_i nm _
  obtain⟨x,h1,h2⟩:=map_some h
  by_cases hcn:zic nm=true
  .simp only[hcn,va8]at h2
   cases h2
   exact⟨zmj (zxy (ih.e _ _ h1).1),λx=>rfl⟩
  .simp only[hcn,va7]at h2
   cases h2
   refine⟨?_,λx=>rfl⟩
   split
   .exact zmj (ih.e _ _ h1).1
   .exact zmh (ih.e _ _ h1).1
 .rename_i hns hnm
  obtain⟨x,h1,h2⟩:=map_some h
  cases h2
  exact⟨zmh (ih.e _ _ h1).1,noSet (by first|exact hns|(intro a b c z;exact hns a b c z))⟩
end
section
variable{X:Cx}{C:CC}{T:List Str}{F:Nat->Option Fn}{k n:Nat}
theorem zpy(O:XOk X C T F k){x:Str}{p:Pos}{c:E}(h:cE X.K T (n+1) C (.Name x p)=some c):SE X (.Name x p) (ev (run F k) c):=by
 simp only[cE]at h
 split at h
 .rename_i hn
  obtain⟨n1,n2,n3⟩:=zey hn
  split at h
  .rename_i hv
   obtain⟨i,h1,rfl⟩:=map_some h
   exact zv7 (by rw[O.hN];exact zm3 h1) (O.vis x hv) n1 n2
  .split at h
   .rename_i hg
    split at h
    .rename_i v hv
     obtain⟨w,h1,rfl⟩:=map_some h
     obtain⟨y,h2,h3⟩:=zrg 8 v w h1
     exact zgr (zry (O.gl x (by simpa using hg)) (O.mgs x v hv) h2 n1) h3
    .cases h
   .cases h
 .cases h
theorem zpz(O:XOk X C T F k)(ih:Snd X C T F k n){f:Str}{p pos:Pos}{args:List Expr}{c:E}(h:cE X.K T (n+1) C (.Call (.Name f p) args [] pos)=some c):SE X (.Call (.Name f p) args [] pos) (ev (run F k) c):=by
 simp only[cE]at h
 split at h
 .rename_i hn
  rw[vab]at hn
  have hg:=O.gl f (by simpa using hn.2)
  split at h
  .rename_i hm
   have hm:=O.mgn f hm
   split at h
   .rename_i hf
    have hf:f = "isinstance":=by simpa using hf
    subst hf
    split at h
    .rename_i a t pt
     split at h
     .rename_i ty x h1 h2
      split at h
      .rename_i hc
       cases h
       rw[vab]at hc
       obtain⟨g1,g2⟩:=zbr O hc.2
       obtain⟨h3,h4⟩:=ih.e _ _ h2
       obtain⟨n1,n2,n3⟩:=zey hc.1
       exact zwx ty h3 h4 hg hm g1 g2 (ztg h1) n3 n1
      .cases h
     .cases h
    .cases h
   .split at h
    .rename_i b e es hb
     obtain⟨a,h1,rfl⟩:=map_some h
     obtain⟨h2,h3⟩:=cL_ok ih.e h1
     exact bi_ok hb hg hm hn.1 O.calm h2 h3
    .cases h
  .rename_i v hv
   split at h
   .rename_i i hi
    obtain⟨fa,fd,ps,fn,q1,q2,q3,q4,q5,q6,q7⟩:=O.fns i f (zm3 hi) (zxz hn.1)
    have q1:=zjg q1
    split at h
    .rename_i hlv
     rw[vab]at hlv
     obtain⟨a,h1,rfl⟩:=map_some h
     obtain⟨h2,h3⟩:=cL_ok ih.e h1
     have hl:∀ws h w h',run F k i ws h=.ok w h'->ws.length=ps.length:=λws h w h' e=>by rw[zh6 q5 e,q6]
     have hev:ev (run F k) (.call i (padE a))=gArg (ev (run F k) a) (λws h=>run F k i (ws++[.non]) h):=by
      funext ρ h
      simp only[ev,zx0 (zm5 h1)]
      show Res.bind (Res.bind (ev (run F k) a ρ h) _) _=Res.bind (ev (run F k) a ρ h) _
      cases ev (run F k) a ρ h with
      |no=>rfl
      |ex _ _=>rfl
      |ok y h2=>cases y<;>rfl
     rw[hev]
     cases args with
     |nil=>cases hlv.2
     |cons e es=>exact zph q2 O.room hg (O.mgs f _ q1) q3 (q7 (zkz hlv.1)) h2 h3 (zey hn.1).1 hl
    obtain⟨a,h1,rfl⟩:=map_some h
    obtain⟨h2,h3⟩:=cL_ok ih.e h1
    have hl:∀ws h w h',run F k i ws h=.ok w h'->ws.length=ps.length:=λws h w h' e=>by rw[zh6 q5 e,q6]
    cases args with
    |nil=>
     simp only[cL]at h1
     cases h1
     exact zpg q2 O.room hg (O.mgs f _ q1) q3 q4 (zey hn.1).1 hl
    |cons e es=>exact zs3 q2 O.room hg (O.mgs f _ q1) q3 q4 h2 h3 (zey hn.1).1 hl
   .cases h
  .cases h
 .cases h
theorem zp0(O:XOk X C T F k)(ih:Snd X C T F k n){o:Expr}{m:Str}{ap pos:Pos}{args:List Expr}{c:E}(h:cE X.K T (n+1) C (.Call (.Attribute o m ap) args [] pos)=some c):SE X (.Call (.Attribute o m ap) args [] pos) (ev (run F k) c):=by
 simp only[cE]at h
 split at h
 .rename_i hn
  rw[vab]at hn
  split at h
  .rename_i x a hx
   split at h
   .rename_i hm
    have hm:m = "append":=by simpa using hm
    subst hm
    obtain⟨y,h1,rfl⟩:=map_some h
    obtain⟨h2,h3⟩:=ih.e _ _ h1
    exact zmf (ih.e _ _ hx).1 h2 hn.1 h3 hn.2
   .cases h
  .rename_i x a b hx
   split at h
   .rename_i hm
    have hm:m = "get":=by simpa using hm
    subst hm
    split at h
    .rename_i y z h1 h2
     cases h
     obtain⟨h3,h4⟩:=ih.e _ _ h1
     obtain⟨h5,h6⟩:=ih.e _ _ h2
     exact zwy O.u1 (ih.e _ _ hx).1 h3 h5 hn.1 h4 h6 hn.2
    .cases h
   .cases h
  .cases h
 .cases h
theorem zx5{ow fr:List Str}{sc:Scope}{ifs:List Expr}{c:E}(O:∀D s₀ H₀ ex,Snd (X.comp (ow++fr) sc D s₀ H₀ ex) (inC sc) T F k n)
 (h:(match ifs with|[]=>some (E.cst (.bl true))|[c]=>cT X.K T n (inC sc) c|_=>none)=some c) (D:Addr) (s₀:Shared) (H₀:Hp) (ex:List Addr):PTs (X.comp (ow++fr) sc D s₀ H₀ ex) ifs (lftT X.K (ev (run F k) c)):=by
 split at h
 .cases h
  exact λpins s σ H Q I z9=>z9.el λρ h m b h' f r e q=>by
   cases e
   exact zsk pins s σ H Q I (q H m .refl r)
 .exact zsl ((O D s₀ H₀ ex).t _ _ h)
 .cases h
theorem zrj(O:XOk X C T F k)(ih:Snd X C T F k n)(ihc:∀{sc:Scope} {ix:List Nat},zd3 C sc ix=true->∀D s₀ H₀ ex,Snd (X.comp (ownOf sc++za3 sc) sc D s₀ H₀ ex) (inC sc) T F k n)
 {elt tg iter:Expr} {ifs:List Expr} {sc:Scope} {pos:Pos} {c:E} (h:cE X.K T (n+1) C (.ListComp elt [⟨tg,iter,ifs,0⟩] sc pos)=some c) :
 ∃kd a t ix cc ce,c=.lc kd a t (ownOf sc).length ix cc ce/\CompScope X (ownOf sc) (za3 sc) ix sc/\PI X tg iter (lftI X.K kd (ev (run F k) a))/\(∀D s₀ H₀ ex,PG (X.comp (ownOf sc++za3 sc) sc D s₀ H₀ ex) tg (lftG X.K t))/\
  (∀D s₀ H₀ ex,PTs (X.comp (ownOf sc++za3 sc) sc D s₀ H₀ ex) ifs (lftT X.K (ev (run F k) cc)))/\(∀D s₀ H₀ ex,PE (X.comp (ownOf sc++za3 sc) sc D s₀ H₀ ex) elt (lft X.K (ev (run F k) ce)))/\∀x,foldedSetIterable iter X.env x=pure x:=by
 simp only[cE]at h
 split at h
 .rename_i ix hix
  split at h
  .rename_i hc
   split at h
   .rename_i kd a t cc ce h1 h2 h3 h4
    split at h
    case isFalse=>cases h
    rename_i hw
    cases h
    obtain⟨w1,w2⟩:=ih.w _ _ _ tg h1 hw
    exact⟨kd,a,t,ix,cc,ce,rfl,(zez O hc).1,w1,λD s₀ H₀ ex=>tg_ok (zid O hc D s₀ H₀ ex) h2,zx5 (ihc hc) h3,λD s₀ H₀ ex=>((ihc hc D s₀ H₀ ex).e _ _ h4).1,w2⟩
   .cases h
  .cases h
 .cases h
theorem snd_e(O:XOk X C T F k)(ih:Snd X C T F k n)(ihc:∀{sc:Scope} {ix:List Nat},zd3 C sc ix=true->∀D s₀ H₀ ex,Snd (X.comp (ownOf sc++za3 sc) sc D s₀ H₀ ex) (inC sc) T F k n)
 (e:Expr) (c:E) (h:cE X.K T (n+1) C e=some c):SE X e (ev (run F k) c)/\zay e=true:=by
 have h0:=h
 unfold cE at h
 split at h
 .exact⟨zpy O h0,rfl⟩
 .refine⟨?_,rfl⟩
  split at h
  .cases h;exact zv8
  .cases h;exact se_bl
  .cases h;exact zv9
  .cases h;exact zwa
  .cases h
 .obtain⟨a,h1,rfl⟩:=map_some h
  exact⟨zwb (cL_ok ih.e h1).1,rfl⟩
 .obtain⟨a,h1,rfl⟩:=map_some h
  exact⟨zwc (cL_ok ih.e h1).1,rfl⟩
 .refine⟨?_,rfl⟩
  split at h
  .cases h;exact zs2
  .cases h
 .refine⟨?_,rfl⟩
  split at h
  .rename_i h1 h2 h3
   cases h
   exact se_op (op_ok h1) (zwe _) (ih.e _ _ h2).1 (ih.e _ _ h3).1
  .cases h
 .split at h
  .obtain⟨a,h1,rfl⟩:=map_some h
   exact⟨zwk (ih.e _ _ h1).1,rfl⟩
  .obtain⟨a,h1,rfl⟩:=map_some h
   exact⟨zwo (ih.e _ _ h1).1,rfl⟩
  .cases h
 .split at h
  .exact⟨(cB_ok ih.e).1 h,rfl⟩
  .exact⟨(cB_ok ih.e).2 h,rfl⟩
 .split at h
  .refine⟨?_,rfl⟩
   split at h
   .rename_i hs
    split at h
    .rename_i h1 h2 h3
     cases h
     exact zwf O.u65 h1 hs (ih.e _ _ h2).1 (ih.e _ _ h3).1
    .cases h
   .cases h
  .refine⟨?_,rfl⟩
   split at h
   .rename_i hs
    split at h
    .rename_i h1 h2 h3 h4 h5
     cases h
     exact zwh O.u65 h1 h2 hs (ih.e _ _ h3).1 (ih.e _ _ h4).1 (ih.e _ _ h5).1
    .cases h
   .cases h
  .cases h
 .refine⟨?_,rfl⟩
  split at h
  .rename_i h1 h2 h3
   cases h
   exact zwn (ih.t _ _ h1) (ih.e _ _ h2).1 (ih.e _ _ h3).1
  .cases h
 .split at h
  .split at h
   .refine⟨?_,rfl⟩
    split at h
    .rename_i h1 h2 h3
     cases h
     exact zwq (ih.e _ _ h1).1 (cO_ok ih.e h2) (cO_ok ih.e h3)
    .cases h
   .cases h
  .refine⟨?_,rfl⟩
   split at h
   .rename_i hs
    split at h
    .rename_i h1 h2
     cases h
     exact zwp O.u2 (ih.e _ _ h1).1 (ih.e _ _ h2).1 (zk0 hs)
    .cases h
   .cases h
 .split at h
  .split at h
   .exact⟨zpz O ih h0,rfl⟩
   .exact⟨zp0 O ih h0,rfl⟩
   .cases h
  .cases h
 .split at h
  .refine⟨?_,rfl⟩
   obtain⟨kd,a,t,ix,cc,ce,rfl,S,w1,w2,w3,w4,w5⟩:=zrj O ih ihc h0
   exact se_lc S O.calm w1 w2 w3 w4 w5
  .cases h
 .cases h
end
theorem ze0{T:List Str}{F:Nat->Option Fn}{k:Nat}:∀(n:Nat) {X:Cx} {C:CC},XOk X C T F k->Snd X C T F k n
 |0,_,_,_=>⟨(λe c h=>nomatch h),(λe c h=>nomatch h),(λe kd c tg h _=>nomatch h)⟩
 |n+1,X,C,O=>by
  have ih:=ze0 n O
  have ihc:∀{sc:Scope}{ix:List Nat},zd3 C sc ix=true->∀D s₀ H₀ ex,Snd (X.comp (ownOf sc++za3 sc) sc D s₀ H₀ ex) (inC sc) T F k n:=λhc D s₀ H₀ ex=>ze0 n (zid O hc D s₀ H₀ ex)
  exact⟨snd_e O ih ihc,snd_t O ih,snd_w O ih⟩
section
variable{X:Cx}{C:CC}{T:List Str}{F:Nat->Option Fn}{k d:Nat}
theorem zb8{f:Stmt->Option S}{cl:Call}(ih:∀st c,f st=some c->SS X st (exs cl c)):∀{sts:List Stmt} {c:S},cSs f sts=some c->SSs X sts (exs cl c)
 |[],_,h=>by cases h;exact zs6
 |s::r,c,h=>by
  unfold cSs at h
  split at h
  .rename_i a b ha hb
   cases h
   exact zpn (ih s a ha) (zb8 ih hb)
  .cases h
theorem zti(O:XOk X C T F k){x:Str}{p pos:Pos}{e:Expr}{i:Nat}(hi:nmIx C (.Name x p)=some i)(h:zib e=true):SS X (.Assign [.Name x p] e pos) (exs (run F k) (.set i (.bi .dm0 .nil))):=by
 obtain⟨x',p',ex,h1,h2,h3⟩:=nm_ok O hi
 cases ex
 have nd:X.N.Nodup:=O.hN▸O.nd
 unfold zib at h
 split at h
 .exact zmq nd h1 h2 h3 zxx (zfo rfl)
 .cases h
theorem zx6{K:vga}{T:List Str}{n:Nat}{C:CC}{elt:Expr}{gs:List Comprehension}{sc:Scope}{lp:Pos}{c:E}(h:cE K T (n+1) C (.ListComp elt gs sc lp)=some c):∃tg iter ifs,gs=[⟨tg,iter,ifs,0⟩]:=by
 match gs,h with
 |[],h=>cases(show(none:Option E)=some c from h)
 |[⟨tg,iter,ifs,0⟩],_=>exact⟨tg,iter,ifs,rfl⟩
 |[⟨_,_,_,.ofNat (k+1)⟩],h=>cases(show(none:Option E)=some c from h)
 |[⟨_,_,_,.negSucc k⟩],h=>cases(show(none:Option E)=some c from h)
 |⟨_,_,_,0⟩::_::_,h=>cases(show(none:Option E)=some c from h)
 |⟨_,_,_,.ofNat (k+1)⟩::_::_,h=>cases(show(none:Option E)=some c from h)
 |⟨_,_,_,.negSucc k⟩::_::_,h=>cases(show(none:Option E)=some c from h)
theorem ztj(O:XOk X C T F k){x:Str}{p pos:Pos}{e:Expr}{i:Nat}{c:E}(hi:nmIx C (.Name x p)=some i)(h:cE X.K T d C e=some c):SS X (.Assign [.Name x p] e pos) (exs (run F k) (.set i c)):=by
 obtain⟨x',p',ex,h1,h2,h3⟩:=nm_ok O hi
 cases ex
 have nd:X.N.Nodup:=O.hN▸O.nd
 have Sd:=ze0 (T:=T) (F:=F) (k:=k) d O
 by_cases hc:zjd e=true
 .exact zmq nd h1 h2 h3 (Sd.e _ _ h).1 (zfo hc)
 .cases d with
  |zero=>cases h
  |succ n=>
   cases e with
   |ListComp elt gs sc lp=>
    have sw:∃b:Bool,swapsWith (.ListComp elt gs sc lp) (some (.Name x p)) pos.line X.env=pure b:=⟨_,rfl⟩
    obtain⟨b,hb⟩:=sw
    cases b with
    |false=>exact zmq nd h1 h2 h3 (Sd.e _ _ h).1 hb
    |true=>
     obtain⟨tg,iter,ifs,rfl⟩:=zx6 h
     obtain⟨kd,a,t,ix,cc,ce,rfl,S,w1,w2,w3,w4,w5⟩:=zrj O (ze0 n O) (λhc D s₀ H₀ ex=>ze0 n (zid O hc D s₀ H₀ ex)) h
     exact zpo nd h1 h2 h3 S O.calm w1 w2 w3 w4 hb w5
   |SetComp _ _ _ _=>unfold cE at h;cases h
   |DictComp _ _ _ _ _=>unfold cE at h;cases h
   |_=>exact absurd rfl hc
theorem snd_s(O:XOk X C T F k):∀(n:Nat) (st:Stmt) (c:S),cS X.K T d n C st=some c->SS X st (exs (run F k) c)
 |0,_,_,h=>by cases h
 |n+1,st,c,h=>by
  have nd:X.N.Nodup:=O.hN▸O.nd
  have Sd:=ze0 (T:=T) (F:=F) (k:=k) d O
  have ih:=snd_s O n
  have hp:PassesOwn (model X.prog X.w) X.A X.env X.xe:=by rw[O.xe];exact PassesOwn.never
  unfold cS at h
  split at h
  .cases h;exact zs7
  .cases h;exact zxc
  .cases h;exact zxd
  .cases h;exact ss_no
  .split at h
   .cases h;exact zs9
   .obtain⟨a,h1,rfl⟩:=map_some h
    exact zxe (Sd.e _ _ h1).1
  .split at h
   .rename_i hc
    obtain⟨a,h1,rfl⟩:=map_some h
    exact zs8 (Sd.e _ _ h1).1 hc
   .cases h
  .split at h
   .split at h
    .split at h
     .rename_i i a h1 h2
      cases h
      split
      .rename_i hz
       rw[vab]at hz
       exact zti O h1 hz.2
      .exact ztj O h1 h2
     .cases h
    .split at h
     .rename_i ht
      split at h
      .rename_i h1 h2
       cases h
       exact zxf O.calm nd (zjm O h1) (Sd.e _ _ h2).1 ht
      .cases h
     .cases h
    .split at h
     .rename_i hs
      split at h
      .rename_i h1 h2 h3
       cases h
       exact zxh O.u2 (Sd.e _ _ h1).1 (Sd.e _ _ h2).1 (Sd.e _ _ h3).1 hs
      .cases h
     .cases h
    .cases h
   .cases h
  .split at h
   .split at h
    .rename_i h1 h2 h3
     cases h
     obtain⟨x',p',ex,a1,a2,a3⟩:=nm_ok O h1
     cases ex
     exact zxj h2 nd a1 a2 a3 (Sd.e _ _ h3).1
    .cases h
   .cases h
  .split at h
   .rename_i h1 h2 h3
    cases h
    exact zxk (Sd.t _ _ h1) (zb8 ih h2) (zb8 ih h3)
   .cases h
  .rename_i tg it b el pos
   split at h
   .split at h
    .rename_i h1 h2 h3
     split at h
     case isFalse=>cases h
     rename_i hw
     cases h
     obtain⟨w1,w2⟩:=Sd.w _ _ _ tg h1 hw
     exact zxm hp O.calm w1 (tg_ok O h2) (zb8 ih h3) w2
    .cases h
   .cases h
  .split at h
   .split at h
    .rename_i h1 h2
     cases h
     exact zxn hp (Sd.t _ _ h1) (zb8 ih h2)
    .cases h
   .cases h
  .cases h
end
noncomputable def zie:FuncBody->Option (List Stmt)
 |.stmts b=>some b
 |_=>none
theorem zk2{d:Data}(h:zft d=true):∃n,d=.seq #[.none] n:=by
 cases d with
 |seq xs n=>
  obtain⟨l⟩:=xs
  unfold zft at h
  simp only[]at h
  split at h
  .rename_i v
   cases v<;>first|exact⟨n,rfl⟩|cases h
  .cases h
 |_=>cases h
theorem zp1{K:vga}{v:Value}(h:noneD K v=true):∃t o n,v=.ref t/\K.lookup t=some o/\o.data=.seq #[.none] n:=by
 cases v with
 |ref t=>
  have h:(match K.lookup t with|some o=>zft o.data|none=>false)=true:=h
  cases e:K.lookup t with
  |none=>rw[e]at h;cases h
  |some o=>
   rw[e]at h
   obtain⟨n,q⟩:=zk2 h
   exact⟨t,o,n,rfl,e,q⟩
 |_=>cases h
noncomputable def zb9(ps:List Str)(sc:Scope):List Str:=ps++(sc.names.filter λy=>(y.2 == .local||y.2 == .cell) && !(ps.contains y.1)).map (·.1)
noncomputable def zfv(N ps:List Str)(sc:Scope):Bool:=
 decide (sc.kind=.function) && !sc.isCoroutine && !sc.isGenerator&&decide N.Nodup&&decide (N.take ps.length=ps)&&ps.all (λx=>decide (sc.names.lookup x=some .local\/sc.names.lookup x=some .cell))&&sc.names.all (λy=>decide (y.2≠.free))&&decide ps.Nodup
theorem zk3{N ps:List Str}{sc:Scope}(h:zfv N ps sc=true):FnScope N ps sc/\ps.Nodup:=by
 unfold zfv at h
 simp only[vab,vav,vb1,Bool.not_eq_true']at h
 obtain⟨⟨⟨⟨⟨⟨⟨h1,h2⟩,h3⟩,h4⟩,h5⟩,h6⟩,h7⟩,h8⟩:=h
 exact⟨⟨h1,h2,h3,h4,h5,h6,h7⟩,h8⟩
noncomputable def nmOf(x:Str):Str:=x
noncomputable def cF(K:vga)(T:List Str)(d n:Nat)(x:Str):Option Fn:=match fnAt K x with
 |some (f,o,fd)=>(match za7 fd.params,zie fd.body with
  |some args,some body=>if fd.name==nmOf x&&fd.qualname==x&&Nat.beq fd.globals mainGlobals&&fd.closure.isEmpty&& (isNone fd.defaults||noneD K fd.defaults && !args.isEmpty)&&Nat.beq fd.builtins builtinsNs&&PySem.W.codeIn K fd.code x&&PySem.W.keepIn K (.ref f) &&
   zfv (zb9 (args.map (·.arg)) fd.scope) (args.map (·.arg)) fd.scope then
   (cSs (cS K T d n ⟨zb9 (args.map (·.arg)) fd.scope,fd.scope.names,true⟩) body).map λb=>⟨(args.map (·.arg)).length,(zb9 (args.map (·.arg)) fd.scope).length,b⟩
   else none
  |_,_=>none)
 |none=>none
theorem ztk{fd:FuncData}{x:Str}{args:List Arg}{body:List Stmt}(c1:(fd.name==nmOf x)=true)(c2:(fd.qualname==x)=true)(c3:Nat.beq fd.globals mainGlobals=true)(c4:fd.closure.isEmpty=true)(c6:Nat.beq fd.builtins builtinsNs=true)(ha:za7 fd.params=some args)(hb:zie fd.body=some body) :
 ∃dx,fd=PySem.W.fnOf (nmOf x) x ⟨[],args,none,[],[],none,dx⟩ body fd.scope fd.defaults fd.kwdefaults fd.doc fd.pyModule fd.annotations fd.code fd.closureTuple:=by
 obtain⟨nm,qn,pr,bd,sc,gl,cl,df,kd,dc,pm,an,cdv,ct,bu⟩:=fd
 have e1:nm=nmOf x:=by simpa using c1
 have e2:qn=x:=by simpa using c2
 have e3:gl=mainGlobals:=vdw c3
 have e4:cl=[]:=by simpa using c4
 have e6:bu=builtinsNs:=vdw c6
 have e7:bd=.stmts body:=by
  cases bd with
  |stmts b'=>cases hb;rfl
  |expr _=>cases hb
 obtain⟨dx,e8⟩:∃dx,pr=⟨[],args,none,[],[],none,dx⟩:=by
  unfold za7 at ha
  split at ha
  .cases ha;rename_i z;exact⟨_,z⟩
  .cases ha
 exact⟨dx,by rw[e1,e2,e3,e4,e6,e7,e8]⟩
theorem zp2{K:vga}{x:Str}{fd:FuncData}{args:List Arg}{body:List Stmt}{dx:List Expr}{sc:Scope}{df kd dc pm:Value}{an:Option Addr}{cdv ct:Value}{b:Bool}(e:fd=PySem.W.fnOf (nmOf x) x ⟨[],args,none,[],[],none,dx⟩ body sc df kd dc pm an cdv ct)(nd:(args.map (·.arg)).Nodup)
 (hb:b=noneD K df) (c5:(isNone df||noneD K df && !args.isEmpty)=true):Binds K fd (args.map (·.arg)) []/\(b=true->Binds K fd (args.map (·.arg)) [.none])/\(b=false->∀us:List Value,us.length=(args.map (·.arg)).length->bindArgs fd ⟨us,[]⟩=pure ((args.map (·.arg)).zip us)):=by
 subst e hb
 rw[vdv,vab]at c5
 rcases c5 with c5|⟨c5,c0⟩
 .have e5:df=.none:=by cases df<;>first|rfl|cases c5
  subst e5
  exact⟨.all λus hl=>zev hl nd,(λz=>nomatch z),λ_ us hl=>zev hl nd⟩
 .obtain⟨t,o,n,rfl,hk,hd⟩:=zp1 c5
  rw[c5]
  obtain⟨qs,z,hqz⟩:∃qs z,args.map (·.arg)=qs++[z]:=by
   rcases List.eq_nil_or_concat (args.map (·.arg))with q|⟨l,b,q⟩
   .rw[List.map_eq_nil_iff.mp q]at c0;cases c0
   .exact⟨l,b,by rw[q,List.concat_eq_append]⟩
  have nd':=nd
  rw[hqz]at nd'
  refine⟨λs us hK hl=>?_,λ_ s us hK hl=>?_,λz=>nomatch z⟩
  .rw[vcw]at hl ⊢
   rw[hqz]at hl ⊢
   exact zkt hqz nd' (hK _ _ hk) hd hl
  .rw[hqz]at hl ⊢
   exact zku hqz nd' (hK _ _ hk) hd (by rw[vax,vax]at hl;simpa using hl)
theorem zm9{K:vga}{x:Str}{f:Addr}{o:Obj}{fd:FuncData}(h:fnAt K x=some (f,o,fd)):refAt K x=some f/\∃oc od sl,K.lookup f=some ⟨oc,od,.func fd,sl⟩:=by
 unfold fnAt at h
 split at h
 .rename_i f' hn
  split at h
  .rename_i o' ho
   split at h
   .rename_i fd' hd
    cases h
    refine⟨hn,o.cls,o.dict,o.slots,?_⟩
    rw[<-hd];exact ho
   .cases h
  .cases h
 .cases h
theorem zx7{K:vga}{T:List Str}{d n:Nat}{x:Str}{fn:Fn}:∀(f:Addr) (o:Obj) (fd:FuncData) (args:List Arg) (body:List Stmt) (b:S),fnAt K x=some (f,o,fd)->za7 fd.params=some args->zie fd.body=some body->(fd.name==nmOf x&&fd.qualname==x&&Nat.beq fd.globals mainGlobals&&fd.closure.isEmpty&& (isNone fd.defaults||noneD K fd.defaults && !args.isEmpty)&&Nat.beq fd.builtins builtinsNs&&PySem.W.codeIn K fd.code x&&PySem.W.keepIn K (.ref f) &&
 zfv (zb9 (args.map (·.arg)) fd.scope) (args.map (·.arg)) fd.scope)=true->cSs (cS K T d n ⟨zb9 (args.map (·.arg)) fd.scope,fd.scope.names,true⟩) body=some b->fn=⟨(args.map (·.arg)).length,(zb9 (args.map (·.arg)) fd.scope).length,b⟩->∃f fd st ps N,refAt K x=some f/\FunD K (nmOf x) x st f fd/\FnScope N ps (zas st)/\fn.n=N.length/\fn.ps=ps.length/\(Binds K fd ps []/\(hasD K x=true->Binds K fd ps [.none])/\(hasD K x=false->∀us:List Value,us.length=ps.length->bindArgs fd ⟨us,[]⟩=pure (ps.zip us)))/\
 cSs (cS K T d n ⟨N,(zas st).names,true⟩) (zdq st)=some fn.body/\∃o' fd' args,fnAt K x=some (f,o',fd')/\za7 fd'.params=some args/\ps=args.map (·.arg):=by
 intro f o fd args body b hf ha hb hc h1 e
 rw[vab,vab,vab,vab,vab,vab,vab,vab]at hc
 obtain⟨⟨⟨⟨⟨⟨⟨⟨c1,c2⟩,c3⟩,c4⟩,c5⟩,c6⟩,c7⟩,c8⟩,c9⟩:=hc
 obtain⟨S,nd⟩:=zk3 c9
 obtain⟨hn,oc,od,sl,lk⟩:=zm9 hf
 obtain⟨dx,ef⟩:=ztk c1 c2 c3 c4 c6 ha hb
 have hh:hasD K x=noneD K fd.defaults:=by unfold hasD;rw[hf]
 exact⟨f,fd,.FunctionDef (nmOf x) ⟨[],args,none,[],[],none,dx⟩ body [] none [] fd.scope none (nmOf x) ⟨0,0,0,0⟩,args.map (·.arg),zb9 (args.map (·.arg)) fd.scope,hn,⟨⟨oc,od,_,_,_,_,_,fd.code,_,sl,ef,lk,c7⟩,c8⟩,S,by rw[e],by rw[e],zp2 ef nd hh c5,by rw[e];exact h1,o,fd,args,hf,ha,rfl⟩
theorem cF_ok{K:vga}{T:List Str}{d n:Nat}{x:Str}{fn:Fn}(h:cF K T d n x=some fn):∃f fd st ps N,refAt K x=some f/\FunD K (nmOf x) x st f fd/\FnScope N ps (zas st)/\fn.n=N.length/\fn.ps=ps.length/\(Binds K fd ps []/\(hasD K x=true->Binds K fd ps [.none])/\(hasD K x=false->∀us:List Value,us.length=ps.length->bindArgs fd ⟨us,[]⟩=pure (ps.zip us)))/\
 cSs (cS K T d n ⟨N,(zas st).names,true⟩) (zdq st)=some fn.body/\∃o' fd' args,fnAt K x=some (f,o',fd')/\za7 fd'.params=some args/\ps=args.map (·.arg):=by
 unfold cF at h
 split at h
 .rename_i f o fd hf
  split at h
  .rename_i args body ha hb
   split at h
   .rename_i hc
    obtain⟨b,h1,e⟩:=map_some h
    exact zx7 f o fd args body b hf ha hb hc h1 e
   .cases h
  .cases h
 .cases h
theorem zdh{α β:Type}{f:α->Option β}:∀{l:List α} {r:List β},mapO f l=some r->∀(i:Nat) (a:α),l[i]?=some a->∃b,r[i]?=some b/\f a=some b
 |[],_,_,i,a,e=>by simp at e
 |x::l,r,h,i,a,e=>by
  unfold mapO at h
  split at h
  .rename_i b hb
   split at h
   .rename_i bs hbs
    cases h
    cases i with
    |zero=>simp at e;subst e;exact⟨b,rfl,hb⟩
    |succ i=>
     obtain⟨c,h1,h2⟩:=zdh hbs i a (by simpa using e)
     exact⟨c,by simpa using h1,h2⟩
   .cases h
  .cases h
noncomputable def cF0(K:vga)(T:List Str)(d n:Nat)(x:Str):Option Fn:=if x==("" : Str)then some ⟨0,0,.no⟩else cF K T d n x
theorem zna{K:vga}{T:List Str}{d n:Nat}{x:Str}{fn:Fn}(h:cF0 K T d n x=some fn)(hx:x≠""):cF K T d n x=some fn:=by
 unfold cF0 at h
 rw[if_neg (by simpa using hx)]at h
 exact h
noncomputable def cProg(K:vga)(T:List Str)(d n:Nat):Option (List Fn):=mapO (cF0 K T d n) T
theorem znb{P:Program}{w:World}{K:vga}{mg:Str->Option Value}{base:Heap}{T:List Str}{Fs:List Fn}{k:Nat}(KX:K.In base)(G:base.Ns mainGlobals mg){x:Str}{st:Stmt}{f:Addr}{N ps:List Str}(S:FnScope N ps (zas st))
 (H0:∀(i:Nat)(x:Str),T[i]?=some x->x≠""->∃f fd ps fn,refAt K x=some f/\FnOk P w K mg base CX0 k f fd ps (spV K ps.length (run (λi=>Fs[i]?) k i))/\PySem.W.keepIn K (.ref f)=true/\Binds K fd ps []/\Fs[i]?=some fn/\fn.ps=ps.length/\(hasD K x=true->Binds K fd ps [.none]))
 (cdv:Value) (A:Around) (outer:List Env) (s:Shared) (H:Hp) (E:XK) (hr:Room k (A.deeper (envOfC x (zas st) s.heap.objs.size f cdv))):XOk (cxOf CX0 P w K mg base N x (zas st) f cdv A outer s H E).nox ⟨N,(zas st).names,true⟩ T (λi=>Fs[i]?) k:=by
 refine⟨rfl,S.nd,λy hy=>?_,λy hy=>?_,λy hy=>hy,λy hy=>hy,rfl,hr,rfl,S.kind,λy v hv=>PySem.W.mg_of KX G hv,λy hv=>PySem.W.mg_none_of KX G hv,H0⟩
 .have hy:visK ((zas st).names.lookup y)=true:=hy
  cases z:(zas st).names.lookup y with
  |none=>rw[z]at hy;cases hy
  |some kd=>cases kd<;>first|exact .inl z|exact .inr (.inl z)|exact .inr (.inr z)|(rw[z]at hy;cases hy)
 .have hy:locK true ((zas st).names.lookup y)=true:=hy
  cases z:(zas st).names.lookup y with
  |none=>rw[z]at hy;cases hy
  |some kd=>cases kd<;>first|exact⟨.inl z,.inl rfl⟩|exact⟨.inr z,.inl rfl⟩|(rw[z]at hy;cases hy)
theorem ztl{P:Program}{w:World}{K:vga}{mg:Str->Option Value}{base:Heap}{T:List Str}{d n:Nat}{Fs:List Fn}(hP:cProg K T d n=some Fs)(KX:K.In base)(G:base.Ns mainGlobals mg)(k:Nat):∀(j:Nat),j<=k->∀(i:Nat) (x:Str),T[i]?=some x->x≠""->
 ∃f fd ps fn,refAt K x=some f/\FnOk P w K mg base CX0 j f fd ps (spV K ps.length (run (λi=>Fs[i]?) j i))/\PySem.W.keepIn K (.ref f)=true/\Binds K fd ps []/\Fs[i]?=some fn/\fn.ps=ps.length/\(hasD K x=true->Binds K fd ps [.none]):=by
 induction k with
 |zero=>
  intro j hj i x e hx
  have:j=0:=Nat.le_zero.mp hj
  subst this
  obtain⟨fn,h1,h2⟩:=zdh hP i x e
  obtain⟨f,fd,st,ps,N,a1,a2,a3,a4,a5,a6,a7,_⟩:=cF_ok (zna h2 hx)
  exact⟨f,fd,ps,fn,a1,zmu,a2.kp,a6.1,h1,a5,a6.2.1⟩
 |succ k ih=>
  intro j hj i x e hx
  by_cases hjk:j<=k
  .exact ih j hjk i x e hx
  .have:j=k+1:=by omega
   subst this
   obtain⟨fn,h1,h2⟩:=zdh hP i x e
   obtain⟨f,fd,st,ps,N,a1,a2,a3,a4,a5,a6,a7,_⟩:=cF_ok (zna h2 hx)
   exact⟨f,fd,ps,fn,a1,zrb (F:=λi=>Fs[i]?) h1 a2 a3 a4 a5 λcdv A outer s H E hr=>zb8 (snd_s (znb KX G a3 (λj y hj hy=>ih k (vad _) j y hj hy) cdv A outer s H E hr) n) a7,a2.kp,a6.1,h1,a5,a6.2.1⟩
noncomputable def zbx:Res W->Bool
 |.ok (.bl true) _=>true
 |_=>false
noncomputable def says(K:vga)(T:List Str)(d n k i:Nat)(ns:List Int):Bool:=match cProg K T d n with
 |some Fs=>zbx (run (λi=>Fs[i]?) k i [.fz (ns.map .int)] ⟨0,0,[]⟩)
 |none=>false
theorem zif{r:Res W}(h:zbx r=true):∃h',r=.ok (.bl true) h':=by
 cases r with
 |no=>cases h
 |ex _ _=>cases h
 |ok w h'=>cases w<;>first|(rename_i b;cases b<;>first|exact⟨h',rfl⟩|cases h)|cases h
theorem ze1{K:vga}{m:Nat->Addr}{n:Nat}{H:Hp}:∀(ns:List Int),VReps K m n H (ns.map V.int) (ns.map W.int)
 |[]=>.nil
 |i::r=>.cons (.int i) (ze1 r)
theorem znc{K:vga}{T:List Str}{d n k i:Nat}{ns:List Int}(h:says K T d n k i ns=true):∃Fs h',cProg K T d n=some Fs/\run (λi=>Fs[i]?) k i [.fz (ns.map .int)] ⟨0,0,[]⟩=.ok (.bl true) h':=by
 unfold says at h
 split at h
 .rename_i Fs hF
  obtain⟨h',e⟩:=zif h
  exact⟨Fs,h',hF,e⟩
 .cases h
theorem ztm{K:vga}{T:List Str}{d n k i:Nat}{ns:List Int}{Fs:List Fn}(hP:cProg K T d n=some Fs)(h:zbx (run (λi=>Fs[i]?) k i [.fz (ns.map .int)] ⟨0,0,[]⟩)=true):says K T d n k i ns=true:=by
 unfold says
 rw[hP]
 exact h
noncomputable def lawOk(K:vga)(x:Str):Bool:=match fnAt K x with
 |some (_,_,fd)=>(match za7 fd.params with
  |some [a]=>a.arg==("_law_script" : Str) && !(noneD K fd.defaults)
  |_=>false)
 |none=>false
theorem zp3{l:PySem.W.OpenLaw}{q:Program}{loose:List Str}{XP:(Str->Option Value)->Heap->Prop}{YP:World->Heap->Prop}{dr:DefRec}{K:Params->vga}(T:List Str)(d n k i:Nat)(hn:l.most=some 63)(hdf:dr.params.defaults=[])(hr:Room k callerA)
 (hY:∀(w:World)(h:Heap),YP w h->(K w.params).In h) (hT:T[i]?=some dr.name) (hne:dr.name≠"") (hS:∀(w:World)(ns:List Int),ns.length<=63->says (K w.params) T d n k i ns=true) (hL:∀w:World,lawOk (K w.params) dr.name=true) :
 PySem.W.WalkO q loose XP YP l.row.toRowW dr [] (λf vs=>PySem.call f vs):=by
 have any:∀w:World,∃Fs,cProg (K w.params) T d n=some Fs:=λw=>let⟨Fs,_,h,_⟩:=znc (hS w [] (vbb _));⟨Fs,h⟩
 refine L2.zsi (n:=63) (k:=k) (x:="_law_script") (CX:=λ_=>CX0) (sp:=λw=>spV (K w.params) 1 (run (λj=>(Classical.choose (any w))[j]?) k i)) hn (by decide) hdf hr hY ?_ ?_ λ_ _ _ _ _ z=>z
 .intro w mg fa h KX G hmg
  have hP:=Classical.choose_spec (any w)
  obtain⟨fn',h1,h2⟩:=zdh hP i _ hT
  obtain⟨f',fd',st,ps',N,a1,a2,a3,a4,a5,a6,a7,o',fd'',args,a8,a9,a10⟩:=cF_ok (zna h2 hne)
  have hps:ps'=[("_law_script" : Str)]:=by
   have hl:=hL w
   unfold lawOk at hl
   rw[a8]at hl
   simp only[a9]at hl
   cases args with
   |nil=>cases hl
   |cons z zs=>
    cases zs with
    |nil=>
     rw[vab]at hl
     have hl:z.arg = "_law_script":=by simpa using hl.1
     rw[a10,van,hl];rfl
    |cons _ _=>cases hl
  have hnd:hasD (K w.params) dr.name=false:=by
   have hl:=hL w
   unfold lawOk at hl
   rw[a8]at hl
   unfold hasD
   rw[a8]
   simp only[a9]at hl
   split at hl
   .rw[vab]at hl
    simpa using hl.2
   .cases hl
  have e:=PySem.W.mg_of KX G (zjg a1)
  rw[hmg]at e
  cases e
  subst hps
  refine⟨fd',λs u=>.of_eq (a6.2.2 hnd [u] rfl),λbase KB GB=>?_⟩
  cases k with
  |zero=>exact zmu
  |succ k=>exact zrb (F:=λj=>(Classical.choose (any w))[j]?) h1 a2 a3 a4 a5 λcdv A outer s H E hr=>zb8 (snd_s (znb KB GB a3 (λj y hj hy=>ztl hP KB GB k k (vad _) j y hj hy) cdv A outer s H E hr) n) a7
 .intro w H a ns hl hO hQ
  obtain⟨Fs,h',e1,e2⟩:=znc (hS w ns hl)
  have hP:=Classical.choose_spec (any w)
  rw[hP]at e1
  cases e1
  refine⟨rfl,⟨0,0,[]⟩,λ_=>0,_,_,h',⟨λi hi=>absurd hi (ve3 _),λi j hi=>absurd hi (ve3 _),rfl⟩,.cons (.fz ?_ (ze1 ns)) .nil,e2,λv H' m' _ _ q=>by cases q;rfl⟩
  rcases hQ with(q|⟨o,q⟩)|q
  .rcases hO a with z|⟨o,xs,z⟩
   .rw[z]at q;cases q
   .rw[z]at q;cases q
  .exact .inl ⟨o,q⟩
  .exact .inr q
noncomputable def fn0:Fn:=⟨1,1,(.seq (.ret (.and (.isi .int (.var 0)) (.not (.isi .bool (.var 0))))) .skip)⟩
noncomputable def fn1:Fn:=⟨3,3,(.seq (.ret (.and (.call 0 (.cons (.var 0) .nil)) (.chn .le .le (.var 1) (.var 0) (.var 2)))) .skip)⟩
noncomputable def fn2:Fn:=⟨2,2,(.seq (.ite (.cmp .eq (.bi .len (.cons (.var 0) .nil)) (.cst (.int (0)))) (.seq (.ret (.op .add (.op .mul (.cst (.int (7))) (.var 1)) (.cst (.int (3))))) .skip) .skip) (.seq (.ret (.bi .abs (.cons (.idx (.var 0) (.op .mod (.var 1) (.bi .len (.cons (.var 0) .nil)))) .nil))) .skip))⟩
noncomputable def zc8:E:=(.cmp .ge (.bi .abs (.cons (.var 0) .nil)) (.op .pow (.cst (.int (10))) (.cst (.int (18)))))
noncomputable def zc9:E:=(.bi .abs (.cons (.var 0) .nil))
noncomputable def fn3:Fn:=⟨1,1,(.seq (.ret (.lst (.cons (.var 0) (.cons (.lc .seq (.var 0) (.one 0) 1 [] zc8 zc9) (.cons (.cst (.int (0))) (.cons (.cst (.int (0))) .nil)))))) .skip)⟩
noncomputable def fn4:Fn:=⟨3,4,(.seq (.set 3 (.op .mod (.op .pow (.op .add (.op .mul (.op .add (.op .mod (.call 2 (.cons (.var 0) (.cons (.var 1) .nil))) (.cst (.int (1000003)))) (.cst (.int (5)))) (.op .add (.var 1) (.cst (.int (2))))) (.op .mul (.cst (.int (7919))) (.var 1))) (.cst (.int (5)))) (.cst (.int (2147483647))))) (.seq (.ret (.op .mod (.op .fdiv (.var 3) (.cst (.int (13)))) (.var 2))) .skip))⟩
noncomputable def zg0:E:=(.cmp .lt (.idx (.var 0) (.cst (.int (2)))) (.bi .len (.cons (.idx (.var 0) (.cst (.int (1)))) .nil)))
noncomputable def zd4:S:=(.seq (.set 2 (.idx (.idx (.var 0) (.cst (.int (1)))) (.idx (.var 0) (.cst (.int (2)))))) (.seq (.ite (.cmp .gt (.var 2) (.cst (.int (0)))) (.seq (.put (.idx (.var 0) (.cst (.int (1)))) (.idx (.var 0) (.cst (.int (2)))) (.op .fdiv (.var 2) (.var 1))) (.seq (.ret (.op .mod (.var 2) (.var 1))) .skip)) .skip) (.seq (.put (.var 0) (.cst (.int (2))) (.op .add (.idx (.var 0) (.cst (.int (2)))) (.cst (.int (1))))) .skip)))
noncomputable def fn5:Fn:=⟨2,3,(.seq (.whl zg0 zd4) (.seq (.put (.var 0) (.cst (.int (3))) (.op .add (.idx (.var 0) (.cst (.int (3)))) (.cst (.int (1))))) (.seq (.ret (.call 4 (.cons (.idx (.var 0) (.cst (.int (0)))) (.cons (.idx (.var 0) (.cst (.int (3)))) (.cons (.var 1) .nil))))) .skip)))⟩
noncomputable def fn6:Fn:=⟨3,3,(.seq (.ret (.and (.isi .tuple (.var 0)) (.chn .le .le (.var 1) (.bi .len (.cons (.var 0) .nil)) (.var 2)))) .skip)⟩
noncomputable def zjp:S:=(.seq (.ite (.not (.tru (.call 1 (.cons (.var 5) (.cons (.var 3) (.cons (.var 4) .nil)))))) (.seq (.ret (.cst (.bl false))) .skip) .skip) .skip)
noncomputable def fn7:Fn:=⟨5,6,(.seq (.ite (.not (.tru (.call 6 (.cons (.var 0) (.cons (.var 1) (.cons (.var 2) .nil)))))) (.seq (.ret (.cst (.bl false))) .skip) .skip) (.seq (.«for» .seq (.var 0) (.one 5) zjp) (.seq (.ret (.cst (.bl true))) .skip)))⟩
noncomputable def zjq:S:=(.seq (.ite (.not (.tru (.call 11 (.cons (.var 3) (.cons (.var 2) .nil))))) (.seq (.ret (.cst (.bl false))) .skip) .skip) .skip)
noncomputable def fn8:Fn:=⟨3,4,(.seq (.ite (.not (.tru (.call 6 (.cons (.var 0) (.cons (.var 1) (.cons (.var 1) .nil)))))) (.seq (.ret (.cst (.bl false))) .skip) .skip) (.seq (.«for» .seq (.var 0) (.one 3) zjq) (.seq (.ret (.cst (.bl true))) .skip)))⟩
noncomputable def zjr:S:=(.seq (.ite (.not (.tru (.call 6 (.cons (.var 2) (.cons (.var 1) (.cons (.var 1) .nil)))))) (.seq (.ret (.cst (.bl false))) .skip) .skip) .skip)
noncomputable def fn9:Fn:=⟨2,3,(.seq (.ite (.not (.tru (.call 6 (.cons (.var 0) (.cons (.cst (.int (0))) (.cons (.cst (.int (60))) .nil)))))) (.seq (.ret (.cst (.bl false))) .skip) .skip) (.seq (.«for» .seq (.var 0) (.one 2) zjr) (.seq (.ret (.cst (.bl true))) .skip)))⟩
noncomputable def fn10:Fn:=⟨1,6,(.seq (.ite (.not (.tru (.call 6 (.cons (.var 0) (.cons (.cst (.int (5))) (.cons (.cst (.int (5))) .nil)))))) (.seq (.ret (.cst (.bl false))) .skip) .skip) (.seq (.unp [1,2,3,4,5] (.var 0)) (.seq (.ite (.or (.not (.tru (.call 1 (.cons (.var 1) (.cons (.cst (.int (1))) (.cons (.cst (.int (40))) .nil)))))) (.not (.tru (.call 1 (.cons (.var 2) (.cons (.cst (.int (0))) (.cons (.cst (.int (8))) .nil))))))) (.seq (.ret (.cst (.bl false))) .skip) .skip) (.seq (.ite (.not (.tru (.call 7 (.cons (.var 4) (.cons (.cst (.int (1))) (.cons (.cst (.int (4))) (.cons (.cst (.int (0))) (.cons (.op .sub (.var 1) (.cst (.int (1)))) .nil)))))))) (.seq (.ret (.cst (.bl false))) .skip) .skip) (.seq (.ret (.and (.call 9 (.cons (.var 3) (.cons (.var 1) .nil))) (.call 8 (.cons (.var 5) (.cons (.var 1) (.cons (.bi .len (.cons (.var 4) .nil)) .nil)))))) .skip)))))⟩
noncomputable def fn11:Fn:=⟨2,4,(.seq (.ite (.not (.tru (.call 6 (.cons (.var 0) (.cons (.cst (.int (2))) (.cons (.cst (.int (2))) .nil)))))) (.seq (.ret (.cst (.bl false))) .skip) .skip) (.seq (.unp [2,3] (.var 0)) (.seq (.ret (.and (.call 1 (.cons (.var 2) (.cons (.cst (.int (0))) (.cons (.cst (.int (99))) .nil)))) (.call 12 (.cons (.var 3) (.cons (.var 1) .nil))))) .skip)))⟩
noncomputable def fn12:Fn:=⟨2,2,(.seq (.ret (.or (.cmp .isn (.var 0) (.cst .non)) (.call 1 (.cons (.var 0) (.cons (.cst (.int (0))) (.cons (.op .sub (.var 1) (.cst (.int (1)))) .nil)))))) .skip)⟩
noncomputable def fn13:Fn:=⟨2,4,(.seq (.ite (.not (.tru (.call 6 (.cons (.var 0) (.cons (.cst (.int (2))) (.cons (.cst (.int (2))) .nil)))))) (.seq (.ret (.cst (.bl false))) .skip) .skip) (.seq (.unp [2,3] (.var 0)) (.seq (.ret (.and (.call 1 (.cons (.var 2) (.cons (.cst (.int (0))) (.cons (.op .sub (.var 1) (.cst (.int (1)))) .nil)))) (.call 1 (.cons (.var 3) (.cons (.cst (.int (0))) (.cons (.cst (.int (1))) .nil)))))) .skip)))⟩
noncomputable def zfw:S:=(.seq (.ite (.not (.tru (.call 15 (.cons (.var 7) (.cons (.var 6) (.cons (.var 1) (.cons (.var 2) .nil))))))) (.seq .no .skip) .skip) .skip)
noncomputable def zfx:S:=(.seq (.«for» .enm (.var 5) (.many [6,7]) zfw) .skip)
noncomputable def fn14:Fn:=⟨1,8,(.seq (.ite (.not (.tru (.call 10 (.cons (.var 0) .nil)))) (.seq .no .skip) .skip) (.seq (.unp [1,2,3] (.slc (.var 0) false (.cst .non) true (.cst (.int (3))))) (.seq (.«for» .enm (.var 3) (.many [4,5]) zfx) .skip)))⟩
noncomputable def fn15:Fn:=⟨4,4,(.seq (.ite (.or (.cmp .eq (.var 0) (.cst (.str (vgb "x")))) (.tru (.call 13 (.cons (.var 0) (.cons (.var 3) .nil))))) (.seq (.ret (.chn .lt .lt (.cst (.int (0))) (.var 1) (.op .sub (.var 2) (.cst (.int (1)))))) .skip) .skip) (.seq (.ite (.cmp .eq (.var 0) (.cst (.str (vgb "<")))) (.seq (.ret (.cmp .gt (.var 1) (.cst (.int (0))))) .skip) .skip) (.seq (.ite (.cmp .eq (.var 0) (.cst (.str (vgb ">")))) (.seq (.ret (.cmp .lt (.var 1) (.op .sub (.var 2) (.cst (.int (1)))))) .skip) .skip) (.seq (.ret (.or (.cmp .eq (.var 0) (.cst (.str (vgb ".")))) (.cmp .eq (.var 0) (.cst (.str (vgb "s")))))) .skip))))⟩
noncomputable def fin(h:VH)(r:Res Fl):Res W:=r.bind λfl h'=>match fl with
 |.nx _=>leave h .non h'
 |.rt w=>leave h w h'
 |_=>.no
theorem zao{F:Nat->Option Fn}{k f:Nat}{fn:Fn}{ws:List W}{h:VH}(hF:F f=some fn)(hl:ws.length=fn.ps) :
 run F (k+1) f ws h=fin h (exs (run F k) fn.body (ws.map some++vgc (fn.n-fn.ps) none) ⟨h.n,h.n,h.os⟩):=by
 simp only[run,hF]
 rw[if_pos (by rw[hl];exact Nat.beq_refl _)]
 rfl
theorem ze2{h:VH}{w:W}{h':VH}(h1:h.n<=h'.lo)(h2:W.lt h.n w=true):leave h w h'=.ok w h:=by
 unfold leave
 rw[if_pos (by rw[vab];exact⟨veq.mpr h1,h2⟩)]
theorem zal{h h':VH}{w:W}(h1:h.n<=h'.lo)(h2:W.lt h.n w=true):fin h (.ok (.rt w) h')=.ok w h:=ze2 h1 h2
theorem zrk{h h':VH}{ρ:En}(h1:h.n<=h'.lo):fin h (.ok (.nx ρ) h')=.ok .non h:=ze2 h1 (by simp only[W.lt])
@[simp] theorem bindok {α β:Type} {a:α} {h:VH} {f:α->VH->Res β}:(Res.ok a h).bind f=f a h:=rfl
@[simp] theorem bindno {α β:Type} {f:α->VH->Res β}:(Res.no:Res α).bind f=.no:=rfl
@[simp] theorem ofsome {α:Type} {a:α} {h:VH}:Res.of (some a) h=.ok a h:=rfl
@[simp] theorem ofnone {α:Type} {h:VH}:Res.of (none:Option α) h=.no:=rfl
@[simp] theorem lt_non {n:Nat}:W.lt n .non=true:=by simp only[W.lt]
@[simp] theorem lt_bl {n:Nat} {b:Bool}:W.lt n (.bl b)=true:=by simp only[W.lt]
@[simp] theorem lt_int {n:Nat} {b:Int}:W.lt n (.int b)=true:=by simp only[W.lt]
@[simp] theorem lt_str {n:Nat} {b:Str}:W.lt n (.str b)=true:=by simp only[W.lt]
@[simp] theorem lt_tup {n:Nat} {b:List W}:W.lt n (.tup b)=W.lts n b:=by simp only[W.lt]
@[simp] theorem lts_nil {n:Nat}:W.lts n []=true:=by simp only[W.lts]
@[simp] theorem lts_cons {n:Nat} {b:W} {r:List W}:W.lts n (b::r)=(W.lt n b&&W.lts n r):=by simp only[W.lts]
@[simp] theorem ty_int_int:((Ty.int==Ty.int):Bool)=true:=rfl
@[simp] theorem ty_int_bool:((Ty.int==Ty.bool):Bool)=false:=rfl
@[simp] theorem ty_int_tuple:((Ty.int==Ty.tuple):Bool)=false:=rfl
@[simp] theorem ty_int_list:((Ty.int==Ty.list):Bool)=false:=rfl
@[simp] theorem ty_int_str:((Ty.int==Ty.str):Bool)=false:=rfl
@[simp] theorem ty_int_dict:((Ty.int==Ty.dict):Bool)=false:=rfl
@[simp] theorem ty_bool_int:((Ty.bool==Ty.int):Bool)=false:=rfl
@[simp] theorem ty_bool_bool:((Ty.bool==Ty.bool):Bool)=true:=rfl
@[simp] theorem ty_bool_tuple:((Ty.bool==Ty.tuple):Bool)=false:=rfl
@[simp] theorem ty_bool_list:((Ty.bool==Ty.list):Bool)=false:=rfl
@[simp] theorem ty_bool_str:((Ty.bool==Ty.str):Bool)=false:=rfl
@[simp] theorem ty_bool_dict:((Ty.bool==Ty.dict):Bool)=false:=rfl
@[simp] theorem ty_tuple_int:((Ty.tuple==Ty.int):Bool)=false:=rfl
@[simp] theorem ty_tuple_bool:((Ty.tuple==Ty.bool):Bool)=false:=rfl
@[simp] theorem ty_tuple_tuple:((Ty.tuple==Ty.tuple):Bool)=true:=rfl
@[simp] theorem ty_tuple_list:((Ty.tuple==Ty.list):Bool)=false:=rfl
@[simp] theorem ty_tuple_str:((Ty.tuple==Ty.str):Bool)=false:=rfl
@[simp] theorem ty_tuple_dict:((Ty.tuple==Ty.dict):Bool)=false:=rfl
@[simp] theorem ty_list_int:((Ty.list==Ty.int):Bool)=false:=rfl
@[simp] theorem ty_list_bool:((Ty.list==Ty.bool):Bool)=false:=rfl
@[simp] theorem ty_list_tuple:((Ty.list==Ty.tuple):Bool)=false:=rfl
@[simp] theorem ty_list_list:((Ty.list==Ty.list):Bool)=true:=rfl
@[simp] theorem ty_list_str:((Ty.list==Ty.str):Bool)=false:=rfl
@[simp] theorem ty_list_dict:((Ty.list==Ty.dict):Bool)=false:=rfl
@[simp] theorem ty_str_int:((Ty.str==Ty.int):Bool)=false:=rfl
@[simp] theorem ty_str_bool:((Ty.str==Ty.bool):Bool)=false:=rfl
@[simp] theorem ty_str_tuple:((Ty.str==Ty.tuple):Bool)=false:=rfl
@[simp] theorem ty_str_list:((Ty.str==Ty.list):Bool)=false:=rfl
@[simp] theorem ty_str_str:((Ty.str==Ty.str):Bool)=true:=rfl
@[simp] theorem ty_str_dict:((Ty.str==Ty.dict):Bool)=false:=rfl
@[simp] theorem ty_dict_int:((Ty.dict==Ty.int):Bool)=false:=rfl
@[simp] theorem ty_dict_bool:((Ty.dict==Ty.bool):Bool)=false:=rfl
@[simp] theorem ty_dict_tuple:((Ty.dict==Ty.tuple):Bool)=false:=rfl
@[simp] theorem ty_dict_list:((Ty.dict==Ty.list):Bool)=false:=rfl
@[simp] theorem ty_dict_str:((Ty.dict==Ty.str):Bool)=false:=rfl
@[simp] theorem ty_dict_dict:((Ty.dict==Ty.dict):Bool)=true:=rfl
@[simp] theorem isi_non {t:Ty} {h:VH}:tyIs t h .non=some false:=rfl
@[simp] theorem isi_bl {t:Ty} {h:VH} {b:Bool}:tyIs t h (.bl b)=some (t == .int||t == .bool):=rfl
@[simp] theorem isi_int {t:Ty} {h:VH} {i:Int}:tyIs t h (.int i)=some (t == .int):=rfl
@[simp] theorem isi_str {t:Ty} {h:VH} {x:Str}:tyIs t h (.str x)=some (t == .str):=rfl
@[simp] theorem isi_tup {t:Ty} {h:VH} {x:List W}:tyIs t h (.tup x)=some (t == .tuple):=rfl
@[simp] theorem get_lo {h:VH} {l i:Nat}:VH.get ⟨h.n,l,h.os⟩ i=h.get i:=by unfold VH.get;rfl
@[simp] theorem tru_bl {h:VH} {b:Bool}:truW h (.bl b)=some b:=rfl
noncomputable def forL(tg:W->VH->En->Option En)(b:FS):List W->En->VH->Res Fl
 |[],ρ,h=>.ok (.nx ρ) h
 |w::r,ρ,h=>match tg w h ρ with
  |none=>.no
  |some ρ=>(b ρ h).bind λfl h=>match fl with
   |.nx ρ=>forL tg b r ρ h
   |.ct ρ=>forL tg b r ρ h
   |.bk ρ=>.ok (.nx ρ) h
   |.rt w=>.ok (.rt w) h
noncomputable def lcL(tg:W->VH->En->Option En)(c e:FE):List W->En->VH->Res (List W)
 |[],_,h=>.ok [] h
 |w::r,ρ,h=>match tg w h ρ with
  |none=>.no
  |some ρ=>(c ρ h).bind λb h=>match b with
   |.bl true=>(e ρ h).bind λy h=>(lcL tg c e r ρ h).bind λys h=>.ok (y::ys) h
   |.bl false=>lcL tg c e r ρ h
   |_=>.no
theorem ze3{α β γ:Type}{r:Res α}{f:α->VH->Res β}{g:β->VH->Res γ}:(r.bind f).bind g=r.bind λa h=>(f a h).bind g:=by cases r<;>rfl
theorem zbs{nx:Nat->VH->Option (Option W)}{tg:W->VH->En->Option En}{b:FS}{ws:List W}(hx:∀i h,nx i h=some ws[i]?):∀(fu i:Nat) (ρ:En) (h:VH),i<=ws.length->ws.length<fu+i->forG nx tg b fu i ρ h=forL tg b (ws.drop i) ρ h
 |0,i,ρ,h,hi,hl=>by omega
 |fu+1,i,ρ,h,hi,hl=>by
  simp only[forG,hx]
  cases q:ws[i]? with
  |none=>
   rw[vdq (va6.mp q)]
   rfl
  |some w=>
   obtain⟨hi,e⟩:=vaq.mp q
   rw[vc8 hi,e]
   simp only[forL]
   cases tg w h ρ with
   |none=>rfl
   |some ρ'=>
    simp only
    congr 1
    funext fl h1
    cases fl<;>simp only[zbs hx fu (i+1) _ _ hi (by omega)]
theorem zcm{nx:Nat->VH->Option (Option W)}{tg:W->VH->En->Option En}{c e:FE}{ws:List W}(hx:∀i h,nx i h=some ws[i]?):∀(fu i:Nat) (ρ:En) (h:VH) (acc:List W),i<=ws.length->ws.length<fu+i->
 lcG nx tg c e fu i ρ h acc=(lcL tg c e (ws.drop i) ρ h).bind λys h=>.ok (acc.reverse++ys) h
 |0,i,ρ,h,acc,hi,hl=>by omega
 |fu+1,i,ρ,h,acc,hi,hl=>by
  simp only[lcG,hx]
  cases q:ws[i]? with
  |none=>
   rw[vdq (va6.mp q)]
   simp[lcL]
  |some w=>
   obtain⟨hi,ee⟩:=vaq.mp q
   rw[vc8 hi,ee]
   simp only[lcL]
   cases tg w h ρ with
   |none=>rfl
   |some ρ'=>
    simp only[ze3]
    congr 1
    funext bv h1
    cases bv<;>try rfl
    rename_i bb
    cases bb with
    |true=>
     simp only[ze3]
     congr 1
     funext y h2
     rw[zcm hx fu (i+1) _ _ _ hi (by omega)]
     congr 1
     funext ys h3
     simp
    |false=>simp only[zcm hx fu (i+1) _ _ _ hi (by omega)]
theorem zd5{ws:List W}{tg:W->VH->En->Option En}{b:FS}{ρ:En}{h:VH}(hl:ws.length<1000000):forG (nxt .seq (.tup ws)) tg b fuel 0 ρ h=forL tg b ws ρ h:=by
 have:=zbs (nx:=nxt .seq (.tup ws)) (tg:=tg) (b:=b) (ws:=ws) (λi h=>rfl) fuel 0 ρ h (vbb _) (by simpa[fuel]using hl)
 simpa using this
noncomputable def enumW:Nat->List W->List W
 |_,[]=>[]
 |i,w::r=>.tup [.int i,w]::enumW (i+1) r
theorem zg1:∀(ws:List W) (i j:Nat),(enumW j ws)[i]?=(ws[i]?).map λw=>.tup [.int ((j+i:Nat):Int),w]
 |[],i,j=>by simp[enumW]
 |w::r,0,j=>by simp[enumW]
 |w::r,i+1,j=>by
  simp only[enumW,va2]
  rw[zg1 r i (j+1)]
  congr 1
  funext w
  rw[show j+1+i=j+ (i+1) by omega]
theorem zg2:∀(ws:List W) (j:Nat),(enumW j ws).length=ws.length
 |[],_=>rfl
 |_::r,j=>by simp[enumW,zg2 r]
theorem zjs{ws:List W}{tg:W->VH->En->Option En}{b:FS}{ρ:En}{h:VH}(hl:ws.length<1000000):forG (nxt .enm (.tup ws)) tg b fuel 0 ρ h=forL tg b (enumW 0 ws) ρ h:=by
 have:=zbs (nx:=nxt .enm (.tup ws)) (tg:=tg) (b:=b) (ws:=enumW 0 ws) (λi h=>by rw[zg1];simp[nxt,seqW]) fuel 0 ρ h (vbb _) (by simpa[fuel,zg2]using hl)
 simpa using this
noncomputable def zam(a:Int):Nat->List W
 |0=>[]
 |n+1=>.int a::zam (a+1) n
theorem zby:∀(n i:Nat) (a:Int),(zam a n)[i]?=if i<n then some (.int (a+i))else none
 |0,i,a=>by simp[zam]
 |n+1,0,a=>by simp[zam]
 |n+1,i+1,a=>by
  simp only[zam,va2]
  rw[zby n i (a+1)]
  by_cases q:i<n
  .rw[if_pos q,if_pos (by omega)]
   congr 2
   push_cast
   omega
  .rw[if_neg q,if_neg (by omega)]
theorem zcz:∀(n:Nat) (a:Int),(zam a n).length=n
 |0,_=>rfl
 |n+1,a=>by simp[zam,zcz n]
theorem ztn{n:Nat}{tg:W->VH->En->Option En}{b:FS}{ρ:En}{h:VH}(hl:n<1000000):forG (nxt .rng1 (.tup [.int n])) tg b fuel 0 ρ h=forL tg b (zam 0 n) ρ h:=by
 have hf:fits (n:Int)=true:=by simp[fits];omega
 have:=zbs (nx:=nxt .rng1 (.tup [.int n])) (tg:=tg) (b:=b) (ws:=zam 0 n) (λi h=>by rw[zby];simp[nxt,hf]) fuel 0 ρ h (vbb _) (by simpa[fuel,zcz]using hl)
 simpa using this
theorem zx8{n:Nat}{tg:W->VH->En->Option En}{c e:FE}{ρ:En}{h:VH}(hl:n<1000000):lcG (nxt .rng1 (.tup [.int n])) tg c e fuel 0 ρ h []=lcL tg c e (zam 0 n) ρ h:=by
 have hf:fits (n:Int)=true:=by simp[fits];omega
 have:=zcm (nx:=nxt .rng1 (.tup [.int n])) (tg:=tg) (c:=c) (e:=e) (ws:=zam 0 n) (λi h=>by rw[zby];simp[nxt,hf]) fuel 0 ρ h [] (vbb _) (by simpa[fuel,zcz]using hl)
 rw[this]
 simp only[vd7,vez,vcc]
 cases lcL tg c e (zam 0 n) ρ h<;>rfl
noncomputable def isInt:W->Bool
 |.int _=>true
 |_=>false
noncomputable def Kn(h:VH)(w:W):Prop:=tyIs .int h w≠none
theorem kn_lo{h:VH}{l:Nat}{w:W}:Kn ⟨h.n,l,h.os⟩ w↔Kn h w:=by
 unfold Kn
 cases w<;>simp[tyIs]
structure CoreA(F:Nat->Option Fn):Prop where
 f0:F 0=some fn0
 f1:F 1=some fn1
 f6:F 6=some fn6
 f7:F 7=some fn7
section
variable{F:Nat->Option Fn}(C:CoreA F)
include C
theorem zp4{k:Nat}{h:VH}{w:W}(hw:Kn h w):run F (k+1) 0 [w] h=.ok (.bl (isInt w)) h:=by
 rw[zao C.f0 rfl]
 cases w<;>try(simp[fn0,exs,ev,isInt,zal];done)
 .exact absurd rfl hw
 .rename_i i
  unfold Kn at hw
  simp only[tyIs]at hw
  cases g:h.get i with
  |none=>rw[g]at hw;exact absurd rfl hw
  |some o=>cases o<;>first|(simp[fn0,exs,ev,isInt,zal,tyIs,g];done)|(simp[g]at hw)
noncomputable def within(w:W)(lo hi:Int):Bool:=match w with
 |.int i=>decide (lo<=i)&&decide (i<=hi)
 |_=>false
theorem zaq{k:Nat}{h:VH}{w:W}{lo hi:Int}(hw:Kn h w):run F (k+2) 1 [w,.int lo,.int hi] h=.ok (.bl (within w lo hi)) h:=by
 rw[zao C.f1 rfl]
 have e:=zp4 C (k:=k) (h:=⟨h.n,h.n,h.os⟩) (w:=w) (kn_lo.mpr hw)
 cases w<;>simp[fn1,exs,ev,e,isInt,within,zal,cmpW,cmpI]
 rename_i i
 by_cases h1:lo<=i<;>simp[h1,zal]
noncomputable def zaw(w:W)(lo hi:Int):Bool:=match w with
 |.tup ws=>decide (lo<=ws.length)&&decide ((ws.length:Int)<=hi)
 |_=>false
theorem zar{k:Nat}{h:VH}{w:W}{lo hi:Int}(hw:Kn h w):run F (k+1) 6 [w,.int lo,.int hi] h=.ok (.bl (zaw w lo hi)) h:=by
 rw[zao C.f6 rfl]
 cases w<;>try(simp[fn6,exs,ev,zaw,zal];done)
 .rename_i ws
  simp[fn6,exs,ev,zaw,zal,cmpW,cmpI,biW,lenW,seqW]
  by_cases h1:lo<=ws.length<;>simp[h1,zal]
 .exact absurd rfl hw
 .rename_i i
  unfold Kn at hw
  simp only[tyIs]at hw
  cases g:h.get i with
  |none=>rw[g]at hw;exact absurd rfl hw
  |some o=>cases o<;>first|(simp[fn6,exs,ev,zaw,zal,tyIs,g];done)|(simp[g]at hw)
theorem loop7{k:Nat}{h:VH}{t a b:W}{lo hi:Int}:∀(ws:List W) (x:Option W),(∀w∈ws,Kn h w)->∃y,forL (tgW (.one 5)) (exs (run F (k+2)) zjp) ws [some t,some a,some b,some (.int lo),some (.int hi),x] h =
 if ws.all (within · lo hi)then .ok (.nx [some t,some a,some b,some (.int lo),some (.int hi),y]) h else .ok (.rt (.bl false)) h
 |[],x,_=>⟨x,by simp[forL]⟩
 |w::r,x,hk=>by
  obtain⟨y,e⟩:=loop7 (t:=t) (a:=a) (b:=b) (k:=k) (lo:=lo) (hi:=hi) r (some w) λz hz=>hk z (vag _ hz)
  refine⟨y,?_⟩
  have e1:=zaq C (k:=k) (lo:=lo) (hi:=hi) (hk w vai)
  have eb:exs (run F (k+2)) zjp [some t,some a,some b,some (.int lo),some (.int hi),some w] h=if within w lo hi then .ok (.nx [some t,some a,some b,some (.int lo),some (.int hi),some w]) h else .ok (.rt (.bl false)) h:=by
   cases q:within w lo hi<;>simp[zjp,exs,ev,e1,q]
  simp only[forL,tgW,List.set,eb]
  cases q:within w lo hi<;>simp[q,e]
noncomputable def zcn(w:W)(a b lo hi:Int):Bool:=match w with
 |.tup ws=>zaw w a b&&ws.all (within · lo hi)
 |_=>false
theorem zbb{k:Nat}{h:VH}{w:W}{a b lo hi:Int}(hw:Kn h w)(hp:∀ws,w=.tup ws->ws.length<1000000/\∀x∈ws,Kn h x):run F (k+3) 7 [w,.int a,.int b,.int lo,.int hi] h=.ok (.bl (zcn w a b lo hi)) h:=by
 rw[zao C.f7 rfl]
 have e1:=zar C (k:=k+1) (h:=⟨h.n,h.n,h.os⟩) (w:=w) (lo:=a) (hi:=b) (kn_lo.mpr hw)
 cases q:zaw w a b with
 |false=>
  have:zcn w a b lo hi=false:=by cases w<;>simp[zcn,q]
  simp[fn7,exs,ev,e1,q,this,zal]
 |true=>
  cases w<;>try(simp[zaw]at q;done)
  rename_i ws
  obtain⟨hl,hk⟩:=hp ws rfl
  obtain⟨y,e2⟩:=loop7 C (k:=k) (h:=⟨h.n,h.n,h.os⟩) (t:=.tup ws) (a:=.int a) (b:=.int b) (lo:=lo) (hi:=hi) ws none λx hx=>kn_lo.mpr (hk x hx)
  have e3:zcn (.tup ws) a b lo hi=ws.all (within · lo hi):=by simp[zcn,q]
  rw[e3]
  cases q2:ws.all (within · lo hi)with
  |true=>simp[fn7,exs,ev,e1,q,zd5 hl,e2,q2,zal]
  |false=>simp[fn7,exs,ev,e1,q,zd5 hl,e2,q2,zal]
end
noncomputable def za6:Nat->W->Bool
 |0,_=>false
 |n+1,w=>match w with
  |.non=>true
  |.bl _=>true
  |.int _=>true
  |.str x=>PyData.strOk x
  |.tup ws=>ws.all (za6 n)
  |_=>false
theorem zjt{f:W->Option PyData}{p:W->Bool}{n:Nat}(h:∀w,p w=true->∃d,f w=some d/\d.canLay0=true/\d.depth<=n):∀ws:List W,ws.all p=true->∃ds,mapO f ws=some ds/\PyData.canLayAll0 ds=true/\PyData.depthAll ds<=n
 |[],_=>⟨[],rfl,rfl,vbb _⟩
 |w::r,e=>by
  rw[vc5,vab]at e
  obtain⟨d,h1,h2,h3⟩:=h w e.1
  obtain⟨ds,h4,h5,h6⟩:=zjt h r e.2
  refine⟨d::ds,by simp[mapO,h1,h4],?_,?_⟩
  .show(d.canLay0&&PyData.canLayAll0 ds)=true
   rw[h2,h5];rfl
  .show max d.depth (PyData.depthAll ds)<=n
   omega
theorem zd6(h:VH):∀(n:Nat) (w:W),za6 n w=true->∃d,toD h n w=some d/\d.canLay0=true/\d.depth<=n
 |0,_,e=>by cases e
 |n+1,w,e=>by
  cases w<;>simp only[za6]at e<;>try(cases e;done)
  .exact⟨.none,rfl,rfl,vbb _⟩
  .exact⟨.bool _,rfl,rfl,vbb _⟩
  .exact⟨.int _,rfl,rfl,vbb _⟩
  .exact⟨.str _,rfl,e,vbb _⟩
  .obtain⟨ds,h1,h2,h3⟩:=zjt (zd6 h n) _ e
   exact⟨.tuple ds,by simp[toD,h1],h2,by show PyData.depthAll ds+1<=n+1;omega⟩
mutual
theorem zju:∀d:PyData,d.canLay0=true->PyData.eqv d d=true
 |.none,_=>rfl
 |.bool b,_=>by simp[PyData.eqv]
 |.int i,_=>by simp[PyData.eqv]
 |.str x,_=>by simp[PyData.eqv]
 |.list xs,h=>by
  simp only[PyData.eqv]
  exact zca xs h
 |.tuple xs,h=>by
  simp only[PyData.eqv]
  exact zca xs h
 |.dict _,h=>by cases h
theorem zca:∀ds:List PyData,PyData.canLayAll0 ds=true->PyData.eqvAll ds ds=true
 |[],_=>rfl
 |d::ds,h=>by
  have h:(d.canLay0&&PyData.canLayAll0 ds)=true:=h
  rw[vab]at h
  simp only[PyData.eqvAll,zju d h.1,zca ds h.2,vd3]
end
theorem zyq{h:VH}{w:W}(p:za6 24 w=true):eqW h w w=some true:=by
 obtain⟨d,h1,h2,h3⟩:=zd6 h 24 w p
 have hs:SeqAt.shaped d=true:=by
  unfold SeqAt.shaped
  rw[h2,Bool.true_and,vav];omega
 unfold eqW
 rw[h1]
 simp[hs,zju d h2]
noncomputable def isS(w:W)(x:Str):Bool:=match w with
 |.str y=>y==x
 |_=>false
theorem zc0{h:VH}{w:W}{x:Str}(p:za6 24 w=true)(hx:PyData.strOk x=true):eqW h w (.str x)=some (isS w x):=by
 obtain⟨d,h1,h2,h3⟩:=zd6 h 24 w p
 have hs:SeqAt.shaped d=true:=by
  unfold SeqAt.shaped
  rw[h2,Bool.true_and,vav];omega
 have hs2:SeqAt.shaped (.str x)=true:=by
  unfold SeqAt.shaped
  show(PyData.strOk x&&_)=true
  rw[hx];rfl
 unfold eqW
 rw[h1]
 have h4:toD h 24 (.str x)=some (.str x):=rfl
 rw[h4]
 simp only[hs,hs2,vd3,va8]
 cases w<;>simp only[toD]at h1<;>try(cases h1;done)
 .cases h1;simp[isS,PyData.eqv]
 .cases h1;simp[isS,PyData.eqv]
 .cases h1;simp[isS,PyData.eqv]
 .cases h1;simp[isS,PyData.eqv]
 .obtain⟨ds,h5,h6⟩:=Option.map_eq_some_iff.mp h1
  subst h6
  simp[isS,PyData.eqv]
 .simp[za6]at p
 .simp[za6]at p
theorem znd{n:Nat}{ws:List W}:za6 (n+1) (.tup ws)=ws.all (za6 n):=rfl
theorem zfy{h:VH}{n:Nat}{w:W}(p:za6 n w=true):Kn h w:=by
 unfold Kn
 cases n with
 |zero=>cases p
 |succ n=>cases w<;>simp[za6,tyIs]at p ⊢
structure CoreB(F:Nat->Option Fn):Prop extends CoreA F where
 f8:F 8=some fn8
 f9:F 9=some fn9
 f10:F 10=some fn10
 f11:F 11=some fn11
 f12:F 12=some fn12
 f13:F 13=some fn13
 f14:F 14=some fn14
 f15:F 15=some fn15
theorem zd7:isNon .non=true:=rfl
noncomputable def fon(w:W)(n:Int):Bool:=isNon w||within w 0 (n-1)
noncomputable def door(w:W)(n:Int):Bool:=match w with
 |.tup [a,b]=>within a 0 99&&fon b n
 |_=>false
noncomputable def zbc(w:W)(g:Int):Bool:=match w with
 |.tup [a,b]=>within a 0 (g-1)&&within b 0 1
 |_=>false
noncomputable def zax(w:W)(c wd g:Int):Bool:=
 if isS w "x" || zbc w g then decide (0<c)&&decide (c<wd-1)else if isS w "<"then decide (0<c)else if isS w ">"then decide (c<wd-1)else isS w "." || isS w "s"
section
variable{F:Nat->Option Fn}(C:CoreB F)
include C
theorem zbd{k:Nat}{h:VH}{w:W}{n:Int}(hw:Kn h w):run F (k+3) 12 [w,.int n] h=.ok (.bl (fon w n)) h:=by
 rw[zao C.f12 rfl]
 have e:=zaq C.toCoreA (k:=k) (h:=⟨h.n,h.n,h.os⟩) (w:=w) (lo:=0) (hi:=n-1) (kn_lo.mpr hw)
 cases q:isNon w<;>simp[fn12,exs,ev,e,cmpW,zd7,q,fon,zal,opW,opI]
theorem zto{k:Nat}{h:VH}{w:W}{n:Int}(hw:Kn h w)(hp:∀a b,w=.tup [a,b]->Kn h a/\Kn h b):run F (k+4) 11 [w,.int n] h=.ok (.bl (door w n)) h:=by
 rw[zao C.f11 rfl]
 have e1:=zar C.toCoreA (k:=k+2) (h:=⟨h.n,h.n,h.os⟩) (w:=w) (lo:=2) (hi:=2) (kn_lo.mpr hw)
 cases q:zaw w 2 2 with
 |false=>
  have:door w n=false:=by
   cases w<;>simp[door]
   rename_i ws
   rcases ws with _|⟨a,_|⟨b,_|_⟩⟩<;>simp[zaw]at q ⊢
  simp[fn11,exs,ev,e1,q,this,zal]
 |true=>
  cases w<;>try(simp[zaw]at q;done)
  rename_i ws
  have hl:ws.length=2:=by simp[zaw]at q;omega
  rcases ws with _|⟨a,_|⟨b,_|_⟩⟩<;>simp at hl
  obtain⟨ka,kb⟩:=hp a b rfl
  have e2:=zaq C.toCoreA (k:=k+1) (h:=⟨h.n,h.n,h.os⟩) (w:=a) (lo:=0) (hi:=99) (kn_lo.mpr ka)
  have e3:=zbd C (k:=k) (h:=⟨h.n,h.n,h.os⟩) (w:=b) (n:=n) (kn_lo.mpr kb)
  cases q2:within a 0 99<;>simp[fn11,exs,ev,e1,q,e2,e3,q2,door,zal,tgW,seqW,zaz]
theorem zne{k:Nat}{h:VH}{w:W}{n:Int}(hw:Kn h w)(hp:∀a b,w=.tup [a,b]->Kn h a/\Kn h b):run F (k+3) 13 [w,.int n] h=.ok (.bl (zbc w n)) h:=by
 rw[zao C.f13 rfl]
 have e1:=zar C.toCoreA (k:=k+1) (h:=⟨h.n,h.n,h.os⟩) (w:=w) (lo:=2) (hi:=2) (kn_lo.mpr hw)
 cases q:zaw w 2 2 with
 |false=>
  have:zbc w n=false:=by
   cases w<;>simp[zbc]
   rename_i ws
   rcases ws with _|⟨a,_|⟨b,_|_⟩⟩<;>simp[zaw]at q ⊢
  simp[fn13,exs,ev,e1,q,this,zal]
 |true=>
  cases w<;>try(simp[zaw]at q;done)
  rename_i ws
  have hl:ws.length=2:=by simp[zaw]at q;omega
  rcases ws with _|⟨a,_|⟨b,_|_⟩⟩<;>simp at hl
  obtain⟨ka,kb⟩:=hp a b rfl
  have e2:=zaq C.toCoreA (k:=k) (h:=⟨h.n,h.n,h.os⟩) (w:=a) (lo:=0) (hi:=n-1) (kn_lo.mpr ka)
  have e3:=zaq C.toCoreA (k:=k) (h:=⟨h.n,h.n,h.os⟩) (w:=b) (lo:=0) (hi:=1) (kn_lo.mpr kb)
  cases q2:within a 0 (n-1)<;>simp[fn13,exs,ev,e1,q,e2,e3,q2,zbc,zal,tgW,seqW,zaz,opW,opI]
theorem znf{k:Nat}{h:VH}{w:W}{c wd g:Int}(p:za6 24 w=true):run F (k+4) 15 [w,.int c,.int wd,.int g] h=.ok (.bl (zax w c wd g)) h:=by
 rw[zao C.f15 rfl]
 have hp:∀a b,w=.tup [a,b]->Kn ⟨h.n,h.n,h.os⟩ a/\Kn ⟨h.n,h.n,h.os⟩ b:=λa b e=>by
  subst e
  have p:za6 (23+1) (.tup [a,b])=true:=p
  rw[znd,vc5,vc5,vab,vab]at p
  exact⟨zfy p.1,zfy p.2.1⟩
 have e1:=zne C (k:=k) (h:=⟨h.n,h.n,h.os⟩) (w:=w) (n:=g) (zfy p) hp
 have sx:=zc0 (h:=⟨h.n,h.n,h.os⟩) (x:=Str.ofString "x") p (by decide +kernel)
 have sl:=zc0 (h:=⟨h.n,h.n,h.os⟩) (x:=Str.ofString "<") p (by decide +kernel)
 have sg:=zc0 (h:=⟨h.n,h.n,h.os⟩) (x:=Str.ofString ">") p (by decide +kernel)
 have sd:=zc0 (h:=⟨h.n,h.n,h.os⟩) (x:=Str.ofString ".") p (by decide +kernel)
 have ss:=zc0 (h:=⟨h.n,h.n,h.os⟩) (x:=Str.ofString "s") p (by decide +kernel)
 unfold zax
 cases q1:isS w (Str.ofString "x")<;>cases q2:zbc w g<;>cases q3:isS w (Str.ofString "<")<;>cases q4:isS w (Str.ofString ">")<;>cases q5:isS w (Str.ofString ".")<;>by_cases h1:0<c<;>
  simp[fn15,exs,ev,cmpW,cmpI,sx,sl,sg,sd,ss,e1,opW,opI,q1,q2,q3,q4,q5,h1,zal]
theorem zb5{k:Nat}{h:VH}{t a:W}{n:Int}:∀(ws:List W) (x:Option W),(∀w∈ws,Kn h w/\∀a b,w=.tup [a,b]->Kn h a/\Kn h b)->∃y,forL (tgW (.one 3)) (exs (run F (k+4)) zjq) ws [some t,some a,some (.int n),x] h =
 if ws.all (door · n)then .ok (.nx [some t,some a,some (.int n),y]) h else .ok (.rt (.bl false)) h
 |[],x,_=>⟨x,by simp[forL]⟩
 |w::r,x,hk=>by
  obtain⟨y,e⟩:=zb5 (t:=t) (a:=a) (k:=k) (n:=n) r (some w) λz hz=>hk z (vag _ hz)
  refine⟨y,?_⟩
  obtain⟨k1,k2⟩:=hk w vai
  have e1:=zto C (k:=k) (n:=n) k1 k2
  have eb:exs (run F (k+4)) zjq [some t,some a,some (.int n),some w] h=if door w n then .ok (.nx [some t,some a,some (.int n),some w]) h else .ok (.rt (.bl false)) h:=by
   cases q:door w n<;>simp[zjq,exs,ev,e1,q]
  simp only[forL,tgW,List.set,eb]
  cases q:door w n<;>simp[q,e]
theorem zng{k:Nat}{h:VH}{ws:List W}{wd n:Int}(hl:ws.length=wd)(hz:ws.length<1000000)(hd:∀w∈ws,door w n=true):run F (k+5) 8 [.tup ws,.int wd,.int n] h=.ok (.bl true) h:=by
 rw[zao C.f8 rfl]
 have e1:=zar C.toCoreA (k:=k+3) (h:=⟨h.n,h.n,h.os⟩) (w:=.tup ws) (lo:=wd) (hi:=wd) (by unfold Kn;simp)
 have q:zaw (.tup ws) wd wd=true:=by simp[zaw,hl]
 have kn:∀w∈ws,Kn ⟨h.n,h.n,h.os⟩ w/\∀a b,w=.tup [a,b]->Kn ⟨h.n,h.n,h.os⟩ a/\Kn ⟨h.n,h.n,h.os⟩ b:=λw hw=>by
  have:=hd w hw
  cases w<;>simp only[door]at this<;>try(cases this;done)
  rename_i us
  refine⟨by unfold Kn;simp,λa b e=>?_⟩
  cases e
  simp only[vab]at this
  obtain⟨h1,h2⟩:=this
  refine⟨?_,?_⟩
  .cases a<;>simp[within]at h1
   unfold Kn;simp
  .unfold fon at h2
   cases b<;>simp[within,isNon]at h2
   .unfold Kn;simp
   .unfold Kn;simp
 obtain⟨y,e2⟩:=zb5 C (k:=k) (h:=⟨h.n,h.n,h.os⟩) (t:=.tup ws) (a:=.int wd) (n:=n) ws none kn
 have ha:ws.all (door · n)=true:=vb1.mpr hd
 simp[fn8,exs,ev,e1,q,zd5 hz,e2,ha,zal]
theorem zco{k:Nat}{h:VH}{t:W}{wd:Int}:∀(ws:List W) (x:Option W),(∀w∈ws,∃us,w=.tup us/\us.length=wd)->∃y,forL (tgW (.one 2)) (exs (run F (k+1)) zjr) ws [some t,some (.int wd),x] h=.ok (.nx [some t,some (.int wd),y]) h
 |[],x,_=>⟨x,by simp[forL]⟩
 |w::r,x,hk=>by
  obtain⟨y,e⟩:=zco (h:=h) (t:=t) (k:=k) (wd:=wd) r (some w) λz hz=>hk z (vag _ hz)
  refine⟨y,?_⟩
  obtain⟨us,rfl,hl⟩:=hk w vai
  have e1:=zar C.toCoreA (k:=k) (h:=h) (w:=.tup us) (lo:=wd) (hi:=wd) (by unfold Kn;simp)
  have q:zaw (.tup us) wd wd=true:=by simp[zaw,hl]
  have eb:exs (run F (k+1)) zjr [some t,some (.int wd),some (.tup us)] h=.ok (.nx [some t,some (.int wd),some (.tup us)]) h:=by
   simp[zjr,exs,ev,e1,q]
  simp only[forL,tgW,List.set,eb,bindok,e]
theorem zp5{k:Nat}{h:VH}{ws:List W}{wd:Int}(hl:ws.length<=60)(hd:∀w∈ws,∃us,w=.tup us/\us.length=wd):run F (k+2) 9 [.tup ws,.int wd] h=.ok (.bl true) h:=by
 rw[zao C.f9 rfl]
 have e1:=zar C.toCoreA (k:=k) (h:=⟨h.n,h.n,h.os⟩) (w:=.tup ws) (lo:=0) (hi:=60) (by unfold Kn;simp)
 have q:zaw (.tup ws) 0 60=true:=by simp[zaw];omega
 obtain⟨y,e2⟩:=zco C (k:=k) (h:=⟨h.n,h.n,h.os⟩) (t:=.tup ws) (wd:=wd) ws none hd
 simp[fn9,exs,ev,e1,q,zd5 (show ws.length<1000000 by omega),e2,zal]
end
structure Bd where
 wd:Int
 gr:Int
 rows:List (List W)
 fd:List W
 dr:List W
noncomputable def Bd.w(B:Bd):W:=.tup [.int B.wd,.int B.gr,.tup (B.rows.map .tup),.tup B.fd,.tup B.dr]
noncomputable def rowOk(wd g:Int):Int->List W->Prop
 |_,[]=>True
 |c,w::r=>zax w c wd g=true/\rowOk wd g (c+1) r
structure Bd.Ok(B:Bd):Prop where
 w1:1<=B.wd
 w2:B.wd<=40
 g1:0<=B.gr
 g2:B.gr<=8
 r1:B.rows.length<=60
 r2:∀r∈B.rows,(r.length:Int)=B.wd/\rowOk B.wd B.gr 0 r
 f1:1<=B.fd.length
 f2:B.fd.length<=4
 f3:∀f∈B.fd,within f 0 (B.wd-1)=true
 d1:(B.dr.length:Int)=B.wd
 d2:∀d∈B.dr,door d B.fd.length=true
structure Bd.Ok0(B:Bd):Prop where
 w1:1<=B.wd
 w2:B.wd<=40
 g1:0<=B.gr
 g2:B.gr<=8
 r1:B.rows.length<=60
 r2:∀r∈B.rows,(r.length:Int)=B.wd
 f1:1<=B.fd.length
 f2:B.fd.length<=4
 f3:∀f∈B.fd,within f 0 (B.wd-1)=true
 d1:(B.dr.length:Int)=B.wd
 d2:∀d∈B.dr,door d B.fd.length=true
theorem Bd.Ok.ok0{B:Bd}(b:B.Ok):B.Ok0:=⟨b.w1,b.w2,b.g1,b.g2,b.r1,λr hr=>(b.r2 r hr).1,b.f1,b.f2,b.f3,b.d1,b.d2⟩
theorem zg3{w:W}{g:Int}(h:zbc w g=true)(n:Nat):za6 (n+2) w=true:=by
 cases w<;>simp only[zbc]at h<;>try(cases h;done)
 rename_i us
 rcases us with _|⟨a,_|⟨b,_|_⟩⟩<;>simp at h
 obtain⟨h1,h2⟩:=h
 cases a<;>simp[within]at h1
 cases b<;>simp[within]at h2
 rfl
theorem ze4{w:W}{x:Str}(h:isS w x=true):w=.str x:=by
 cases w<;>simp[isS]at h
 rw[h]
theorem zek{w:W}{c wd g:Int}(h:zax w c wd g=true)(n:Nat):za6 (n+2) w=true:=by
 have st:∀x:Str,PyData.strOk x=true->isS w x=true->za6 (n+2) w=true:=λx hx e=>by rw[ze4 e];exact hx
 unfold zax at h
 split at h
 .rename_i q
  rw[vdv]at q
  rcases q with q|q
  .exact st _ (by decide +kernel) q
  .exact zg3 q n
 .split at h
  .rename_i q;exact st _ (by decide +kernel) q
  .split at h
   .rename_i q;exact st _ (by decide +kernel) q
   .rw[vdv]at h
    rcases h with q|q
    .exact st _ (by decide +kernel) q
    .exact st _ (by decide +kernel) q
section
variable{F:Nat->Option Fn}(C:CoreB F)
include C
theorem znh{k:Nat}{h:VH}{B:Bd}(b:B.Ok0):run F (k+6) 10 [B.w] h=.ok (.bl true) h:=by
 rw[zao C.f10 rfl]
 have e1:=zar C.toCoreA (k:=k+4) (h:=⟨h.n,h.n,h.os⟩) (w:=B.w) (lo:=5) (hi:=5) (by unfold Kn Bd.w;simp)
 have q1:zaw B.w 5 5=true:=by simp[zaw,Bd.w]
 have e2:=zaq C.toCoreA (k:=k+3) (h:=⟨h.n,h.n,h.os⟩) (w:=.int B.wd) (lo:=1) (hi:=40) (by unfold Kn;simp)
 have q2:within (.int B.wd) 1 40=true:=by simp[within,b.w1,b.w2]
 have e3:=zaq C.toCoreA (k:=k+3) (h:=⟨h.n,h.n,h.os⟩) (w:=.int B.gr) (lo:=0) (hi:=8) (by unfold Kn;simp)
 have q3:within (.int B.gr) 0 8=true:=by simp[within,b.g1,b.g2]
 have kf:∀x∈B.fd,Kn ⟨h.n,h.n,h.os⟩ x:=λx hx=>by
  have:=b.f3 x hx
  cases x<;>simp[within]at this
  unfold Kn;simp
 have hf:=b.f2
 have e4:=zbb C.toCoreA (k:=k+2) (h:=⟨h.n,h.n,h.os⟩) (w:=.tup B.fd) (a:=1) (b:=4) (lo:=0) (hi:=B.wd-1) (by unfold Kn;simp) (λws e=>by cases e;exact⟨by omega,kf⟩)
 have q4:zcn (.tup B.fd) 1 4 0 (B.wd-1)=true:=by
  have h1:=b.f1
  simp only[zcn,zaw,vab,vav]
  exact⟨⟨by omega,by omega⟩,vb1.mpr b.f3⟩
 have e5:=zp5 C (k:=k+3) (h:=⟨h.n,h.n,h.os⟩) (ws:=B.rows.map .tup) (wd:=B.wd) (by rw[vaf];exact b.r1) (λw hw=>by
  obtain⟨r,hr,e⟩:=va3.mp hw
  exact⟨r,e.symm,b.r2 r hr⟩)
 have hd:=b.d1
 have h40:=b.w2
 have e6:=zng C (k:=k) (h:=⟨h.n,h.n,h.os⟩) (ws:=B.dr) (wd:=B.wd) (n:=B.fd.length) hd (by omega) b.d2
 unfold Bd.w at e1 q1 ⊢
 simp[fn10,exs,ev,e1,q1,e2,q2,e3,q3,e4,q4,e5,e6,zal,tgW,seqW,zaz,opW,opI,biW,lenW]
theorem zp6{k:Nat}{h:VH}{B:Bd}(b:B.Ok):run F (k+6) 10 [B.w] h=.ok (.bl true) h:=znh C b.ok0
theorem zni{k:Nat}{h:VH}{t rs pl:W}{wd g r0:Int}:∀(ws:List W) (c:Int) (j:Nat) (x y:Option W),c=j->rowOk wd g c ws->∃x' y',forL (tgW (.many [6,7])) (exs (run F (k+4)) zfw) (enumW j ws) [some t,some (.int wd),some (.int g),some rs,some (.int r0),some pl,x,y] h =
 .ok (.nx [some t,some (.int wd),some (.int g),some rs,some (.int r0),some pl,x',y']) h
 |[],c,j,x,y,_,_=>⟨x,y,by simp[forL,enumW]⟩
 |w::r,c,j,x,y,hc,ho=>by
  obtain⟨h1,h2⟩:=ho
  obtain⟨x',y',e⟩:=zni (h:=h) (t:=t) (rs:=rs) (pl:=pl) (k:=k) (wd:=wd) (g:=g) (r0:=r0) r (c+1) (j+1) (some (.int j)) (some w) (by rw[hc];push_cast;rfl) h2
  refine⟨x',y',?_⟩
  have e1:=znf C (k:=k) (h:=h) (c:=j) (wd:=wd) (g:=g) (zek h1 22)
  rw[<-hc,h1]at e1
  have eb:exs (run F (k+4)) zfw [some t,some (.int wd),some (.int g),some rs,some (.int r0),some pl,some (.int j),some w] h=.ok (.nx [some t,some (.int wd),some (.int g),some rs,some (.int r0),some pl,some (.int j),some w]) h:=by
   rw[hc]at e1
   simp[zfw,exs,ev,e1]
  simp only[forL,enumW,tgW,seqW,zaz,List.set,eb,bindok,e]
theorem zjv{k:Nat}{h:VH}{t rs:W}{wd g:Int}:∀(ws:List (List W)) (j:Nat) (x y z u:Option W),(∀r∈ws,(r.length:Int)<1000000/\rowOk wd g 0 r)->∃x' y' z' u',forL (tgW (.many [4,5])) (exs (run F (k+4)) zfx) (enumW j (ws.map .tup)) [some t,some (.int wd),some (.int g),some rs,x,y,z,u] h =
 .ok (.nx [some t,some (.int wd),some (.int g),some rs,x',y',z',u']) h
 |[],j,x,y,z,u,_=>⟨x,y,z,u,by simp[forL,enumW]⟩
 |w::r,j,x,y,z,u,ho=>by
  obtain⟨h1,h2⟩:=ho w vai
  obtain⟨z1,u1,e1⟩:=zni C (k:=k) (h:=h) (t:=t) (rs:=rs) (pl:=.tup w) (wd:=wd) (g:=g) (r0:=j) w 0 0 z u rfl h2
  obtain⟨x',y',z',u',e⟩:=zjv (h:=h) (t:=t) (rs:=rs) (k:=k) (wd:=wd) (g:=g) r (j+1) (some (.int j)) (some (.tup w)) z1 u1 λq hq=>ho q (vag _ hq)
  refine⟨x',y',z',u',?_⟩
  have eb:exs (run F (k+4)) zfx [some t,some (.int wd),some (.int g),some rs,some (.int j),some (.tup w),z,u] h=.ok (.nx [some t,some (.int wd),some (.int g),some rs,some (.int j),some (.tup w),z1,u1]) h:=by
   simp[zfx,exs,ev,zjs (show w.length<1000000 by omega),e1]
  simp only[forL,van,enumW,tgW,seqW,zaz,List.set,eb,bindok,e]
theorem zfz{k:Nat}{h:VH}{B:Bd}(b:B.Ok):run F (k+7) 14 [B.w] h=.ok .non h:=by
 rw[zao C.f14 rfl]
 have e1:=zp6 C (k:=k) (h:=⟨h.n,h.n,h.os⟩) b
 have h40:=b.w2
 have h60:=b.r1
 obtain⟨x',y',z',u',e2⟩:=zjv C (k:=k+2) (h:=⟨h.n,h.n,h.os⟩) (t:=B.w) (rs:=.tup (B.rows.map .tup)) (wd:=B.wd) (g:=B.gr) B.rows 0 none none none none λr hr=>⟨by have:=(b.r2 r hr).1;omega,(b.r2 r hr).2⟩
 unfold Bd.w at e1 e2 ⊢
 simp[fn14,exs,ev,e1,zrk,tgW,seqW,zaz,partW,cutW,HT.sIx,zjs (show(B.rows.map W.tup).length<1000000 by rw[vaf];omega),e2]
end
structure CoreD(F:Nat->Option Fn):Prop where
 f2:F 2=some fn2
 f3:F 3=some fn3
 f4:F 4=some fn4
 f5:F 5=some fn5
theorem zbt{h:VH}{i j:Int}:eqW h (.int i) (.int j)=some (decide (i=j)):=by
 unfold eqW
 simp only[toD]
 show some (i==j)=_
 by_cases q:i=j<;>simp[q]
theorem zcp{i:Int}(h1:-(2 ^ 63)<=i)(h2:i<2 ^ 63):za5 i=true:=by
 unfold za5
 simp only[vab,vav]
 omega
theorem zag{h:VH}{i:Nat}{o o0:VO}(g:h.get i=some o0):(h.set i o).get i=some o:=by
 have hi:=zah g
 unfold VH.get at g
 rw[if_pos (zap.mpr hi)]at g
 have hl:=(vaq.mp g).1
 unfold VH.get VH.set
 simp only[if_pos (zap.mpr hi)]
 rw[vcg hl]
theorem zaf{h:VH}{i j:Nat}{o o0:VO}(g:h.get i=some o0)(hj:j≠i):(h.set i o).get j=h.get j:=zcw (zah g) hj
structure Dk(h:VH)(d c:Nat)(b:Nat):Prop where
 ne:d≠c
 st:∃(ns cells:List Int) (p q:Int),h.get d=some (.lst [.fz (ns.map .int),.ref c,.int p,.int q])/\h.get c=some (.lst (cells.map .int))/\(∀x∈cells,(0:Int)<=x)/\0<=p/\0<=q/\q<=b/\cells.length<=63
theorem Dk.mono{h:VH}{d c b b':Nat}(D:Dk h d c b)(hb:b<=b'):Dk h d c b':=by
 obtain⟨ne,ns,cells,p,q,a1,a2,a3,a4,a5,a6,a7⟩:=D
 exact⟨ne,ns,cells,p,q,a1,a2,a3,a4,a5,by omega,a7⟩
structure Keep(h h':VH)(d c:Nat):Prop where
 le:h.n<=h'.n
 get:∀i o,i≠d->i≠c->h.get i=some o->h'.get i=some o
theorem Keep.refl{h:VH}{d c:Nat}:Keep h h d c:=⟨vad _,λ_ _ _ _ e=>e⟩
theorem Keep.trans{h h1 h2:VH}{d c:Nat}(a:Keep h h1 d c)(b:Keep h1 h2 d c):Keep h h2 d c:=⟨vbo a.le b.le,λi o h1 h2 e=>b.get i o h1 h2 (a.get i o h1 h2 e)⟩
theorem zc1(i:Int):(if i<0 then -i else i)=(i.natAbs:Int):=by
 split<;>omega
section
variable{F:Nat->Option Fn}(C:CoreD F)
include C
theorem cell{k:Nat}{h:VH}{ns:List Int}{j:Int}(hj:0<=j):∃r,run F (k+1) 2 [.fz (ns.map .int),.int j] h=.ok (.int r) h/\0<=r:=by
 rw[zao C.f2 rfl]
 cases ns with
 |nil=>
  refine⟨7*j+3,?_,by omega⟩
  simp[fn2,exs,ev,biW,lenW,seqW,cmpW,zbt,opW,opI,zcp,zal]
 |cons n0 ns0=>
  have hl:(0:Int)< ((n0::ns0).length:Int):=by simp only[vaj];omega
  have hm1:=vek j (show((n0::ns0).length:Int)≠0 by omega)
  have hm2:=vds j hl
  obtain⟨m,hm⟩:=vbt hm1
  have hml:m< (n0::ns0).length:=by omega
  have ha:atI (List.map W.int (n0::ns0)) (j % ((n0::ns0).length:Int))=some (.int ((n0::ns0)[m])):=by
   rw[hm]
   exact zbf (by rw[vas,vat hml];rfl)
  have hb:¬(((ns0.length:Int)+1)=0):=by omega
  have hp:(0:Int)< (ns0.length:Int)+1:=by omega
  refine⟨(((n0::ns0)[m]).natAbs:Int),?_,by omega⟩
  simp only[vaj,vcf,Int.cast_ofNat_Int,van]at ha
  simp[fn2,exs,ev,biW,lenW,seqW,cmpW,zbt,opW,opI,zal,idxW,absW,hb,hp,ha,zc1]
theorem mixed{k:Nat}{h:VH}{ns:List Int}{j m:Int}(hj:0<=j)(hj2:j<=1000000000)(hm:0<m):∃r,run F (k+2) 4 [.fz (ns.map .int),.int j,.int m] h=.ok (.int r) h/\0<=r/\r<m:=by
 rw[zao C.f4 rfl]
 obtain⟨c,e1,hc⟩:=cell C (k:=k) (h:=⟨h.n,h.n,h.os⟩) (ns:=ns) hj
 have h1:=vek c (show(1000003:Int)≠0 by decide)
 have h2:=vds c (show(0:Int)<1000003 by decide)
 generalize hx:c % 1000003=x at h1 h2
 have s1:za5 (x+5)=true:=zcp (by omega) (by omega)
 have s2:za5 7919=true:=zcp (by decide) (by decide)
 have hb:(x+5)* (j+2)<=1000008*1000000002:=Int.mul_le_mul (by omega) (by omega) (by omega) (by omega)
 have hb0:0<=(x+5)* (j+2):=Int.mul_nonneg (by omega) (by omega)
 generalize hy:(x+5)* (j+2)=y at hb hb0
 have hn:(y+7919*j).natAbs<2 ^ 64:=by omega
 refine⟨(y+7919*j) ^ 5 % 2147483647/13 % m,?_,vek _ (by omega),vds _ hm⟩
 have hn':(y+7919*j).natAbs<18446744073709551616:=by omega
 simp[fn4,exs,ev,e1,opW,opI,hx,s1,s2,hy,hn',hm,zal]
theorem zg4{k:Nat}{d c:Nat}{m q:Int}{ns:List Int}(hdc:d≠c)(hm:0<m)(hm2:m<1073741824):∀(n f:Nat) (g:VH) (x:Option W) (cells:List Int) (p:Int),n<f->(cells.length:Int)-p<=n->0<=p->(∀y∈cells,(0:Int)<=y)->
 g.get d=some (.lst [.fz (ns.map .int),.ref c,.int p,.int q])->g.get c=some (.lst (cells.map .int))->
 ∃(g':VH) (cells':List Int) (p':Int),0<=p'/\(∀y∈cells',(0:Int)<=y)/\cells'.length=cells.length/\g'.get d=some (.lst [.fz (ns.map .int),.ref c,.int p',.int q])/\g'.get c=some (.lst (cells'.map .int))/\g'.n=g.n/\(∀i,i≠d->i≠c->g'.get i=g.get i)/\
  ((∃r,whlG (ev (run F (k+2)) zg0) (exs (run F (k+2)) zd4) f [some (.ref d),some (.int m),x] g=.ok (.rt (.int r)) g'/\0<=r/\r<m)\/∃y,whlG (ev (run F (k+2)) zg0) (exs (run F (k+2)) zd4) f [some (.ref d),some (.int m),x] g=.ok (.nx [some (.ref d),some (.int m),y]) g')
 |n,0,g,x,cells,p,hf,_,_,_,_,_=>by omega
 |n,f+1,g,x,cells,p,hf,hn,hp,hnn,gd,gc=>by
  have ec:ev (run F (k+2)) zg0 [some (.ref d),some (.int m),x] g=.ok (.bl (decide (p<cells.length))) g:=by
   simp[zg0,ev,idxW,gd,atI,ixN,biW,lenW,seqW,gc,cmpW,cmpI]
  by_cases hlt:p<cells.length
  .obtain⟨pn,rfl⟩:=vbt hp
   have hpl:pn<cells.length:=by omega
   have hat:atI (cells.map W.int) (pn:Int)=some (.int cells[pn]):=zbf (by rw[vas,vat hpl];rfl)
   by_cases hpos:0<cells[pn]
   .refine⟨g.set c (.lst ((cells.set pn (cells[pn]/m)).map .int)),cells.set pn (cells[pn]/m),pn,hp,?_,by simp,?_,zag gc,rfl,λi _ hi=>zaf gc hi,.inl ⟨cells[pn] % m,?_,vek _ (by omega),vds _ hm⟩⟩
    .intro y hy
     rcases List.mem_or_eq_of_mem_set hy with hy|rfl
     .exact hnn y hy
     .exact Int.ediv_nonneg (by omega) (by omega)
    .rw[zaf gc hdc];exact gd
    .have hix:ixN (cells.map W.int).length (pn:Int)=some pn:=by
      unfold ixN
      rw[if_pos (by omega),if_pos (by rw[vaf];omega)];simp
     have eb:exs (run F (k+2)) zd4 [some (.ref d),some (.int m),x] g=.ok (.rt (.int (cells[pn] % m))) (g.set c (.lst ((cells.set pn (cells[pn]/m)).map .int))):=by
      have h2:atI [W.fz (ns.map .int),.ref c,.int pn,.int q] 2=some (.int pn):=rfl
      have h1:atI [W.fz (ns.map .int),.ref c,.int pn,.int q] 1=some (.ref c):=rfl
      simp[zd4,exs,ev,idxW,gd,h1,h2,gc,hat,cmpW,cmpI,hpos,opW,opI,hm,hm2]at hix ⊢
      simp[hix,hm,List.map_set]
     simp[whlG,ec,hlt,eb]
   .have gs:(g.set d (.lst [.fz (ns.map .int),.ref c,.int ((pn:Int)+1),.int q])).get c=some (.lst (cells.map .int)):=by rw[zaf gd (vb6 hdc)];exact gc
    cases n with
    |zero=>omega
    |succ n=>
     obtain⟨g',cells',p',a1,a2,a3,a4,a5,a6,a7,a8⟩:=zg4 (k:=k) hdc hm hm2 n f (g.set d (.lst [.fz (ns.map .int),.ref c,.int ((pn:Int)+1),.int q])) (some (.int cells[pn])) cells (pn+1) (by omega) (by omega) (by omega) hnn (zag gd) gs
     have eb:exs (run F (k+2)) zd4 [some (.ref d),some (.int m),x] g=.ok (.nx [some (.ref d),some (.int m),some (.int cells[pn])]) (g.set d (.lst [.fz (ns.map .int),.ref c,.int ((pn:Int)+1),.int q])):=by
      have h2:atI [W.fz (ns.map .int),.ref c,.int pn,.int q] 2=some (.int pn):=rfl
      have h1:atI [W.fz (ns.map .int),.ref c,.int pn,.int q] 1=some (.ref c):=rfl
      have h3:ixN 4 2=some 2:=rfl
      simp[zd4,exs,ev,idxW,gd,h1,h2,h3,gc,hat,cmpW,cmpI,hpos,opW,opI]
     refine⟨g',cells',p',a1,a2,a3,a4,a5,a6,λi h1 h2=>by rw[a7 i h1 h2,zaf gd h1],?_⟩
     rcases a8 with⟨r,e,h3⟩|⟨y,e⟩
     .exact .inl ⟨r,by simp[whlG,ec,hlt,eb,e],h3⟩
     .exact .inr ⟨y,by simp[whlG,ec,hlt,eb,e]⟩
  .exact⟨g,cells,p,hp,hnn,rfl,gd,gc,rfl,λ_ _ _=>rfl,.inr ⟨x,by simp[whlG,ec,hlt]⟩⟩
omit C in
theorem zg5{h h':VH}{w:W}(g:Grow ⟨h.n,h.n,h.os⟩ h'):∃h2,leave h w h'=.ok w h2/\h.n<=h2.n/\∀i,i<h.n->h2.get i=h'.get i:=by
 unfold leave
 split
 .rename_i q
  rw[vab]at q
  have hlo:=vbh q.1
  exact⟨h,rfl,vad _,λi hi=>by
   rw[g.2.2 i hi (vah hi hlo)]
   exact get_lo.symm⟩
 .exact⟨_,rfl,g.1,λi hi=>get_lo⟩
theorem take{k:Nat}{h:VH}{d c b:Nat}{m:Int}(D:Dk h d c b)(hb:b<1000000000)(hm:0<m)(hm2:m<1073741824):∃r h',run F (k+3) 5 [.ref d,.int m] h=.ok (.int r) h'/\0<=r/\r<m/\Dk h' d c (b+1)/\Keep h h' d c:=by
 rw[zao C.f5 rfl]
 obtain⟨hne,ns,cells,p,q,gd,gc,hnn,hp,hq,hqb,hl⟩:=D
 have gd0:VH.get ⟨h.n,h.n,h.os⟩ d=some (.lst [.fz (ns.map .int),.ref c,.int p,.int q]):=by rw[get_lo];exact gd
 have gc0:VH.get ⟨h.n,h.n,h.os⟩ c=some (.lst (cells.map .int)):=by rw[get_lo];exact gc
 obtain⟨g',cells',p',a1,a2,a3,a4,a5,a6,a7,a8⟩:=zg4 C (k:=k) hne hm hm2 63 fuel ⟨h.n,h.n,h.os⟩ none cells p (by decide) (by omega) hp hnn gd0 gc0
 have key:∀(g2:VH)(r:Int)(cells2:List Int)(p2 q2:Int),exs (run F (k+2)) fn5.body [some (.ref d),some (.int m),none] ⟨h.n,h.n,h.os⟩=.ok (.rt (.int r)) g2->0<=r->r<m->0<=p2->0<=q2->q2<=b+1->cells2.length<=63->(∀y∈cells2,(0:Int)<=y)->
  g2.get d=some (.lst [.fz (ns.map .int),.ref c,.int p2,.int q2])->g2.get c=some (.lst (cells2.map .int))->(∀i,i<h.n->i≠d->i≠c->g2.get i=h.get i)->
  ∃r h',fin h (exs (run F (k+2)) fn5.body ([W.ref d,W.int m].map some++vgc (fn5.n-fn5.ps) none) ⟨h.n,h.n,h.os⟩)=.ok (.int r) h'/\0<=r/\r<m/\Dk h' d c (b+1)/\Keep h h' d c:=by
  intro g2 r cells2 p2 q2 e r1 r2 b1 b2 b3 b4 b5 b6 b7 b8
  obtain⟨h2,e2,hn2,hg2⟩:=zg5 (w:=.int r) (zjb (zjc F (k+2)) _ _ _ _ _ e)
  refine⟨r,h2,?_,r1,r2,⟨hne,ns,cells2,p2,q2,?_,?_,b5,b1,b2,by omega,b4⟩,⟨hn2,λi o h1 h3 e3=>?_⟩⟩
  .show fin h (exs (run F (k+2)) fn5.body [some (.ref d),some (.int m),none] ⟨h.n,h.n,h.os⟩)=_
   rw[e]
   exact e2
  .rw[hg2 d (zah gd)];exact b6
  .rw[hg2 c (zah gc)];exact b7
  .rw[hg2 i (zah e3),b8 i (zah e3) h1 h3];exact e3
 rcases a8 with⟨r,e,r1,r2⟩|⟨y,e⟩
 .refine key g' r cells' p' q ?_ r1 r2 a1 hq (by omega) (by omega) a2 a4 a5 λi hi h1 h2=>by rw[a7 i h1 h2,get_lo]
  simp[fn5,exs,e]
 .obtain⟨r,e2,r1,r2⟩:=mixed C (k:=k) (h:=g'.set d (.lst [.fz (ns.map .int),.ref c,.int p',.int (q+1)])) (ns:=ns) (j:=q+1) (m:=m) (by omega) (by omega) hm
  refine key (g'.set d (.lst [.fz (ns.map .int),.ref c,.int p',.int (q+1)])) r cells' p' (q+1) ?_ r1 r2 a1 (by omega) (by omega) (by omega) a2 (zag a4) (by rw[zaf a4 (vb6 hne)];exact a5) λi hi h1 h2=>by rw[zaf a4 h1,a7 i h1 h2,get_lo]
  have h3:atI [W.fz (ns.map .int),.ref c,.int p',.int q] 3=some (.int q):=rfl
  have h30:atI [W.fz (ns.map .int),.ref c,.int p',.int (q+1)] 3=some (.int (q+1)):=rfl
  have h00:atI [W.fz (ns.map .int),.ref c,.int p',.int (q+1)] 0=some (.fz (ns.map .int)):=rfl
  have h33:ixN 4 3=some 3:=rfl
  have hs:=zag (o:=.lst [.fz (ns.map .int),.ref c,.int p',.int (q+1)]) a4
  simp[fn5,exs,e,ev,idxW,a4,h3,opW,opI,h33,hs,h30,h00,e2]
end
theorem zaa{cl:Call}{a b:S}{ρ ρ':En}{h h':VH}(e:exs cl a ρ h=.ok (.nx ρ') h'):exs cl (.seq a b) ρ h=exs cl b ρ' h':=by
 simp only[exs,e,bindok]
theorem zak{cl:Call}{a b:S}{ρ:En}{w:W}{h h':VH}(e:exs cl a ρ h=.ok (.rt w) h'):exs cl (.seq a b) ρ h=.ok (.rt w) h':=by
 simp only[exs,e,bindok]
@[simp] theorem exs_skip {cl:Call} {ρ:En} {h:VH}:exs cl .skip ρ h=.ok (.nx ρ) h:=rfl
theorem Dk.new{h:VH}{d c b:Nat}{o:VO}(D:Dk h d c b):Dk (h.new o) d c b:=by
 obtain⟨ne,ns,cells,p,q,a1,a2,a3⟩:=D
 exact⟨ne,ns,cells,p,q,by rw[zab (zah a1)];exact a1,by rw[zab (zah a2)];exact a2,a3⟩
noncomputable abbrev sDot:Str:=Str.ofString "."
noncomputable abbrev sLt:Str:=Str.ofString "<"
noncomputable abbrev sGt:Str:=Str.ofString ">"
noncomputable abbrev sX:Str:=Str.ofString "x"
noncomputable abbrev sS:Str:=Str.ofString "s"
theorem ztp{c wd g:Int}:zax (.str sDot) c wd g=true:=rfl
noncomputable def allF(P:Int->W->Prop):Int->List W->Prop
 |_,[]=>True
 |a,w::r=>P a w/\allF P (a+1) r
theorem zf0{P:W->Prop}:∀{ws:List W} {a:Int},allF (λ_ w=>P w) a ws->∀w∈ws,P w
 |[],_,_,w,h=>by cases h
 |x::r,a,⟨h1,h2⟩,w,h=>by
  rcases vau.mp h with rfl|h
  .exact h1
  .exact zf0 h2 w h
theorem zig{cl:Call}{P:Int->W->Prop}{e:E}{tl:En}{d c m lim:Nat}(hs:∀(i:Int) (h:VH) (b:Nat),0<=i->i<lim->Dk h d c b->b+m<1000000000->∃w h',ev cl e (some (.int i)::tl) h=.ok w h'/\P i w/\Dk h' d c (b+m)/\Keep h h' d c) :
 ∀(n:Nat)(a:Int)(x:Option W)(h:VH)(b:Nat),0<=a->a+n<=lim->Dk h d c b->b+m*n<1000000000->
  ∃ws h',lcL (tgW (.one 0)) (λ_ h=>.ok (.bl true) h) (ev cl e) (zam a n) (x::tl) h=.ok ws h'/\allF P a ws/\ws.length=n/\Dk h' d c (b+m*n)/\Keep h h' d c
 |0,a,x,h,b,_,_,D,_=>⟨[],h,rfl,trivial,rfl,by simpa using D,.refl⟩
 |n+1,a,x,h,b,ha,hl,D,hb=>by
  have e1:m* (n+1)=m*n+m:=Nat.mul_succ m n
  obtain⟨w,h1,e2,p1,D1,K1⟩:=hs a h b ha (by omega) D (by omega)
  obtain⟨ws,h2,e3,p2,l2,D2,K2⟩:=zig hs n (a+1) (some (.int a)) h1 (b+m) (by omega) (by omega) D1 (by omega)
  refine⟨w::ws,h2,?_,⟨p1,p2⟩,by rw[vaj,l2],D2.mono (by omega),K1.trans K2⟩
  simp only[zam,lcL,tgW,List.set,ev,bindok,e2,e3]
theorem zcb{n:Nat}(h:n<=1000000):Nat.ble n big=true:=veq.mpr (vbo h (by decide))
theorem zrl{cl:Call}{a:E}{ρ:En}{h h1 h2:VH}{n ow:Nat}{ix:List Nat}{e:E}{ys:List W}(ea:ev cl a ρ h=.ok (.tup [.int n]) h1)(hn:n<1000000)(el:lcL (tgW (.one 0)) (λ_ h=>.ok (.bl true) h) (ev cl e) (zam 0 n) (inner ow ix ρ) h1=.ok ys h2)(hy:ys.length<=1000000) :
 ev cl (.lc .rng1 a (.one 0) ow ix (.cst (.bl true)) e) ρ h=.ok (.ref h2.n) (h2.new (.lst ys)):=by
 have l:=zx8 (n:=n) (tg:=tgW (.one 0)) (c:=λ_ h=>.ok (.bl true) h) (e:=ev cl e) (ρ:=inner ow ix ρ) (h:=h1) hn
 rw[el]at l
 have q:ev cl (.lc .rng1 a (.one 0) ow ix (.cst (.bl true)) e) ρ h=(ev cl a ρ h).bind λx h=>(lcG (nxt .rng1 x) (tgW (.one 0)) (ev cl (.cst (.bl true))) (ev cl e) fuel 0 (inner ow ix ρ) h []).bind λys h=>if Nat.ble ys.length big then .ok (.ref h.n) (h.new (.lst ys))else .no:=by rw[ev]
 rw[q,ea,bindok]
 show(lcG (nxt .rng1 (.tup [.int n])) (tgW (.one 0)) (λ_ h=>.ok (.bl true) h) (ev cl e) fuel 0 (inner ow ix ρ) h1 []).bind _=_
 rw[l,bindok,if_pos (zcb hy)]
theorem zx9{cl:Call}{x:E}{ρ:En}{h h1:VH}{i:Nat}{ys:List W}(e:ev cl x ρ h=.ok (.ref i) h1)(g:h1.get i=some (.lst ys)):ev cl (.bi .tuple (.cons x .nil)) ρ h=.ok (.tup ys) h1:=by
 simp only[ev,e,bindok,biW,zb3,seqW,g,vaw,ofsome]
theorem zrm{cl:Call}{a:E}{ρ:En}{h h1 h2:VH}{n ow:Nat}{ix:List Nat}{e:E}{ys:List W}(ea:ev cl a ρ h=.ok (.tup [.int n]) h1)(hn:n<1000000)(el:lcL (tgW (.one 0)) (λ_ h=>.ok (.bl true) h) (ev cl e) (zam 0 n) (inner ow ix ρ) h1=.ok ys h2)(hy:ys.length<=1000000) :
 ev cl (.bi .tuple (.cons (.lc .rng1 a (.one 0) ow ix (.cst (.bl true)) e) .nil)) ρ h=.ok (.tup ys) (h2.new (.lst ys)):=zx9 (zrl ea hn el hy) zai
structure Gw(h h':VH):Prop where
 le:h.n<=h'.n
 lo:h'.lo=h.lo
 get:∀i o,h.get i=some o->h'.get i=some o
theorem Gw.refl{h:VH}:Gw h h:=⟨vad _,rfl,λ_ _ e=>e⟩
theorem Gw.trans{h h1 h2:VH}(a:Gw h h1)(b:Gw h1 h2):Gw h h2:=⟨vbo a.le b.le,b.lo.trans a.lo,λi o e=>b.get i o (a.get i o e)⟩
theorem zih{n:Nat}(h:n<=1000000):Nat.blt n big=true:=zap.mpr (vee h (by decide))
theorem znj{cl:Call}{e:E}{tl:En}{f:W->W}:∀(ws:List W) (x:Option W) (h:VH),(∀w∈ws,∀h,∃h',ev cl e (some w::tl) h=.ok (f w) h'/\Gw h h')->∃h',lcL (tgW (.one 0)) (λ_ h=>.ok (.bl true) h) (ev cl e) ws (x::tl) h=.ok (ws.map f) h'/\Gw h h'
 |[],x,h,_=>⟨h,rfl,.refl⟩
 |w::r,x,h,hs=>by
  obtain⟨h1,e1,g1⟩:=hs w vai h
  obtain⟨h2,e2,g2⟩:=znj r (some w) h1 λw hw=>hs w (vag _ hw)
  refine⟨h2,?_,g1.trans g2⟩
  simp only[lcL,tgW,List.set,bindok,e1,e2,van]
theorem zbe{cl:Call}{i l:Nat}{x:E}{ρ:En}{h h1:VH}{w:W}{acc acc0:List W}(hρ:ρ[i]?=some (some (.ref l)))(g0:h.get l=some (.lst acc0))(e:ev cl x ρ h=.ok w h1)(g:h1.get l=some (.lst acc))(hl:acc.length<=1000000) :
 ev cl (.mt .append (.var i) (.cons x .nil)) ρ h=.ok .non (h1.set l (.lst (acc++[w]))):=by
 have hk:zdu .append h (.ref l)=true:=by simp only[zdu,g0]
 have hm:mtW .append (.ref l) [w] h1=.ok .non (h1.set l (.lst (acc++[w]))):=by
  simp only[mtW,g]
  rw[if_pos (zih hl)]
 simp only[ev,hρ,vbw,ofsome,bindok,hk,va8,e,hm]
theorem zii{w:W}{g:Int}(h:zbc w g=true):∃a b:Int,w=.tup [.int a,.int b]/\0<=a/\a<g/\0<=b/\b<2:=by
 cases w<;>simp only[zbc]at h<;>try(cases h;done)
 rename_i us
 rcases us with _|⟨a,_|⟨b,_|_⟩⟩<;>simp at h
 obtain⟨h1,h2⟩:=h
 cases a<;>simp[within]at h1
 cases b<;>simp[within]at h2
 exact⟨_,_,rfl,by omega,by omega,by omega,by omega⟩
theorem zg6{w:W}{n:Int}(h:door w n=true):∃(a:Int) (b:W),w=.tup [.int a,b]/\0<=a/\a<=99/\(b=.non\/∃i:Int,b=.int i/\0<=i/\i<n):=by
 cases w<;>simp only[door]at h<;>try(cases h;done)
 rename_i us
 rcases us with _|⟨a,_|⟨b,_|_⟩⟩<;>simp at h
 obtain⟨h1,h2⟩:=h
 cases a<;>simp[within]at h1
 unfold fon at h2
 cases b<;>simp[within,isNon]at h2
 .exact⟨_,_,rfl,h1.1,h1.2,.inl rfl⟩
 .exact⟨_,_,rfl,h1.1,h1.2,.inr ⟨_,rfl,by omega,by omega⟩⟩
noncomputable def stepP(w:W)(hd:Int)(ls:List Int):Option (Int×List Int×List Int):=match w with
 |.tup [.int g,.int s]=>some (if ls.getD g.toNat 0=s then -1 else 1,[g],ls.set g.toNat (1-ls.getD g.toNat 0))
 |.str x=>if x==sS then none else if x==sX then some (hd,[],ls)else if x==sDot then some (0,[],ls)else some (if x==sLt then -1 else 1,[],ls)
 |_=>none
noncomputable def colAt(r:List W)(c:Int):W:=(r[c.toNat]?).getD .non
structure Fa where
 cs:List Int
 ts:List Int
 ls:List Int
 st:Bool
noncomputable def fallP:List (List W)->Int->Int->List Int->Fa
 |[],_,_,ls=>⟨[],[],ls,false⟩
 |r::rs,c,hd,ls=>match stepP (colAt r c) hd ls with
  |none=>⟨[],[],ls,true⟩
  |some (d,t,l)=>⟨(c+d):: (fallP rs (c+d) d l).cs,t++(fallP rs (c+d) d l).ts,(fallP rs (c+d) d l).ls,(fallP rs (c+d) d l).st⟩
noncomputable def lastC:Int->List Int->Int
 |c,[]=>c
 |_,x::r=>lastC x r
noncomputable def Bits(ls:List Int):Prop:=∀x∈ls,x=0\/x=1
theorem zd8{w:W}{c wd g:Int}(h:zax w c wd g=true):(w=.str sX/\0<c/\c<wd-1)\/(w=.str sLt/\0<c)\/(w=.str sGt/\c<wd-1)\/w=.str sDot\/w=.str sS\/∃a b:Nat,w=.tup [.int a,.int b]/\(a:Int)<g/\b<2/\0<c/\c<wd-1:=by
 unfold zax at h
 split at h
 .rename_i q
  rw[vab,vav,vav]at h
  rw[vdv]at q
  rcases q with q|q
  .exact .inl ⟨ze4 q,h⟩
  .obtain⟨a,b,rfl,h1,h2,h3,h4⟩:=zii q
   obtain⟨a,rfl⟩:=vbt h1
   obtain⟨b,rfl⟩:=vbt h3
   exact .inr (.inr (.inr (.inr (.inr ⟨a,b,rfl,h2,by omega,h⟩))))
 .split at h
  .rename_i q;exact .inr (.inl ⟨ze4 q,by simpa using h⟩)
  .split at h
   .rename_i q;exact .inr (.inr (.inl ⟨ze4 q,by simpa using h⟩))
   .rw[vdv]at h
    rcases h with q|q
    .exact .inr (.inr (.inr (.inl (ze4 q))))
    .exact .inr (.inr (.inr (.inr (.inl (ze4 q)))))
theorem znk{hd:Int}{ls:List Int}:stepP (.str sX) hd ls=some (hd,[],ls):=rfl
theorem zij{hd:Int}{ls:List Int}:stepP (.str sLt) hd ls=some (-1,[],ls):=rfl
theorem zik{hd:Int}{ls:List Int}:stepP (.str sGt) hd ls=some (1,[],ls):=rfl
theorem zdi{hd:Int}{ls:List Int}:stepP (.str sDot) hd ls=some (0,[],ls):=rfl
theorem znl{hd:Int}{ls:List Int}:stepP (.str sS) hd ls=none:=rfl
theorem zf1{hd:Int}{ls:List Int}{a b:Nat}:stepP (.tup [.int a,.int b]) hd ls=some (if ls.getD a 0=b then -1 else 1,[(a:Int)],ls.set a (1-ls.getD a 0)):=rfl
theorem zp7{ls:List Int}(h:Bits ls)(a:Nat):ls.getD a 0=0\/ls.getD a 0=1:=by
 rw[va4]
 cases q:ls[a]? with
 |none=>exact .inl rfl
 |some x=>exact h x (vb3 q)
theorem znm{w:W}{c wd g hd:Int}{ls:List Int}(h:zax w c wd g=true)(c0:0<=c)(c1:c<wd)(h1:-1<=hd)(h2:hd<=1)(b:Bits ls){d:Int}{t l:List Int}(e:stepP w hd ls=some (d,t,l)):-1<=d/\d<=1/\0<=c+d/\c+d<wd/\l.length=ls.length/\Bits l/\t.length<=1:=by
 rcases zd8 h with⟨rfl,h3,h4⟩|⟨rfl,h3⟩|⟨rfl,h3⟩|rfl|rfl|⟨p,q,rfl,h3,h4,h5,h6⟩
 .rw[znk]at e;cases e;exact⟨h1,h2,by omega,by omega,rfl,b,by simp⟩
 .rw[zij]at e;cases e;exact⟨by omega,by omega,by omega,by omega,rfl,b,by simp⟩
 .rw[zik]at e;cases e;exact⟨by omega,by omega,by omega,by omega,rfl,b,by simp⟩
 .rw[zdi]at e;cases e;exact⟨by omega,by omega,by omega,by omega,rfl,b,by simp⟩
 .rw[znl]at e;cases e
 .rw[zf1]at e;cases e
  refine⟨by split<;>omega,by split<;>omega,by split<;>omega,by split<;>omega,by simp,λx hx=>?_,by simp⟩
  rcases List.mem_or_eq_of_mem_set hx with hx|rfl
  .exact b x hx
  .rcases zp7 b p with q|q<;>rw[q]<;>omega
noncomputable def znn(wd g:Int)(rs:List (List W)):Prop:=∀r∈rs,(r.length:Int)=wd/\rowOk wd g 0 r
theorem zjw{wd g:Int}:∀{ws:List W} {c:Int} (i:Nat) {w:W},rowOk wd g c ws->ws[i]?=some w->zax w (c+i) wd g=true
 |[],_,_,_,_,e=>by simp at e
 |x::r,c,0,w,⟨h1,h2⟩,e=>by
  simp at e;subst e;simpa using h1
 |x::r,c,i+1,w,⟨h1,h2⟩,e=>by
  have:=zjw i h2 (by simpa using e)
  rw[show c+ ((i+1:Nat):Int)=c+1+i by push_cast;omega]
  exact this
theorem zjx{wd g c:Int}{r:List W}(h:(r.length:Int)=wd/\rowOk wd g 0 r)(c0:0<=c)(c1:c<wd):r[c.toNat]?=some (colAt r c)/\zax (colAt r c) c wd g=true:=by
 obtain⟨n,rfl⟩:=vbt c0
 have hn:n<r.length:=by omega
 have e:r[n]?=some r[n]:=vat hn
 have e2:colAt r n=r[n]:=by
  unfold colAt
  rw[vby,e];rfl
 rw[e2,vby]
 refine⟨e,?_⟩
 have:=zjw n h.2 e
 simpa using this
structure Fa.Ok(q:Fa)(wd:Int)(c:Int)(m n:Nat):Prop where
 l1:q.ls.length=n
 l2:Bits q.ls
 c1:∀x∈q.cs,0<=x/\x<wd
 c2:q.cs.length<=m
 c3:q.st=false->q.cs.length=m
 c5:q.st=true->q.cs.length<m
 c4:0<=lastC c q.cs/\lastC c q.cs<wd
 t1:q.ts.length<=m
theorem zno{wd g:Int}:∀(rs:List (List W)) (c hd:Int) (ls:List Int),znn wd g rs->0<=c->c<wd->-1<=hd->hd<=1->Bits ls->(fallP rs c hd ls).Ok wd c rs.length ls.length
 |[],c,hd,ls,_,c0,c1,_,_,b=>⟨rfl,b,by simp[fallP],by simp[fallP],by simp[fallP],by simp[fallP],⟨c0,c1⟩,by simp[fallP]⟩
 |r::rs,c,hd,ls,ok,c0,c1,h1,h2,b=>by
  obtain⟨_,hm⟩:=zjx (ok r vai) c0 c1
  unfold fallP
  cases e:stepP (colAt r c) hd ls with
  |none=>exact⟨rfl,b,by simp,by simp,by simp,by simp,⟨c0,c1⟩,by simp⟩
  |some q=>
   obtain⟨d,t,l⟩:=q
   obtain⟨a1,a2,a3,a4,a5,a6,a7⟩:=znm hm c0 c1 h1 h2 b e
   have ih:=zno rs (c+d) d l (λr hr=>ok r (vag _ hr)) a3 a4 a1 a2 a6
   refine⟨ih.l1.trans a5,ih.l2,λx hx=>?_,?_,λh=>?_,λh=>?_,ih.c4,?_⟩
   .rcases vau.mp hx with rfl|hx
    .exact⟨a3,a4⟩
    .exact ih.c1 x hx
   .simp only[vaj];have:=ih.c2;omega
   .simp only[vaj];have:=ih.c3 h;omega
   .simp only[vaj];have:=ih.c5 h;omega
   .simp only[vaj,vax];have:=ih.t1;omega
theorem znp{r:List W}{rs:List (List W)}{c hd:Int}{ls:List Int}(e:stepP (colAt r c) hd ls=none):fallP (r::rs) c hd ls=⟨[],[],ls,true⟩:=by
 unfold fallP
 rw[e]
theorem znq{r:List W}{rs:List (List W)}{c hd d:Int}{ls t l:List Int}(e:stepP (colAt r c) hd ls=some (d,t,l)):fallP (r::rs) c hd ls=⟨(c+d):: (fallP rs (c+d) d l).cs,t++(fallP rs (c+d) d l).ts,(fallP rs (c+d) d l).ls,(fallP rs (c+d) d l).st⟩:=by
 rw[fallP,e]
noncomputable def st3(h:VH)(gs:List VO)(c t l:List W):VH:=⟨h.n+3+gs.length,h.n,gs++(.lst l :: .lst t :: .lst c::h.os)⟩
theorem st_c{h:VH}{gs:List VO}{c t l:List W}:(st3 h gs c t l).get h.n=some (.lst c):=by
 unfold st3 VH.get
 rw[if_pos (zap.mpr (by show h.n<h.n+3+gs.length;omega))]
 show(gs++(.lst l :: .lst t :: .lst c::h.os))[h.n+3+gs.length-1-h.n]?=_
 rw[va0 (by omega),show h.n+3+gs.length-1-h.n-gs.length=2 by omega]
 rfl
theorem st_t{h:VH}{gs:List VO}{c t l:List W}:(st3 h gs c t l).get (h.n+1)=some (.lst t):=by
 unfold st3 VH.get
 rw[if_pos (zap.mpr (by show h.n+1<h.n+3+gs.length;omega))]
 show(gs++(.lst l :: .lst t :: .lst c::h.os))[h.n+3+gs.length-1- (h.n+1)]?=_
 rw[va0 (by omega),show h.n+3+gs.length-1- (h.n+1)-gs.length=1 by omega]
 rfl
theorem st_l{h:VH}{gs:List VO}{c t l:List W}:(st3 h gs c t l).get (h.n+2)=some (.lst l):=by
 unfold st3 VH.get
 rw[if_pos (zap.mpr (by show h.n+2<h.n+3+gs.length;omega))]
 show(gs++(.lst l :: .lst t :: .lst c::h.os))[h.n+3+gs.length-1- (h.n+2)]?=_
 rw[va0 (by omega),show h.n+3+gs.length-1- (h.n+2)-gs.length=0 by omega]
 rfl
theorem znr{a b:Nat}(h:b<=a):Nat.blt a b=false:=by
 cases q:Nat.blt a b with
 |false=>rfl
 |true=>have:=zap.mp q;omega
theorem ztq{h:VH}{gs:List VO}{c t l c':List W}:(st3 h gs c t l).set h.n (.lst c')=st3 h gs c' t l:=by
 unfold st3 VH.set
 simp only[znr (vad h.n)]
 rw[vc6 _ _ (by omega),show h.n+3+gs.length-1-h.n-gs.length=2 by omega]
 rfl
theorem ztr{h:VH}{gs:List VO}{c t l t':List W}:(st3 h gs c t l).set (h.n+1) (.lst t')=st3 h gs c t' l:=by
 unfold st3 VH.set
 simp only[znr (vci h.n)]
 rw[vc6 _ _ (by omega),show h.n+3+gs.length-1- (h.n+1)-gs.length=1 by omega]
 rfl
noncomputable def fn17:Fn:=⟨2,2,(.seq (.ret (.call 7 (.cons (.var 0) (.cons (.var 1) (.cons (.var 1) (.cons (.cst (.int (0))) (.cons (.cst (.int (1))) .nil))))))) .skip)⟩
noncomputable def fn27:Fn:=⟨2,4,(.seq (.expr (.call 14 (.cons (.var 0) .nil))) (.seq (.ite (.not (.tru (.call 6 (.cons (.var 1) (.cons (.cst (.int (2))) (.cons (.cst (.int (2))) .nil)))))) (.seq (.ret (.cst (.bl false))) .skip) .skip) (.seq (.unp [2,3] (.var 1)) (.seq (.ret (.and (.call 17 (.cons (.var 2) (.cons (.idx (.var 0) (.cst (.int (1)))) .nil))) (.call 12 (.cons (.var 3) (.cons (.bi .len (.cons (.idx (.var 0) (.cst (.int (3)))) .nil)) .nil))))) .skip))))⟩
noncomputable def fn29:Fn:=⟨2,2,(.seq (.ite (.not (.tru (.call 27 (.cons (.var 0) (.cons (.var 1) .nil))))) (.seq .no .skip) .skip) .skip)⟩
noncomputable def fn39:Fn:=⟨2,2,(.seq (.ret (.and (.isi .int (.var 0)) (.and (.not (.isi .bool (.var 0))) (.cmp .eq (.var 0) (.var 1))))) .skip)⟩
noncomputable def zil:E:=(.call 92 (.cons (.var 0) (.cons (.var 1) .nil)))
noncomputable def fn92:Fn:=⟨2,2,(.seq (.ite (.tru (.isi .tuple (.var 1))) (.seq (.ite (.or (.not (.tru (.isi .tuple (.var 0)))) (.cmp .ne (.bi .len (.cons (.var 0) .nil)) (.bi .len (.cons (.var 1) .nil)))) (.seq (.ret (.cst (.bl false))) .skip) .skip) (.seq (.ret (.bi .all (.cons (.lc .zip (.cons (.var 0) (.cons (.var 1) .nil)) (.many [0,1]) 2 [] (.cst (.bl true)) zil) .nil))) .skip)) .skip) (.seq (.ite (.cmp .isn (.var 1) (.cst .non)) (.seq (.ret (.cmp .isn (.var 0) (.cst .non))) .skip) .skip) (.seq (.ret (.call 39 (.cons (.var 0) (.cons (.var 1) .nil)))) .skip)))⟩
noncomputable def fn173:Fn:=⟨4,7,(.seq (.ite (.tru (.isi .tuple (.var 0))) (.seq (.unp [4,5] (.var 0)) (.seq (.set 6 (.idx (.var 2) (.var 4))) (.seq (.ite (.cmp .ne (.var 4) (.var 3)) (.seq (.put (.var 2) (.var 4) (.op .sub (.cst (.int (1))) (.var 6))) .skip) .skip) (.seq (.ret (.ite (.cmp .eq (.var 6) (.var 5)) (.cst (.int (-1))) (.cst (.int (1))))) .skip)))) .skip) (.seq (.ite (.cmp .eq (.var 0) (.cst (.str (vgb "s")))) (.seq (.ret (.cst .non)) .skip) .skip) (.seq (.ite (.cmp .eq (.var 0) (.cst (.str (vgb "x")))) (.seq (.ret (.var 1)) .skip) .skip) (.seq (.ite (.cmp .eq (.var 0) (.cst (.str (vgb ".")))) (.seq (.ret (.cst (.int (0)))) .skip) .skip) (.seq (.ret (.ite (.cmp .eq (.var 0) (.cst (.str (vgb "<")))) (.cst (.int (-1))) (.cst (.int (1))))) .skip)))))⟩
noncomputable def zcq:S:=(.seq (.set 10 (.idx (.var 9) (.var 4))) (.seq (.set 8 (.call 173 (.cons (.var 10) (.cons (.var 8) (.cons (.var 7) (.cons (.var 3) .nil)))))) (.seq (.ite (.cmp .isn (.var 8) (.cst .non)) (.seq .brk .skip) .skip) (.seq (.ite (.and (.tru (.isi .tuple (.var 10))) (.cmp .ne (.idx (.var 10) (.cst (.int (0)))) (.var 3))) (.seq (.expr (.mt .append (.var 6) (.cons (.idx (.var 10) (.cst (.int (0)))) .nil))) .skip) .skip) (.seq (.aug 4 .add (.var 8)) (.seq (.expr (.mt .append (.var 5) (.cons (.var 4) .nil))) .skip))))))
noncomputable def fn174:Fn:=⟨4,11,(.seq (.set 4 (.idx (.idx (.var 0) (.cst (.int (3)))) (.var 2))) (.seq (.set 5 (.lst (.cons (.var 4) .nil))) (.seq (.set 6 (.lst .nil)) (.seq (.set 7 (.bi .list (.cons (.var 1) .nil))) (.seq (.set 8 (.cst (.int (0)))) (.seq (.«for» .seq (.idx (.var 0) (.cst (.int (2)))) (.one 9) zcq) (.seq (.ret (.tup (.cons (.bi .tuple (.cons (.var 5) .nil)) (.cons (.bi .tuple (.cons (.var 6) .nil)) (.cons (.bi .tuple (.cons (.var 7) .nil)) .nil))))) .skip)))))))⟩
noncomputable def fn175:Fn:=⟨4,8,(.seq (.unp [4,5,6] (.call 174 (.cons (.var 0) (.cons (.var 1) (.cons (.var 2) (.cons (.var 3) .nil)))))) (.seq (.set 7 (.ite (.cmp .gt (.bi .len (.cons (.var 4) .nil)) (.bi .len (.cons (.idx (.var 0) (.cst (.int (2)))) .nil))) (.idx (.var 4) (.neg (.cst (.int (1))))) (.cst .non))) (.seq (.ret (.tup (.cons (.var 7) (.cons (.var 6) .nil)))) .skip)))⟩
noncomputable def fn176:Fn:=⟨4,7,(.seq (.unp [4,5] (.call 175 (.cons (.var 0) (.cons (.var 1) (.cons (.var 2) (.cons (.var 3) .nil)))))) (.seq (.set 6 (.ite (.cmp .isn (.var 4) (.cst .non)) (.cst (.tup [.non,.non])) (.idx (.idx (.var 0) (.cst (.int (4)))) (.var 4)))) (.seq (.ret (.tup (.cons (.var 6) (.cons (.var 5) .nil)))) .skip)))⟩
noncomputable def fn182:Fn:=⟨2,6,(.seq (.unp [2,3] (.var 1)) (.seq (.ite (.cmp .isn (.var 3) (.cst .non)) (.seq (.ret (.cst .non)) .skip) .skip) (.seq (.unp [4,5] (.call 176 (.cons (.var 0) (.cons (.var 2) (.cons (.var 3) (.cons (.cst .non) .nil)))))) (.seq (.ret (.tup (.cons (.var 5) (.cons (.idx (.var 4) (.cst (.int (1)))) .nil)))) .skip))))⟩
noncomputable def zbi:E:=(.and (.cmp .notn (.var 3) (.cst .non)) (.cmp .nin (.var 3) (.var 2)))
noncomputable def zbz:S:=(.seq (.put (.var 2) (.var 3) (.bi .len (.cons (.var 2) .nil))) (.seq (.set 3 (.call 182 (.cons (.var 0) (.cons (.var 3) .nil)))) .skip))
noncomputable def fn184:Fn:=⟨2,5,(.seq (.expr (.call 29 (.cons (.var 0) (.cons (.var 1) .nil)))) (.seq (.set 2 (.dsp .nil)) (.seq (.set 3 (.var 1)) (.seq (.whl zbi zbz) (.seq (.set 4 (.ite (.cmp .isn (.var 3) (.cst .non)) (.cst .non) (.idx (.var 2) (.var 3)))) (.seq (.ret (.tup (.cons (.bi .tuple (.cons (.var 2) .nil)) (.cons (.var 4) .nil)))) .skip))))))⟩
theorem eqS{h:VH}{x y:Str}(hx:PyData.strOk x=true)(hy:PyData.strOk y=true):eqW h (.str x) (.str y)=some (x==y):=by
 rw[zc0 (x:=y) (by exact hx) hy];rfl
@[simp] theorem eq_X_X {h:VH}:eqW h (.str sX) (.str (vgb "x"))=some true:=(eqS (by decide +kernel) (by decide +kernel)).trans (by decide +kernel)
@[simp] theorem eq_X_Lt {h:VH}:eqW h (.str sX) (.str (vgb "<"))=some false:=(eqS (by decide +kernel) (by decide +kernel)).trans (by decide +kernel)
@[simp] theorem eq_X_Gt {h:VH}:eqW h (.str sX) (.str (vgb ">"))=some false:=(eqS (by decide +kernel) (by decide +kernel)).trans (by decide +kernel)
@[simp] theorem eq_X_Dot {h:VH}:eqW h (.str sX) (.str (vgb "."))=some false:=(eqS (by decide +kernel) (by decide +kernel)).trans (by decide +kernel)
@[simp] theorem eq_X_S {h:VH}:eqW h (.str sX) (.str (vgb "s"))=some false:=(eqS (by decide +kernel) (by decide +kernel)).trans (by decide +kernel)
@[simp] theorem eq_Lt_X {h:VH}:eqW h (.str sLt) (.str (vgb "x"))=some false:=(eqS (by decide +kernel) (by decide +kernel)).trans (by decide +kernel)
@[simp] theorem eq_Lt_Lt {h:VH}:eqW h (.str sLt) (.str (vgb "<"))=some true:=(eqS (by decide +kernel) (by decide +kernel)).trans (by decide +kernel)
@[simp] theorem eq_Lt_Gt {h:VH}:eqW h (.str sLt) (.str (vgb ">"))=some false:=(eqS (by decide +kernel) (by decide +kernel)).trans (by decide +kernel)
@[simp] theorem eq_Lt_Dot {h:VH}:eqW h (.str sLt) (.str (vgb "."))=some false:=(eqS (by decide +kernel) (by decide +kernel)).trans (by decide +kernel)
@[simp] theorem eq_Lt_S {h:VH}:eqW h (.str sLt) (.str (vgb "s"))=some false:=(eqS (by decide +kernel) (by decide +kernel)).trans (by decide +kernel)
@[simp] theorem eq_Gt_X {h:VH}:eqW h (.str sGt) (.str (vgb "x"))=some false:=(eqS (by decide +kernel) (by decide +kernel)).trans (by decide +kernel)
@[simp] theorem eq_Gt_Lt {h:VH}:eqW h (.str sGt) (.str (vgb "<"))=some false:=(eqS (by decide +kernel) (by decide +kernel)).trans (by decide +kernel)
@[simp] theorem eq_Gt_Gt {h:VH}:eqW h (.str sGt) (.str (vgb ">"))=some true:=(eqS (by decide +kernel) (by decide +kernel)).trans (by decide +kernel)
@[simp] theorem eq_Gt_Dot {h:VH}:eqW h (.str sGt) (.str (vgb "."))=some false:=(eqS (by decide +kernel) (by decide +kernel)).trans (by decide +kernel)
@[simp] theorem eq_Gt_S {h:VH}:eqW h (.str sGt) (.str (vgb "s"))=some false:=(eqS (by decide +kernel) (by decide +kernel)).trans (by decide +kernel)
@[simp] theorem eq_Dot_X {h:VH}:eqW h (.str sDot) (.str (vgb "x"))=some false:=(eqS (by decide +kernel) (by decide +kernel)).trans (by decide +kernel)
@[simp] theorem eq_Dot_Lt {h:VH}:eqW h (.str sDot) (.str (vgb "<"))=some false:=(eqS (by decide +kernel) (by decide +kernel)).trans (by decide +kernel)
@[simp] theorem eq_Dot_Gt {h:VH}:eqW h (.str sDot) (.str (vgb ">"))=some false:=(eqS (by decide +kernel) (by decide +kernel)).trans (by decide +kernel)
@[simp] theorem eq_Dot_Dot {h:VH}:eqW h (.str sDot) (.str (vgb "."))=some true:=(eqS (by decide +kernel) (by decide +kernel)).trans (by decide +kernel)
@[simp] theorem eq_Dot_S {h:VH}:eqW h (.str sDot) (.str (vgb "s"))=some false:=(eqS (by decide +kernel) (by decide +kernel)).trans (by decide +kernel)
@[simp] theorem eq_S_X {h:VH}:eqW h (.str sS) (.str (vgb "x"))=some false:=(eqS (by decide +kernel) (by decide +kernel)).trans (by decide +kernel)
@[simp] theorem eq_S_Lt {h:VH}:eqW h (.str sS) (.str (vgb "<"))=some false:=(eqS (by decide +kernel) (by decide +kernel)).trans (by decide +kernel)
@[simp] theorem eq_S_Gt {h:VH}:eqW h (.str sS) (.str (vgb ">"))=some false:=(eqS (by decide +kernel) (by decide +kernel)).trans (by decide +kernel)
@[simp] theorem eq_S_Dot {h:VH}:eqW h (.str sS) (.str (vgb "."))=some false:=(eqS (by decide +kernel) (by decide +kernel)).trans (by decide +kernel)
@[simp] theorem eq_S_S {h:VH}:eqW h (.str sS) (.str (vgb "s"))=some true:=(eqS (by decide +kernel) (by decide +kernel)).trans (by decide +kernel)
theorem zp8{h0:VH}{gs:List VO}{c t l l':List W}{w:W}:leave (st3 h0 gs c t l) w (VH.set ⟨(st3 h0 gs c t l).n,(st3 h0 gs c t l).n,(st3 h0 gs c t l).os⟩ (h0.n+2) (.lst l'))=.ok w (st3 h0 gs c t l'):=by
 have hb:Nat.blt (h0.n+2) (h0.n+3+gs.length)=true:=zap.mpr (by omega)
 have hn:Nat.ble (h0.n+3+gs.length) (h0.n+2)=false:=by
  cases q:Nat.ble (h0.n+3+gs.length) (h0.n+2)with
  |false=>rfl
  |true=>have:=vbh q;omega
 have hl:Nat.ble h0.n (h0.n+2)=true:=veq.mpr (by omega)
 unfold leave VH.set st3
 simp only[hb,va8,hn,vd6,hl]
 rw[if_neg (by simp),vc6 _ _ (by omega),show h0.n+3+gs.length-1- (h0.n+2)-gs.length=0 by omega]
 rfl
theorem zya{ls:List Int}{a:Nat}(h:a<ls.length):atI (ls.map W.int) (a:Int)=some (.int (ls.getD a 0)):=
 zbf (by rw[vas,vat h,va4,vat h];rfl)
theorem zns{n a:Nat}(h:a<n):ixN n (a:Int)=some a:=by
 unfold ixN
 rw[if_pos (by omega),if_pos (by omega)];simp
theorem zk4{cl:Call}{a b:S}{ρ ρ':En}{h h':VH}(e:exs cl a ρ h=.ok (.bk ρ') h'):exs cl (.seq a b) ρ h=.ok (.bk ρ') h':=by
 simp only[exs,e,bindok]
theorem zyb{wd g c:Int}{r:List W}(ok:(r.length:Int)=wd/\rowOk wd g 0 r)(c0:0<=c)(c1:c<wd):atI r c=some (colAt r c):=by
 have:=(zjx ok c0 c1).1
 obtain⟨n,rfl⟩:=vbt c0
 rw[vby]at this
 exact zbf this
noncomputable def iW(ls:List Int):W:=.tup (ls.map .int)
theorem iW_lt{n:Nat}{ls:List Int}:W.lt n (iW ls)=true:=by
 unfold iW
 rw[lt_tup]
 induction ls with
 |nil=>simp
 |cons x r ih=>rw[van,lts_cons,ih,lt_int];rfl
theorem Bd.Ok.feeder{B:Bd}(b:B.Ok){f:Nat}(hf:f<B.fd.length):∃c:Int,B.fd[f]?=some (.int c)/\0<=c/\c<B.wd:=by
 have h:=b.f3 _ (vc0 hf)
 have e:B.fd[f]?=some B.fd[f]:=vat hf
 generalize B.fd[f]=w at h e
 cases w<;>simp only[within]at h<;>try(cases h;done)
 rename_i c
 rw[vab,vav,vav]at h
 exact⟨c,e,h.1,by omega⟩
noncomputable def Bd.col(B:Bd)(f:Nat):Int:=match B.fd[f]? with
 |some (.int c)=>c
 |_=>0
theorem Bd.Ok.col{B:Bd}(b:B.Ok){f:Nat}(hf:f<B.fd.length):B.fd[f]?=some (.int (B.col f))/\0<=B.col f/\B.col f<B.wd:=by
 obtain⟨c,e,h⟩:=b.feeder hf
 have:B.col f=c:=by unfold Bd.col;rw[e]
 rw[this];exact⟨e,h⟩
noncomputable def Bd.fall(B:Bd)(ls:List Int)(f:Nat):Fa:=fallP B.rows (B.col f) 0 ls
theorem Bd.Ok.rows{B:Bd}(b:B.Ok){ls:List Int}(hl:(ls.length:Int)=B.gr):znn B.wd (ls.length:Int) B.rows:=by
 rw[hl];exact b.r2
theorem Bd.Ok.fall{B:Bd}(b:B.Ok){ls:List Int}{f:Nat}(hf:f<B.fd.length)(hl:(ls.length:Int)=B.gr)(bi:Bits ls):(B.fall ls f).Ok B.wd (B.col f) B.rows.length ls.length:=
 zno _ _ _ _ (b.rows hl) (b.col hf).2.1 (b.col hf).2.2 (by decide) (by decide) bi
noncomputable def wayW(B:Bd)(ls:List Int)(f:Nat):W:=.tup [iW (B.col f:: (B.fall ls f).cs),iW (B.fall ls f).ts,iW (B.fall ls f).ls]
theorem zts{B:Bd}{ls:List Int}{f n:Nat}:W.lt n (wayW B ls f)=true:=by
 unfold wayW
 simp[iW_lt]
theorem zcc{cl:Call}{i l:Nat}{ρ:En}{h:VH}{ws:List W}(hρ:ρ[i]?=some (some (.ref l)))(g:h.get l=some (.lst ws)):ev cl (.bi .tuple (.cons (.var i) .nil)) ρ h=.ok (.tup ws) h:=by
 simp only[ev,hρ,vbw,ofsome,bindok,biW,zb3,seqW,g,vaw]
theorem tup3{cl:Call}{a b c:E}{ρ:En}{h:VH}{x y z:W}(ea:ev cl a ρ h=.ok x h)(eb:ev cl b ρ h=.ok y h)(ec:ev cl c ρ h=.ok z h):ev cl (.tup (.cons a (.cons b (.cons c .nil)))) ρ h=.ok (.tup [x,y,z]) h:=by
 rw[ev,ev,ea,bindok,ev,eb,bindok,ev,ec,bindok,ev]
 rfl
theorem zjy:∀(cs:List Int) (c:Int),(c::cs)[cs.length]?=some (lastC c cs)
 |[],c=>rfl
 |x::r,c=>by
  rw[vaj,va2]
  exact zjy r x
theorem ztt{cs:List Int}{c:Int}:atI ((c::cs).map W.int) (-1)=some (.int (lastC c cs)):=by
 have e:ixN ((c::cs).map W.int).length (-1)=some cs.length:=by
  unfold ixN
  rw[if_neg (by decide),vaf,vaj,if_pos (by omega)]
  congr 1
  omega
 unfold atI
 rw[e,Option.bind_some,vas,zjy]
 rfl
noncomputable def Bd.door(B:Bd)(c:Int):W:=(B.dr[c.toNat]?).getD .non
theorem Bd.Ok.door{B:Bd}(b:B.Ok){c:Int}(c0:0<=c)(c1:c<B.wd):atI B.dr c=some (B.door c)/\RF.door (B.door c) B.fd.length=true:=by
 obtain⟨n,rfl⟩:=vbt c0
 have hd:=b.d1
 have hn:n<B.dr.length:=by omega
 have e:B.dr[n]?=some B.dr[n]:=vat hn
 have e2:B.door n=B.dr[n]:=by
  unfold Bd.door
  rw[vby,e];rfl
 rw[e2]
 exact⟨zbf e,b.d2 _ (vc0 hn)⟩
noncomputable def outD(B:Bd)(ls:List Int)(f:Nat):W:=if(B.fall ls f).st then .tup [.non,.non]else B.door (lastC (B.col f) (B.fall ls f).cs)
theorem tup2{cl:Call}{a b:E}{ρ:En}{h:VH}{x y:W}(ea:ev cl a ρ h=.ok x h)(eb:ev cl b ρ h=.ok y h):ev cl (.tup (.cons a (.cons b .nil))) ρ h=.ok (.tup [x,y]) h:=by
 rw[ev,ev,ea,bindok,ev,eb,bindok,ev]
 rfl
theorem znt{ls:List Int}{g:Int}(hl:(ls.length:Int)=g)(b:Bits ls):zcn (iW ls) g g 0 1=true:=by
 unfold iW zcn zaw
 simp only[vaf,vab,vav,vb1]
 refine⟨⟨by omega,by omega⟩,λw hw=>?_⟩
 obtain⟨x,hx,rfl⟩:=va3.mp hw
 rcases b x hx with rfl|rfl<;>rfl
noncomputable def zyc(w:W):W:=match w with
 |.tup [n,_]=>n
 |_=>.non
noncomputable def nameP(B:Bd)(ls:List Int)(f:Nat):W:=zyc (outD B ls f)
theorem znu{B:Bd}{ls:List Int}{f:Nat}(b:B.Ok)(hf:f<B.fd.length)(hl:(ls.length:Int)=B.gr)(bi:Bits ls):∃y,outD B ls f=.tup [nameP B ls f,y]/\(nameP B ls f=.non\/∃i:Int,nameP B ls f=.int i):=by
 unfold nameP outD
 cases z:(B.fall ls f).st with
 |true=>exact⟨.non,rfl,.inl rfl⟩
 |false=>
  have q:=b.fall hf hl bi
  obtain⟨a1,a2⟩:=b.door q.c4.1 q.c4.2
  obtain⟨a,y,e,_,_,_⟩:=zg6 a2
  refine⟨y,?_,.inr ⟨a,?_⟩⟩
  .rw[if_neg (by simp),e];rfl
  .rw[if_neg (by simp),e];rfl
theorem ztu{B:Bd}{ls:List Int}{f:Nat}(b:B.Ok)(hf:f<B.fd.length)(hl:(ls.length:Int)=B.gr)(bi:Bits ls)(n:Nat):W.lt n (nameP B ls f)=true:=by
 obtain⟨_,_,e|⟨i,e⟩⟩:=znu b hf hl bi<;>rw[e]<;>simp
theorem zrn{n:Nat}:∀{ws:List W},(∀w∈ws,W.lt n w=true)->W.lts n ws=true
 |[],_=>by simp
 |w::r,h=>by rw[lts_cons,h w vai,zrn λw hw=>h w (vag _ hw)];rfl
section
variable{F:Nat->Option Fn}(C:CoreD F)
include C
theorem ze5{k:Nat}:∀(ns:List Int) (x:Option W) (h:VH),∃cells:List Int,lcL (tgW (.one 0)) (ev (run F k) zc8) (ev (run F k) zc9) (ns.map .int) [x] h=.ok (cells.map .int) h/\(∀y∈cells,(0:Int)<=y)/\cells.length<=ns.length
 |[],x,h=>⟨[],rfl,(λy hy=>by cases hy),vad _⟩
 |n::ns,x,h=>by
  obtain⟨cells,e,h1,h2⟩:=ze5 (k:=k) ns (some (.int n)) h
  have s10:((10:Int).natAbs<2 ^ 64):=by decide
  have ec:ev (run F k) zc8 [some (.int n)] h=.ok (.bl (decide (1000000000000000000<=(n.natAbs:Int)))) h:=by
   simp[zc8,ev,biW,absW,opW,opI,cmpW,cmpI,zc1]
  have ee:ev (run F k) zc9 [some (.int n)] h=.ok (.int (n.natAbs:Int)) h:=by
   simp[zc9,ev,biW,absW,zc1]
  by_cases q:1000000000000000000<=(n.natAbs:Int)
  .refine⟨(n.natAbs:Int)::cells,?_,λy hy=>?_,by rw[vaj,vaj];omega⟩
   .simp only[lcL,van,tgW,List.set,ec,bindok,q,decide_true,ee,e]
   .rcases vau.mp hy with rfl|hy
    .omega
    .exact h1 y hy
  .refine⟨cells,?_,h1,by rw[vaj];omega⟩
   simp only[lcL,van,tgW,List.set,ec,bindok,q,decide_false,e]
theorem deck{k:Nat}{h:VH}{ns:List Int}(hl:ns.length<=63):∃h',run F (k+1) 3 [.fz (ns.map .int)] h=.ok (.ref (h.n+1)) h'/\Dk h' (h.n+1) h.n 0:=by
 rw[zao C.f3 rfl]
 obtain⟨cells,e,h1,h2⟩:=ze5 C (k:=k) ns none ⟨h.n,h.n,h.os⟩
 have l:=zcm (nx:=nxt .seq (.fz (ns.map .int))) (tg:=tgW (.one 0)) (c:=ev (run F k) zc8) (e:=ev (run F k) zc9) (ws:=ns.map .int) (λi h=>rfl) fuel 0 [none] ⟨h.n,h.n,h.os⟩ [] (vbb _) (by rw[vaf];unfold fuel;omega)
 rw[vd7,e]at l
 have l:lcG (nxt .seq (.fz (ns.map .int))) (tgW (.one 0)) (ev (run F k) zc8) (ev (run F k) zc9) fuel 0 [none] ⟨h.n,h.n,h.os⟩ []=.ok (cells.map .int) ⟨h.n,h.n,h.os⟩:=l
 have q:ev (run F k) (.lc .seq (.var 0) (.one 0) 1 [] zc8 zc9) [some (.fz (ns.map .int))] ⟨h.n,h.n,h.os⟩=.ok (.ref h.n) (VH.new ⟨h.n,h.n,h.os⟩ (.lst (cells.map .int))):=by
  rw[ev]
  have:ev (run F k) (.var 0) [some (.fz (ns.map .int))] ⟨h.n,h.n,h.os⟩=.ok (.fz (ns.map .int)) ⟨h.n,h.n,h.os⟩:=rfl
  rw[this,bindok]
  show(lcG (nxt .seq (.fz (ns.map .int))) (tgW (.one 0)) (ev (run F k) zc8) (ev (run F k) zc9) fuel 0 [none] ⟨h.n,h.n,h.os⟩ []).bind _=_
  rw[l,bindok,if_pos (zcb (by rw[vaf];omega))]
 let h1':VH:=VH.new ⟨h.n,h.n,h.os⟩ (.lst (cells.map .int))
 let o:VO:=.lst [.fz (ns.map .int),.ref h.n,.int 0,.int 0]
 have eb:exs (run F k) fn3.body [some (.fz (ns.map .int))] ⟨h.n,h.n,h.os⟩=.ok (.rt (.ref (h.n+1))) (h1'.new o):=by
  simp only[fn3,exs,ev,bindok,ofsome,vbg,vbw]at q ⊢
  rw[q]
  rfl
 refine⟨⟨h.n+2,if Nat.ble h.lo h.n then h.lo else h.n,(h1'.new o).os⟩,?_,?_⟩
 .show fin h (exs (run F k) fn3.body [some (.fz (ns.map .int))] ⟨h.n,h.n,h.os⟩)=_
  rw[eb]
  show leave h (.ref (h.n+1)) (h1'.new o)=_
  unfold leave
  rw[if_neg (by
   rw[vab]
   intro z
   have:=z.2
   simp only[W.lt]at this
   have:=zap.mp this
   omega)]
  rfl
 .refine⟨by omega,ns,cells,0,0,?_,?_,h1,by omega,by omega,by omega,by omega⟩
  .show VH.get ⟨(h1'.new o).n,_,(h1'.new o).os⟩ (h.n+1)=_
   rw[get_lo]
   exact zai (h:=h1')
  .show VH.get ⟨(h1'.new o).n,_,(h1'.new o).os⟩ h.n=_
   rw[get_lo,zab (h:=h1') (by show h.n<h.n+1;omega)]
   exact zai (h:=⟨h.n,h.n,h.os⟩)
end
noncomputable def zipW(ws zs:List W):List W:=List.zipWith (λa b=>W.tup [a,b]) ws zs
theorem zp9{ws zs:List W}(i:Nat)(h:VH):nxt .zip (.tup [.tup ws,.tup zs]) i h=some (zipW ws zs)[i]?:=by
 simp only[nxt,seqW,zipW,List.getElem?_zipWith]
 try(cases ws[i]?<;>cases zs[i]?<;>rfl)
theorem ztv{cl:Call}{a:E}{ρ:En}{h h1 h2:VH}{ow:Nat}{ix:List Nat}{e:E}{t:Tg}{ws zs ys:List W}(ea:ev cl a ρ h=.ok (.tup [.tup ws,.tup zs]) h1)(hn:(zipW ws zs).length<1000000)(el:lcL (tgW t) (λ_ h=>.ok (.bl true) h) (ev cl e) (zipW ws zs) (inner ow ix ρ) h1=.ok ys h2)(hy:ys.length<=1000000) :
 ev cl (.lc .zip a t ow ix (.cst (.bl true)) e) ρ h=.ok (.ref h2.n) (h2.new (.lst ys)):=by
 have l:=zcm (nx:=nxt .zip (.tup [.tup ws,.tup zs])) (tg:=tgW t) (c:=λ_ h=>.ok (.bl true) h) (e:=ev cl e) (ws:=zipW ws zs) (λi h=>zp9 i h) fuel 0 (inner ow ix ρ) h1 [] (vbb _) (by simpa[fuel]using hn)
 rw[vd7,el]at l
 have q:ev cl (.lc .zip a t ow ix (.cst (.bl true)) e) ρ h=(ev cl a ρ h).bind λx h=>(lcG (nxt .zip x) (tgW t) (ev cl (.cst (.bl true))) (ev cl e) fuel 0 (inner ow ix ρ) h []).bind λys h=>if Nat.ble ys.length big then .ok (.ref h.n) (h.new (.lst ys))else .no:=by rw[ev]
 rw[q,ea,bindok]
 show(lcG (nxt .zip (.tup [.tup ws,.tup zs])) (tgW t) (λ_ h=>.ok (.bl true) h) (ev cl e) fuel 0 (inner ow ix ρ) h1 []).bind _=_
 rw[l]
 show(if Nat.ble ([].reverse++ys).length big then _ else _)=_
 rw[vez,vcc,if_pos (zcb hy)]
theorem opE{cl:Call}{o:Op}{a b:E}{ρ:En}{h h1 h2:VH}{x y:W}{r:Res W}(ea:ev cl a ρ h=.ok x h1)(eb:ev cl b ρ h1=.ok y h2)(e:opW o x y h2=r):ev cl (.op o a b) ρ h=r:=by
 rw[ev,ea,bindok,eb,bindok,e]
theorem retE{cl:Call}{a:E}{ρ:En}{h h1:VH}{x:W}(ea:ev cl a ρ h=.ok x h1):exs cl (.ret a) ρ h=.ok (.rt x) h1:=by
 rw[exs,ea,bindok]
theorem setE{cl:Call}{i:Nat}{a:E}{ρ:En}{h h1:VH}{x:W}(ea:ev cl a ρ h=.ok x h1):exs cl (.set i a) ρ h=.ok (.nx (ρ.set i (some x))) h1:=by
 rw[exs,ea,bindok]
theorem varE{cl:Call}{i:Nat}{ρ:En}{h:VH}{x:W}(e:ρ[i]?=some (some x)):ev cl (.var i) ρ h=.ok x h:=by
 rw[ev,e];rfl
theorem idxE{cl:Call}{a b:E}{ρ:En}{h h1 h2:VH}{x y z:W}(ea:ev cl a ρ h=.ok x h1)(eb:ev cl b ρ h1=.ok y h2)(e:idxW h2 x y=some z):ev cl (.idx a b) ρ h=.ok z h2:=by
 rw[ev,ea,bindok,eb,bindok,e];rfl
theorem lenE{cl:Call}{a:E}{ρ:En}{h h1:VH}{x:W}{ws:List W}(ea:ev cl a ρ h=.ok x h1)(e:seqW h1 x=some ws):ev cl (.bi .len (.cons a .nil)) ρ h=.ok (.int ws.length) h1:=by
 rw[ev,ev,ea,bindok,ev,bindok]
 show lenW [x] h1=_
 simp only[lenW,e,ofsome]
theorem zro{cl:Call}{ρ:En}{h h1 h':VH}{n:Nat}{a:E}{x w:W}(ea:ev cl a ρ h=.ok x h1)(e:cl n [x] h1=.ok w h'):ev cl (.call n (.cons a .nil)) ρ h=.ok w h':=by
 rw[ev,ev,ea,bindok,ev]
 exact e
theorem zbn{cl:Call}{ρ:En}{h h1 h2 h':VH}{n:Nat}{a b:E}{x y w:W}(ea:ev cl a ρ h=.ok x h1)(eb:ev cl b ρ h1=.ok y h2)(e:cl n [x,y] h2=.ok w h'):ev cl (.call n (.cons a (.cons b .nil))) ρ h=.ok w h':=by
 rw[ev,ev,ea,bindok,ev,eb,bindok,ev]
 exact e
theorem zjz{cl:Call}{ρ:En}{h h1 h2 h3 h':VH}{n:Nat}{a b c:E}{x y z w:W}(ea:ev cl a ρ h=.ok x h1)(eb:ev cl b ρ h1=.ok y h2)(ec:ev cl c ρ h2=.ok z h3)(e:cl n [x,y,z] h3=.ok w h'):ev cl (.call n (.cons a (.cons b (.cons c .nil)))) ρ h=.ok w h':=by
 rw[ev,ev,ea,bindok,ev,eb,bindok,ev,ec,bindok,ev]
 exact e
theorem znv{cl:Call}{ρ:En}{h h1 h2 h3 h4 h':VH}{n:Nat}{a b c d:E}{x y z u w:W}(ea:ev cl a ρ h=.ok x h1)(eb:ev cl b ρ h1=.ok y h2)(ec:ev cl c ρ h2=.ok z h3)(ed:ev cl d ρ h3=.ok u h4)(e:cl n [x,y,z,u] h4=.ok w h'):ev cl (.call n (.cons a (.cons b (.cons c (.cons d .nil))))) ρ h=.ok w h':=by
 rw[ev,ev,ea,bindok,ev,eb,bindok,ev,ec,bindok,ev,ed,bindok,ev]
 exact e
theorem tup2E{cl:Call}{a b:E}{ρ:En}{h h1 h2:VH}{x y:W}(ea:ev cl a ρ h=.ok x h1)(eb:ev cl b ρ h1=.ok y h2):ev cl (.tup (.cons a (.cons b .nil))) ρ h=.ok (.tup [x,y]) h2:=by
 rw[ev,ev,ea,bindok,ev,eb,bindok,ev];rfl
theorem tup3E{cl:Call}{a b c:E}{ρ:En}{h h1 h2 h3:VH}{x y z:W}(ea:ev cl a ρ h=.ok x h1)(eb:ev cl b ρ h1=.ok y h2)(ec:ev cl c ρ h2=.ok z h3):ev cl (.tup (.cons a (.cons b (.cons c .nil)))) ρ h=.ok (.tup [x,y,z]) h3:=by
 rw[ev,ev,ea,bindok,ev,eb,bindok,ev,ec,bindok,ev];rfl
theorem tup5E{cl:Call}{a b c d e:E}{ρ:En}{h h1 h2 h3 h4 h5:VH}{x y z u v:W}(ea:ev cl a ρ h=.ok x h1)(eb:ev cl b ρ h1=.ok y h2)(ec:ev cl c ρ h2=.ok z h3)(ed:ev cl d ρ h3=.ok u h4)(ee:ev cl e ρ h4=.ok v h5):ev cl (.tup (.cons a (.cons b (.cons c (.cons d (.cons e .nil)))))) ρ h=.ok (.tup [x,y,z,u,v]) h5:=by
 rw[ev,ev,ea,bindok,ev,eb,bindok,ev,ec,bindok,ev,ed,bindok,ev,ee,bindok,ev];rfl
noncomputable def optW:Option Nat->W
 |none=>.non
 |some f=>.int f
noncomputable def callO(B:Bd)(ls:List Int)(f:Nat):Option Nat:=match outD B ls f with
 |.tup [_,.int i]=>some i.toNat
 |_=>none
theorem zcr{B:Bd}{ls:List Int}{f:Nat}(b:B.Ok)(hf:f<B.fd.length)(hl:(ls.length:Int)=B.gr)(bi:Bits ls):outD B ls f=.tup [nameP B ls f,optW (callO B ls f)]/\∀g,callO B ls f=some g->g<B.fd.length:=by
 have q:=b.fall hf hl bi
 unfold callO nameP
 by_cases z:(B.fall ls f).st=true
 .have:outD B ls f=.tup [.non,.non]:=by unfold outD;rw[if_pos z]
  rw[this]
  exact⟨rfl,λg h=>by cases h⟩
 .have e:outD B ls f=B.door (lastC (B.col f) (B.fall ls f).cs):=by unfold outD;rw[if_neg z]
  obtain⟨_,d2⟩:=b.door q.c4.1 q.c4.2
  obtain⟨x,y,de,_,_,hy⟩:=zg6 d2
  rw[e,de]
  rcases hy with rfl|⟨i,rfl,i0,i1⟩
  .exact⟨rfl,λg h=>by cases h⟩
  .refine⟨?_,λg h=>?_⟩
   .show W.tup [.int x,.int i]=.tup [.int x,.int (i.toNat:Int)]
    rw[Int.toNat_of_nonneg i0]
   .have h:some i.toNat=some g:=h
    cases h
    omega
theorem znw{n:Nat}{fo:Option Nat}:W.lt n (optW fo)=true:=by cases fo<;>simp[optW]
theorem lst2E{cl:Call}{a b:E}{ρ:En}{h h1 h2:VH}{x y:W}(ea:ev cl a ρ h=.ok x h1)(eb:ev cl b ρ h1=.ok y h2):ev cl (.lst (.cons a (.cons b .nil))) ρ h=.ok (.ref h2.n) (h2.new (.lst [x,y])):=by
 rw[ev,ev,ea,bindok,ev,eb,bindok,ev];rfl
theorem iteF{cl:Call}{c:E}{a b:S}{ρ:En}{h h1:VH}(e:ev cl c ρ h=.ok (.bl false) h1):exs cl (.ite c a b) ρ h=exs cl b ρ h1:=by
 rw[exs,e];rfl
theorem iteT{cl:Call}{c:E}{a b:S}{ρ:En}{h h1:VH}(e:ev cl c ρ h=.ok (.bl true) h1):exs cl (.ite c a b) ρ h=exs cl a ρ h1:=by
 rw[exs,e];rfl
theorem truE{cl:Call}{a:E}{ρ:En}{h h1:VH}{b:Bool}(e:ev cl a ρ h=.ok (.bl b) h1):ev cl (.tru a) ρ h=.ok (.bl b) h1:=by
 rw[ev,e,bindok];rfl
theorem exprE{cl:Call}{a:E}{ρ:En}{h h1:VH}{x:W}(ea:ev cl a ρ h=.ok x h1):exs cl (.expr a) ρ h=.ok (.nx ρ) h1:=by
 rw[exs,ea,bindok]
theorem zim{P:Int->Prop}:∀{ws:List W},(∀w∈ws,∃x:Int,w=.int x/\P x)->∃xs:List Int,ws=xs.map .int/\∀x∈xs,P x
 |[],_=>⟨[],rfl,by simp⟩
 |w::r,h=>by
  obtain⟨x,rfl,hx⟩:=h w vai
  obtain⟨xs,rfl,hs⟩:=zim λw hw=>h w (vag _ hw)
  refine⟨x::xs,rfl,λy hy=>?_⟩
  rcases vau.mp hy with rfl|hy
  .exact hx
  .exact hs y hy
structure CoreY1(F:Nat->Option Fn):Prop where
 f173:F 173=some fn173
 f174:F 174=some fn174
structure CoreY0(F:Nat->Option Fn):Prop where
 f173:F 173=some fn173
 f174:F 174=some fn174
 f175:F 175=some fn175
theorem varE0{cl:Call}{i:Nat}{ρ:En}{h:VH}{x:W}(e:ρ[i]?=some (some x)):ev cl (.var i) ρ h=.ok x h:=by
 rw[ev,e];rfl
theorem idxE0{cl:Call}{a b:E}{ρ:En}{h h1 h2:VH}{x y z:W}(ea:ev cl a ρ h=.ok x h1)(eb:ev cl b ρ h1=.ok y h2)(e:idxW h2 x y=some z):ev cl (.idx a b) ρ h=.ok z h2:=by
 rw[ev,ea,bindok,eb,bindok,e];rfl
theorem setE0{cl:Call}{i:Nat}{a:E}{ρ:En}{h h1:VH}{x:W}(ea:ev cl a ρ h=.ok x h1):exs cl (.set i a) ρ h=.ok (.nx (ρ.set i (some x))) h1:=by
 rw[exs,ea];rfl
theorem znx{h:VH}{x:W}{r:List W}:idxW h (.tup (x::r)) (.int 0)=some x:=zbf (j:=0) (xs:=x::r) rfl
theorem zf2{h:VH}{i:Int}:eqW h (.int i) .non=some false:=rfl
section
variable{F:Nat->Option Fn}(C:CoreY1 F)
include C
theorem zqa{k:Nat}{h0:VH}{gs:List VO}{cs ts:List W}{ls:List Int}{w:W}{c wd hd:Int}(hm:zax w c wd (ls.length:Int)=true) :
 run F (k+1) 173 [w,.int hd,.ref (h0.n+2),.non] (st3 h0 gs cs ts (ls.map .int))=match stepP w hd ls with
  |none=>.ok .non (st3 h0 gs cs ts (ls.map .int))
  |some (d,_,l)=>.ok (.int d) (st3 h0 gs cs ts (l.map .int)):=by
 rw[zao C.f173 rfl]
 rcases zd8 hm with⟨rfl,h3,h4⟩|⟨rfl,h3⟩|⟨rfl,h3⟩|rfl|rfl|⟨p,q,rfl,h3,h4,h5,h6⟩
 .rw[znk];simp[fn173,exs,ev,cmpW,zal]
 .rw[zij];simp[fn173,exs,ev,cmpW,zal]
 .rw[zik];simp[fn173,exs,ev,cmpW,zal]
 .rw[zdi];simp[fn173,exs,ev,cmpW,zal]
 .rw[znl];simp[fn173,exs,ev,cmpW,zal]
 .rw[zf1]
  have hp:p<ls.length:=by omega
  have e1:=zya hp
  have g:VH.get ⟨(st3 h0 gs cs ts (ls.map .int)).n,(st3 h0 gs cs ts (ls.map .int)).n,(st3 h0 gs cs ts (ls.map .int)).os⟩ (h0.n+2)=some (.lst (ls.map .int)):=by rw[get_lo];exact st_l
  have e2:ixN (ls.map W.int).length (p:Int)=some p:=zns (by rw[vaf];exact hp)
  have e3:exs (run F k) fn173.body [some (.tup [.int p,.int q]),some (.int hd),some (.ref (h0.n+2)),some .non,none,none,none] ⟨(st3 h0 gs cs ts (ls.map .int)).n,(st3 h0 gs cs ts (ls.map .int)).n,(st3 h0 gs cs ts (ls.map .int)).os⟩=.ok (.rt (.int (if ls.getD p 0=q then -1 else 1))) (VH.set ⟨(st3 h0 gs cs ts (ls.map .int)).n,(st3 h0 gs cs ts (ls.map .int)).n,(st3 h0 gs cs ts (ls.map .int)).os⟩ (h0.n+2) (.lst ((ls.set p (1-ls.getD p 0)).map .int))):=by
   rw[List.map_set]
   generalize ls.getD p 0=y at e1 ⊢
   by_cases z:y=(q:Int)
   .simp only[fn173,exs,ev,tgW,seqW,zaz,vbw,va2,vbg,ofsome,bindok,isi_tup,vaw,tru_bl,ty_tuple_tuple,vbz,vbm,idxW,g,e1,opW,opI,e2,cmpW,zbt,zf2,ver,z,decide_true,va8]
   .simp only[fn173,exs,ev,tgW,seqW,zaz,vbw,va2,vbg,ofsome,bindok,isi_tup,vaw,tru_bl,ty_tuple_tuple,vbz,vbm,idxW,g,e1,opW,opI,e2,cmpW,zbt,zf2,ver,z,decide_false,va7]
  show fin _ (exs (run F k) fn173.body [some (.tup [.int p,.int q]),some (.int hd),some (.ref (h0.n+2)),some .non,none,none,none] _)=_
  rw[e3]
  exact zp8
theorem ztw{k:Nat}{h0:VH}{b l f:W}{r:List W}{c wd hd:Int}{cs ts:List W}{ls:List Int}{y:Option W}(ok:(r.length:Int)=wd/\rowOk wd (ls.length:Int) 0 r)(c0:0<=c)(c1:c<wd)(hc:cs.length<=1000)(ht:ts.length<=1000) :
 exs (run F (k+1)) zcq [some b,some l,some f,some .non,some (.int c),some (.ref h0.n),some (.ref (h0.n+1)),some (.ref (h0.n+2)),some (.int hd),some (.tup r),y] (st3 h0 [] cs ts (ls.map .int))=match stepP (colAt r c) hd ls with
  |none=>.ok (.bk [some b,some l,some f,some .non,some (.int c),some (.ref h0.n),some (.ref (h0.n+1)),some (.ref (h0.n+2)),some .non,some (.tup r),some (colAt r c)]) (st3 h0 [] cs ts (ls.map .int))
  |some (d,t,l')=>.ok (.nx [some b,some l,some f,some .non,some (.int (c+d)),some (.ref h0.n),some (.ref (h0.n+1)),some (.ref (h0.n+2)),some (.int d),some (.tup r),some (colAt r c)]) (st3 h0 [] (cs++[.int (c+d)]) (ts++t.map .int) (l'.map .int)):=by
 obtain⟨_,hm⟩:=zjx ok c0 c1
 have e0:=zyb ok c0 c1
 generalize colAt r c=w at hm e0 ⊢
 have e1:=zqa C (k:=k) (h0:=h0) (gs:=[]) (cs:=cs) (ts:=ts) (hd:=hd) hm
 unfold zcq
 rw[zaa (ρ':=[some b,some l,some f,some .non,some (.int c),some (.ref h0.n),some (.ref (h0.n+1)),some (.ref (h0.n+2)),some (.int hd),some (.tup r),some w]) (h':=st3 h0 [] cs ts (ls.map .int)) (setE0 (idxE0 (x:=.tup r) (y:=.int c) (varE0 rfl) (varE0 rfl) e0))]
 have key:∀(d:Int)(l':List Int)(t:List Int),stepP w hd ls=some (d,t,l')->exs (run F (k+1)) (.seq (.ite (.and (.tru (.isi .tuple (.var 10))) (.cmp .ne (.idx (.var 10) (.cst (.int (0)))) (.var 3))) (.seq (.expr (.mt .append (.var 6) (.cons (.idx (.var 10) (.cst (.int (0)))) .nil))) .skip) .skip) (.seq (.aug 4 .add (.var 8)) (.seq (.expr (.mt .append (.var 5) (.cons (.var 4) .nil))) .skip))) [some b,some l,some f,some .non,some (.int c),some (.ref h0.n),some (.ref (h0.n+1)),some (.ref (h0.n+2)),some (.int d),some (.tup r),some w] (st3 h0 [] cs ts (l'.map .int))=.ok (.nx [some b,some l,some f,some .non,some (.int (c+d)),some (.ref h0.n),some (.ref (h0.n+1)),some (.ref (h0.n+2)),some (.int d),some (.tup r),some w]) (st3 h0 [] (cs++[.int (c+d)]) (ts++t.map .int) (l'.map .int)):=by
  intro d l' t es
  have fin:∀ts':List W,exs (run F (k+1)) (.seq (.aug 4 .add (.var 8)) (.seq (.expr (.mt .append (.var 5) (.cons (.var 4) .nil))) .skip)) [some b,some l,some f,some .non,some (.int c),some (.ref h0.n),some (.ref (h0.n+1)),some (.ref (h0.n+2)),some (.int d),some (.tup r),some w] (st3 h0 [] cs ts' (l'.map .int))=.ok (.nx [some b,some l,some f,some .non,some (.int (c+d)),some (.ref h0.n),some (.ref (h0.n+1)),some (.ref (h0.n+2)),some (.int d),some (.tup r),some w]) (st3 h0 [] (cs++[.int (c+d)]) ts' (l'.map .int)):=by
   intro ts'
   rw[zaa (ρ':=[some b,some l,some f,some .non,some (.int (c+d)),some (.ref h0.n),some (.ref (h0.n+1)),some (.ref (h0.n+2)),some (.int d),some (.tup r),some w]) (h':=st3 h0 [] cs ts' (l'.map .int)) rfl]
   have ea:=zbe (cl:=run F (k+1)) (i:=5) (l:=h0.n) (x:=.var 4) (ρ:=[some b,some l,some f,some .non,some (.int (c+d)),some (.ref h0.n),some (.ref (h0.n+1)),some (.ref (h0.n+2)),some (.int d),some (.tup r),some w]) (h:=st3 h0 [] cs ts' (l'.map .int)) (h1:=st3 h0 [] cs ts' (l'.map .int)) (w:=.int (c+d)) (acc:=cs) (acc0:=cs) rfl st_c (by simp[ev]) st_c (by omega)
   rw[ztq]at ea
   simp only[exs,ea,bindok]
  rcases zd8 hm with⟨rfl,h3,h4⟩|⟨rfl,h3⟩|⟨rfl,h3⟩|rfl|rfl|⟨p,q,rfl,h3,h4,h5,h6⟩
  .rw[znk]at es;cases es
   rw[zaa (ρ':=[some b,some l,some f,some .non,some (.int c),some (.ref h0.n),some (.ref (h0.n+1)),some (.ref (h0.n+2)),some (.int hd),some (.tup r),some (.str sX)]) (h':=st3 h0 [] cs ts (ls.map .int)) rfl,fin];simp
  .rw[zij]at es;cases es
   rw[zaa (ρ':=[some b,some l,some f,some .non,some (.int c),some (.ref h0.n),some (.ref (h0.n+1)),some (.ref (h0.n+2)),some (.int (-1)),some (.tup r),some (.str sLt)]) (h':=st3 h0 [] cs ts (ls.map .int)) rfl,fin];simp
  .rw[zik]at es;cases es
   rw[zaa (ρ':=[some b,some l,some f,some .non,some (.int c),some (.ref h0.n),some (.ref (h0.n+1)),some (.ref (h0.n+2)),some (.int 1),some (.tup r),some (.str sGt)]) (h':=st3 h0 [] cs ts (ls.map .int)) rfl,fin];simp
  .rw[zdi]at es;cases es
   rw[zaa (ρ':=[some b,some l,some f,some .non,some (.int c),some (.ref h0.n),some (.ref (h0.n+1)),some (.ref (h0.n+2)),some (.int 0),some (.tup r),some (.str sDot)]) (h':=st3 h0 [] cs ts (ls.map .int)) rfl,fin];simp
  .rw[znl]at es;cases es
  .rw[zf1]at es;cases es
   have ea:=zbe (cl:=run F (k+1)) (i:=6) (l:=h0.n+1) (x:=.idx (.var 10) (.cst (.int 0))) (ρ:=[some b,some l,some f,some .non,some (.int c),some (.ref h0.n),some (.ref (h0.n+1)),some (.ref (h0.n+2)),some (.int (if ls.getD p 0=q then -1 else 1)),some (.tup r),some (.tup [.int p,.int q])]) (h:=st3 h0 [] cs ts ((ls.set p (1-ls.getD p 0)).map .int)) (h1:=st3 h0 [] cs ts ((ls.set p (1-ls.getD p 0)).map .int)) (w:=.int p) (acc:=ts) (acc0:=ts) rfl st_t (by simp[ev,idxW];rfl) st_t (by omega)
   rw[ztr]at ea
   have eb:exs (run F (k+1)) (.ite (.and (.tru (.isi .tuple (.var 10))) (.cmp .ne (.idx (.var 10) (.cst (.int (0)))) (.var 3))) (.seq (.expr (.mt .append (.var 6) (.cons (.idx (.var 10) (.cst (.int (0)))) .nil))) .skip) .skip) [some b,some l,some f,some .non,some (.int c),some (.ref h0.n),some (.ref (h0.n+1)),some (.ref (h0.n+2)),some (.int (if ls.getD p 0=q then -1 else 1)),some (.tup r),some (.tup [.int p,.int q])] (st3 h0 [] cs ts ((ls.set p (1-ls.getD p 0)).map .int))=.ok (.nx [some b,some l,some f,some .non,some (.int c),some (.ref h0.n),some (.ref (h0.n+1)),some (.ref (h0.n+2)),some (.int (if ls.getD p 0=q then -1 else 1)),some (.tup r),some (.tup [.int p,.int q])]) (st3 h0 [] cs (ts++[.int p]) ((ls.set p (1-ls.getD p 0)).map .int)):=by
    rw[exs]
    have e5:ev (run F (k+1)) (.and (.tru (.isi .tuple (.var 10))) (.cmp .ne (.idx (.var 10) (.cst (.int (0)))) (.var 3))) [some b,some l,some f,some .non,some (.int c),some (.ref h0.n),some (.ref (h0.n+1)),some (.ref (h0.n+2)),some (.int (if ls.getD p 0=q then -1 else 1)),some (.tup r),some (.tup [.int p,.int q])] (st3 h0 [] cs ts ((ls.set p (1-ls.getD p 0)).map .int))=.ok (.bl true) (st3 h0 [] cs ts ((ls.set p (1-ls.getD p 0)).map .int)):=by simp[ev,znx,cmpW,zf2]
    rw[e5,bindok]
    simp only[exs,ea,bindok]
   rw[zaa eb,fin]
   rfl
 cases es:stepP w hd ls with
 |none=>
  rw[es]at e1
  rw[zaa (ρ':=[some b,some l,some f,some .non,some (.int c),some (.ref h0.n),some (.ref (h0.n+1)),some (.ref (h0.n+2)),some .non,some (.tup r),some w]) (h':=st3 h0 [] cs ts (ls.map .int)) (by simp only[exs,ev,vbw,va2,vbg,ofsome,bindok,e1,vbz,vbm])]
  exact zk4 rfl
 |some q=>
  obtain⟨d,t,l'⟩:=q
  rw[es]at e1
  rw[zaa (ρ':=[some b,some l,some f,some .non,some (.int c),some (.ref h0.n),some (.ref (h0.n+1)),some (.ref (h0.n+2)),some (.int d),some (.tup r),some w]) (h':=st3 h0 [] cs ts (l'.map .int)) (by simp only[exs,ev,vbw,va2,vbg,ofsome,bindok,e1,vbz,vbm])]
  rw[zaa (ρ':=[some b,some l,some f,some .non,some (.int c),some (.ref h0.n),some (.ref (h0.n+1)),some (.ref (h0.n+2)),some (.int d),some (.tup r),some w]) (h':=st3 h0 [] cs ts (l'.map .int)) rfl]
  exact key d l' t es
theorem ze6{k:Nat}{h0:VH}{b l f:W}{wd:Int}:∀(rs:List (List W)) (c hd:Int) (cs ts:List W) (ls:List Int) (x y:Option W),znn wd (ls.length:Int) rs->0<=c->c<wd->-1<=hd->hd<=1->Bits ls->cs.length+rs.length<=1000->ts.length+rs.length<=1000->
 ∃c' hd' x' y',forL (tgW (.one 9)) (exs (run F (k+1)) zcq) (rs.map .tup) [some b,some l,some f,some .non,some (.int c),some (.ref h0.n),some (.ref (h0.n+1)),some (.ref (h0.n+2)),some (.int hd),x,y] (st3 h0 [] cs ts (ls.map .int)) =
  .ok (.nx [some b,some l,some f,some .non,c',some (.ref h0.n),some (.ref (h0.n+1)),some (.ref (h0.n+2)),hd',x',y']) (st3 h0 [] (cs++(fallP rs c hd ls).cs.map .int) (ts++(fallP rs c hd ls).ts.map .int) ((fallP rs c hd ls).ls.map .int))
 |[],c,hd,cs,ts,ls,x,y,_,_,_,_,_,_,_,_=>⟨some (.int c),some (.int hd),x,y,by simp[forL,fallP]⟩
 |r::rs,c,hd,cs,ts,ls,x,y,ok,c0,c1,h1,h2,bi,hc,ht=>by
  have hc':cs.length+rs.length+1<=1000:=by rw[vaj]at hc;omega
  have ht':ts.length+rs.length+1<=1000:=by rw[vaj]at ht;omega
  have eb:=ztw C (k:=k) (h0:=h0) (b:=b) (l:=l) (f:=f) (hd:=hd) (cs:=cs) (ts:=ts) (y:=y) (ok r vai) c0 c1 (by omega) (by omega)
  obtain⟨_,hm⟩:=zjx (ok r vai) c0 c1
  cases e:stepP (colAt r c) hd ls with
  |none=>
   rw[e]at eb
   rw[znp e]
   refine⟨some (.int c),some .non,some (.tup r),some (colAt r c),?_⟩
   simp only[van,forL,tgW,vbz,vbm,eb,bindok,vdj,vcw]
  |some q=>
   obtain⟨d,t,l'⟩:=q
   rw[e]at eb
   obtain⟨a1,a2,a3,a4,a5,a6,a7⟩:=znm hm c0 c1 h1 h2 bi e
   obtain⟨c',hd',x',y',ih⟩:=ze6 (k:=k) (h0:=h0) (b:=b) (l:=l) (f:=f) rs (c+d) d (cs++[.int (c+d)]) (ts++t.map .int) l' (some (.tup r)) (some (colAt r c)) (λr hr=>by rw[a5];exact ok r (vag _ hr)) a3 a4 a1 a2 a6 (by simp only[vax,vco];omega) (by simp only[vax,vaf];omega)
   rw[znq e]
   refine⟨c',hd',x',y',?_⟩
   simp only[van,forL,tgW,vbz,vbm,eb,bindok,ih,vbv,vd2,List.singleton_append]
theorem ztx{k:Nat}{h:VH}{B:Bd}{ls:List Int}{f:Nat}(b:B.Ok)(hf:f<B.fd.length)(hl:(ls.length:Int)=B.gr)(bi:Bits ls):run F (k+2) 174 [B.w,iW ls,.int f,.non] h=.ok (wayW B ls f) h:=by
 rw[zao C.f174 rfl]
 obtain⟨e0,c0,c1⟩:=b.col hf
 have hr:=b.r1
 obtain⟨c',hd',x',y',el⟩:=ze6 C (k:=k) (h0:=h) (b:=B.w) (l:=iW ls) (f:=.int f) B.rows (B.col f) 0 [.int (B.col f)] [] ls none none (b.rows hl) c0 c1 (by decide) (by decide) bi (by rw[vco];omega) (by rw[veb];omega)
 have e1:atI B.fd (f:Int)=some (.int (B.col f)):=zbf e0
 have i3:atI [W.int B.wd,.int B.gr,.tup (B.rows.map .tup),.tup B.fd,.tup B.dr] 3=some (.tup B.fd):=rfl
 have i2:atI [W.int B.wd,.int B.gr,.tup (B.rows.map .tup),.tup B.fd,.tup B.dr] 2=some (.tup (B.rows.map .tup)):=rfl
 have hz:(B.rows.map W.tup).length<1000000:=by rw[vaf];omega
 have eb:exs (run F (k+1)) fn174.body [some B.w,some (iW ls),some (.int f),some .non,none,none,none,none,none,none,none] ⟨h.n,h.n,h.os⟩=.ok (.rt (wayW B ls f)) (st3 h [] (([.int (B.col f)]:List W)++(fallP B.rows (B.col f) 0 ls).cs.map .int) (([]:List W)++(fallP B.rows (B.col f) 0 ls).ts.map .int) ((fallP B.rows (B.col f) 0 ls).ls.map .int)):=by
  show exs (run F (k+1)) (.seq _ _) _ _=_
  rw[zaa (ρ':=[some B.w,some (iW ls),some (.int f),some .non,some (.int (B.col f)),none,none,none,none,none,none]) (h':=⟨h.n,h.n,h.os⟩) (by unfold Bd.w;simp[exs,ev,idxW,i3,e1])]
  rw[zaa (ρ':=[some B.w,some (iW ls),some (.int f),some .non,some (.int (B.col f)),some (.ref h.n),none,none,none,none,none]) (h':=VH.new ⟨h.n,h.n,h.os⟩ (.lst [.int (B.col f)])) (by simp[exs,ev])]
  rw[zaa (ρ':=[some B.w,some (iW ls),some (.int f),some .non,some (.int (B.col f)),some (.ref h.n),some (.ref (h.n+1)),none,none,none,none]) (h':=VH.new (VH.new ⟨h.n,h.n,h.os⟩ (.lst [.int (B.col f)])) (.lst [])) (by simp[exs,ev,VH.new])]
  rw[zaa (ρ':=[some B.w,some (iW ls),some (.int f),some .non,some (.int (B.col f)),some (.ref h.n),some (.ref (h.n+1)),some (.ref (h.n+2)),none,none,none]) (h':=st3 h [] [.int (B.col f)] [] (ls.map .int)) (by unfold iW;simp[exs,ev,VH.new,biW,listW,seqW,st3])]
  rw[zaa (ρ':=[some B.w,some (iW ls),some (.int f),some .non,some (.int (B.col f)),some (.ref h.n),some (.ref (h.n+1)),some (.ref (h.n+2)),some (.int 0),none,none]) (h':=st3 h [] [.int (B.col f)] [] (ls.map .int)) (by simp[exs,ev])]
  have ei:ev (run F (k+1)) (.idx (.var 0) (.cst (.int (2)))) [some B.w,some (iW ls),some (.int f),some .non,some (.int (B.col f)),some (.ref h.n),some (.ref (h.n+1)),some (.ref (h.n+2)),some (.int 0),none,none] (st3 h [] [.int (B.col f)] [] (ls.map .int))=.ok (.tup (B.rows.map .tup)) (st3 h [] [.int (B.col f)] [] (ls.map .int)):=by
   unfold Bd.w;simp[ev,idxW,i2]
  have ef:=zd5 (tg:=tgW (.one 9)) (b:=exs (run F (k+1)) zcq) (ρ:=[some B.w,some (iW ls),some (.int f),some .non,some (.int (B.col f)),some (.ref h.n),some (.ref (h.n+1)),some (.ref (h.n+2)),some (.int 0),none,none]) (h:=st3 h [] [.int (B.col f)] [] (ls.map .int)) hz
  rw[el]at ef
  refine(zaa (by rw[exs,ei,bindok,ef])).trans ?_
  have et:=tup3 (cl:=run F (k+1)) (zcc (i:=5) (ρ:=[some B.w,some (iW ls),some (.int f),some .non,c',some (.ref h.n),some (.ref (h.n+1)),some (.ref (h.n+2)),hd',x',y']) rfl (st_c (h:=h) (gs:=[]) (c:=([.int (B.col f)]:List W)++(fallP B.rows (B.col f) 0 ls).cs.map .int) (t:=([]:List W)++(fallP B.rows (B.col f) 0 ls).ts.map .int) (l:=(fallP B.rows (B.col f) 0 ls).ls.map .int))) (zcc (i:=6) rfl st_t) (zcc (i:=7) rfl st_l)
  simp only[exs,et,bindok]
  rfl
 show fin h (exs (run F (k+1)) fn174.body [some B.w,some (iW ls),some (.int f),some .non,none,none,none,none,none,none,none] ⟨h.n,h.n,h.os⟩)=_
 rw[eb]
 exact zal (vad _) zts
end
section
variable{F:Nat->Option Fn}(C:CoreY0 F)
include C
theorem zty{k:Nat}{h:VH}{B:Bd}{ls:List Int}{f:Nat}(b:B.Ok)(hf:f<B.fd.length)(hl:(ls.length:Int)=B.gr)(bi:Bits ls):run F (k+2) 174 [B.w,iW ls,.int f,.non] h=.ok (wayW B ls f) h:=ztx ⟨C.f173,C.f174⟩ b hf hl bi
noncomputable def downW(B:Bd)(ls:List Int)(f:Nat):W:=if(B.fall ls f).st then .non else .int (lastC (B.col f) (B.fall ls f).cs)
theorem zk5{k:Nat}{h:VH}{B:Bd}{ls:List Int}{f:Nat}(b:B.Ok)(hf:f<B.fd.length)(hl:(ls.length:Int)=B.gr)(bi:Bits ls):run F (k+3) 175 [B.w,iW ls,.int f,.non] h=.ok (.tup [downW B ls f,iW (B.fall ls f).ls]) h:=by
 rw[zao C.f175 rfl]
 have e1:=zty C (k:=k) (h:=⟨h.n,h.n,h.os⟩) b hf hl bi
 have q:=b.fall hf hl bi
 have i2:atI [W.int B.wd,.int B.gr,.tup (B.rows.map .tup),.tup B.fd,.tup B.dr] 2=some (.tup (B.rows.map .tup)):=rfl
 have e2:exs (run F (k+2)) (.unp [4,5,6] (.call 174 (.cons (.var 0) (.cons (.var 1) (.cons (.var 2) (.cons (.var 3) .nil)))))) [some B.w,some (iW ls),some (.int f),some .non,none,none,none,none] ⟨h.n,h.n,h.os⟩=.ok (.nx [some B.w,some (iW ls),some (.int f),some .non,some (iW (B.col f:: (B.fall ls f).cs)),some (iW (B.fall ls f).ts),some (iW (B.fall ls f).ls),none]) ⟨h.n,h.n,h.os⟩:=by
  simp only[exs,ev,vbw,va2,vbg,ofsome,bindok,e1,wayW,tgW,seqW,zaz,vbz,vbm,vaw]
 have e3:ev (run F (k+2)) (.cmp .gt (.bi .len (.cons (.var 4) .nil)) (.bi .len (.cons (.idx (.var 0) (.cst (.int (2)))) .nil))) [some B.w,some (iW ls),some (.int f),some .non,some (iW (B.col f:: (B.fall ls f).cs)),some (iW (B.fall ls f).ts),some (iW (B.fall ls f).ls),none] ⟨h.n,h.n,h.os⟩=.ok (.bl (!(B.fall ls f).st)) ⟨h.n,h.n,h.os⟩:=by
  have:decide ((B.rows.length:Int)< ((B.fall ls f).cs.length:Int)+1)=!(B.fall ls f).st:=by
   cases z:(B.fall ls f).st with
   |true=>have:=q.c5 z;exact vay (by omega)
   |false=>have:=q.c3 z;exact va1 (by omega)
  unfold Bd.w iW
  simp[ev,biW,lenW,seqW,idxW,i2,cmpW,cmpI,this]
 have el:=ztt (cs:=(B.fall ls f).cs) (c:=B.col f)
 show fin h (exs (run F (k+2)) (.seq (.unp [4,5,6] (.call 174 (.cons (.var 0) (.cons (.var 1) (.cons (.var 2) (.cons (.var 3) .nil)))))) _) [some B.w,some (iW ls),some (.int f),some .non,none,none,none,none] ⟨h.n,h.n,h.os⟩)=_
 rw[zaa e2]
 have e4:ev (run F (k+2)) (.idx (.var 4) (.neg (.cst (.int (1))))) [some B.w,some (iW ls),some (.int f),some .non,some (iW (B.col f:: (B.fall ls f).cs)),some (iW (B.fall ls f).ts),some (iW (B.fall ls f).ls),none] ⟨h.n,h.n,h.os⟩=.ok (.int (lastC (B.col f) (B.fall ls f).cs)) ⟨h.n,h.n,h.os⟩:=by
  unfold iW
  simp only[ev,vbw,va2,vbg,ofsome,bindok,idxW,el]
 have e5:exs (run F (k+2)) (.set 7 (.ite (.cmp .gt (.bi .len (.cons (.var 4) .nil)) (.bi .len (.cons (.idx (.var 0) (.cst (.int (2)))) .nil))) (.idx (.var 4) (.neg (.cst (.int (1))))) (.cst .non))) [some B.w,some (iW ls),some (.int f),some .non,some (iW (B.col f:: (B.fall ls f).cs)),some (iW (B.fall ls f).ts),some (iW (B.fall ls f).ls),none] ⟨h.n,h.n,h.os⟩=.ok (.nx [some B.w,some (iW ls),some (.int f),some .non,some (iW (B.col f:: (B.fall ls f).cs)),some (iW (B.fall ls f).ts),some (iW (B.fall ls f).ls),some (downW B ls f)]) ⟨h.n,h.n,h.os⟩:=by
  unfold downW
  rw[exs,ev,e3]
  cases z:(B.fall ls f).st with
  |true=>rfl
  |false=>simp only[ver,bindok,e4];rfl
 rw[zaa e5]
 simp only[exs]
 rw[tup2 (x:=downW B ls f) (y:=iW (B.fall ls f).ls) rfl rfl]
 refine zal (vad _) ?_
 unfold downW
 split<;>simp[iW_lt]
end
noncomputable abbrev Stn:=List Int×Option Nat
noncomputable def stW(s:Stn):W:=.tup [iW s.1,optW s.2]
noncomputable def dkS(s:Stn):DK:=(s.1,s.2.map λ(f:Nat)=>(f:Int))
theorem zf3:∀ls:List Int,mapO intD (ls.map .int)=some ls
 |[]=>rfl
 |x::ls=>by
  have h:=zf3 ls
  rw[van]
  unfold mapO
  simp only[intD,h]
theorem zf4(s:Stn):keyD (stW s)=some (dkS s):=by
 obtain⟨ls,fo⟩:=s
 cases fo with
 |none=>simp[stW,iW,optW,keyD,zf3,dkS]
 |some f=>simp[stW,iW,optW,keyD,zf3,dkS]
theorem ztz{s t:Stn}(h:dkS s=dkS t):s=t:=by
 obtain⟨ls,fo⟩:=s
 obtain⟨ms,go⟩:=t
 unfold dkS at h
 have h1:=vdr Prod.fst h
 have h2:=vdr Prod.snd h
 simp only at h1 h2
 subst h1
 cases fo<;>cases go<;>simp at h2 ⊢
 omega
theorem zny{n:Nat}{s:Stn}:W.lt n (stW s)=true:=by
 unfold stW
 simp[iW_lt,znw]
noncomputable def GoodS(B:Bd)(s:Stn):Prop:=(s.1.length:Int)=B.gr/\Bits s.1/\∀f,s.2=some f->f<B.fd.length
noncomputable def nextS(B:Bd)(s:Stn):Option Stn:=match s.2 with
 |none=>none
 |some f=>some ((B.fall s.1 f).ls,callO B s.1 f)
theorem znz{B:Bd}{s t:Stn}(b:B.Ok)(h:GoodS B s)(e:nextS B s=some t):GoodS B t:=by
 obtain⟨ls,fo⟩:=s
 obtain⟨hl,bi,hf⟩:=h
 cases fo with
 |none=>cases e
 |some f=>
  cases e
  have hf:=hf f rfl
  have q:=b.fall hf hl bi
  exact⟨by rw[q.l1];exact hl,q.l2,(zcr b hf hl bi).2⟩
noncomputable def posS(s:Stn):Nat->List Stn->Option Nat
 |_,[]=>none
 |i,x::xs=>if x=s then some i else posS s (i+1) xs
theorem zj0{s:Stn}:∀{xs:List Stn} {i:Nat},posS s i xs=none->s∉xs
 |[],_,_=>λh=>nomatch h
 |x::xs,i,e=>by
  unfold posS at e
  split at e
  .cases e
  .rename_i hx
   intro h
   rcases vau.mp h with rfl|h
   .exact hx rfl
   .exact zj0 e h
theorem zav(a:Int)(n:Nat):zam a (n+1)=.int a::zam (a+1) n:=rfl
theorem zf5{s:Stn}:∀(xs:List Stn) (i:Nat),lookD (xs.map stW) (zam (i:Int) xs.length) (dkS s)=(posS s i xs).map λ(n:Nat)=>.int (n:Int)
 |[],i=>by unfold lookD posS;rfl
 |x::xs,i=>by
  rw[van,vaj,zav]
  unfold lookD posS
  rw[zf4]
  by_cases e:x=s
  .rw[if_pos (by rw[e]),if_pos e];rfl
  .rw[if_neg (λz=>e (ztz (vbl z))),if_neg e]
   have:=zf5 (s:=s) xs (i+1)
   rw[show((i:Int)+1)=((i+1:Nat):Int) by omega]
   exact this
theorem ze7:∀(n:Nat) (a:Int),zam a n++[.int (a+n)]=zam a (n+1)
 |0,a=>by show [W.int (a+0)]=[W.int a];rw[Int.add_zero]
 |n+1,a=>by
  rw[zav,zav a (n+1),vc1]
  have:=ze7 n (a+1)
  rw[show a+ ((n+1:Nat):Int)=a+1+ (n:Int) by omega,this]
noncomputable def everP(B:Bd):Nat->List Stn->Option Stn->List Stn×Option Nat
 |0,seen,_=>(seen,none)
 |_+1,seen,none=>(seen,none)
 |n+1,seen,some s=>match posS s 0 seen with
  |some i=>(seen,some i)
  |none=>everP B n (seen++[s]) (nextS B s)
theorem zin{α:Type}[DecidableEq α]:∀{l m:List α},l.Nodup->(∀x∈l,x∈m)->l.length<=m.length
 |[],m,_,_=>vbb _
 |x::l,m,nd,h=>by
  have hx:=h x vai
  obtain⟨h1,h2⟩:=vcx.mp nd
  have:=zin (m:=m.erase x) h2 λy hy=>(List.mem_erase_of_ne (show y≠x from λz=>h1 (z▸hy))).mpr (h y (vag _ hy))
  rw[List.length_erase_of_mem hx]at this
  have:0<m.length:=List.length_pos_of_mem hx
  rw[vaj];omega
noncomputable def zcd:Nat->List (List Int)
 |0=>[[]]
 |n+1=>(zcd n).map (0 :: ·)++(zcd n).map (1 :: ·)
theorem zd9:∀n,(zcd n).length=2 ^ n
 |0=>rfl
 |n+1=>by
  unfold zcd
  rw[vax,vaf,vaf,zd9 n,vfk];omega
theorem zea:∀{ls:List Int},Bits ls->ls∈zcd ls.length
 |[],_=>vce.mpr rfl
 |x::ls,b=>by
  have:=zea (ls:=ls) λy hy=>b y (vag _ hy)
  rw[vaj]
  unfold zcd
  rcases b x vai with rfl|rfl
  .exact vda _ (va3.mpr ⟨ls,this,rfl⟩)
  .exact va9 _ (va3.mpr ⟨ls,this,rfl⟩)
noncomputable def zeb(fs:List (Option Nat)):List (List Int)->List Stn
 |[]=>[]
 |l::ls=>fs.map (λf=>(l,f))++zeb fs ls
theorem ze8(fs:List (Option Nat)):∀ls,(zeb fs ls).length=ls.length*fs.length
 |[]=>by simp[zeb]
 |l::ls=>by
  unfold zeb
  rw[vax,vaf,ze8 fs ls,vaj,Nat.add_mul];omega
theorem ze9{fs:List (Option Nat)}{f:Option Nat}(hf:f∈fs){l:List Int}:∀{ls},l∈ls->(l,f)∈zeb fs ls
 |x::ls,h=>by
  unfold zeb
  rcases vau.mp h with rfl|h
  .exact vda _ (va3.mpr ⟨f,hf,rfl⟩)
  .exact va9 _ (ze9 hf h)
theorem few{B:Bd}(b:B.Ok){xs:List Stn}(nd:xs.Nodup)(g:∀s∈xs,GoodS B s):xs.length<=1280:=by
 have h:=zin (m:=zeb [none,some 0,some 1,some 2,some 3] (zcd B.gr.toNat)) nd λs hs=>by
  obtain⟨hl,bi,hf⟩:=g s hs
  obtain⟨ls,fo⟩:=s
  have e:B.gr.toNat=ls.length:=by simp only at hl;omega
  refine ze9 ?_ (by rw[e];exact zea bi)
  cases fo with
  |none=>simp
  |some f=>
   have:=hf f rfl
   have:=b.f2
   have:f=0\/f=1\/f=2\/f=3:=by omega
   rcases this with rfl|rfl|rfl|rfl<;>simp
 rw[ze8,zd9]at h
 have h8:B.gr.toNat<=8:=by have:=b.g2;omega
 have:2 ^ B.gr.toNat<=2 ^ 8:=vd5 (by decide) h8
 have e5:([none,some 0,some 1,some 2,some 3]:List (Option Nat)).length=5:=rfl
 rw[e5]at h
 omega
structure CoreE(F:Nat->Option Fn):Prop extends CoreY0 F where
 f17:F 17=some fn17
 f27:F 27=some fn27
 f29:F 29=some fn29
 f176:F 176=some fn176
 f182:F 182=some fn182
 f184:F 184=some fn184
section
variable{F:Nat->Option Fn}(C:CoreE F)
include C
theorem zg7{k:Nat}{h:VH}{B:Bd}{ls:List Int}{f:Nat}(b:B.Ok)(hf:f<B.fd.length)(hl:(ls.length:Int)=B.gr)(bi:Bits ls):run F (k+4) 176 [B.w,iW ls,.int f,.non] h=.ok (.tup [outD B ls f,iW (B.fall ls f).ls]) h:=by
 rw[zao C.f176 rfl]
 have e1:=zk5 C.toCoreY0 (k:=k) (h:=⟨h.n,h.n,h.os⟩) b hf hl bi
 have q:=b.fall hf hl bi
 obtain⟨a1,a2⟩:=b.door q.c4.1 q.c4.2
 have e2:exs (run F (k+3)) (.unp [4,5] (.call 175 (.cons (.var 0) (.cons (.var 1) (.cons (.var 2) (.cons (.var 3) .nil)))))) [some B.w,some (iW ls),some (.int f),some .non,none,none,none] ⟨h.n,h.n,h.os⟩=.ok (.nx [some B.w,some (iW ls),some (.int f),some .non,some (downW B ls f),some (iW (B.fall ls f).ls),none]) ⟨h.n,h.n,h.os⟩:=by
  simp only[exs,ev,vbw,va2,vbg,ofsome,bindok,e1,tgW,seqW,zaz,vbz,vbm,vaw]
 have i4:idxW ⟨h.n,h.n,h.os⟩ B.w (.int 4)=some (.tup B.dr):=rfl
 have e3:ev (run F (k+3)) (.ite (.cmp .isn (.var 4) (.cst .non)) (.cst (.tup [.non,.non])) (.idx (.idx (.var 0) (.cst (.int (4)))) (.var 4))) [some B.w,some (iW ls),some (.int f),some .non,some (downW B ls f),some (iW (B.fall ls f).ls),none] ⟨h.n,h.n,h.os⟩=.ok (outD B ls f) ⟨h.n,h.n,h.os⟩:=by
  unfold downW outD
  cases z:(B.fall ls f).st with
  |true=>simp[ev,cmpW,isNon]
  |false=>
   have i5:idxW ⟨h.n,h.n,h.os⟩ (.tup B.dr) (.int (lastC (B.col f) (B.fall ls f).cs))=some (B.door (lastC (B.col f) (B.fall ls f).cs)):=a1
   simp[ev,cmpW,isNon,i4,i5]
 show fin h (exs (run F (k+3)) fn176.body [some B.w,some (iW ls),some (.int f),some .non,none,none,none] ⟨h.n,h.n,h.os⟩)=_
 have eb:exs (run F (k+3)) fn176.body [some B.w,some (iW ls),some (.int f),some .non,none,none,none] ⟨h.n,h.n,h.os⟩=.ok (.rt (.tup [outD B ls f,iW (B.fall ls f).ls])) ⟨h.n,h.n,h.os⟩:=by
  refine(zaa e2).trans ?_
  refine(zaa (setE e3)).trans ?_
  exact zak (retE (tup2E (varE rfl) (varE rfl)))
 rw[eb]
 refine zal (vad _) ?_
 obtain⟨oe,_⟩:=zcr b hf hl bi
 rw[oe]
 simp[iW_lt,znw,ztu b hf hl bi]
noncomputable def nextW(B:Bd)(s:Stn):W:=match nextS B s with
 |none=>.non
 |some t=>stW t
omit C in
theorem zqb{B:Bd}{s:Stn}{n:Nat}:W.lt n (nextW B s)=true:=by
 unfold nextW
 split
 .simp
 .exact zny
theorem zg8{k:Nat}{h:VH}{B:Bd}{s:Stn}(b:B.Ok)(g:GoodS B s):run F (k+5) 182 [B.w,stW s] h=.ok (nextW B s) h:=by
 rw[zao C.f182 rfl]
 obtain⟨ls,fo⟩:=s
 obtain⟨hl,bi,hf⟩:=g
 have e1:exs (run F (k+4)) (.unp [2,3] (.var 1)) [some B.w,some (stW (ls,fo)),none,none,none,none] ⟨h.n,h.n,h.os⟩=.ok (.nx [some B.w,some (stW (ls,fo)),some (iW ls),some (optW fo),none,none]) ⟨h.n,h.n,h.os⟩:=by
  simp only[stW,exs,ev,vbw,va2,vbg,ofsome,bindok,tgW,seqW,zaz,vbz,vbm,vaw]
 show fin h (exs (run F (k+4)) fn182.body [some B.w,some (stW (ls,fo)),none,none,none,none] ⟨h.n,h.n,h.os⟩)=_
 have eb:exs (run F (k+4)) fn182.body [some B.w,some (stW (ls,fo)),none,none,none,none] ⟨h.n,h.n,h.os⟩=.ok (.rt (nextW B (ls,fo))) ⟨h.n,h.n,h.os⟩:=by
  refine(zaa e1).trans ?_
  cases fo with
  |none=>
   refine zak ?_
   rw[iteT (h1:=⟨h.n,h.n,h.os⟩) (by simp[ev,cmpW,isNon,optW])]
   exact zak (retE (by simp[ev,nextW,nextS]))
  |some f=>
   have hf:=hf f rfl
   obtain⟨oe,og⟩:=zcr b hf hl bi
   have e2:=zg7 C (k:=k) (h:=⟨h.n,h.n,h.os⟩) b hf hl bi
   refine(zaa (ρ':=[some B.w,some (stW (ls,some f)),some (iW ls),some (optW (some f)),none,none]) (h':=⟨h.n,h.n,h.os⟩) ?_).trans ?_
   .rw[iteF (h1:=⟨h.n,h.n,h.os⟩) (by simp[ev,cmpW,isNon,optW])];rfl
   have e3:exs (run F (k+4)) (.unp [4,5] (.call 176 (.cons (.var 0) (.cons (.var 2) (.cons (.var 3) (.cons (.cst .non) .nil)))))) [some B.w,some (stW (ls,some f)),some (iW ls),some (optW (some f)),none,none] ⟨h.n,h.n,h.os⟩=.ok (.nx [some B.w,some (stW (ls,some f)),some (iW ls),some (optW (some f)),some (outD B ls f),some (iW (B.fall ls f).ls)]) ⟨h.n,h.n,h.os⟩:=by
    have e2':run F (k+4) 176 [B.w,iW ls,optW (some f),.non] ⟨h.n,h.n,h.os⟩=.ok (.tup [outD B ls f,iW (B.fall ls f).ls]) ⟨h.n,h.n,h.os⟩:=e2
    simp only[exs,ev,vbw,va2,vbg,ofsome,bindok,e2',tgW,seqW,zaz,vbz,vbm,vaw]
   refine(zaa e3).trans (zak (retE ?_))
   have e4:ev (run F (k+4)) (.idx (.var 4) (.cst (.int (1)))) [some B.w,some (stW (ls,some f)),some (iW ls),some (optW (some f)),some (outD B ls f),some (iW (B.fall ls f).ls)] ⟨h.n,h.n,h.os⟩=.ok (optW (callO B ls f)) ⟨h.n,h.n,h.os⟩:=by
    refine idxE (varE rfl) rfl ?_
    rw[oe];rfl
   exact tup2E (varE rfl) e4
 rw[eb]
 exact zal (vad _) zqb
end
section
variable{F:Nat->Option Fn}(C:CoreE F)(B':CoreB F)
include C B'
theorem zb6{k:Nat}{h:VH}{B:Bd}{s:Stn}(b:B.Ok)(g:GoodS B s):run F (k+9) 29 [B.w,stW s] h=.ok .non h:=by
 obtain⟨ls,fo⟩:=s
 obtain⟨hl,bi,hf⟩:=g
 have hg:=b.g2
 have w0:∀h:VH,run F (k+7) 17 [iW ls,.int B.gr] h=.ok (.bl true) h:=by
  intro h
  rw[zao C.f17 rfl]
  have e:=zbb B'.toCoreA (k:=k+3) (h:=⟨h.n,h.n,h.os⟩) (w:=iW ls) (a:=B.gr) (b:=B.gr) (lo:=0) (hi:=1) (by unfold Kn iW;simp) (λws e=>by
   cases e
   refine⟨by rw[vaf];simp only at hl;omega,λx hx=>?_⟩
   obtain⟨y,_,rfl⟩:=va3.mp hx
   unfold Kn;simp)
  rw[znt hl bi]at e
  simp[fn17,exs,ev,e,zal]
 have wf:∀h:VH,run F (k+7) 12 [optW fo,.int B.fd.length] h=.ok (.bl true) h:=by
  intro h
  rw[zbd B' (k:=k+4) (w:=optW fo) (n:=B.fd.length) (by cases fo<;> (unfold Kn optW;simp))]
  have:fon (optW fo) B.fd.length=true:=by
   cases fo with
   |none=>rfl
   |some f=>
    have:=hf f rfl
    simp only[optW,fon,isNon,within,Bool.false_or,vab,vav]
    omega
  rw[this]
 have w1:∀h:VH,run F (k+8) 27 [B.w,.tup [iW ls,optW fo]] h=.ok (.bl true) h:=by
  intro h
  rw[zao C.f27 rfl]
  have e:=zfz B' (k:=k) (h:=⟨h.n,h.n,h.os⟩) b
  have e6:=zar B'.toCoreA (k:=k+6) (h:=⟨h.n,h.n,h.os⟩) (w:=.tup [iW ls,optW fo]) (lo:=2) (hi:=2) (by unfold Kn;simp)
  have t6:zaw (.tup [iW ls,optW fo]) 2 2=true:=rfl
  rw[t6]at e6
  have i1:idxW ⟨h.n,h.n,h.os⟩ B.w (.int 1)=some (.int B.gr):=rfl
  have i3:idxW ⟨h.n,h.n,h.os⟩ B.w (.int 3)=some (.tup B.fd):=rfl
  have eb:exs (run F (k+7)) fn27.body [some B.w,some (.tup [iW ls,optW fo]),none,none] ⟨h.n,h.n,h.os⟩=.ok (.rt (.bl true)) ⟨h.n,h.n,h.os⟩:=by
   refine(zaa (ρ':=[some B.w,some (.tup [iW ls,optW fo]),none,none]) (h':=⟨h.n,h.n,h.os⟩) (by simp[exs,ev,e])).trans ?_
   refine(zaa (ρ':=[some B.w,some (.tup [iW ls,optW fo]),none,none]) (h':=⟨h.n,h.n,h.os⟩) (by simp[exs,ev,e6])).trans ?_
   refine(zaa (ρ':=[some B.w,some (.tup [iW ls,optW fo]),some (iW ls),some (optW fo)]) (h':=⟨h.n,h.n,h.os⟩) (by simp[exs,ev,tgW,seqW,zaz])).trans ?_
   refine zak (retE ?_)
   rw[ev,zbn (varE rfl) (idxE (varE rfl) rfl i1) (w0 _),bindok]
   exact zbn (varE rfl) (lenE (idxE (varE rfl) rfl i3) rfl) (wf _)
  show fin h (exs (run F (k+7)) fn27.body [some B.w,some (.tup [iW ls,optW fo]),none,none] ⟨h.n,h.n,h.os⟩)=_
  rw[eb]
  exact zal (vad _) (by simp)
 rw[zao C.f29 rfl]
 have w2:run F (k+8) 27 [B.w,stW (ls,fo)] ⟨h.n,h.n,h.os⟩=.ok (.bl true) ⟨h.n,h.n,h.os⟩:=w1 _
 simp[fn29,exs,ev,w2,zrk]
end
noncomputable def stD(h:VH)(xs:List Stn):VH:=⟨h.n+1,h.n,.dt (xs.map stW) (zam 0 xs.length)::h.os⟩
theorem zec{h:VH}{xs:List Stn}:(stD h xs).get h.n=some (.dt (xs.map stW) (zam 0 xs.length)):=zai (h:=h)
theorem zt0{h:VH}{xs:List Stn}{s:Stn}:(stD h xs).set h.n (.dt (xs.map stW++[stW s]) (zam 0 xs.length++[.int xs.length]))=stD h (xs++[s]):=by
 have e:=ze7 xs.length 0
 rw[Int.zero_add]at e
 unfold VH.set stD
 simp only[znr (vad h.n),vbv,van,vdj,vax,vaj,veb,e]
 have:h.n+1-1-h.n=0:=by omega
 rw[this];rfl
noncomputable def optS:Option Stn->W
 |none=>.non
 |some s=>stW s
theorem zn0{B:Bd}{s:Stn}:nextW B s=optS (nextS B s):=by
 unfold nextW optS
 cases nextS B s<;>rfl
noncomputable def backW:Option Nat->W
 |none=>.non
 |some i=>.int (i:Int)
theorem in_st{h:VH}{a:Nat}{xs:List Stn}{s:Stn}(g:h.get a=some (.dt (xs.map stW) (zam 0 xs.length))):inD h (stW s) (.ref a)=some (posS s 0 xs).isSome:=by
 have:lookD (xs.map stW) (zam 0 xs.length) (dkS s)=_:=zf5 (s:=s) xs 0
 simp only[inD,g,zf4,this]
 cases posS s 0 xs<;>rfl
theorem zyd{h:VH}{a:Nat}{xs:List Stn}{s:Stn}{i:Nat}(g:h.get a=some (.dt (xs.map stW) (zam 0 xs.length)))(e:posS s 0 xs=some i):idxW h (.ref a) (stW s)=some (.int (i:Int)):=by
 have:lookD (xs.map stW) (zam 0 xs.length) (dkS s)=_:=zf5 (s:=s) xs 0
 show idxD h a (stW s)=_
 simp only[idxD,g,zf4,this,e];rfl
theorem zt1{cl:Call}{ρ:En}{h:VH}{i a:Nat}{xs:List Stn}(hρ:ρ[i]?=some (some (.ref a)))(g:h.get a=some (.dt (xs.map stW) (zam 0 xs.length))):ev cl (.bi .len (.cons (.var i) .nil)) ρ h=.ok (.int xs.length) h:=by
 have e:seqW h (.ref a)=none:=by simp[seqW,g]
 have hv:ev cl (.cons (.var i) .nil) ρ h=.ok (.tup [.ref a]) h:=by
  rw[ev,varE hρ,bindok,ev];rfl
 rw[ev,hv,bindok]
 show lenW [.ref a] h=_
 simp only[lenW,e,keysD,g,vaw,ofsome,vaf]
theorem zt2{cl:Call}{ρ:En}{h:VH}{i a:Nat}{xs:List Stn}(hρ:ρ[i]?=some (some (.ref a)))(g:h.get a=some (.dt (xs.map stW) (zam 0 xs.length))):ev cl (.bi .tuple (.cons (.var i) .nil)) ρ h=.ok (.tup (xs.map stW)) h:=by
 have e:seqW h (.ref a)=none:=by simp[seqW,g]
 have hv:ev cl (.cons (.var i) .nil) ρ h=.ok (.tup [.ref a]) h:=by
  rw[ev,varE hρ,bindok,ev];rfl
 rw[ev,hv,bindok]
 show zb3 [.ref a] h=_
 simp only[zb3,e,keysD,g,vaw,ofsome]
theorem putE{cl:Call}{o i v:E}{ρ:En}{h h1 h2 h3:VH}{a:Nat}{w:W}{xs:List Stn}{s:Stn}(ev1:ev cl v ρ h=.ok w h1)(ev2:ev cl o ρ h1=.ok (.ref a) h2)(ev3:ev cl i ρ h2=.ok (stW s) h3)(g:h3.get a=some (.dt (xs.map stW) (zam 0 xs.length)))(hn:posS s 0 xs=none)(hl:xs.length<=100000) :
 exs cl (.put o i v) ρ h=.ok (.nx ρ) (h3.set a (.dt (xs.map stW++[stW s]) (zam 0 xs.length++[w]))):=by
 have:lookD (xs.map stW) (zam 0 xs.length) (dkS s)=_:=zf5 (s:=s) xs 0
 rw[hn]at this
 rw[exs,ev1,bindok,ev2,bindok,ev3,bindok]
 show putD ρ a (stW s) w h3=_
 have hb:Nat.blt (xs.map stW).length big=true:=zih (by rw[vaf];omega)
 simp only[putD,g,zf4,this,hb]
 rfl
theorem zrp{s:Stn}:isNon (stW s)=false:=rfl
section
variable{F:Nat->Option Fn}(C:CoreE F)
include C
theorem zg9{k:Nat}{h:VH}{B:Bd}{s0:W}(b:B.Ok):∀(n fu:Nat) (xs:List Stn) (c:Option Stn) (x:Option W),n<fu->1281<=n+xs.length->xs.Nodup->(∀s∈xs,GoodS B s)->(∀s,c=some s->GoodS B s)->
 ∃c',whlG (ev (run F (k+5)) zbi) (exs (run F (k+5)) zbz) fu [some B.w,some s0,some (.ref h.n),some (optS c),x] (stD h xs)=.ok (.nx [some B.w,some s0,some (.ref h.n),some (optS c'),x]) (stD h (everP B n xs c).1)/\
  ((c'=none/\(everP B n xs c).2=none)\/∃s i,c'=some s/\(everP B n xs c).2=some i/\posS s 0 (everP B n xs c).1=some i)
 |n,0,xs,c,x,hn,_,_,_,_=>by omega
 |0,fu+1,xs,c,x,_,hN,nd,g,_=>by have:=few b nd g;omega
 |n+1,fu+1,xs,none,x,hn,hN,nd,g,gc=>by
  refine⟨none,?_,.inl ⟨rfl,rfl⟩⟩
  have ec:ev (run F (k+5)) zbi [some B.w,some s0,some (.ref h.n),some (optS none),x] (stD h xs)=.ok (.bl false) (stD h xs):=by
   simp[zbi,ev,cmpW,isNon,optS]
  rw[whlG,ec,bindok];rfl
 |n+1,fu+1,xs,some s,x,hn,hN,nd,g,gc=>by
  have hin:=in_st (s:=s) (zec (h:=h) (xs:=xs))
  have ec:ev (run F (k+5)) zbi [some B.w,some s0,some (.ref h.n),some (optS (some s)),x] (stD h xs)=.ok (.bl (!(posS s 0 xs).isSome)) (stD h xs):=by
   unfold zbi
   rw[ev]
   have e1:ev (run F (k+5)) (.cmp .notn (.var 3) (.cst .non)) [some B.w,some s0,some (.ref h.n),some (optS (some s)),x] (stD h xs)=.ok (.bl true) (stD h xs):=by
    simp[ev,cmpW,zd7,optS,zrp]
   rw[e1,bindok]
   show ev (run F (k+5)) (.cmp .nin (.var 3) (.var 2)) _ _=_
   simp[ev,cmpW,optS,hin]
  cases hp:posS s 0 xs with
  |some i=>
   refine⟨some s,?_,.inr ⟨s,i,rfl,by simp only[everP,hp],by simp only[everP,hp]⟩⟩
   rw[hp]at ec
   rw[whlG,ec,bindok]
   simp only[everP,hp];rfl
  |none=>
   rw[hp]at ec
   have hfew:=few b nd g
   have gs:=gc s rfl
   obtain⟨c',ih,hc'⟩:=zg9 (k:=k) (h:=h) (s0:=s0) b n fu (xs++[s]) (nextS B s) x (by omega) (by rw[vax,vco];omega)
    (by
      rw[List.nodup_append]
      exact⟨nd,by simp,λa ha b hb=>by rw[vce.mp hb];exact λz=>zj0 hp (z▸ha)⟩)
    (λt ht=>by
      rcases vdd.mp ht with ht|ht
      .exact g t ht
      .rw[vce.mp ht];exact gs) (λt ht=>znz b gs ht)
   have e1:=putE (cl:=run F (k+5)) (o:=.var 2) (i:=.var 3) (v:=.bi .len (.cons (.var 2) .nil)) (ρ:=[some B.w,some s0,some (.ref h.n),some (optS (some s)),x]) (h:=stD h xs) (a:=h.n) (xs:=xs) (s:=s) (zt1 rfl zec) (varE rfl) (varE rfl) zec hp (by omega)
   rw[zt0]at e1
   have e2:=zg8 C (k:=k) (h:=stD h (xs++[s])) b gs
   rw[zn0]at e2
   have eb:exs (run F (k+5)) zbz [some B.w,some s0,some (.ref h.n),some (optS (some s)),x] (stD h xs)=.ok (.nx [some B.w,some s0,some (.ref h.n),some (optS (nextS B s)),x]) (stD h (xs++[s])):=by
    unfold zbz
    refine(zaa e1).trans ?_
    refine(zaa (setE (zbn (varE rfl) (varE rfl) e2))).trans ?_
    rfl
   refine⟨c',?_,?_⟩
   .rw[whlG,ec,bindok]
    show Res.bind (exs (run F (k+5)) zbz _ _) _=_
    rw[eb,bindok]
    show whlG _ _ fu _ _=_
    rw[ih]
    simp only[everP,hp]
   .simp only[everP,hp];exact hc'
end
section
variable{F:Nat->Option Fn}(C:CoreE F)(B':CoreB F)
include C B'
theorem zqc{k:Nat}{h:VH}{B:Bd}{s:Stn}(b:B.Ok)(g:GoodS B s):run F (k+10) 184 [B.w,stW s] h=.ok (.tup [.tup ((everP B 1281 [] (some s)).1.map stW),backW (everP B 1281 [] (some s)).2]) h:=by
 rw[zao C.f184 rfl]
 have e0:=zb6 C B' (k:=k) (h:=⟨h.n,h.n,h.os⟩) b g
 obtain⟨c',el,hc'⟩:=zg9 C (k:=k+4) (h:=h) (s0:=stW s) b 1281 fuel [] (some s) none (by decide) (by decide) vfc (λ_ h=>nomatch h) (λt ht=>by cases ht;exact g)
 generalize everP B 1281 [] (some s)=E at el hc' ⊢
 have e1:exs (run F (k+9)) (.set 2 (.dsp .nil)) [some B.w,some (stW s),none,none,none] ⟨h.n,h.n,h.os⟩=.ok (.nx [some B.w,some (stW s),some (.ref h.n),none,none]) (stD h []):=by
  simp only[exs,ev,bindok,zi6]
  rw[if_pos (by decide)]
  rfl
 have e4:ev (run F (k+9)) (.ite (.cmp .isn (.var 3) (.cst .non)) (.cst .non) (.idx (.var 2) (.var 3))) [some B.w,some (stW s),some (.ref h.n),some (optS c'),none] (stD h E.1)=.ok (backW E.2) (stD h E.1):=by
  rcases hc' with⟨rfl,e⟩|⟨t,i,rfl,e,ep⟩
  .rw[e];simp[ev,cmpW,isNon,optS,backW]
  .rw[e,ev]
   have:ev (run F (k+9)) (.cmp .isn (.var 3) (.cst .non)) [some B.w,some (stW s),some (.ref h.n),some (optS (some t)),none] (stD h E.1)=.ok (.bl false) (stD h E.1):=by
    simp[ev,cmpW,zd7,optS,zrp]
   rw[this,bindok]
   exact idxE (varE rfl) (varE rfl) (zyd zec ep)
 show fin h (exs (run F (k+9)) fn184.body [some B.w,some (stW s),none,none,none] ⟨h.n,h.n,h.os⟩)=_
 have eb:exs (run F (k+9)) fn184.body [some B.w,some (stW s),none,none,none] ⟨h.n,h.n,h.os⟩=.ok (.rt (.tup [.tup (E.1.map stW),backW E.2])) (stD h E.1):=by
  refine(zaa (exprE (zbn (varE rfl) (varE rfl) e0))).trans ?_
  refine(zaa e1).trans ?_
  refine(zaa (setE (varE rfl))).trans ?_
  refine(zaa (show exs (run F (k+9)) (.whl zbi zbz) _ _=_ from el)).trans ?_
  refine(zaa (setE e4)).trans ?_
  exact zak (retE (tup2E (zt2 rfl zec) (varE rfl)))
 rw[eb]
 refine zal (vad _) ?_
 have h1:W.lts h.n (E.1.map stW)=true:=zrn λw hw=>by
  obtain⟨t,_,rfl⟩:=va3.mp hw
  exact zny
 have h2:W.lt h.n (backW E.2)=true:=by cases E.2<;>simp[backW]
 simp[h1,h2]
end
noncomputable def nestN:Nat->W->Bool
 |_,.int _=>true
 |_,.non=>true
 |n+1,.tup ws=>Nat.ble ws.length 5000&&ws.all (nestN n)
 |_,_=>false
theorem allE{cl:Call}{a:E}{ρ:En}{h h1:VH}{j:Nat}{n:Nat}(ea:ev cl a ρ h=.ok (.ref j) h1)(g:h1.get j=some (.lst (vgc n (.bl true)))):ev cl (.bi .all (.cons a .nil)) ρ h=.ok (.bl true) h1:=by
 have hm:mapO blW (vgc n (W.bl true))=some (vgc n true):=by
  clear g
  induction n with
  |zero=>rfl
  |succ n ih=>simp only[vbn,mapO,blW,ih]
 have ha:(vgc n true).all id=true:=by
  rw[vb1];intro x hx;exact(vel.mp hx).2
 rw[ev,ev,ea,bindok,ev,bindok,bindok]
 show allW [.ref j] h1=_
 simp only[allW,g,hm,vaw,ha,ofsome]
theorem zn1{cl:Call}{e:E}:∀(ws:List W) (x y:Option W) (h:VH),(∀w∈ws,∀h,ev cl e [some w,some w] h=.ok (.bl true) h)->lcL (tgW (.many [0,1])) (λ_ h=>.ok (.bl true) h) (ev cl e) (zipW ws ws) [x,y] h=.ok (vgc ws.length (.bl true)) h
 |[],x,y,h,_=>rfl
 |a::ws,x,y,h,hs=>by
  have e1:=hs a vai h
  have e2:=zn1 (e:=e) ws (some a) (some a) h λw hw=>hs w (vag _ hw)
  show lcL _ _ _ (.tup [a,a]::zipW ws ws) _ _=_
  simp only[lcL,tgW,seqW,zaz,List.set,bindok,e1,e2];rfl
structure CoreM(F:Nat->Option Fn):Prop where
 f39:F 39=some fn39
 f92:F 92=some fn92
section
variable{F:Nat->Option Fn}(C:CoreM F)
include C
theorem zqd:∀(n:Nat) {k:Nat} {h:VH} {w:W},nestN n w=true->run F (k+n+2) 92 [w,w] h=.ok (.bl true) h:=by
 have hint:∀{k:Nat}{h:VH}{i:Int},run F (k+2) 92 [.int i,.int i] h=.ok (.bl true) h:=by
  intro k h i
  have e1:∀h,run F (k+1) 39 [.int i,.int i] h=.ok (.bl true) h:=by
   intro h
   rw[zao C.f39 rfl]
   simp[fn39,exs,ev,cmpW,zbt,zal]
  rw[zao C.f92 rfl]
  simp[fn92,exs,ev,truW,cmpW,isNon,e1,zal]
 have hnon:∀{k:Nat}{h:VH},run F (k+2) 92 [.non,.non] h=.ok (.bl true) h:=by
  intro k h
  rw[zao C.f92 rfl]
  simp[fn92,exs,ev,truW,cmpW,isNon,zal]
 intro n
 induction n with
 |zero=>
  intro k h w hw
  cases w<;>simp only[nestN]at hw<;>first|exact hint|exact hnon|cases hw
 |succ n ih=>
  intro k h w hw
  cases w<;>simp only[nestN]at hw<;>first|(exact hint (k:=k+n+1))|(exact hnon (k:=k+n+1))|(cases hw;done)|skip
  rename_i ws
  rw[vab]at hw
  have hlen:=vbh hw.1
  have hall:=vb1.mp hw.2
  rw[show k+ (n+1)+2=(k+n+2)+1 by omega,zao C.f92 rfl]
  have hz:(zipW ws ws).length<1000000:=by unfold zipW;rw[List.length_zipWith];omega
  have e1:=zn1 (cl:=run F (k+n+2)) (e:=zil) ws none none ⟨h.n,h.n,h.os⟩ λw hw h=>zbn (varE rfl) (varE rfl) (ih (k:=k) (hall w hw))
  have e2:=ztv (cl:=run F (k+n+2)) (a:=.cons (.var 0) (.cons (.var 1) .nil)) (ρ:=[some (.tup ws),some (.tup ws)]) (h:=⟨h.n,h.n,h.os⟩) (h1:=⟨h.n,h.n,h.os⟩) (ow:=2) (ix:=[]) (e:=zil) (t:=.many [0,1]) rfl hz e1 (by rw[vcn];omega)
  have e3:=allE e2 zai
  have e4:ev (run F (k+n+2)) (.or (.not (.tru (.isi .tuple (.var 0)))) (.cmp .ne (.bi .len (.cons (.var 0) .nil)) (.bi .len (.cons (.var 1) .nil)))) [some (.tup ws),some (.tup ws)] ⟨h.n,h.n,h.os⟩=.ok (.bl false) ⟨h.n,h.n,h.os⟩:=by
   simp[ev,biW,lenW,seqW,cmpW,zbt,truW]
  have e5:ev (run F (k+n+2)) (.tru (.isi .tuple (.var 1))) [some (.tup ws),some (.tup ws)] ⟨h.n,h.n,h.os⟩=.ok (.bl true) ⟨h.n,h.n,h.os⟩:=by
   simp[ev,truW]
  have eb:exs (run F (k+n+2)) fn92.body [some (.tup ws),some (.tup ws)] ⟨h.n,h.n,h.os⟩=.ok (.rt (.bl true)) (VH.new ⟨h.n,h.n,h.os⟩ (.lst (vgc ws.length (.bl true)))):=by
   refine zak ?_
   rw[iteT e5]
   refine(zaa (ρ':=[some (.tup ws),some (.tup ws)]) (h':=⟨h.n,h.n,h.os⟩) ?_).trans (zak (retE e3))
   rw[iteF e4];rfl
  show fin h (exs (run F (k+n+2)) fn92.body [some (.tup ws),some (.tup ws)] ⟨h.n,h.n,h.os⟩)=_
  rw[eb]
  exact zal (vad _) (by simp)
end
noncomputable def Prd(g:Nat->Int)(s:Nat):Prop:=∀j,g (j+s)=g j
noncomputable def nmS(B:Bd)(s:Stn):W:=match s.2 with
 |none=>.non
 |some f=>nameP B s.1 f
theorem zn2{nx:Nat->VH->Option (Option W)}{c e:FE}{h:VH}{ws:List W}{tl:En}{p:W->Bool}{f:W->W}(hx:∀i,nx i h=some ws[i]?)(hc:∀w∈ws,c (some w::tl) h=.ok (.bl (p w)) h)(he:∀w∈ws,e (some w::tl) h=.ok (f w) h) :
 ∀(fu i:Nat)(a:Option W)(acc:List W),i<=ws.length->ws.length<fu+i->lcG nx (tgW (.one 0)) c e fu i (a::tl) h acc=.ok (acc.reverse++((ws.drop i).filter p).map f) h
 |0,i,a,acc,hi,hl=>by omega
 |fu+1,i,a,acc,hi,hl=>by
  cases q:ws[i]? with
  |none=>
   rw[vdq (va6.mp q)]
   simp only[lcG,hx,q];simp
  |some w=>
   obtain⟨hi,ee⟩:=vaq.mp q
   have hm:=vb3 q
   simp only[lcG,hx,q,tgW,vbm,hc w hm,bindok]
   rw[vc8 hi,ee]
   cases z:p w with
   |true=>
    simp only[he w hm,bindok]
    rw[zn2 hx hc he fu (i+1) (some w) (f w::acc) hi (by omega)]
    simp[z]
   |false=>
    rw[zn2 hx hc he fu (i+1) (some w) acc hi (by omega)]
    simp[z]
theorem zk6{m:Nat}(h:m<=5000):fits (m:Int)=true:=by
 unfold fits
 rw[vab,vav,vav]
 omega
theorem zye{s:Stn}:∀{xs:List Stn} {i j:Nat},posS s j xs=some i->j<=i/\i<j+xs.length
 |[],_,_,h=>by cases h
 |x::xs,i,j,h=>by
  unfold posS at h
  split at h
  .cases h;rw[vaj];omega
  .have:=zye h;rw[vaj];omega
theorem zn3{s:Stn}:∀{xs:List Stn} {i j:Nat},posS s j xs=some i->s∈xs
 |[],_,_,h=>by cases h
 |x::xs,i,j,h=>by
  unfold posS at h
  split at h
  .rename_i e;rw[e];exact vai
  .exact vag _ (zn3 h)
noncomputable def rkW(k:Nat):W:=.tup [.int (k:Int),.int 0]
noncomputable def chRow(g b k:Nat):List W:=(List.range ((g+2)*b)).map λc=>if c % (g+2)=1+k then rkW k else .str sDot
noncomputable def zda(g b:Nat)(nm:Int)(es:List Int)(la:Option Nat)(c:Nat):W:=
 if c % (g+2)=g+1 then .tup [.int (es.getD (c/ (g+2)) 0),optW (if c/ (g+2)+1=b then la else some (c/ (g+2)+1))]else .tup [.int nm,.int ((c/ (g+2):Nat):Int)]
noncomputable def chain(g b:Nat)(nm:Int)(es:List Int)(la:Option Nat):Bd:=
 ⟨((g+2)*b:Nat),(g:Int),(List.range' 0 g).map (chRow g b),(List.range b).map λ(i:Nat)=>.int (((g+2)*i+1:Nat):Int),(List.range ((g+2)*b)).map (zda g b nm es la)⟩
theorem ch_at{g b k c:Nat}(hc:c< (g+2)*b):colAt (chRow g b k) (c:Int)=if c % (g+2)=1+k then rkW k else .str sDot:=by
 unfold colAt chRow
 rw[vby,vas,vbd hc]
 rfl
theorem zed{g b c:Nat}{ls:List Int}(hc:c< (g+2)*b):∀(m k:Nat) (hd:Int),(∀j,k<=j->j<k+m->c % (g+2)≠1+j)->fallP ((List.range' k m).map (chRow g b)) (c:Int) hd ls=⟨vgc m (c:Int),[],ls,false⟩
 |0,_,_,_=>rfl
 |m+1,k,hd,h=>by
  rw[List.range'_succ,van]
  unfold fallP
  rw[ch_at hc,if_neg (h k (vad _) (by omega)),zdi]
  have ih:=zed (ls:=ls) hc m (k+1) 0 λj h1 h2=>h j (by omega) (by omega)
  simp only[Int.add_zero,ih,vcc,vbn]
noncomputable def inc:List Int->List Int×Bool
 |[]=>([],true)
 |x::r=>if x=0 then(1::r,false)else(0:: (inc r).1,(inc r).2)
theorem zj1(c:Int):∀m,lastC c (vgc m c)=c
 |0=>rfl
 |m+1=>by rw[vbn];exact zj1 c m
theorem zc2{g i o:Nat}(h:o<g+2):((g+2)*i+o) % (g+2)=o/\((g+2)*i+o)/ (g+2)=i:=by
 constructor
 .rw[vem,vbe h]
 .rw[vd0 (by omega),vc2 h,veu]
theorem zfa{g b i o:Nat}(h:o<g+2)(hi:i<b):(g+2)*i+o< (g+2)*b:=by
 have:(g+2)* (i+1)<=(g+2)*b:=vcj _ hi
 rw[vc9]at this
 omega
theorem zj2{g b i:Nat}(hi:i<b):∀(rest pre:List Int) (hd:Int),pre.length+rest.length=g->Bits rest->
 ∃cs ts o,fallP ((List.range' pre.length rest.length).map (chRow g b)) (((g+2)*i+ (1+pre.length):Nat):Int) hd (pre++rest)=⟨cs,ts,pre++(inc rest).1,false⟩/\lastC (((g+2)*i+ (1+pre.length):Nat):Int) cs=(((g+2)*i+o:Nat):Int)/\o<g+2/\(o=g+1↔(inc rest).2=true)
 |[],pre,hd,hg,_=>⟨[],[],1+pre.length,rfl,rfl,by simp at hg;omega,by simp at hg;simp[inc];omega⟩
 |x::r,pre,hd,hg,hb=>by
  rw[vaj]at hg
  have hk:1+pre.length<g+2:=by omega
  have hc:=zfa hk hi
  have hm:=(zc2 (i:=i) hk).1
  rw[vaj,List.range'_succ,van]
  unfold fallP
  rw[ch_at hc,if_pos hm]
  unfold rkW
  have hget:(pre++x::r).getD pre.length 0=x:=by simp
  have hset:∀y:Int,(pre++x::r).set pre.length y=pre++y::r:=λy=>by simp
  have h01:=hb x vai
  have st:stepP (.tup [.int (pre.length:Int),.int 0]) hd (pre++x::r)=some (if x=0 then -1 else 1,[(pre.length:Int)],pre++(1-x)::r):=by
   rw[show(W.tup [.int (pre.length:Int),.int 0])=.tup [.int (pre.length:Int),.int ((0:Nat):Int)]from rfl,zf1,hget,hset];rfl
  rcases h01 with rfl|rfl
  .have hm2:=(zc2 (g:=g) (i:=i) (o:=pre.length) (by omega)).1
   have sr:=zed (g:=g) (b:=b) (c:=(g+2)*i+pre.length) (ls:=pre++1::r) (zfa (by omega) hi) r.length (pre.length+1) (-1) λj h1 h2=>by omega
   have st':stepP (.tup [.int (pre.length:Int),.int 0]) hd (pre++0::r)=some (-1,[(pre.length:Int)],pre++1::r):=st
   have e:(((g+2)*i+ (1+pre.length):Nat):Int) + -1=(((g+2)*i+pre.length:Nat):Int):=by omega
   rw[st']
   simp only[e,sr]
   refine⟨_,_,pre.length,rfl,?_,by omega,?_⟩
   .exact zj1 _ _
   .simp[inc];omega
  .have e:(((g+2)*i+ (1+pre.length):Nat):Int)+1=(((g+2)*i+ (1+ (pre++[(0:Int)]).length):Nat):Int):=by simp;omega
   obtain⟨cs,ts,o,e1,e2,e3,e4⟩:=zj2 (g:=g) (b:=b) (i:=i) hi r (pre++[(0:Int)]) 1 (by simp;omega) (λy hy=>hb y (vag _ hy))
   rw[vd2,vd2]at e1
   have hl:(pre++[(0:Int)]).length=pre.length+1:=by simp
   have st':stepP (.tup [.int (pre.length:Int),.int 0]) hd (pre++1::r)=some (1,[(pre.length:Int)],pre++([0]++r)):=st
   rw[st',<-hl]
   simp only[e,e1]
   refine⟨_,_,o,rfl,?_,e3,?_⟩
   .exact e2
   .rw[e4];simp[inc]
noncomputable def val:List Int->Nat
 |[]=>0
 |x::r=>x.toNat+2*val r
theorem zb7:∀{ls:List Int},Bits ls->val ls<2 ^ ls.length
 |[],_=>Nat.one_pos
 |x::r,h=>by
  have ih:=zb7 (ls:=r) λy hy=>h y (vag _ hy)
  rw[vaj,vfk]
  rcases h x vai with rfl|rfl<;>simp[val]<;>omega
theorem zn4:∀{ls ms:List Int},Bits ls->Bits ms->ls.length=ms.length->val ls=val ms->ls=ms
 |[],[],_,_,_,_=>rfl
 |[],_::_,_,_,h,_=>by simp at h
 |_::_,[],_,_,h,_=>by simp at h
 |x::r,y::t,h1,h2,hl,hv=>by
  have ih:=λz=>zn4 (ls:=r) (ms:=t) (λy hy=>h1 y (vag _ hy)) (λy hy=>h2 y (vag _ hy)) (by simpa using hl) z
  rcases h1 x vai with rfl|rfl<;>rcases h2 y vai with rfl|rfl<;>simp[val]at hv
  .rw[ih (by omega)]
  .omega
  .omega
  .rw[ih (by omega)]
theorem zj3:∀{ls:List Int},Bits ls->(inc ls).1.length=ls.length/\Bits (inc ls).1/\((inc ls).2=true->val ls+1=2 ^ ls.length/\val (inc ls).1=0)/\((inc ls).2=false->val (inc ls).1=val ls+1)
 |[],_=>⟨rfl,λ_ h=>(nomatch h),λ_=>⟨rfl,rfl⟩,λh=>by cases h⟩
 |x::r,h=>by
  have hr:Bits r:=λy hy=>h y (vag _ hy)
  obtain⟨i1,i2,i3,i4⟩:=zj3 hr
  have hcons:∀{a:Int}{l:List Int},(a=0\/a=1)->Bits l->Bits (a::l):=λha hl y hy=>by
   rcases vau.mp hy with rfl|hy
   .exact ha
   .exact hl y hy
  rcases h x vai with rfl|rfl
  .simp only[inc,va8]
   exact⟨by simp,hcons (.inr rfl) hr,λh=>(nomatch h),λ_=>by simp[val];omega⟩
  .simp only[inc,show ¬((1:Int)=0)from by decide,va7]
   refine⟨by simp[i1],hcons (.inl rfl) i2,λh=>?_,λh=>?_⟩
   .obtain⟨a,b⟩:=i3 h
    rw[vaj,vfk]
    simp[val];omega
   .have:=i4 h
    simp[val];omega
section
variable{g b:Nat}{nm:Int}{es:List Int}{la:Option Nat}
theorem zt3{i:Nat}{ls:List Int}(hi:i<b)(hl:ls.length=g)(hb:Bits ls):((chain g b nm es la).fall ls i).ls=(inc ls).1/\
 outD (chain g b nm es la) ls i=if(inc ls).2 then .tup [.int (es.getD i 0),optW (if i+1=b then la else some (i+1))]else .tup [.int nm,.int (i:Int)]:=by
 obtain⟨cs,ts,o,e1,e2,e3,e4⟩:=zj2 (g:=g) hi ls [] 0 (by simpa using hl) hb
 have hcol:(chain g b nm es la).col i=(((g+2)*i+ (1+ ([]:List Int).length):Nat):Int):=by
  unfold Bd.col chain
  simp only[vas,vbd hi]
  rfl
 have hf:(chain g b nm es la).fall ls i=⟨cs,ts,(inc ls).1,false⟩:=by
  unfold Bd.fall
  rw[hcol]
  rw[hl]at e1
  exact e1
 refine⟨by rw[hf],?_⟩
 unfold outD
 rw[hf,hcol]
 simp only[vak,va7,e2]
 unfold Bd.door chain
 have hc:=zfa (g:=g) e3 hi
 obtain⟨m1,m2⟩:=zc2 (g:=g) (i:=i) e3
 simp only[vby,vas,vbd hc,vaw,vew,zda,m1,m2]
 by_cases z:o=g+1
 .rw[if_pos z,if_pos (e4.mp z)]
 .rw[if_neg z,if_neg (λh=>z (e4.mpr h))]
theorem zio{i:Nat}{ls:List Int}(hi:i<b)(hl:ls.length=g)(hb:Bits ls):nextS (chain g b nm es la) (ls,some i)=some ((inc ls).1,if(inc ls).2 then(if i+1=b then la else some (i+1))else some i)/\
 nmS (chain g b nm es la) (ls,some i)=.int (if(inc ls).2 then es.getD i 0 else nm):=by
 obtain⟨h1,h2⟩:=zt3 (nm:=nm) (es:=es) (la:=la) hi hl hb
 constructor
 .show some (((chain g b nm es la).fall ls i).ls,callO (chain g b nm es la) ls i)=_
  rw[h1]
  unfold callO
  rw[h2]
  cases(inc ls).2
  .simp
  .simp only[va8]
   split
   .rename_i x j q
    injection q with q
    injection q with _ q
    injection q with q _
    revert q
    cases(if i+1=b then la else some (i+1))<;>intro q
    .cases q
    .cases q;simp
   .rename_i q
    revert q
    cases(if i+1=b then la else some (i+1))<;>intro q
    .rfl
    .exact absurd rfl (q _ _)
 .show nameP (chain g b nm es la) ls i=_
  unfold nameP
  rw[h2]
  cases(inc ls).2<;>rfl
noncomputable def fnd(g:Nat)(nm:Int)(es:List Int)(t:Nat):Int:=if t % 2 ^ g+1=2 ^ g then es.getD (t/2 ^ g) 0 else nm
theorem zyf{i:Nat}{ls:List Int}(hi:i<b)(hl:ls.length=g)(hb:Bits ls):nmS (chain g b nm es la) (ls,some i)=.int (fnd g nm es (2 ^ g*i+val ls)):=by
 rw[(zio hi hl hb).2]
 have hv:=zb7 hb
 rw[hl]at hv
 have m1:(2 ^ g*i+val ls) % 2 ^ g=val ls:=by rw[vem,vbe hv]
 have m2:(2 ^ g*i+val ls)/2 ^ g=i:=by rw[vd0 (by omega),vc2 hv,veu]
 obtain⟨i1,i2,i3,i4⟩:=zj3 hb
 unfold fnd
 rw[m1,m2]
 cases z:(inc ls).2
 .have:=i4 z
  have h3:=zb7 i2
  rw[i1,hl,this]at h3
  rw[if_neg (c:=val ls+1=2 ^ g) (vaz h3)];rfl
 .have:=(i3 z).1
  rw[hl]at this
  rw[if_pos this];rfl
noncomputable def orb(B:Bd)(s:Stn):Nat->Stn
 |0=>s
 |j+1=>(nextS B (orb B s j)).getD (orb B s j)
noncomputable def At(g b:Nat)(s:Stn)(t:Nat):Prop:=∃ls i,s=(ls,some i)/\ls.length=g/\Bits ls/\i<b/\2 ^ g*i+val ls=t
theorem At.inj{s s':Stn}{t:Nat}(h:At g b s t)(h':At g b s' t):s=s':=by
 obtain⟨ls,i,rfl,a1,a2,a3,a4⟩:=h
 obtain⟨ms,j,rfl,b1,b2,b3,b4⟩:=h'
 have v1:=zb7 a2
 have v2:=zb7 b2
 rw[a1]at v1
 rw[b1]at v2
 have d1:(2 ^ g*i+val ls)/2 ^ g=i:=by rw[vd0 (by omega),vc2 v1,veu]
 have d2:(2 ^ g*j+val ms)/2 ^ g=j:=by rw[vd0 (by omega),vc2 v2,veu]
 rw[a4]at d1
 rw[b4]at d2
 have e:i=j:=d1.symm.trans d2
 subst e
 rw[zn4 a2 b2 (a1.trans b1.symm) (by omega)]
theorem At.uniq{s:Stn}{t t':Nat}(h:At g b s t)(h':At g b s t'):t=t':=by
 obtain⟨ls,i,rfl,a1,a2,a3,a4⟩:=h
 obtain⟨ms,j,e,b1,b2,b3,b4⟩:=h'
 cases e
 omega
theorem At.next{s:Stn}{t:Nat}(h:At g b s t)(ht:t+1<2 ^ g*b):∃s',nextS (chain g b nm es la) s=some s'/\At g b s' (t+1):=by
 obtain⟨ls,i,rfl,a1,a2,a3,a4⟩:=h
 refine⟨_,(zio a3 a1 a2).1,?_⟩
 obtain⟨i1,i2,i3,i4⟩:=zj3 a2
 cases z:(inc ls).2
 .have:=i4 z
  exact⟨_,i,rfl,i1.trans a1,i2,a3,by omega⟩
 .obtain⟨h1,h2⟩:=i3 z
  rw[a1]at h1
  have hb:i+1≠b:=λe=>by
   have:2 ^ g* (i+1)=2 ^ g*b:=by rw[e]
   rw[vc9]at this
   omega
  refine⟨_,i+1,?_,i1.trans a1,i2,by omega,?_⟩
  .simp[hb]
  .rw[h2,vc9];omega
theorem At.last{s:Stn}{t:Nat}(h:At g b s t)(ht:t+1=2 ^ g*b):∃ls,nextS (chain g b nm es la) s=some (ls,la)/\ls.length=g/\Bits ls/\val ls=0:=by
 obtain⟨ls,i,rfl,a1,a2,a3,a4⟩:=h
 have:=(zio (nm:=nm) (es:=es) (la:=la) a3 a1 a2).1
 obtain⟨i1,i2,i3,i4⟩:=zj3 a2
 have hv:=zb7 a2
 rw[a1]at hv
 have hb:i+1=b:=by
  rcases vet (i+1) b with h|h
  .have:=vcj (2 ^ g) (show i+2<=b from h)
   rw[vc9]at this
   omega
  .omega
 have hz:(inc ls).2=true:=by
  cases z:(inc ls).2
  .have q:=i4 z
   have:=zb7 i2
   rw[i1,a1,q]at this
   rw[<-hb,vc9]at ht
   omega
  .rfl
 rw[hz]at this
 simp only[va8,if_pos hb]at this
 exact⟨_,this,i1.trans a1,i2,(i3 hz).2⟩
theorem At.name{s:Stn}{t:Nat}(h:At g b s t):nmS (chain g b nm es la) s=.int (fnd g nm es t):=by
 obtain⟨ls,i,rfl,a1,a2,a3,a4⟩:=h
 rw[<-a4];exact zyf a3 a1 a2
end
theorem zrq{wd g:Int}:∀{r:List W} {c:Int},(∀j w,r[j]?=some w->zax w (c+ (j:Nat)) wd g=true)->rowOk wd g c r
 |[],_,_=>trivial
 |w::r,c,h=>⟨by have:=h 0 w rfl;rwa [show c+ ((0:Nat):Int)=c by omega]at this,zrq λj w' e=>by have:=h (j+1) w' e;rwa [show c+ ((j+1:Nat):Int)=c+1+ (j:Int) by omega]at this⟩
section
variable{g b:Nat}{nm:Int}{es:List Int}{la:Option Nat}
theorem ch_ok(hg:g<=8)(b1:1<=b)(b4:b<=4)(hn:0<=nm/\nm<=99)(he:∀e∈es,0<=e/\e<=99)(hla:la=none\/la=some 0):(chain g b nm es la).Ok:=by
 have hw1:(g+2)*1<=(g+2)*b:=vcj _ b1
 have hw2:(g+2)*b<=10*4:=ves (by omega) b4
 refine⟨?_,?_,?_,?_,?_,?_,?_,?_,?_,?_,?_⟩
 .show(1:Int)<=((g+2)*b:Nat);omega
 .show(((g+2)*b:Nat):Int)<=40;omega
 .show(0:Int)<=(g:Int);omega
 .show(g:Int)<=8;omega
 .show((List.range' 0 g).map (chRow g b)).length<=60;simp;omega
 .intro r hr
  obtain⟨k,hk,rfl⟩:=va3.mp (show r∈(List.range' 0 g).map (chRow g b)from hr)
  have hk:k<g:=by have:=List.mem_range'_1.mp hk;omega
  refine⟨by simp[chRow,chain],zrq λj w e=>?_⟩
  unfold chRow at e
  have hj:j< (g+2)*b:=by
   have:=(vaq.mp e).1
   simpa using this
  rw[vas,vbd hj]at e
  simp only[vaw]at e
  by_cases z:j % (g+2)=1+k
  .rw[if_pos z]at e
   cases e
   have hd:=ven j (g+2)
   have hq:j/ (g+2)<b:=vdc hj
   have:=vcj (g+2) (show j/ (g+2)+1<=b from hq)
   rw[vc9]at this
   have hr:zbc (rkW k) (chain g b nm es la).gr=true:=by
    show zbc (rkW k) (g:Int)=true
    unfold zbc rkW within
    simp
    omega
   unfold zax
   rw[hr,Bool.or_true,if_pos rfl,vab,vav,vav]
   show(0:Int)<0+ (j:Int)/\0+ (j:Int)< (((g+2)*b:Nat):Int)-1
   omega
  .rw[if_neg z]at e
   cases e
   first|exact ztp|rfl
 .show 1<=((List.range b).map _).length;simp;omega
 .show((List.range b).map _).length<=4;simp;omega
 .intro f hf
  obtain⟨i,hi,rfl⟩:=va3.mp (show f∈(List.range b).map _ from hf)
  have hi:=vb5.mp hi
  have:=zfa (g:=g) (b:=b) (i:=i) (o:=1) (by omega) hi
  show(decide ((0:Int)<=(((g+2)*i+1:Nat):Int))&&decide ((((g+2)*i+1:Nat):Int)<=(((g+2)*b:Nat):Int)-1))=true
  rw[vab,vav,vav]
  omega
 .show((((List.range ((g+2)*b)).map _).length:Nat):Int)=_;simp[chain]
 .intro d hd
  obtain⟨c,hc,rfl⟩:=va3.mp (show d∈(List.range ((g+2)*b)).map _ from hd)
  have hc:=vb5.mp hc
  have hq:c/ (g+2)<b:=vdc hc
  have hl:(chain g b nm es la).fd.length=b:=by simp[chain]
  rw[hl]
  unfold zda
  generalize c/ (g+2)=q at hq ⊢
  have hE:0<=es.getD q 0/\es.getD q 0<=99:=by
   rw[va4]
   cases z:es[q]? with
   |none=>exact⟨by decide,by decide⟩
   |some e=>exact he e (vb3 z)
  split
  .simp only[door,within,hE.1,hE.2,decide_true,vd3,Bool.true_and]
   split
   .rcases hla with rfl|rfl
    .rfl
    .simp[optW,fon,within];omega
   .simp[optW,fon,within];omega
  .simp[door,within,fon];omega
theorem zt4{s:Stn}{xs:List Stn}(h:s∉xs):posS s 0 xs=none:=by
 cases z:posS s 0 xs with
 |none=>rfl
 |some i=>exact absurd (zn3 z) h
theorem zj4{B:Bd}{n:Nat}{xs:List Stn}{s:Stn}(h:s∉xs):everP B (n+1) xs (some s)=everP B n (xs++[s]) (nextS B s):=by
 rw[everP,zt4 h]
theorem zee{B:Bd}{s:Stn}(n:Nat):∀(m j:Nat),(∀a,a<j+m->nextS B (orb B s a)=some (orb B s (a+1)))->(∀a c,a<c->c<j+m->orb B s a≠orb B s c)->
 everP B (n+m) ((List.range j).map (orb B s)) (some (orb B s j))=everP B n ((List.range (j+m)).map (orb B s)) (some (orb B s (j+m)))
 |0,j,_,_=>rfl
 |m+1,j,hn,hd=>by
  rw[<-vei,zj4]
  .rw[hn j (by omega),show(List.range j).map (orb B s)++[orb B s j]=(List.range (j+1)).map (orb B s) by rw[List.range_succ,vbv];rfl]
   rw[zee n m (j+1) (λa h=>hn a (by omega)) (λa c h1 h2=>hd a c h1 (by omega)),show j+1+m=j+ (m+1) by omega]
  .intro h
   obtain⟨a,ha,e⟩:=va3.mp h
   exact hd a j (vb5.mp ha) (by omega) e
theorem zha{s:Stn}{t:Nat}(b1:1<=b)(hs:At g b s t):∀j,At g b (orb (chain g b nm es (some 0)) s j) ((t+j) % (2 ^ g*b))/\nextS (chain g b nm es (some 0)) (orb (chain g b nm es (some 0)) s j)=some (orb (chain g b nm es (some 0)) s (j+1)):=by
 have hN:0<2 ^ g*b:=ve9 (vd1 g) b1
 have ht:t<2 ^ g*b:=by
  obtain⟨ls,i,_,a1,a2,a3,a4⟩:=hs
  have:=zb7 a2
  rw[a1]at this
  have h2:=vcj (2 ^ g) (show i+1<=b from a3)
  rw[vc9]at h2
  omega
 have step:∀{s':Stn}{u:Nat},At g b s' (u % (2 ^ g*b))->∃s2,nextS (chain g b nm es (some 0)) s'=some s2/\At g b s2 ((u+1) % (2 ^ g*b)):=by
  intro s' u h
  have hu:=ve2 u hN
  rcases vet (u % (2 ^ g*b)+1) (2 ^ g*b)with q|q
  .obtain⟨s2,e1,e2⟩:=At.next (nm:=nm) (es:=es) (la:=some 0) h q
   refine⟨s2,e1,?_⟩
   rw[Nat.add_mod,vbe (a:=u % (2 ^ g*b)+1 % (2 ^ g*b))]
   .rw[vbe (a:=1) (by omega)];exact e2
   .rw[vbe (a:=1) (by omega)];exact q
  .have q:u % (2 ^ g*b)+1=2 ^ g*b:=by omega
   obtain⟨ls,e1,e2,e3,e4⟩:=At.last (nm:=nm) (es:=es) (la:=some 0) h q
   refine⟨_,e1,ls,0,rfl,e2,e3,b1,?_⟩
   have hd:=ven u (2 ^ g*b)
   rw[e4,show u+1=2 ^ g*b* (u/ (2 ^ g*b))+2 ^ g*b by omega,vem,Nat.mod_self]
   rfl
 have key:∀j,At g b (orb (chain g b nm es (some 0)) s j) ((t+j) % (2 ^ g*b)):=by
  intro j
  induction j with
  |zero=>rw[veu,vbe ht];exact hs
  |succ j ih=>
   obtain⟨s2,e1,e2⟩:=step ih
   show At g b ((nextS _ (orb (chain g b nm es (some 0)) s j)).getD _) _
   rw[e1]
   exact e2
 intro j
 refine⟨key j,?_⟩
 obtain⟨s2,e1,e2⟩:=step (key j)
 show _=some ((nextS _ (orb (chain g b nm es (some 0)) s j)).getD _)
 rw[e1];rfl
theorem zk7{s:Stn}{t:Nat}(b1:1<=b)(hN:2 ^ g*b<=1280)(hs:At g b s t):everP (chain g b nm es (some 0)) 1281 [] (some s)=((List.range (2 ^ g*b)).map (orb (chain g b nm es (some 0)) s),some 0):=by
 have O:=zha (nm:=nm) (es:=es) b1 hs
 have N0:0<2 ^ g*b:=ve9 (vd1 g) b1
 have ht:t<2 ^ g*b:=by
  have h0:=(O 0).1
  have:=At.uniq h0 (show At g b (orb (chain g b nm es (some 0)) s 0) t from hs)
  rw[<-this];exact ve2 _ N0
 obtain⟨n,hn⟩:∃n,1281=(n+1)+2 ^ g*b:=⟨1280-2 ^ g*b,by omega⟩
 have hdist:∀a c,a<c->c<0+2 ^ g*b->orb (chain g b nm es (some 0)) s a≠orb (chain g b nm es (some 0)) s c:=by
  intro a c h1 h2 e
  have q1:=(O a).1
  have q2:=(O c).1
  rw[e]at q1
  have q:=At.uniq q1 q2
  have m1:(t+a) % (2 ^ g*b)=if t+a<2 ^ g*b then t+a else t+a-2 ^ g*b:=by
   split
   .rename_i h;exact vbe h
   .rename_i h;rw[Nat.mod_eq_sub_mod (by omega),vbe (by omega)]
  have m2:(t+c) % (2 ^ g*b)=if t+c<2 ^ g*b then t+c else t+c-2 ^ g*b:=by
   split
   .rename_i h;exact vbe h
   .rename_i h;rw[Nat.mod_eq_sub_mod (by omega),vbe (by omega)]
  rw[m1,m2]at q
  split at q<;>split at q<;>omega
 have w:=zee (B:=chain g b nm es (some 0)) (s:=s) (n+1) (2 ^ g*b) 0 (λa _=>(O a).2) hdist
 rw[hn]
 refine w.trans ?_
 rw[vfb]
 have e0:orb (chain g b nm es (some 0)) s (2 ^ g*b)=s:=by
  have q:=(O (2 ^ g*b)).1
  rw[Nat.add_mod_right,vbe ht]at q
  exact At.inj q hs
 rw[e0]
 unfold everP
 obtain⟨m,hm⟩:∃m,2 ^ g*b=m+1:=⟨2 ^ g*b-1,by omega⟩
 have hp:posS s 0 ((List.range (2 ^ g*b)).map (orb (chain g b nm es (some 0)) s))=some 0:=by
  rw[hm,List.range_succ_eq_map,van]
  unfold posS
  rw[if_pos (show orb (chain g b nm es (some 0)) s 0=s from rfl)]
 rw[hp]
end
section
variable{g b:Nat}{nm:Int}{es:List Int}
theorem At.lt{s:Stn}{t:Nat}(h:At g b s t):t<2 ^ g*b:=by
 obtain⟨ls,i,_,a1,a2,a3,a4⟩:=h
 have:=zb7 a2
 rw[a1]at this
 have h2:=vcj (2 ^ g) (show i+1<=b from a3)
 rw[vc9]at h2
 omega
theorem ziq{s:Stn}{t:Nat}(hs:At g b s t):∀j,t+j<2 ^ g*b->At g b (orb (chain g b nm es none) s j) (t+j)
 |0,_=>hs
 |j+1,h=>by
  obtain⟨s2,e1,e2⟩:=At.next (nm:=nm) (es:=es) (la:=none) (ziq hs j (by omega)) (by omega)
  show At g b ((nextS _ (orb (chain g b nm es none) s j)).getD _) _
  rw[e1]
  exact e2
end
noncomputable def papW(E:List Stn×Option Nat):W:=.tup [.tup (E.1.map stW),backW E.2]
theorem Dk.lt{h:VH}{d c b:Nat}(D:Dk h d c b):d<h.n/\c<h.n:=by
 obtain⟨ne,ns,cells,p,q,a1,a2,a3⟩:=D
 exact⟨zah a1,zah a2⟩
theorem zcs{h:VH}{i j:Nat}{ws:List W}{w:W}(g:h.get i=some (.lst ws))(e:ws[j]?=some w):idxW h (.ref i) (.int (j:Int))=some w:=by
 simp only[idxW,g]
 exact zbf e
noncomputable def zj5:S:=(.seq (.put (.var 7) (.op .add (.op .add (.op .mul (.var 4) (.var 8)) (.cst (.int (1)))) (.var 6)) (.tup (.cons (.var 6) (.cons (.cst (.int (0))) .nil)))) .skip)
noncomputable def zj6:S:=(.seq (.set 7 (.op .mul (.lst (.cons (.cst (.str (vgb "."))) .nil)) (.op .mul (.var 4) (.var 1)))) (.seq (.«for» .rng1 (.cons (.var 1) .nil) (.one 8) zj5) (.seq (.expr (.mt .append (.var 5) (.cons (.bi .tuple (.cons (.var 7) .nil)) .nil))) .skip)))
noncomputable def zj7:S:=(.seq (.set 9 (.op .add (.var 9) (.op .mul (.lst (.cons (.tup (.cons (.idx (.var 2) (.cst (.int (0)))) (.cons (.var 8) .nil))) .nil)) (.op .add (.var 0) (.cst (.int (1))))))) (.seq (.set 10 (.op .mod (.op .add (.var 8) (.cst (.int (1)))) (.var 1))) (.seq (.ite (.cmp .eq (.var 8) (.op .sub (.var 1) (.cst (.int (1))))) (.seq (.set 10 (.var 3)) .skip) .skip) (.seq (.expr (.mt .append (.var 9) (.cons (.tup (.cons (.idx (.var 2) (.op .add (.cst (.int (1))) (.var 8))) (.cons (.var 10) .nil))) .nil))) .skip))))
noncomputable def zf6:E:=(.op .add (.op .mul (.var 1) (.var 0)) (.cst (.int (1))))
noncomputable def fn130:Fn:=⟨4,12,(.seq (.set 4 (.op .add (.var 0) (.cst (.int (2))))) (.seq (.set 5 (.lst .nil)) (.seq (.«for» .rng1 (.cons (.var 0) .nil) (.one 6) zj6) (.seq (.set 9 (.lst .nil)) (.seq (.«for» .rng1 (.cons (.var 1) .nil) (.one 8) zj7) (.seq (.set 11 (.bi .tuple (.cons (.lc .rng1 (.cons (.var 1) .nil) (.one 0) 1 [4] (.cst (.bl true)) zf6) .nil))) (.seq (.ret (.tup (.cons (.op .mul (.var 4) (.var 1)) (.cons (.var 0) (.cons (.bi .tuple (.cons (.var 5) .nil)) (.cons (.var 11) (.cons (.bi .tuple (.cons (.var 9) .nil)) .nil))))))) .skip)))))))⟩
noncomputable def Pl(w:W):Prop:=∀n,W.lt n w=true
theorem Pl.tup{ws:List W}(h:∀w∈ws,Pl w):Pl (.tup ws):=λn=>by
 rw[lt_tup]
 induction ws with
 |nil=>rfl
 |cons a r ih=>
  rw[lts_cons,h a (vai ..),ih λw hw=>h w (vag _ hw)]
  rfl
theorem Pl.int{i:Int}:Pl (.int i):=λ_=>lt_int
theorem Pl.str{i:Str}:Pl (.str i):=λ_=>lt_str
theorem Pl.non:Pl .non:=λ_=>lt_non
structure Up(b:Nat)(h h':VH):Prop where
 le:h.n<=h'.n
 lo:∀x,x<=b->x<=h.lo->x<=h'.lo
 get:∀i o,i<b->h.get i=some o->h'.get i=some o
theorem Up.refl{b:Nat}{h:VH}:Up b h h:=⟨vad _,λ_ _ e=>e,λ_ _ _ e=>e⟩
theorem Up.trans{b:Nat}{h h1 h2:VH}(a:Up b h h1)(c:Up b h1 h2):Up b h h2:=⟨vbo a.le c.le,λx y z=>c.lo x y (a.lo x y z),λi o hi e=>c.get i o hi (a.get i o hi e)⟩
theorem Up.low{b c:Nat}{h h1:VH}(a:Up c h h1)(hb:b<=c):Up b h h1:=⟨a.le,λx y z=>a.lo x (vbo y hb) z,λi o hi e=>a.get i o (vah hi hb) e⟩
theorem Up.new{b:Nat}{h h':VH}{o:VO}(a:Up b h h'):Up b h (h'.new o):=⟨Nat.le_succ_of_le a.le,a.lo,λi o' hi e=>by
 have:=a.get i o' hi e
 rw[zab (zah this)];exact this⟩
theorem Up.set{b l:Nat}{h h':VH}{o o0:VO}(a:Up b h h')(g:h'.get l=some o0)(hl:b<=l):Up b h (h'.set l o):=by
 refine⟨a.le,λx y z=>?_,λi o' hi e=>by rw[zaf g (by omega)];exact a.get i o' hi e⟩
 have:=a.lo x y z
 show x<=if Nat.blt l h'.lo then l else h'.lo
 split<;>omega
theorem zj8{h h':VH}{w:W}(u:Up h.n ⟨h.n,h.n,h.os⟩ h')(hw:Pl w):fin h (.ok (.rt w) h')=.ok w h:=zal (u.lo _ (vad _) (vad _)) (hw _)
theorem putL{cl:Call}{o i v:E}{ρ:En}{h h1 h2 h3:VH}{a j:Nat}{w:W}{ws:List W}(e1:ev cl v ρ h=.ok w h1)(e2:ev cl o ρ h1=.ok (.ref a) h2)(e3:ev cl i ρ h2=.ok (.int (j:Int)) h3)(g:h3.get a=some (.lst ws))(hj:j<ws.length):exs cl (.put o i v) ρ h=.ok (.nx ρ) (h3.set a (.lst (ws.set j w))):=by
 rw[exs,e1,bindok,e2,bindok,e3,bindok]
 simp only[g,zns hj]
theorem addI{h:VH}{i j:Int}:opW .add (.int i) (.int j) h=.ok (.int (i+j)) h:=rfl
theorem subI{h:VH}{i j:Int}:opW .sub (.int i) (.int j) h=.ok (.int (i-j)) h:=rfl
theorem mulI{h:VH}{i j:Int}(hs:za5 i=true):opW .mul (.int i) (.int j) h=.ok (.int (i*j)) h:=by
 simp only[opW,opI,hs,Bool.true_or,va8,vaw,ofsome]
theorem sml{n:Nat}(h:n<=5000):za5 (n:Int)=true:=zcp (by omega) (by omega)
theorem modI{h:VH}{i j:Int}(h1:0<j):opW .mod (.int i) (.int j) h=.ok (.int (i % j)) h:=by
 simp only[opW,opI,va1 h1,va8,vaw,ofsome]
theorem repO{o:Op}{h:VH}{l:Nat}{k:Int}{xs zs:List W}(g:h.get l=some (.lst xs))(e:repW o xs k=some zs):opW o (.ref l) (.int k) h=.ok (.ref h.n) (h.new (.lst zs)):=by
 simp only[opW,g,e]
theorem repL{h:VH}{l n:Nat}{xs:List W}(g:h.get l=some (.lst xs))(hn:n<=5000)(hx:xs.length*n<=1000000):opW .mul (.ref l) (.int (n:Int)) h=.ok (.ref h.n) (h.new (.lst (vgc n xs).flatten)):=by
 refine repO g ?_
 have hb:Nat.ble (xs.length*n) big=true:=zcb hx
 have hf:=zk6 hn
 unfold repW
 simp only[hf,vby,hb,vd3,va8]
theorem catO{o:Op}{h:VH}{l m:Nat}{xs ys zs:List W}(g:h.get l=some (.lst xs))(g2:h.get m=some (.lst ys))(e:opL o xs ys=some zs):opW o (.ref l) (.ref m) h=.ok (.ref h.n) (h.new (.lst zs)):=by
 simp only[opW,g,g2,e]
theorem catL{h:VH}{l m:Nat}{xs ys:List W}(g:h.get l=some (.lst xs))(g2:h.get m=some (.lst ys))(hx:xs.length+ys.length<=1000000):opW .add (.ref l) (.ref m) h=.ok (.ref h.n) (h.new (.lst (xs++ys))):=by
 refine catO g g2 ?_
 have hb:Nat.ble (xs.length+ys.length) big=true:=zcb hx
 show(if Nat.ble (xs.length+ys.length) big then some (xs++ys)else none)=_
 rw[if_pos hb]
theorem lst1E{cl:Call}{a:E}{ρ:En}{h h1:VH}{x:W}(ea:ev cl a ρ h=.ok x h1):ev cl (.lst (.cons a .nil)) ρ h=.ok (.ref h1.n) (h1.new (.lst [x])):=by
 rw[ev,ev,ea,bindok,ev]
 rfl
theorem zb0{cl:Call}{a:E}{t:Tg}{b:S}{ρ:En}{h:VH}{n:Nat}(ea:ev cl a ρ h=.ok (.int (n:Int)) h)(hn:n<1000000):exs cl (.«for» .rng1 (.cons a .nil) t b) ρ h=forL (tgW t) (exs cl b) (zam 0 n) ρ h:=by
 have e:ev cl (.cons a .nil) ρ h=.ok (.tup [.int (n:Int)]) h:=by rw[ev,ea,bindok,ev];rfl
 rw[exs,e,bindok,ztn hn]
theorem za8{cl:Call}{i:Nat}{b:S}{w:W}{r:List W}{ρ ρ':En}{h h':VH}(e:exs cl b (ρ.set i (some w)) h=.ok (.nx ρ') h'):forL (tgW (.one i)) (exs cl b) (w::r) ρ h=forL (tgW (.one i)) (exs cl b) r ρ' h':=by
 simp only[forL,tgW,e,bindok]
noncomputable def zbo(g b k i:Nat):List W:=(List.range ((g+2)*b)).map λc=>if c % (g+2)=1+k/\c/ (g+2)<i then rkW k else .str sDot
theorem zf7{g b k i:Nat}:(zbo g b k i).length=(g+2)*b:=by simp[zbo]
theorem zn5{g b k:Nat}:zbo g b k 0=(vgc ((g+2)*b) [W.str sDot]).flatten:=by
 rw[vb0]
 refine List.eq_replicate_iff.mpr ⟨zf7,λw hw=>?_⟩
 obtain⟨c,_,rfl⟩:=va3.mp hw
 rw[if_neg (λz=>absurd z.2 (ve3 _))]
theorem zqe{g b k:Nat}:zbo g b k b=chRow g b k:=by
 refine vd9 λc hc=>?_
 have:c/ (g+2)<b:=vdc (vb5.mp hc)
 by_cases z:c % (g+2)=1+k
 .rw[if_pos ⟨z,this⟩,if_pos z]
 .rw[if_neg (λy=>z y.1),if_neg z]
theorem zj9{g b k i:Nat}(hi:i<b)(hk:k<g):(zbo g b k i).set ((g+2)*i+1+k) (rkW k)=zbo g b k (i+1):=by
 have hc:=zfa (g:=g) (o:=1+k) (by omega) hi
 obtain⟨m1,m2⟩:=zc2 (g:=g) (i:=i) (o:=1+k) (by omega)
 rw[<-vei]at hc m1 m2
 refine List.ext_getElem? λc=>?_
 rw[List.getElem?_set,zf7]
 by_cases z:(g+2)*i+1+k=c
 .subst z
  rw[if_pos rfl,if_pos hc]
  unfold zbo
  rw[vas,vbd hc,vaw,m1,m2,if_pos ⟨rfl,by omega⟩]
 .rw[if_neg z]
  unfold zbo
  rw[vas,vas]
  by_cases y:c< (g+2)*b
  .rw[vbd y,vaw,vaw]
   congr 1
   have:(c % (g+2)=1+k/\c/ (g+2)<i)↔(c % (g+2)=1+k/\c/ (g+2)<i+1):=by
    constructor
    .intro h;exact⟨h.1,by omega⟩
    .intro h
     refine⟨h.1,?_⟩
     rcases vet (c/ (g+2)) i with q|q
     .exact q
     .have e:c/ (g+2)=i:=by omega
      have:=ven c (g+2)
      rw[e,h.1]at this
      omega
   by_cases q:c % (g+2)=1+k/\c/ (g+2)<i
   .rw[if_pos q,if_pos (this.mp q)]
   .rw[if_neg q,if_neg (λr=>q (this.mpr r))]
  .rw[List.getElem?_eq_none (by simpa using Nat.le_of_not_lt y)];rfl
noncomputable def rowsT(g b k:Nat):List W:=(List.range' 0 k).map λj=>.tup (chRow g b j)
theorem zn6{g b k:Nat}:(rowsT g b k).length=k:=by simp[rowsT]
noncomputable abbrev E130(g b l:Nat)(la:W)(r5:Nat)(x6 x7 x8 x9 x10 x11:Option W):En:=[some (.int (g:Int)),some (.int (b:Int)),some (.ref l),some la,some (.int ((g:Int)+2)),some (.ref r5),x6,x7,x8,x9,x10,x11]
theorem zrr{cl:Call}{g b k l r5 r7:Nat}{la:W}(hg:g<=8)(hk:k<g)(hb4:b<=4):∀(m i:Nat) (x8:Option W) (h:VH),i+m=b->h.get r7=some (.lst (zbo g b k i))->
 ∃x8' h',forL (tgW (.one 8)) (exs cl zj5) (zam (i:Int) m) (E130 g b l la r5 (some (.int (k:Int))) (some (.ref r7)) x8 none none none) h=.ok (.nx (E130 g b l la r5 (some (.int (k:Int))) (some (.ref r7)) x8' none none none)) h'/\h'.get r7=some (.lst (chRow g b k))/\Up r7 h h'
 |0,i,x8,h,hi,gr=>⟨x8,h,rfl,by rw[gr,show i=b by omega,zqe],.refl⟩
 |m+1,i,x8,h,hi,gr=>by
  have hib:i<b:=by omega
  have gr':=zag (o:=.lst ((zbo g b k i).set ((g+2)*i+1+k) (rkW k))) gr
  rw[zj9 hib hk]at gr'
  obtain⟨x8',h',e,g',u⟩:=zrr hg hk hb4 (cl:=cl) (l:=l) (r5:=r5) (la:=la) m (i+1) (some (.int (i:Int))) (h.set r7 (.lst ((zbo g b k i).set ((g+2)*i+1+k) (rkW k)))) (by omega) (by rw[zj9 hib hk];exact gr')
  refine⟨x8',h',?_,g',(Up.set .refl gr (vad _)).trans u⟩
  rw[zav]
  refine(za8 (ρ':=E130 g b l la r5 (some (.int (k:Int))) (some (.ref r7)) (some (.int (i:Int))) none none none) (h':=h.set r7 (.lst ((zbo g b k i).set ((g+2)*i+1+k) (rkW k)))) ?_).trans e
  have hc:=zfa (g:=g) (o:=1+k) (by omega) hib
  refine(zaa (putL (j:=(g+2)*i+1+k) (w:=rkW k) (tup2E (varE rfl) rfl) (varE rfl) ?_ gr (by rw[zf7];omega))).trans rfl
  refine opE (opE (opE (varE rfl) (varE rfl) (mulI (show za5 ((g:Int)+2)=true from sml (n:=g+2) (by omega)))) rfl addI) (varE rfl) ?_
  rw[addI]
  congr 2
theorem zn7{cl:Call}{g b l r5:Nat}{la:W}(hg:g<=8)(hb4:b<=4):∀(m k:Nat) (x6 x7 x8:Option W) (h:VH),k+m=g->h.get r5=some (.lst (rowsT g b k))->
 ∃x6' x7' x8' h',forL (tgW (.one 6)) (exs cl zj6) (zam (k:Int) m) (E130 g b l la r5 x6 x7 x8 none none none) h=.ok (.nx (E130 g b l la r5 x6' x7' x8' none none none)) h'/\h'.get r5=some (.lst (rowsT g b g))/\Up r5 h h'
 |0,k,x6,x7,x8,h,hi,gr=>⟨x6,x7,x8,h,rfl,by rw[gr,show k=g by omega],.refl⟩
 |m+1,k,x6,x7,x8,h,hi,gr=>by
  have hr5:=zah gr
  have hkg:k<g:=by omega
  have hw:(g+2)*b<=10*4:=ves (by omega) hb4
  obtain⟨y8,h3,e3,g3,u3⟩:=zrr (cl:=cl) (l:=l) (r5:=r5) (r7:=h.n+1) (la:=la) hg hkg hb4 b 0 x8 ((h.new (.lst [.str sDot])).new (.lst (vgc ((g+2)*b) [.str sDot]).flatten)) (by omega) (by rw[zn5];exact zai (h:=h.new _))
  have g5:h3.get r5=some (.lst (rowsT g b k)):=u3.get _ _ (by omega) ((zab (show r5<h.n+1 by omega)).trans ((zab hr5).trans gr))
  have ga:=zag (o:=.lst (rowsT g b k++[W.tup (chRow g b k)])) g5
  have hsnoc:rowsT g b k++[W.tup (chRow g b k)]=rowsT g b (k+1):=by
   unfold rowsT
   rw[List.range'_concat,vbv]
   simp
  rw[hsnoc]at ga
  obtain⟨x6',x7',x8',h',e,g',u⟩:=zn7 (cl:=cl) (l:=l) (la:=la) hg hb4 m (k+1) (some (.int (k:Int))) (some (.ref (h.n+1))) y8 (h3.set r5 (.lst (rowsT g b k++[W.tup (chRow g b k)]))) (by omega) (by rw[hsnoc];exact ga)
  refine⟨x6',x7',x8',h',?_,g',?_⟩
  .rw[zav]
   refine(za8 (ρ':=E130 g b l la r5 (some (.int (k:Int))) (some (.ref (h.n+1))) y8 none none none) (h':=h3.set r5 (.lst (rowsT g b k++[W.tup (chRow g b k)]))) ?_).trans e
   have e7:ev cl (.op .mul (.lst (.cons (.cst (.str (vgb "."))) .nil)) (.op .mul (.var 4) (.var 1))) (E130 g b l la r5 (some (.int (k:Int))) x7 x8 none none none) h=.ok (.ref (h.n+1)) ((h.new (.lst [.str sDot])).new (.lst (vgc ((g+2)*b) [.str sDot]).flatten)):=by
    refine opE (lst1E rfl) (opE (varE rfl) (varE rfl) (mulI (show za5 ((g:Int)+2)=true from sml (n:=g+2) (by omega)))) ?_
    rw[show((g:Int)+2)* (b:Int)=(((g+2)*b:Nat):Int) by push_cast;rfl]
    exact repL zai (by omega) (by simp;omega)
   refine(zaa (setE e7)).trans ?_
   refine(zaa ((zb0 (n:=b) (varE rfl) (by omega)).trans e3)).trans ?_
   exact(zaa (exprE (zbe rfl g5 (zcc rfl g3) g5 (by rw[zn6];omega)))).trans rfl
  .have u1:Up r5 h h3:=(Up.new (Up.new .refl)).trans (u3.low (by omega))
   exact(u1.set g5 (vad _)).trans u
noncomputable def drT(g b:Nat)(nm:Int)(es:List Int)(la:Option Nat)(i:Nat):List W:=(List.range ((g+2)*i)).map (zda g b nm es la)
theorem zn8{g b i:Nat}{nm:Int}{es:List Int}{la:Option Nat}:(drT g b nm es la i).length=(g+2)*i:=by simp[drT]
theorem zqf{g b i:Nat}{nm:Int}{es:List Int}{la:Option Nat}:drT g b nm es la i++(vgc (g+1) [W.tup [.int nm,.int (i:Int)]]).flatten++[.tup [.int (es.getD i 0),optW (if i+1=b then la else some (i+1))]]=drT g b nm es la (i+1):=by
 unfold drT
 rw[vb0,show(g+2)* (i+1)=(g+2)*i+ (g+1)+1 by rw[vc9];omega,List.range_succ,vbv,List.range_add,vbv]
 congr 1
 .congr 1
  refine(List.eq_replicate_iff.mpr ⟨by simp,λw hw=>?_⟩).symm
  rw[vct]at hw
  obtain⟨o,ho,rfl⟩:=va3.mp hw
  have ho:=vb5.mp ho
  obtain⟨m1,m2⟩:=zc2 (g:=g) (i:=i) (o:=o) (by omega)
  show zda g b nm es la ((g+2)*i+o)=_
  unfold zda
  rw[m1,m2,if_neg (by omega)]
 .obtain⟨m1,m2⟩:=zc2 (g:=g) (i:=i) (o:=g+1) (by omega)
  rw[van,vdj]
  unfold zda
  rw[m1,m2,if_pos rfl]
theorem zka{cl:Call}{g b l r5 bs:Nat}{nm:Int}{es:List Int}{la:Option Nat}{x6 x7:Option W}(hg:g<=8)(hb4:b<=4)(hes:b<=es.length)(hl:l<bs):∀(m i r9:Nat) (x8 x10:Option W) (h:VH),i+m=b->bs<=r9->h.get r9=some (.lst (drT g b nm es la i))->h.get l=some (.lst (.int nm::es.map .int))->
 ∃r9' x8' x10' h',forL (tgW (.one 8)) (exs cl zj7) (zam (i:Int) m) (E130 g b l (optW la) r5 x6 x7 x8 (some (.ref r9)) x10 none) h=.ok (.nx (E130 g b l (optW la) r5 x6 x7 x8' (some (.ref r9')) x10' none)) h'/\h'.get r9'=some (.lst (drT g b nm es la b))/\Up bs h h'
 |0,i,r9,x8,x10,h,hi,hr,gr,gl=>⟨r9,x8,x10,h,rfl,by rw[gr,show i=b by omega],.refl⟩
 |m+1,i,r9,x8,x10,h,hi,hr,gr,gl=>by
  have hib:i<b:=by omega
  have hr9:=zah gr
  have hln:=zah gl
  have hw:(g+2)*i<=10*4:=ves (by omega) (by omega)
  have e9:ev cl (.op .add (.var 9) (.op .mul (.lst (.cons (.tup (.cons (.idx (.var 2) (.cst (.int (0)))) (.cons (.var 8) .nil))) .nil)) (.op .add (.var 0) (.cst (.int (1)))))) (E130 g b l (optW la) r5 x6 x7 (some (.int (i:Int))) (some (.ref r9)) x10 none) h =
   .ok (.ref (h.n+2)) (((h.new (.lst [.tup [.int nm,.int (i:Int)]])).new (.lst (vgc (g+1) [W.tup [.int nm,.int (i:Int)]]).flatten)).new (.lst (drT g b nm es la i++(vgc (g+1) [W.tup [.int nm,.int (i:Int)]]).flatten))):=by
   refine opE (y:=.ref (h.n+1)) (h2:=(h.new (.lst [.tup [.int nm,.int (i:Int)]])).new (.lst (vgc (g+1) [W.tup [.int nm,.int (i:Int)]]).flatten)) (varE rfl) (opE (lst1E (tup2E (idxE (varE rfl) rfl (zcs (j:=0) gl rfl)) (varE rfl))) (opE (varE rfl) rfl addI) ?_) ?_
   .exact repL (n:=g+1) zai (by omega) (by simp;omega)
   .exact catL ((zab (show r9<h.n+1 by omega)).trans ((zab hr9).trans gr)) (zai (h:=h.new _)) (by rw[zn8,vb0,vcn];omega)
  generalize hh3:((h.new (.lst [.tup [.int nm,.int (i:Int)]])).new (.lst (vgc (g+1) [W.tup [.int nm,.int (i:Int)]]).flatten)).new (.lst (drT g b nm es la i++(vgc (g+1) [W.tup [.int nm,.int (i:Int)]]).flatten))=h3 at e9
  have g3:h3.get (h.n+2)=some (.lst (drT g b nm es la i++(vgc (g+1) [W.tup [.int nm,.int (i:Int)]]).flatten)):=by rw[<-hh3];exact zai (h:=(h.new _).new _)
  have u3:Up bs h h3:=by rw[<-hh3];exact Up.new (Up.new (Up.new .refl))
  have gl3:h3.get l=some (.lst (.int nm::es.map .int)):=u3.get _ _ hl gl
  have hev:(es.map W.int)[i]?=some (.int (es.getD i 0)):=by
   rw[vas,vat (by omega),va4,vat (by omega)];rfl
  have ga:=zag (o:=.lst (drT g b nm es la (i+1))) g3
  obtain⟨r9',x8',x10',h',e,g',u⟩:=zka (cl:=cl) (r5:=r5) (x6:=x6) (x7:=x7) hg hb4 hes hl m (i+1) (h.n+2) (some (.int (i:Int))) (some (optW (if i+1=b then la else some (i+1)))) (h3.set (h.n+2) (.lst (drT g b nm es la (i+1)))) (by omega) (by omega) ga (by rw[zaf g3 (by omega)];exact gl3)
  refine⟨r9',x8',x10',h',?_,g',(u3.set g3 (by omega)).trans u⟩
  rw[zav]
  refine(za8 (ρ':=E130 g b l (optW la) r5 x6 x7 (some (.int (i:Int))) (some (.ref (h.n+2))) (some (optW (if i+1=b then la else some (i+1)))) none) (h':=h3.set (h.n+2) (.lst (drT g b nm es la (i+1)))) ?_).trans e
  refine(zaa (setE e9)).trans ?_
  refine(zaa (setE (opE (opE (varE rfl) rfl addI) (varE rfl) (modI (show(0:Int)< (b:Int) by omega))))).trans ?_
  have ec:∀y:Option W,ev cl (.cmp .eq (.var 8) (.op .sub (.var 1) (.cst (.int (1))))) (E130 g b l (optW la) r5 x6 x7 (some (.int (i:Int))) (some (.ref (h.n+2))) y none) h3=.ok (.bl (decide ((i:Int)=(b:Int)-1))) h3:=λy=>by
   rw[ev,varE rfl,bindok,opE (varE rfl) rfl subI,bindok]
   simp only[cmpW,zbt,ofsome,vaw]
  have hcall:∀y:W,y=(if i+1=b then optW la else .int (((i:Int)+1) % (b:Int)))->y=optW (if i+1=b then la else some (i+1)):=λy hy=>by
   rw[hy]
   split
   .rfl
   .show W.int _=.int ((i+1:Nat):Int)
    rw[Int.emod_eq_of_lt (by omega) (by omega)];rfl
  have last:∀y:W,y=optW (if i+1=b then la else some (i+1))->exs cl (.seq (.expr (.mt .append (.var 9) (.cons (.tup (.cons (.idx (.var 2) (.op .add (.cst (.int (1))) (.var 8))) (.cons (.var 10) .nil))) .nil))) .skip) (E130 g b l (optW la) r5 x6 x7 (some (.int (i:Int))) (some (.ref (h.n+2))) (some y) none) h3=.ok (.nx (E130 g b l (optW la) r5 x6 x7 (some (.int (i:Int))) (some (.ref (h.n+2))) (some (optW (if i+1=b then la else some (i+1)))) none)) (h3.set (h.n+2) (.lst (drT g b nm es la (i+1)))):=λy hy=>by
   subst hy
   have ei:ev cl (.idx (.var 2) (.op .add (.cst (.int (1))) (.var 8))) (E130 g b l (optW la) r5 x6 x7 (some (.int (i:Int))) (some (.ref (h.n+2))) (some (optW (if i+1=b then la else some (i+1)))) none) h3=.ok (.int (es.getD i 0)) h3:=by
    refine idxE (varE rfl) (opE rfl (varE rfl) addI) ?_
    rw[show(1:Int)+ (i:Int)=((i+1:Nat):Int) by omega]
    exact zcs gl3 (by rw[va2];exact hev)
   have:=zbe (cl:=cl) (i:=9) (l:=h.n+2) (ρ:=E130 g b l (optW la) r5 x6 x7 (some (.int (i:Int))) (some (.ref (h.n+2))) (some (optW (if i+1=b then la else some (i+1)))) none) rfl g3 (tup2E ei (varE (i:=10) rfl)) g3 (by rw[vax,zn8,vb0,vcn];omega)
   rw[zqf]at this
   exact(zaa (exprE this)).trans rfl
  by_cases z:i+1=b
  .refine(zaa (ρ':=E130 g b l (optW la) r5 x6 x7 (some (.int (i:Int))) (some (.ref (h.n+2))) (some (optW la)) none) (h':=h3) ?_).trans (last _ (by rw[if_pos z]))
   refine(iteT ((ec _).trans (by rw[va1 (by omega)]))).trans ?_
   exact(zaa (setE (varE rfl))).trans rfl
  .refine(zaa (ρ':=E130 g b l (optW la) r5 x6 x7 (some (.int (i:Int))) (some (.ref (h.n+2))) (some (.int (((i:Int)+1) % (b:Int)))) none) (h':=h3) ?_).trans (last _ (hcall _ (by rw[if_neg z])))
   exact(iteF ((ec _).trans (by rw[vay (by omega)]))).trans rfl
theorem zqg{g b:Nat}{nm:Int}{es:List Int}{la:Option Nat}:Pl (chain g b nm es la).w:=by
 have ho:∀o:Option Nat,Pl (optW o):=λo=>by cases o<;>first|exact Pl.non|exact Pl.int
 refine Pl.tup λw hw=>?_
 simp only[vau,vbp,vd8]at hw
 rcases hw with rfl|rfl|rfl|rfl|rfl
 .exact Pl.int
 .exact Pl.int
 .refine Pl.tup λw hw=>?_
  obtain⟨r,hr,rfl⟩:=va3.mp hw
  obtain⟨k,_,rfl⟩:=va3.mp (show r∈(List.range' 0 g).map (chRow g b)from hr)
  refine Pl.tup λw hw=>?_
  obtain⟨c,_,rfl⟩:=va3.mp hw
  split
  .exact Pl.tup λw hw=>by
    simp only[vau,vbp,vd8]at hw
    rcases hw with rfl|rfl<;>exact Pl.int
  .exact Pl.str
 .refine Pl.tup λw hw=>?_
  obtain⟨c,_,rfl⟩:=va3.mp (show w∈(List.range b).map _ from hw)
  exact Pl.int
 .refine Pl.tup λw hw=>?_
  obtain⟨c,_,rfl⟩:=va3.mp (show w∈(List.range _).map _ from hw)
  unfold zda
  split<;>exact Pl.tup λw hw=>by
   simp only[vau,vbp,vd8]at hw
   rcases hw with rfl|rfl<;>first|exact Pl.int|exact ho _
theorem zhb(f:Nat->W)(q:W->W):∀(n a:Nat),(∀i:Nat,q (.int (i:Int))=f i)->(zam (a:Int) n).map q=(List.range' a n).map f
 |0,_,_=>rfl
 |n+1,a,h=>by
  rw[zav,List.range'_succ,van,van,h]
  congr 1
  exact zhb f q n (a+1) h
theorem zn9{F:Nat->Option Fn}(f130:F 130=some fn130){k g b l:Nat}{nm:Int}{es:List Int}{la:Option Nat}{h:VH}(hg:g<=8)(hb4:b<=4)(hes:b<=es.length)(gl:h.get l=some (.lst (.int nm::es.map .int))) :
 run F (k+1) 130 [.int (g:Int),.int (b:Int),.ref l,optW la] h=.ok (chain g b nm es la).w h:=by
 rw[zao f130 rfl]
 have hln:=zah gl
 have hs:=sml (n:=g+2) (by omega)
 let h1:VH:=VH.new ⟨h.n,h.n,h.os⟩ (.lst [])
 have g1:h1.get h.n=some (.lst (rowsT g b 0)):=zai (h:=⟨h.n,h.n,h.os⟩)
 obtain⟨x6,x7,x8,h2,e2,g2,u2⟩:=zn7 (cl:=run F k) (l:=l) (la:=optW la) hg hb4 g 0 none none none h1 (by omega) g1
 have u12:Up h.n ⟨h.n,h.n,h.os⟩ h2:=(Up.new .refl).trans u2
 have hlt2:=zah g2
 have gl2:(h2.new (.lst [])).get l=some (.lst (.int nm::es.map .int)):=by
  have:=u12.get l _ hln (by rw[get_lo];exact gl)
  rw[zab (zah this)];exact this
 obtain⟨r9,y8,y10,h3,e3,g3,u3⟩:=zka (cl:=run F k) (r5:=h.n) (x6:=x6) (x7:=x7) (nm:=nm) (es:=es) (la:=la) (bs:=h.n+1) hg hb4 hes (by omega) b 0 h2.n x8 none (h2.new (.lst [])) (by omega) (by omega) (zai (h:=h2)) gl2
 have u13:Up h.n ⟨h.n,h.n,h.os⟩ h3:=(u12.new).trans (u3.low (by omega))
 have g5:h3.get h.n=some (.lst (rowsT g b g)):=u3.get _ _ (by omega) ((zab hlt2).trans g2)
 obtain⟨h4,e4,G4⟩:=znj (cl:=run F k) (e:=zf6) (tl:=[some (.int ((g:Int)+2))]) (f:=λw=>match w with|.int i=>.int (((g:Int)+2)*i+1)|w=>w) (zam 0 b) none h3 (λw hw h=>by
  obtain⟨j,hj⟩:=List.mem_iff_getElem?.mp hw
  rw[zby]at hj
  split at hj
  .cases hj
   exact⟨h,opE (opE (varE rfl) (varE rfl) (mulI hs)) rfl addI,.refl⟩
  .cases hj)
 have hf:(zam 0 b).map (λw=>match w with|.int i=>W.int (((g:Int)+2)*i+1)|w=>w)=(List.range b).map λ(i:Nat)=>.int (((g+2)*i+1:Nat):Int):=by
  rw[List.range_eq_range']
  exact zhb _ _ b 0 λi=>by show W.int _=.int _;congr 1
 rw[hf]at e4
 have e11:=zrm (cl:=run F k) (a:=.cons (.var 1) .nil) (ρ:=E130 g b l (optW la) h.n x6 x7 y8 (some (.ref r9)) y10 none) (h:=h3) (h1:=h3) (n:=b) (ow:=1) (ix:=[4]) (e:=zf6) (by rw[ev,varE rfl,bindok,ev];rfl) (by omega) e4 (by simp;omega)
 have hlt9:=zah g3
 have g5':(h4.new (.lst ((List.range b).map λ(i:Nat)=>W.int (((g+2)*i+1:Nat):Int)))).get h.n=some (.lst (rowsT g b g)):=by
  have:=G4.get _ _ g5
  rw[zab (zah this)];exact this
 have g9':(h4.new (.lst ((List.range b).map λ(i:Nat)=>W.int (((g+2)*i+1:Nat):Int)))).get r9=some (.lst (drT g b nm es la b)):=by
  have:=G4.get _ _ g3
  rw[zab (zah this)];exact this
 have u14:Up h.n ⟨h.n,h.n,h.os⟩ (h4.new (.lst ((List.range b).map λ(i:Nat)=>W.int (((g+2)*i+1:Nat):Int)))):=by
  refine Up.new (u13.trans ⟨G4.le,λx _ z=>by rw[G4.lo];exact z,λi o _ e=>G4.get i o e⟩)
 have eb:exs (run F k) fn130.body [some (.int (g:Int)),some (.int (b:Int)),some (.ref l),some (optW la),none,none,none,none,none,none,none,none] ⟨h.n,h.n,h.os⟩=.ok (.rt (chain g b nm es la).w) (h4.new (.lst ((List.range b).map λ(i:Nat)=>W.int (((g+2)*i+1:Nat):Int)))):=by
  refine(zaa (setE (opE (varE rfl) rfl addI))).trans ?_
  refine(zaa (setE (h1:=h1) (x:=.ref h.n) rfl)).trans ?_
  refine(zaa ((zb0 (n:=g) (varE rfl) (by omega)).trans e2)).trans ?_
  refine(zaa (setE (h1:=h2.new (.lst [])) (x:=.ref h2.n) rfl)).trans ?_
  refine(zaa ((zb0 (n:=b) (varE rfl) (by omega)).trans e3)).trans ?_
  refine(zaa (setE e11)).trans ?_
  refine zak (retE ?_)
  have er:(rowsT g b g)=(chain g b nm es la).rows.map .tup:=by unfold rowsT chain;rw[vct];rfl
  have:=tup5E (cl:=run F k) (ρ:=E130 g b l (optW la) h.n x6 x7 y8 (some (.ref r9)) y10 (some (.tup ((List.range b).map λ(i:Nat)=>W.int (((g+2)*i+1:Nat):Int))))) (opE (varE (i:=4) rfl) (varE (i:=1) rfl) (mulI hs)) (varE (i:=0) rfl) (zcc (i:=5) rfl g5') (varE (i:=11) rfl) (zcc (i:=9) rfl g9')
  rw[er]at this
  exact this
 show fin h (exs (run F k) fn130.body [some (.int (g:Int)),some (.int (b:Int)),some (.ref l),some (optW la),none,none,none,none,none,none,none,none] ⟨h.n,h.n,h.os⟩)=_
 rw[eb]
 exact zj8 u14 zqg
noncomputable def cnt(f:Nat->Int)(x:Int):Nat->Int
 |0=>0
 |n+1=>cnt f x n+if f n=x then 1 else 0
noncomputable def wcn(f tm:Nat->Int)(x:Int):Nat->Int
 |0=>0
 |n+1=>wcn f tm x n+if f n=x then tm n else 0
theorem zrs{f:Nat->Int}{x r:Int}{a:Nat}:∀m,wcn f (λj=>if j<a then r+1 else r) x m=r*cnt f x m+cnt f x (min m a)
 |0=>by rw[Nat.zero_min];simp[wcn,cnt]
 |m+1=>by
  have ih:=zrs (f:=f) (x:=x) (r:=r) (a:=a) m
  rw[wcn,ih,cnt,Int.mul_add]
  by_cases h:m<a
  .rw[vfa (vdh h),vfa (show m+1<=a from h),cnt,if_pos h]
   split<;>omega
  .rw[ve0 (by omega),ve0 (by omega),if_neg h]
   split<;>omega
theorem zoa{f:Nat->Int}{x:Int}{N:Nat}(hp:Prd f N):∀k,cnt f x (N+k)=cnt f x N+cnt f x k
 |0=>by simp[cnt]
 |k+1=>by
  rw[<-vei,cnt,zoa hp k,cnt,Nat.add_comm N k,hp k]
  omega
theorem zob{f:Nat->Int}{x:Int}{N:Nat}(hp:Prd f N)(k:Nat):∀r:Nat,cnt f x (N*r+k)=(r:Int)*cnt f x N+cnt f x k
 |0=>by simp
 |r+1=>by
  rw[show N* (r+1)+k=N+ (N*r+k) by rw[vc9];omega,zoa hp,zob hp k r,vcf,Int.add_mul]
  omega
theorem zqh{N z:Int}(hN:0<N):z/N=(z-1)/N+if z % N=0 then 1 else 0:=by
 have h1:=Int.mul_ediv_add_emod z N
 have h2:=vek z (show N≠0 by omega)
 have h3:=vds z hN
 split
 .rename_i h
  have:(z-1)/N=z/N-1:=by
   refine((Int.ediv_emod_unique (r:=N-1) hN).mpr ⟨?_,by omega,by omega⟩).1
   rw[Int.mul_sub];omega
  omega
 .rename_i h
  have:(z-1)/N=z/N:=((Int.ediv_emod_unique (r:=z % N-1) hN).mpr ⟨by omega,by omega,by omega⟩).1
  omega
noncomputable def tms(t n p N:Int):Int:=(t+n-1-p)/N- (t-1-p)/N
theorem zqi{t p N:Int}:tms t 0 p N=0:=by unfold tms;rw[show t+0-1-p=t-1-p by omega];omega
theorem zqj{t n p N:Nat}(hp:p<N):tms t ((n+1:Nat):Int) p N=tms t n p N+if(t+n) % N=p then 1 else 0:=by
 unfold tms
 have h:=zqh (N:=(N:Int)) (z:=(t:Int)+ (n:Int)-p) (by omega)
 rw[show(t:Int)+ ((n+1:Nat):Int)-1-p=(t:Int)+n-p by omega,h,show(t:Int)+n-p-1=(t:Int)+n-1-p by omega]
 have hb:((t:Int)+n-p) % N=0↔(t+n) % N=p:=by
  rw[<-Int.emod_eq_emod_iff_emod_sub_eq_zero,Int.emod_eq_of_lt (a:=(p:Int)) (by omega) (by omega)]
  constructor
  .intro e
   have:(((t+n) % N:Nat):Int)=p:=by rw[Int.natCast_emod,vcf];exact e
   omega
  .intro e
   have:(((t+n) % N:Nat):Int)=p:=by rw[e]
   rw[Int.natCast_emod,vcf]at this
   exact this
 by_cases z:(t+n) % N=p
 .rw[if_pos z,if_pos (hb.mpr z)];omega
 .rw[if_neg z,if_neg λq=>z (hb.mp q)];omega
noncomputable def lawC(T d:Nat->Int):Nat->Int
 |0=>0
 |o+1=>lawC T d o+T o*d o
theorem zhc{d:Nat->Int}:∀o,lawC (λ_=>0) d o=0
 |0=>rfl
 |o+1=>by rw[lawC,zhc o];omega
theorem zhd{M o y:Nat}(hM:0<M):y=M*o+ (M-1)↔y % M+1=M/\y/M=o:=by
 constructor
 .intro e
  subst e
  rw[vem,vbe (by omega),vd0 hM,vc2 (by omega)]
  omega
 .intro⟨h1,h2⟩
  have:=ven y M
  rw[h2]at this
  omega
theorem zhe{T T' d:Nat->Int}{M y:Nat}(hM:0<M):∀o,(∀q,q<o->T' q=T q+if y=M*q+ (M-1)then 1 else 0)->lawC T' d o=lawC T d o+if y % M+1=M/\y/M<o then d (y/M)else 0
 |0,_=>by simp[lawC]
 |o+1,h=>by
  rw[lawC,lawC,zhe hM o λq hq=>h q (by omega),h o (by omega),Int.add_mul]
  by_cases z:y=M*o+ (M-1)
  .obtain⟨z1,z2⟩:=(zhd hM).mp z
   rw[if_pos z,if_neg (by omega),if_pos (by omega),z2]
   omega
  .have:¬(y % M+1=M/\y/M=o):=λq=>z ((zhd hM).mpr q)
   rw[if_neg z]
   by_cases w:y % M+1=M/\y/M<o
   .rw[if_pos w,if_pos (by omega)];omega
   .rw[if_neg w,if_neg (by omega)];omega
theorem zoc{g b t:Nat}{nm x:Int}{es:List Int}(b1:1<=b):∀n:Nat,lawC (λq=>tms t n ((2 ^ g*q+ (2 ^ g-1):Nat):Int) ((2 ^ g*b:Nat):Int)) (λq=>(if es.getD q 0=x then 1 else 0)-if nm=x then 1 else 0) b+ (if nm=x then(n:Int)else 0)=cnt (λk=>fnd g nm es ((t+k) % (2 ^ g*b))) x n
 |0=>by
  rw[show(λq:Nat=>tms (t:Int) ((0:Nat):Int) ((2 ^ g*q+ (2 ^ g-1):Nat):Int) ((2 ^ g*b:Nat):Int))=λ_=>0 from funext λq=>zqi,zhc]
  simp[cnt]
 |n+1=>by
  have M0:=vd1 g
  have N0:0<2 ^ g*b:=ve9 M0 b1
  have ih:=zoc (g:=g) (t:=t) (nm:=nm) (x:=x) (es:=es) b1 n
  rw[cnt,<-ih]
  rw[zhe (T:=λq=>tms t n ((2 ^ g*q+ (2 ^ g-1):Nat):Int) ((2 ^ g*b:Nat):Int)) (M:=2 ^ g) (y:=(t+n) % (2 ^ g*b)) M0 b λq hq=>zqj (by
   have:=vcj (2 ^ g) (show q+1<=b from hq)
   rw[vc9]at this
   omega)]
  have hy:(t+n) % (2 ^ g*b)/2 ^ g<b:=vdc (ve2 _ N0)
  unfold fnd
  generalize (t+n) % (2 ^ g*b)=y at *
  by_cases z:y % 2 ^ g+1=2 ^ g
  .rw[if_pos (c:=y % 2 ^ g+1=2 ^ g/\y/2 ^ g<b) ⟨z,hy⟩,if_pos z]
   by_cases a:nm=x<;>by_cases c:es.getD (y/2 ^ g) 0=x<;>simp only[a,c,va8,va7]<;>omega
  .rw[if_neg (c:=y % 2 ^ g+1=2 ^ g/\y/2 ^ g<b) (λq=>z q.1),if_neg z]
   by_cases a:nm=x<;>simp only[a,va8,va7]<;>omega
noncomputable def kvD(ks:List Int)(f:Int->Int):List (Key×W):=ks.map λx=>(.inl x,.int (f x))
noncomputable def addK(ks:List Int)(x:Int):List Int:=if x∈ks then ks else ks++[x]
noncomputable def updF(f:Int->Int)(x v:Int):Int->Int:=λy=>if y=x then v else f y
theorem zrt{f:Int->Int}{x:Int}:∀ks:List Int,((kvD ks f).any λkv=>decide (kv.1=.inl x))=decide (x∈ks)
 |[]=>rfl
 |k::ks=>by
  have ih:=zrt (f:=f) (x:=x) ks
  unfold kvD at ih ⊢
  rw[van,veg,ih]
  by_cases z:k=x
  .subst z;simp
  .have:¬((Sum.inl k:Key)=.inl x):=λq=>z (vfl q)
   have z':¬x=k:=λq=>z q.symm
   simp[this,z']
theorem zkb{ks:List Int}{f:Int->Int}{x v:Int}:putKW (kvD ks f) (.inl x) (.int v)=kvD (addK ks x) (updF f x v):=by
 unfold putKW addK
 rw[zrt]
 by_cases z:x∈ks
 .rw[if_pos (va1 z),if_pos z]
  unfold kvD
  rw[vct]
  refine vd9 λy _=>?_
  show(if(Sum.inl y:Key)=.inl x then((Sum.inl y:Key),W.int v)else(.inl y,.int (f y)))=_
  unfold updF
  by_cases q:y=x
  .rw[if_pos (vdr Sum.inl q),if_pos q]
  .rw[if_neg (λe=>q (vfl e)),if_neg q]
 .rw[if_neg (by simpa using z),if_neg z]
  unfold kvD
  rw[vbv]
  congr 1
  .refine vd9 λy hy=>?_
   unfold updF
   rw[if_neg (λe:y=x=>z (e▸hy))]
  .rw[van,vdj]
   unfold updF
   rw[if_pos rfl]
theorem zef{f:Int->Int}{x:Int}:∀ks:List Int,lookK (kvD ks f) (.inl x)=if x∈ks then some (.int (f x))else none
 |[]=>rfl
 |k::ks=>by
  have ih:=zef (f:=f) (x:=x) ks
  unfold lookK kvD at ih ⊢
  rw[van,vbk]
  by_cases z:k=x
  .subst z
   rw[va1 rfl,if_pos vai]
   rfl
  .rw[vay (λq=>z (vfl q))]
   show Option.map _ (List.find? _ _)=_
   rw[ih]
   by_cases q:x∈ks
   .rw[if_pos q,if_pos (vag _ q)]
   .rw[if_neg q,if_neg λe=>by
     rcases vau.mp e with e|e
     .exact z e.symm
     .exact q e]
structure DN(ns ks:List Int)(f:Int->Int):Prop where
 nd:ks.Nodup
 sub:∀x∈ks,x∈ns
 out:∀x,x∉ks->f x=0
theorem DN.nil{ns:List Int}:DN ns [] λ_=>0:=⟨vfc,λ_ h=>(nomatch h),λ_ _=>rfl⟩
theorem zct{ks:List Int}{x y:Int}:y∈addK ks x↔y∈ks\/y=x:=by
 unfold addK
 split
 .rename_i h
  constructor
  .exact .inl
  .rintro(q|q)
   .exact q
   .rw[q];exact h
 .simp
theorem DN.add{ns ks:List Int}{f:Int->Int}{x v:Int}(D:DN ns ks f)(hx:x∈ns):DN ns (addK ks x) (updF f x v):=by
 refine⟨?_,λy hy=>?_,λy hy=>?_⟩
 .unfold addK
  split
  .exact D.nd
  .rename_i h
   refine List.nodup_append.mpr ⟨D.nd,by simp,λa ha b hb=>?_⟩
   rw[vce.mp hb]
   exact λe=>h (e▸ha)
 .rcases zct.mp hy with q|q
  .exact D.sub y q
  .rw[q];exact hx
 .unfold updF
  rw[if_neg λe=>hy (zct.mpr (.inr e))]
  exact D.out y λe=>hy (zct.mpr (.inl e))
theorem DN.look{ns ks:List Int}{f:Int->Int}(D:DN ns ks f)(x:Int):(lookK (kvD ks f) (.inl x)).getD (.int 0)=.int (f x):=by
 rw[zef]
 split
 .rfl
 .rename_i h;rw[D.out x h];rfl
theorem DN.len{ns ks:List Int}{f:Int->Int}(D:DN ns ks f):ks.length<=ns.length:=zin D.nd D.sub
theorem nd_to:∀{l:List Int},l.Nodup->ndB l=true
 |[],_=>rfl
 |x::r,h=>by
  obtain⟨h1,h2⟩:=vcx.mp h
  unfold ndB
  rw[nd_to h2,Bool.and_true]
  simp[h1]
theorem zir:∀ls:List Int,mapO iZ (ls.map .int)=some ls
 |[]=>rfl
 |x::r=>by simp only[van,mapO,iZ,zir r]
theorem zod:∀ls:List (Int×Int),mapO pW (ls.map wP)=some ls
 |[]=>rfl
 |x::r=>by simp only[van,mapO,pW,wP,zod r]
theorem zqk(ls:List Int):srtL (ls.map .int)=some ((srtB id ls).map .int):=by unfold srtL;rw[zir]
theorem zoe{ls:List (Int×Int)}(h:(ls.map (·.1)).Nodup):srtL (ls.map wP)=some ((srtB (·.1) ls).map wP):=by
 cases ls with
 |nil=>rfl
 |cons p r=>
  unfold srtL
  rw[show mapO iZ ((p::r).map wP)=none from rfl,zod]
  dsimp only
  rw[nd_to h,if_pos rfl]
theorem zis{ks:List Int}{x:Int}:x∈srtB id ks↔x∈ks:=(zbh ks).mem_iff
theorem zof{c:Int->Int}{ks ms:List Int}(h1:ks.Nodup)(h2:ms.Nodup)(h:∀x,x∈ks↔x∈ms/\0<c x) :
 ((srtB id ms).filter λx=>decide (0<c x)).map (λx=>(x,c x))=srtB (·.1) (ks.map λx=>(x,c x)):=by
 refine zia (f:=λp:Int×Int=>p.1) (λa b ha hb e=>?_) (List.Perm.map _ ?_) ?_
 .obtain⟨x,_,rfl⟩:=va3.mp ha
  obtain⟨y,_,rfl⟩:=va3.mp hb
  rw[show x=y from e]
 .refine(List.perm_ext_iff_of_nodup ?_ h1).mpr λx=>?_
  .exact List.Pairwise.filter _ ((zbh ms).nodup_iff.mpr h2)
  .rw[List.mem_filter,zis,h x,vav]
 .refine List.pairwise_map.mpr (List.Pairwise.filter _ ?_)
  exact zm1 (f:=id) ms
noncomputable def zkc:S:=(.seq (.expr (.mt .append (.var 2) (.cons (.op .mod (.var 0) (.cst (.int (2)))) .nil))) (.seq (.set 0 (.op .fdiv (.var 0) (.cst (.int (2))))) .skip))
noncomputable def fn143:Fn:=⟨2,4,(.seq (.set 2 (.lst .nil)) (.seq (.«for» .rng1 (.cons (.var 1) .nil) (.one 3) zkc) (.seq (.ret (.bi .tuple (.cons (.var 2) .nil))) .skip)))⟩
theorem andT{cl:Call}{a b:E}{ρ:En}{h h1:VH}(ea:ev cl a ρ h=.ok (.bl true) h1):ev cl (.and a b) ρ h=ev cl b ρ h1:=by rw[ev,ea,bindok]
theorem andF{cl:Call}{a b:E}{ρ:En}{h h1:VH}(ea:ev cl a ρ h=.ok (.bl false) h1):ev cl (.and a b) ρ h=.ok (.bl false) h1:=by rw[ev,ea,bindok]
theorem zql{x:Int}{r:List Int}(hx:x=0\/x=1):((val (x::r):Nat):Int) % 2=x/\((val (x::r):Nat):Int)/2=(val r:Int):=by
 rcases hx with rfl|rfl<;>simp only[val]<;>constructor<;>omega
theorem zhf{cl:Call}{g:W}{r2:Nat}:∀(rest pre:List Int) (a:Int) (x3:Option W) (h:VH),Bits rest->pre.length+rest.length<=8->h.get r2=some (.lst (pre.map .int))->
 ∃x3' h',forL (tgW (.one 3)) (exs cl zkc) (zam a rest.length) [some (.int (val rest:Int)),some g,some (.ref r2),x3] h=.ok (.nx [some (.int 0),some g,some (.ref r2),x3']) h'/\h'.get r2=some (.lst ((pre++rest).map .int))/\Up r2 h h'
 |[],pre,a,x3,h,_,_,gr=>⟨x3,h,rfl,by rw[vcw];exact gr,.refl⟩
 |x::r,pre,a,x3,h,hb,hl,gr=>by
  obtain⟨m1,m2⟩:=zql (r:=r) (hb x vai)
  have gr':=zag (o:=.lst ((pre++[x]).map .int)) gr
  obtain⟨x3',h',e,g',u⟩:=zhf (cl:=cl) (g:=g) r (pre++[x]) (a+1) (some (.int a)) (h.set r2 (.lst ((pre++[x]).map .int))) (λy hy=>hb y (vag _ hy)) (by simp at hl ⊢;omega) gr'
  rw[vd2]at g'
  refine⟨x3',h',?_,g',(Up.set .refl gr (vad _)).trans u⟩
  rw[vaj,zav]
  refine(za8 (ρ':=[some (.int (val r:Int)),some g,some (.ref r2),some (.int a)]) (h':=h.set r2 (.lst ((pre++[x]).map .int))) ?_).trans e
  have ea:=zbe (cl:=cl) (i:=2) (l:=r2) (x:=.op .mod (.var 0) (.cst (.int (2)))) (w:=.int x) (ρ:=[some (.int (val (x::r):Int)),some g,some (.ref r2),some (.int a)]) (h:=h) rfl gr (opE (varE rfl) rfl ((modI (by decide)).trans (by rw[m1]))) gr (by simp at hl ⊢;omega)
  rw[show pre.map W.int++[.int x]=(pre++[x]).map .int by rw[vbv];rfl]at ea
  refine(zaa (exprE ea)).trans ?_
  refine(zaa (setE (x:=.int (val r:Int)) (h1:=h.set r2 (.lst ((pre++[x]).map .int))) (opE (varE rfl) rfl ?_))).trans rfl
  show Res.of ((opI .fdiv _ 2).map W.int) _=_
  rw[show opI .fdiv (val (x::r):Int) 2=some ((val (x::r):Int)/2)from rfl,m2]
  rfl
theorem zqm{F:Nat->Option Fn}(f143:F 143=some fn143){k g:Nat}{ls:List Int}{h:VH}(hl:ls.length=g)(hg:g<=8)(hb:Bits ls):run F (k+1) 143 [.int (val ls:Int),.int (g:Int)] h=.ok (iW ls) h:=by
 rw[zao f143 rfl]
 obtain⟨x3,h',e,g',u⟩:=zhf (cl:=run F k) (g:=.int (g:Int)) (r2:=h.n) ls [] 0 none (VH.new ⟨h.n,h.n,h.os⟩ (.lst [])) hb (by simp;omega) (zai (h:=⟨h.n,h.n,h.os⟩))
 rw[hl]at e
 have eb:exs (run F k) fn143.body [some (.int (val ls:Int)),some (.int (g:Int)),none,none] ⟨h.n,h.n,h.os⟩=.ok (.rt (iW ls)) h':=by
  refine(zaa (setE (h1:=VH.new ⟨h.n,h.n,h.os⟩ (.lst [])) (x:=.ref h.n) rfl)).trans ?_
  refine(zaa ((zb0 (n:=g) (varE rfl) (by omega)).trans e)).trans ?_
  exact zak (retE (zcc rfl g'))
 show fin h (exs (run F k) fn143.body [some (.int (val ls:Int)),some (.int (g:Int)),none,none] ⟨h.n,h.n,h.os⟩)=_
 rw[eb]
 exact zj8 ((Up.new .refl).trans u) (λ_=>iW_lt)
theorem lst3E{cl:Call}{a b c:E}{ρ:En}{h h1 h2 h3:VH}{x y z:W}(ea:ev cl a ρ h=.ok x h1)(eb:ev cl b ρ h1=.ok y h2)(ec:ev cl c ρ h2=.ok z h3):ev cl (.lst (.cons a (.cons b (.cons c .nil)))) ρ h=.ok (.ref h3.n) (h3.new (.lst [x,y,z])):=by
 rw[ev,ev,ea,bindok,ev,eb,bindok,ev,ec,bindok,ev]
 rfl
theorem zkd:∀ls:List Int,ls.reverse.foldl (λa x=>2*a+x.toNat) 0=val ls
 |[]=>rfl
 |x::r=>by
  rw[List.reverse_cons,List.foldl_append,zkd r]
  show 2*val r+x.toNat=x.toNat+2*val r
  omega
theorem zqn{cl:Call}{a:E}{t:Tg}{bd:S}{ρ:En}{h:VH}{ws:List W}(ea:ev cl a ρ h=.ok (.tup ws) h)(hn:ws.length<1000000):exs cl (.«for» .rev a t bd) ρ h=forL (tgW t) (exs cl bd) ws.reverse ρ h:=by
 have:=zbs (nx:=nxt .rev (.tup ws)) (tg:=tgW t) (b:=exs cl bd) (ws:=ws.reverse) (λi h=>rfl) fuel 0 ρ h (vbb _) (by rw[vdm];unfold fuel;omega)
 rw[exs,ea,bindok,this,vd7]
theorem At.good{g b t:Nat}{nm:Int}{es:List Int}{la:Option Nat}{s:Stn}(h:At g b s t):GoodS (chain g b nm es la) s:=by
 obtain⟨ls,i,rfl,a1,a2,a3,a4⟩:=h
 refine⟨by show(ls.length:Int)=(g:Int);omega,a2,λf e=>?_⟩
 cases e
 show i< ((List.range b).map _).length
 rw[vaf,List.length_range];exact a3
noncomputable def fn58:Fn:=⟨1,1,(.seq (.ret (.call 1 (.cons (.var 0) (.cons (.cst (.int (0))) (.cons (.cst (.int (100000000000000000000000000000000000000000000000000))) .nil))))) .skip)⟩
noncomputable def fn61:Fn:=⟨3,6,(.seq (.ite (.or (.cmp .isn (.var 1) (.cst .non)) (.cmp .lt (.var 2) (.var 0))) (.seq (.set 3 (.bi .min (.cons (.var 2) (.cons (.op .sub (.var 0) (.cst (.int (1)))) .nil)))) (.seq (.ret (.tup (.cons (.op .add (.op .mul (.lst (.cons (.cst (.int (1))) .nil)) (.var 3)) (.op .mul (.lst (.cons (.cst (.int (0))) .nil)) (.op .sub (.var 0) (.var 3)))) (.cons (.var 3) .nil)))) .skip)) .skip) (.seq (.unp [4,5] (.bi .dvm (.cons (.op .sub (.var 2) (.var 1)) (.cons (.op .sub (.var 0) (.var 1)) .nil)))) (.seq (.ret (.tup (.cons (.op .add (.op .add (.op .mul (.lst (.cons (.cst (.int (1))) .nil)) (.var 1)) (.op .mul (.lst (.cons (.op .add (.var 4) (.cst (.int (1)))) .nil)) (.var 5))) (.op .mul (.lst (.cons (.var 4) .nil)) (.op .sub (.op .sub (.var 0) (.var 1)) (.var 5)))) (.cons (.op .add (.var 1) (.var 5)) .nil)))) .skip)))⟩
noncomputable def zf8:S:=(.seq (.ite (.cmp .gt (.var 10) (.cst (.int (0)))) (.seq (.unp [11,12] (.call 176 (.cons (.var 0) (.cons (.var 8) (.cons (.var 9) (.cons (.cst .non) .nil)))))) (.seq (.put (.var 7) (.idx (.var 11) (.cst (.int (0)))) (.op .add (.mt .get (.var 7) (.cons (.idx (.var 11) (.cst (.int (0)))) (.cons (.cst (.int (0))) .nil))) (.var 10))) .skip)) .skip) .skip)
noncomputable def zdj:E:=(.cmp .notn (.var 0) (.cst .non))
noncomputable def zdk:E:=(.tup (.cons (.var 0) (.cons (.idx (.var 1) (.var 0)) .nil)))
noncomputable def fn206:Fn:=⟨3,14,(.seq (.unp [3,4] (.var 1)) (.seq (.unp [5,6] (.call 61 (.cons (.bi .len (.cons (.var 3) .nil)) (.cons (.var 4) (.cons (.var 2) .nil))))) (.seq (.set 7 (.bi .dm0 .nil)) (.seq (.«for» .zip (.cons (.var 3) (.cons (.var 5) .nil)) (.two [8,9] 10) zf8) (.seq (.set 13 (.lc .keys (.bi .frz (.cons (.var 7) .nil)) (.one 0) 1 [7] zdj zdk)) (.seq (.ret (.tup (.cons (.idx (.var 3) (.var 6)) (.cons (.bi .tuple (.cons (.bi .srt (.cons (.var 13) .nil)) .nil)) (.cons (.bi .sum (.cons (.var 5) .nil)) .nil))))) .skip))))))⟩
noncomputable def fn208:Fn:=⟨3,3,(.seq (.expr (.call 29 (.cons (.var 0) (.cons (.var 1) .nil)))) (.seq (.ite (.not (.tru (.call 58 (.cons (.var 2) .nil)))) (.seq .no .skip) .skip) (.seq (.ret (.call 206 (.cons (.var 0) (.cons (.call 184 (.cons (.var 0) (.cons (.var 1) .nil))) (.cons (.var 2) .nil))))) .skip)))⟩
theorem zog{h h':VH}{w:W}(u:Up h.n ⟨h.n,h.n,h.os⟩ h')(hw:W.lt h.n w=false):∃h2,fin h (.ok (.rt w) h')=.ok w h2/\Up h.n h h2/\∀i,h2.get i=h'.get i:=by
 refine⟨⟨h'.n,if Nat.ble h.lo h'.lo then h.lo else h'.lo,h'.os⟩,?_,⟨u.le,λx y z=>?_,λi o hi e=>?_⟩,λi=>rfl⟩
 .show leave h w h'=_
  unfold leave
  rw[hw,Bool.and_false]
  rfl
 .have:=u.lo h.n (vad _) (vad _)
  show x<=if Nat.ble h.lo h'.lo then h.lo else h'.lo
  split<;>omega
 .exact u.get i o hi e
theorem minE{cl:Call}{a b:E}{ρ:En}{h h1 h2:VH}{m n:Nat}(ea:ev cl a ρ h=.ok (.int (m:Int)) h1)(eb:ev cl b ρ h1=.ok (.int (n:Int)) h2):ev cl (.bi .min (.cons a (.cons b .nil))) ρ h=.ok (.int ((min m n:Nat):Int)) h2:=by
 rw[ev,ev,ea,bindok,ev,eb,bindok,ev]
 show Res.ok (W.int (if(n:Int)< (m:Int)then(n:Int)else(m:Int))) h2=_
 have:(if(n:Int)< (m:Int)then(n:Int)else(m:Int))=((min m n:Nat):Int):=by
  split<;>omega
 rw[this]
theorem getME{cl:Call}{a:E}{i d:Nat}{ρ:En}{h:VH}{x:Int}{kvs:List (Key×W)}(hρ:ρ[i]?=some (some (.ref d)))(g:h.get d=some (.dm kvs))(ea:ev cl a ρ h=.ok (.int x) h):ev cl (.mt .get (.var i) (.cons a (.cons (.cst (.int (0))) .nil))) ρ h=.ok ((lookK kvs (.inl x)).getD (.int 0)) h:=by
 rw[ev,varE hρ,bindok]
 simp only[zdu,g,va8]
 rw[ev,ea,bindok,ev,show ev cl (.cst (.int (0))) ρ h=.ok (.int 0) h from rfl,bindok,ev,bindok,bindok,bindok]
 simp only[mtW,g,keyW]
theorem putME{cl:Call}{o i v:E}{ρ:En}{h:VH}{d:Nat}{x:Int}{w:W}{kvs:List (Key×W)}(e1:ev cl v ρ h=.ok w h)(e2:ev cl o ρ h=.ok (.ref d) h)(e3:ev cl i ρ h=.ok (.int x) h)(g:h.get d=some (.dm kvs))(hl:kvs.length<1000):exs cl (.put o i v) ρ h=.ok (.nx ρ) (h.set d (.dm (putKW kvs (.inl x) w))):=by
 rw[exs,e1,bindok,e2,bindok,e3,bindok]
 simp only[g,putM]
 rw[zih (by omega),if_pos rfl]
theorem sumR(ws:List Int){h:VH}{r:Nat}(g:h.get r=some (.lst (ws.map .int))):sumW [.ref r] h=.ok (.int ws.sum) h:=by
 simp only[sumW,g,zir,vaw,ofsome]
theorem zru{c e:FE}{h:VH}{d:Nat}{kvs:List (Key×W)}{tl:En}{f:W->W}(g:h.get d=some (.dk kvs))(hc:∀kv∈kvs,c (some (keyV kv.1)::tl) h=.ok (.bl true) h)(he:∀kv∈kvs,e (some (keyV kv.1)::tl) h=.ok (f (keyV kv.1)) h) :
 ∀(fu i:Nat)(a:Option W)(acc:List W),i<=kvs.length->kvs.length<fu+i->lcG (nxt .keys (.ref d)) (tgW (.one 0)) c e fu i (a::tl) h acc=.ok (acc.reverse++(kvs.drop i).map λkv=>f (keyV kv.1)) h
 |0,i,a,acc,hi,hl=>by omega
 |fu+1,i,a,acc,hi,hl=>by
  cases q:kvs[i]? with
  |none=>
   have hi':i=kvs.length:=by have:=va6.mp q;omega
   subst hi'
   rw[vdq (vad _)]
   simp only[lcG,nxt,g,q,beq_self_eq_true,Nat.beq_refl,va8]
   simp
  |some kv=>
   obtain⟨hi,ee⟩:=vaq.mp q
   have hm:=vb3 q
   simp only[lcG,nxt,g,q,tgW,vbm,hc kv hm,bindok,he kv hm]
   rw[vc8 hi,ee]
   rw[zru g hc he fu (i+1) (some (keyV kv.1)) (f (keyV kv.1)::acc) hi (by omega)]
   simp
noncomputable def za2(m:Nat)(back:Option Nat)(n:Nat):List Int×Nat:=match back with
 |none=>(vgc (min n (m-1)) 1++vgc (m-min n (m-1)) 0,min n (m-1))
 |some b=>if n<m then(vgc (min n (m-1)) 1++vgc (m-min n (m-1)) 0,min n (m-1))
  else(vgc b 1++vgc ((n-b) % (m-b)) (((n-b)/ (m-b):Nat)+1:Int)++vgc (m-b- (n-b) % (m-b)) (((n-b)/ (m-b):Nat):Int),b+ (n-b) % (m-b))
theorem repE1{cl:Call}{a b:E}{ρ:En}{h:VH}{x:Int}{n:Nat}(ea:ev cl a ρ h=.ok (.int x) h)(eb:ev cl b ρ (h.new (.lst [.int x]))=.ok (.int (n:Int)) (h.new (.lst [.int x])))(hn:n<=5000):ev cl (.op .mul (.lst (.cons a .nil)) b) ρ h=.ok (.ref (h.n+1)) ((h.new (.lst [.int x])).new (.lst ((vgc n x).map .int))):=by
 refine opE (lst1E ea) eb ?_
 rw[repL (n:=n) (xs:=[.int x]) zai hn (by simp;omega),vb0,List.map_replicate]
 rfl
theorem catI{cl:Call}{a b:E}{ρ:En}{h h1 h2:VH}{l m:Nat}{xs ys:List Int}(ea:ev cl a ρ h=.ok (.ref l) h1)(eb:ev cl b ρ h1=.ok (.ref m) h2)(g:h2.get l=some (.lst (xs.map .int)))(g2:h2.get m=some (.lst (ys.map .int)))(hx:xs.length+ys.length<=1000000):ev cl (.op .add a b) ρ h=.ok (.ref h2.n) (h2.new (.lst ((xs++ys).map .int))):=by
 refine opE ea eb ?_
 rw[catL g g2 (by rw[vaf,vaf];exact hx),vbv]
section
variable{F:Nat->Option Fn}(f61:F 61=some fn61)
include f61
theorem zqo{k m n:Nat}{back:Option Nat}{h:VH}(hm:1<=m)(hm2:m<=1281)(hb:∀b,back=some b->b<m) :
 ∃r h',run F (k+1) 61 [.int (m:Int),backW back,.int (n:Int)] h=.ok (.tup [.ref r,.int ((za2 m back n).2:Int)]) h'/\h'.get r=some (.lst ((za2 m back n).1.map .int))/\h.n<=r/\Up h.n h h':=by
 rw[zao f61 rfl]
 have short:∀c:E,ev (run F k) c [some (.int (m:Int)),some (backW back),some (.int (n:Int)),none,none,none] ⟨h.n,h.n,h.os⟩=.ok (.bl true) ⟨h.n,h.n,h.os⟩->∀s:S,∃r h',fin h (exs (run F k) (.seq (.ite c (.seq (.set 3 (.bi .min (.cons (.var 2) (.cons (.op .sub (.var 0) (.cst (.int (1)))) .nil)))) (.seq (.ret (.tup (.cons (.op .add (.op .mul (.lst (.cons (.cst (.int (1))) .nil)) (.var 3)) (.op .mul (.lst (.cons (.cst (.int (0))) .nil)) (.op .sub (.var 0) (.var 3)))) (.cons (.var 3) .nil)))) .skip)) .skip) s) [some (.int (m:Int)),some (backW back),some (.int (n:Int)),none,none,none] ⟨h.n,h.n,h.os⟩)=.ok (.tup [.ref r,.int ((min n (m-1):Nat):Int)]) h'/\h'.get r=some (.lst ((vgc (min n (m-1)) (1:Int)++vgc (m-min n (m-1)) 0).map .int))/\h.n<=r/\Up h.n h h':=by
  intro c ec s
  let k0:VH:=⟨h.n,h.n,h.os⟩
  let k1:=k0.new (.lst [.int 1])
  let k2:=k1.new (.lst ((vgc (min n (m-1)) (1:Int)).map .int))
  let k3:=k2.new (.lst [.int 0])
  let k4:=k3.new (.lst ((vgc (m-min n (m-1)) (0:Int)).map .int))
  let k5:=k4.new (.lst ((vgc (min n (m-1)) 1++vgc (m-min n (m-1)) (0:Int)).map .int))
  have eb:exs (run F k) (.seq (.ite c (.seq (.set 3 (.bi .min (.cons (.var 2) (.cons (.op .sub (.var 0) (.cst (.int (1)))) .nil)))) (.seq (.ret (.tup (.cons (.op .add (.op .mul (.lst (.cons (.cst (.int (1))) .nil)) (.var 3)) (.op .mul (.lst (.cons (.cst (.int (0))) .nil)) (.op .sub (.var 0) (.var 3)))) (.cons (.var 3) .nil)))) .skip)) .skip) s) [some (.int (m:Int)),some (backW back),some (.int (n:Int)),none,none,none] k0=.ok (.rt (.tup [.ref k4.n,.int ((min n (m-1):Nat):Int)])) k5:=by
   refine zak ((iteT ec).trans ?_)
   refine(zaa (setE (minE (varE rfl) (n:=m-1) (h2:=k0) (opE (varE rfl) rfl ?_)))).trans ?_
   .rw[subI,show(m:Int)-1=((m-1:Nat):Int) by omega]
   refine zak (retE (tup2E (h1:=k5) (catI (l:=k1.n) (m:=k3.n) (h1:=k2) (h2:=k4) (repE1 rfl (varE rfl) (by omega)) (repE1 rfl (opE (varE rfl) (varE rfl) ?_) (by omega)) ?_ zai (by simp;omega)) (varE rfl)))
   .rw[subI,show(m:Int)- ((min n (m-1):Nat):Int)=((m-min n (m-1):Nat):Int) by omega]
   .exact(zab (show k1.n<k3.n from vah (vbc _) (vci _))).trans ((zab (vbc _)).trans zai)
  have u:Up h.n ⟨h.n,h.n,h.os⟩ k5:=Up.new (Up.new (Up.new (Up.new (Up.new .refl))))
  obtain⟨h2,e2,u2,G⟩:=zog (h:=h) (w:=.tup [.ref k4.n,.int ((min n (m-1):Nat):Int)]) u (by
   have:Nat.blt (h.n+4) h.n=false:=by rw[<-Bool.not_eq_true,zap];omega
   show(Nat.blt (h.n+4) h.n&&_)=false
   rw[this];rfl)
  refine⟨k4.n,h2,?_,?_,by show h.n<=h.n+4;omega,u2⟩
  .rw[<-e2];exact vdr (fin h) eb
  .rw[G];exact zai
 cases back with
 |none=>exact short (.or (.cmp .isn (.var 1) (.cst .non)) (.cmp .lt (.var 2) (.var 0))) rfl _
 |some b=>
  have hb:=hb b rfl
  have ec:ev (run F k) (.or (.cmp .isn (.var 1) (.cst .non)) (.cmp .lt (.var 2) (.var 0))) [some (.int (m:Int)),some (backW (some b)),some (.int (n:Int)),none,none,none] ⟨h.n,h.n,h.os⟩=.ok (.bl (decide ((n:Int)< (m:Int)))) ⟨h.n,h.n,h.os⟩:=rfl
  unfold za2
  by_cases z:n<m
  .rw[va1 (by omega)]at ec
   simp only[if_pos z]
   exact short _ ec _
  .rw[vay (by omega)]at ec
   simp only[if_neg z]
   have hd:((n:Int)- (b:Int))=((n-b:Nat):Int)/\((m:Int)- (b:Int))=((m-b:Nat):Int):=by omega
   have hr:=ve2 (n-b) (show 0<m-b by omega)
   have hq1:(((n-b:Nat):Int)/ ((m-b:Nat):Int))=(((n-b)/ (m-b):Nat):Int):=rfl
   have hq2:(((n-b:Nat):Int) % ((m-b:Nat):Int))=(((n-b) % (m-b):Nat):Int):=rfl
   generalize hQ:(n-b)/ (m-b)=q at *
   generalize hR:(n-b) % (m-b)=t at *
   let k0:VH:=⟨h.n,h.n,h.os⟩
   let k1:=k0.new (.lst [.int 1])
   let k2:=k1.new (.lst ((vgc b (1:Int)).map .int))
   let k3:=k2.new (.lst [.int ((q:Int)+1)])
   let k4:=k3.new (.lst ((vgc t ((q:Int)+1)).map .int))
   let k5:=k4.new (.lst ((vgc b 1++vgc t ((q:Int)+1)).map .int))
   let k6:=k5.new (.lst [.int (q:Int)])
   let k7:=k6.new (.lst ((vgc (m-b-t) (q:Int)).map .int))
   let k8:=k7.new (.lst ((vgc b 1++vgc t ((q:Int)+1)++vgc (m-b-t) (q:Int)).map .int))
   have eb:exs (run F k) fn61.body [some (.int (m:Int)),some (backW (some b)),some (.int (n:Int)),none,none,none] k0=.ok (.rt (.tup [.ref k7.n,.int ((b+t:Nat):Int)])) k8:=by
    refine(zaa (ρ':=[some (.int (m:Int)),some (backW (some b)),some (.int (n:Int)),none,none,none]) (h':=k0) ((iteF ec).trans rfl)).trans ?_
    refine(zaa (ρ':=[some (.int (m:Int)),some (backW (some b)),some (.int (n:Int)),none,some (.int (q:Int)),some (.int (t:Int))]) (h':=k0) ?_).trans ?_
    .have e1:ev (run F k) (.bi .dvm (.cons (.op .sub (.var 2) (.var 1)) (.cons (.op .sub (.var 0) (.var 1)) .nil))) [some (.int (m:Int)),some (backW (some b)),some (.int (n:Int)),none,none,none] k0=.ok (.tup [.int (q:Int),.int (t:Int)]) k0:=by
      rw[ev,ev,opE (varE rfl) (varE rfl) (show opW .sub (.int (n:Int)) (.int (b:Int)) k0=.ok (.int ((n-b:Nat):Int)) k0 by rw[subI,hd.1]),bindok,ev,opE (varE rfl) (varE rfl) (show opW .sub (.int (m:Int)) (.int (b:Int)) k0=.ok (.int ((m-b:Nat):Int)) k0 by rw[subI,hd.2]),bindok,ev]
      show dvmW [.int ((n-b:Nat):Int),.int ((m-b:Nat):Int)] k0=_
      unfold dvmW
      dsimp only
      rw[va1 (show(0:Int)< ((m-b:Nat):Int) by omega),va1 (show((m-b:Nat):Int)<1073741824 by omega)]
      simp only[vd3,va8,hq1,hq2]
     rw[exs,e1,bindok]
     rfl
    refine zak (retE (tup2E (h1:=k8) (catI (l:=k4.n) (m:=k6.n) (h1:=k5) (h2:=k7) (catI (l:=k1.n) (m:=k3.n) (h1:=k2) (h2:=k4) (repE1 rfl (varE rfl) (by omega)) (repE1 (opE (varE rfl) rfl addI) (varE rfl) (by omega)) ?_ zai (by simp;omega)) (repE1 (varE rfl) (opE (opE (varE rfl) (varE rfl) (show opW .sub (.int (m:Int)) (.int (b:Int)) k6=.ok (.int ((m-b:Nat):Int)) k6 by rw[subI,hd.2])) (varE rfl) ?_) (by omega)) ?_ zai (by simp;omega)) (opE (varE rfl) (varE rfl) ?_)))
    .exact(zab (show k1.n<k3.n from vah (vbc _) (vci _))).trans ((zab (vbc _)).trans zai)
    .rw[subI,show((m-b:Nat):Int)- (t:Int)=((m-b-t:Nat):Int) by omega]
    .exact(zab (show k4.n<k6.n from vah (vbc _) (vci _))).trans ((zab (vbc _)).trans zai)
    .rfl
   have u:Up h.n ⟨h.n,h.n,h.os⟩ k8:=Up.new (Up.new (Up.new (Up.new (Up.new (Up.new (Up.new (Up.new .refl)))))))
   obtain⟨h2,e2,u2,G⟩:=zog (h:=h) (w:=.tup [.ref k7.n,.int ((b+t:Nat):Int)]) u (by
    have:Nat.blt (h.n+7) h.n=false:=by rw[<-Bool.not_eq_true,zap];omega
    show(Nat.blt (h.n+7) h.n&&_)=false
    rw[this];rfl)
   refine⟨k7.n,h2,?_,?_,by show h.n<=h.n+7;omega,u2⟩
   .rw[<-e2];exact vdr (fin h) eb
   .rw[G];exact zai
end
theorem zhg{nx:Nat->VH->Option (Option W)}{tg:W->VH->En->Option En}{b:FS}{fu i:Nat}{ρ ρ1 ρ2:En}{h h2:VH}{w:W}(e1:nx i h=some (some w))(e2:tg w h ρ=some ρ1)(e3:b ρ1 h=.ok (.nx ρ2) h2):forG nx tg b (fu+1) i ρ h=forG nx tg b fu (i+1) ρ2 h2:=by
 rw[forG,e1]
 dsimp only
 rw[e2]
 dsimp only
 rw[e3,bindok]
theorem zhh{nx:Nat->VH->Option (Option W)}{tg:W->VH->En->Option En}{b:FS}{fu i:Nat}{ρ:En}{h:VH}(e1:nx i h=some none):forG nx tg b (fu+1) i ρ h=.ok (.nx ρ) h:=by
 rw[forG,e1]
theorem zrv{f tm:Nat->Int}{x:Int}(h:∀j,0<=tm j):∀n,0<=wcn f tm x n
 |0=>ve6 _
 |n+1=>by
  have:=zrv (f:=f) (x:=x) h n
  have:=h n
  rw[wcn]
  split<;>omega
theorem zt5{ts:List Int}(h:∀t∈ts,0<=t)(j:Nat):0<=ts.getD j 0:=by
 rw[va4]
 cases z:ts[j]? with
 |none=>exact ve6 _
 |some t=>exact h t (vb3 z)
theorem zoh{h:VH}{ws zs:List W}{r i:Nat}(g:h.get r=some (.lst zs)):nxt .zip (.tup [.tup ws,.ref r]) i h=some (match ws[i]?,zs[i]? with|some a,some b=>some (.tup [a,b])|_,_=>none):=by
 simp only[nxt,seqW,g]
 try(cases ws[i]?<;>cases zs[i]?<;>rfl)
noncomputable abbrev E206(B p n xs bk:W)(r:Nat)(la:W)(d:Nat)(x8 x9 x10 x11 x12 x13:Option W):En:=[some B,some p,some n,some xs,some bk,some (.ref r),some la,some (.ref d),x8,x9,x10,x11,x12,x13]
structure Rk(ns ks:List Int)(f:Int->Int)(nf:Nat->Int)(ts:List Int)(j:Nat):Prop where
 dn:DN ns ks f
 eq:∀x,f x=wcn nf (λj=>ts.getD j 0) x j
 pos:∀x,x∈ks↔0<f x
section
variable{F:Nat->Option Fn}{k:Nat}{B p n bk la:W}{xs:List Stn}{ts ns:List Int}{nf:Nat->Int}{r d bs:Nat}
theorem zt6{j:Nat}{s:Stn}{t:Int}{ks:List Int}{f:Int->Int}{h:VH}{x11 x12 x13:Option W}(hns:ns.length<=900)(hco:0<t->nf j∈ns/\∀h,∃c q,run F k 176 [B,iW s.1,optW s.2,.non] h=.ok (.tup [.tup [.int (nf j),c],q]) h)(nn:∀t∈ts,0<=t)(ht:ts[j]?=some t)
 (hd:bs<=d) (hne:r≠d) (gr:h.get r=some (.lst (ts.map .int))) (gd:h.get d=some (.dm (kvD ks f))) (R:Rk ns ks f nf ts j) :
 ∃y11 y12 ks' f' h',exs (run F k) zf8 (E206 B p n (.tup (xs.map stW)) bk r la d (some (iW s.1)) (some (optW s.2)) (some (.int t)) x11 x12 x13) h=.ok (.nx (E206 B p n (.tup (xs.map stW)) bk r la d (some (iW s.1)) (some (optW s.2)) (some (.int t)) y11 y12 x13)) h'/\h'.get r=some (.lst (ts.map .int))/\h'.get d=some (.dm (kvD ks' f'))/\Rk ns ks' f' nf ts (j+1)/\Up bs h h':=by
 have ht':ts.getD j 0=t:=by rw[va4,ht];rfl
 have t0:=nn t (vb3 ht)
 have hpos:=λx=>zrv (f:=nf) (x:=x) (zt5 nn) j
 have ec:ev (run F k) (.cmp .gt (.var 10) (.cst (.int (0)))) (E206 B p n (.tup (xs.map stW)) bk r la d (some (iW s.1)) (some (optW s.2)) (some (.int t)) x11 x12 x13) h=.ok (.bl (decide (0<t))) h:=rfl
 by_cases z:0<t
 .obtain⟨hm,hr⟩:=hco z
  obtain⟨c,q,e176⟩:=hr h
  rw[va1 z]at ec
  have gs:=zag (o:=.dm (kvD (addK ks (nf j)) (updF f (nf j) (f (nf j)+t)))) gd
  refine⟨some (.tup [.int (nf j),c]),some q,addK ks (nf j),updF f (nf j) (f (nf j)+t),_,?_,(zaf gd hne).trans gr,gs,⟨R.dn.add hm,λx=>?_,λx=>?_⟩,Up.set .refl gd hd⟩
  .refine(zaa (ρ':=E206 B p n (.tup (xs.map stW)) bk r la d (some (iW s.1)) (some (optW s.2)) (some (.int t)) (some (.tup [.int (nf j),c])) (some q) x13) ((iteT ec).trans ?_)).trans rfl
   refine(zaa (ρ':=E206 B p n (.tup (xs.map stW)) bk r la d (some (iW s.1)) (some (optW s.2)) (some (.int t)) (some (.tup [.int (nf j),c])) (some q) x13) (h':=h) ?_).trans ?_
   .rw[exs,znv (varE rfl) (varE rfl) (varE rfl) rfl e176,bindok]
    rfl
   refine(zaa (putME (w:=.int (f (nf j)+t)) (opE (getME rfl gd (idxE (varE rfl) rfl rfl)) (varE rfl) ?_) (varE rfl) (idxE (x:=.tup [.int (nf j),c]) (varE rfl) rfl rfl) gd ?_)).trans ?_
   .rw[R.dn.look,addI]
   .have:=R.dn.len
    unfold kvD
    rw[vaf]
    omega
   .rw[zkb];rfl
  .unfold updF
   rw[wcn,ht',<-R.eq x]
   by_cases e:x=nf j
   .rw[if_pos e,if_pos e.symm,e]
   .rw[if_neg e,if_neg (λq=>e q.symm)];omega
  .rw[zct,R.pos x]
   unfold updF
   by_cases e:x=nf j
   .have:=hpos (nf j)
    rw[<-R.eq]at this
    rw[if_pos e]
    exact⟨λ_=>by omega,λ_=>.inr e⟩
   .rw[if_neg e]
    exact⟨λq=>q.resolve_right e,.inl⟩
 .rw[vay z]at ec
  have tz:t=0:=by omega
  refine⟨x11,x12,ks,f,h,(zaa (ρ':=E206 B p n (.tup (xs.map stW)) bk r la d (some (iW s.1)) (some (optW s.2)) (some (.int t)) x11 x12 x13) (h':=h) ((iteF ec).trans rfl)).trans rfl,gr,gd,⟨R.dn,λx=>?_,R.pos⟩,.refl⟩
  rw[wcn,ht',<-R.eq x,tz]
  split<;>omega
theorem zoi{x13:Option W}(hts:ts.length=xs.length)(hns:ns.length<=900)(hco:∀(j:Nat) (s:Stn) (t:Int),xs[j]?=some s->ts[j]?=some t->0<t->nf j∈ns/\∀h,∃c q,run F k 176 [B,iW s.1,optW s.2,.non] h=.ok (.tup [.tup [.int (nf j),c],q]) h)(nn:∀t∈ts,0<=t)
 (hd:bs<=d) (hne:r≠d):∀(m j fu:Nat)(x8 x9 x10 x11 x12:Option W)(ks:List Int)(f:Int->Int)(h:VH),j+m=xs.length->m<fu->h.get r=some (.lst (ts.map .int))->h.get d=some (.dm (kvD ks f))->Rk ns ks f nf ts j->
 ∃y8 y9 y10 y11 y12 ks' f' h',forG (nxt .zip (.tup [.tup (xs.map stW),.ref r])) (tgW (.two [8,9] 10)) (exs (run F k) zf8) fu j (E206 B p n (.tup (xs.map stW)) bk r la d x8 x9 x10 x11 x12 x13) h=.ok (.nx (E206 B p n (.tup (xs.map stW)) bk r la d y8 y9 y10 y11 y12 x13)) h'/\h'.get r=some (.lst (ts.map .int))/\h'.get d=some (.dm (kvD ks' f'))/\Rk ns ks' f' nf ts xs.length/\Up bs h h'
 |m,j,0,x8,x9,x10,x11,x12,ks,f,h,hj,hfu,gr,gd,R=>by omega
 |0,j,fu+1,x8,x9,x10,x11,x12,ks,f,h,hj,hfu,gr,gd,R=>by
  have hj:j=xs.length:=by omega
  subst hj
  refine⟨x8,x9,x10,x11,x12,ks,f,h,zhh ?_,gr,gd,R,.refl⟩
  rw[zoh gr,List.getElem?_eq_none (by simp)]
 |m+1,j,fu+1,x8,x9,x10,x11,x12,ks,f,h,hj,hfu,gr,gd,R=>by
  have h1:xs[j]?=some xs[j]:=vat (by omega)
  have h2:ts[j]?=some ts[j]:=vat (by omega)
  generalize xs[j]=s at h1
  generalize ts[j]=t at h2
  obtain⟨y11,y12,ks1,f1,h',e,gr',gd',R',u⟩:=zt6 (F:=F) (k:=k) (B:=B) (p:=p) (n:=n) (bk:=bk) (la:=la) (xs:=xs) (x11:=x11) (x12:=x12) (x13:=x13) hns (λz=>hco j s t h1 h2 z) nn h2 hd hne gr gd R
  obtain⟨z8,z9,z10,z11,z12,ks2,f2,h2',e2,a1,a2,a3,u2⟩:=zoi (x13:=x13) hts hns hco nn hd hne m (j+1) fu (some (iW s.1)) (some (optW s.2)) (some (.int t)) y11 y12 ks1 f1 h' (by omega) (by omega) gr' gd' R'
  refine⟨z8,z9,z10,z11,z12,ks2,f2,h2',?_,a1,a2,a3,u.trans u2⟩
  refine(zhg (w:=.tup [stW s,.int t]) (ρ1:=E206 B p n (.tup (xs.map stW)) bk r la d (some (iW s.1)) (some (optW s.2)) (some (.int t)) x11 x12 x13) ?_ rfl e).trans e2
  rw[zoh gr,vas,vas,h1,h2]
  rfl
end
theorem zk8{m n:Nat}{back:Option Nat}(hb:∀b,back=some b->b<m):(za2 m back n).1.length=m/\∀t∈(za2 m back n).1,(0:Int)<=t:=by
 have h1:∀t∈vgc (min n (m-1)) (1:Int)++vgc (m-min n (m-1)) 0,(0:Int)<=t:=λt ht=>by
  rcases vdd.mp ht with q|q<;>rw[(vel.mp q).2]<;>decide
 cases back with
 |none=>exact⟨by simp[za2];omega,h1⟩
 |some b=>
  have:=hb b rfl
  unfold za2
  by_cases z:n<m
  .simp only[if_pos z]
   exact⟨by simp;omega,h1⟩
  .have hr:=ve2 (n-b) (show 0<m-b by omega)
   simp only[if_neg z]
   refine⟨by simp;omega,λt ht=>?_⟩
   rcases vdd.mp ht with q|q
   .rcases vdd.mp q with q|q<;>rw[(vel.mp q).2]
    .decide
    .exact Int.add_nonneg (Int.natCast_nonneg _) (by decide)
   .rw[(vel.mp q).2];exact Int.natCast_nonneg _
theorem zf9{ps:List (Int×Int)}:Pl (.tup (ps.map wP)):=Pl.tup λw hw=>by
 obtain⟨p,_,rfl⟩:=va3.mp hw
 exact Pl.tup λw hw=>by
  simp only[vau,vbp,vd8]at hw
  rcases hw with rfl|rfl<;>exact Pl.int
theorem zga{s:Stn}:Pl (stW s):=λn=>zny
theorem srtE{cl:Call}{a:E}{ρ:En}{h h1:VH}{l:Nat}{ws ys:List W}(ea:ev cl a ρ h=.ok (.ref l) h1)(g:h1.get l=some (.lst ws))(hl:ws.length<64)(e:srtL ws=some ys):ev cl (.bi .srt (.cons a .nil)) ρ h=.ok (.ref h1.n) (h1.new (.lst ys)):=by
 rw[ev,ev,ea,bindok,ev]
 show srtW [.ref l] h1=_
 have:Nat.blt ws.length 64=true:=zap.mpr hl
 simp only[srtW,g,this,va8,e]
theorem tupRE{cl:Call}{a:E}{ρ:En}{h h1:VH}{l:Nat}{ws:List W}(ea:ev cl a ρ h=.ok (.ref l) h1)(g:h1.get l=some (.lst ws)):ev cl (.bi .tuple (.cons a .nil)) ρ h=.ok (.tup ws) h1:=by
 rw[ev,ev,ea,bindok,ev]
 show zb3 [.ref l] h1=_
 simp only[zb3,seqW,g,ofsome]
section
variable{F:Nat->Option Fn}(f61:F 61=some fn61)(f206:F 206=some fn206)
include f61 f206
theorem zqp{k n:Nat}{B:W}{xs:List Stn}{bk:Option Nat}{ns:List Int}{nf:Nat->Int}{h:VH}{sl:Stn}(x1:1<=xs.length)(x2:xs.length<=1281)(hb:∀b,bk=some b->b<xs.length)(hns:ns.length<=60)
 (hco:∀(j:Nat)(s:Stn)(t:Int),xs[j]?=some s->(za2 xs.length bk n).1[j]?=some t->0<t->nf j∈ns/\∀h,∃c q,run F (k+4) 176 [B,iW s.1,optW s.2,.non] h=.ok (.tup [.tup [.int (nf j),c],q]) h) (hsl:xs[(za2 xs.length bk n).2]?=some sl) :
 ∃ks f,Rk ns ks f nf (za2 xs.length bk n).1 xs.length/\run F (k+5) 206 [B,papW (xs,bk),.int (n:Int)] h=.ok (.tup [stW sl,.tup ((srtB (λp:Int×Int=>p.1) (ks.map λx=>(x,f x))).map wP),.int (za2 xs.length bk n).1.sum]) h:=by
 rw[zao f206 rfl]
 obtain⟨r,h1,e1,g1,hr,u1⟩:=zqo f61 (k:=k+3) (n:=n) (h:=⟨h.n,h.n,h.os⟩) x1 x2 hb
 obtain⟨tl,tn⟩:=zk8 (n:=n) hb
 generalize hT:za2 xs.length bk n=T at *
 have hrl:=zah g1
 have hh1:h.n<=h1.n:=u1.le
 let h2:=h1.new (.dm (kvD [] λ_=>0))
 have g2:h2.get r=some (.lst (T.1.map .int)):=(zab hrl).trans g1
 have gd2:h2.get h1.n=some (.dm (kvD [] λ_=>0)):=zai
 obtain⟨y8,y9,y10,y11,y12,ks,f,h3,e3,g3,gd3,R,u3⟩:=zoi (F:=F) (k:=k+4) (B:=B) (p:=papW (xs,bk)) (n:=.int (n:Int)) (bk:=backW bk) (la:=.int (T.2:Int)) (x13:=none) (bs:=h.n) (d:=h1.n) (r:=r) tl (by omega) hco tn (by omega) (vaz hrl) xs.length 0 fuel none none none none none [] (λ_=>0) h2 (by omega) (by unfold fuel;omega) g2 gd2 ⟨DN.nil,λ_=>rfl,λx=>⟨λz=>(nomatch z),λz=>absurd z (by decide)⟩⟩
 refine⟨ks,f,R,?_⟩
 have hkl:=R.dn.len
 let h4:=h3.set h1.n (.dk (kvD ks f))
 have gd4:h4.get h1.n=some (.dk (kvD ks f)):=zag gd3
 have g4:h4.get r=some (.lst (T.1.map .int)):=(zaf gd3 (vaz hrl)).trans g3
 let ys:List W:=(ks.map λx=>(x,f x)).map wP
 have hyl:ys.length=ks.length:=by simp[ys]
 let h5:=h4.new (.lst ys)
 let zs:List W:=(srtB (λp:Int×Int=>p.1) (ks.map λx=>(x,f x))).map wP
 let h6:=h5.new (.lst zs)
 have elc:lcG (nxt .keys (.ref h1.n)) (tgW (.one 0)) (ev (run F (k+4)) zdj) (ev (run F (k+4)) zdk) fuel 0 [none,some (.ref h1.n)] h4 []=.ok ys h4:=by
  have:=zru (c:=ev (run F (k+4)) zdj) (e:=ev (run F (k+4)) zdk) (tl:=[some (.ref h1.n)]) (f:=λw=>match w with|.int x=>.tup [.int x,.int (f x)]|w=>w) gd4 (λkv hkv=>by
   obtain⟨x,_,rfl⟩:=va3.mp hkv
   rfl) (λkv hkv=>by
   obtain⟨x,hx,rfl⟩:=va3.mp hkv
   refine tup2E (varE rfl) (idxE (varE rfl) (varE rfl) ?_)
   show(match h4.get h1.n with
    |some (.lst ws)=>L2.atI ws x
    |some (.dk kvs)=>lookK kvs (.inl x)
    |some (.dm kvs)=>lookK kvs (.inl x)
    |_=>none)=_
   rw[gd4]
   show lookK (kvD ks f) (.inl x)=_
   rw[zef,if_pos hx]) fuel 0 none [] (vbb _) (by unfold kvD fuel;rw[vaf];omega)
  rw[this,vd7]
  unfold kvD
  rw[vct,vez,vcc]
  show _=Res.ok ((ks.map _).map _) h4
  rw[vct]
  rfl
 have eb:exs (run F (k+4)) fn206.body [some B,some (papW (xs,bk)),some (.int (n:Int)),none,none,none,none,none,none,none,none,none,none,none] ⟨h.n,h.n,h.os⟩=.ok (.rt (.tup [stW sl,.tup zs,.int T.1.sum])) h6:=by
  refine(zaa (ρ':=[some B,some (papW (xs,bk)),some (.int (n:Int)),some (.tup (xs.map stW)),some (backW bk),none,none,none,none,none,none,none,none,none]) (h':=⟨h.n,h.n,h.os⟩) rfl).trans ?_
  refine(zaa (ρ':=[some B,some (papW (xs,bk)),some (.int (n:Int)),some (.tup (xs.map stW)),some (backW bk),some (.ref r),some (.int (T.2:Int)),none,none,none,none,none,none,none]) (h':=h1) ?_).trans ?_
  .have el:=lenE (cl:=run F (k+4)) (a:=.var 3) (ρ:=[some B,some (papW (xs,bk)),some (.int (n:Int)),some (.tup (xs.map stW)),some (backW bk),none,none,none,none,none,none,none,none,none]) (h:=⟨h.n,h.n,h.os⟩) (ws:=xs.map stW) (varE rfl) rfl
   rw[vaf]at el
   rw[exs,zjz el (varE rfl) (varE rfl) e1,bindok]
   rfl
  refine(zaa (setE (x:=.ref h1.n) (h1:=h2) rfl)).trans ?_
  refine(zaa (ρ':=E206 B (papW (xs,bk)) (.int (n:Int)) (.tup (xs.map stW)) (backW bk) r (.int (T.2:Int)) h1.n y8 y9 y10 y11 y12 none) (h':=h3) ?_).trans ?_
  .rw[exs,ev,varE rfl,bindok,ev,varE rfl,bindok,ev]
   exact e3
  refine(zaa (setE (x:=.ref h4.n) (h1:=h5) ?_)).trans ?_
  .rw[ev]
   have efz:ev (run F (k+4)) (.bi .frz (.cons (.var 7) .nil)) (E206 B (papW (xs,bk)) (.int (n:Int)) (.tup (xs.map stW)) (backW bk) r (.int (T.2:Int)) h1.n y8 y9 y10 y11 y12 none) h3=.ok (.ref h1.n) h4:=by
    rw[ev,ev,varE rfl,bindok,ev]
    show frzW [.ref h1.n] h3=_
    simp only[frzW,gd3]
    rfl
   rw[efz,bindok]
   show Res.bind (lcG (nxt .keys (.ref h1.n)) (tgW (.one 0)) (ev (run F (k+4)) zdj) (ev (run F (k+4)) zdk) fuel 0 [none,some (.ref h1.n)] h4 []) _=_
   rw[elc,bindok,zcb (by omega),if_pos rfl]
  refine zak (retE (tup3E (h1:=h5) (h2:=h6) (h3:=h6) (idxE (varE rfl) (varE rfl) ?_) (tupRE (srtE (l:=h4.n) (varE rfl) zai (by omega) (zoe ?_)) zai) ?_))
  .show L2.atI (xs.map stW) (T.2:Int)=_
   exact zbf (by rw[vas,hsl];rfl)
  .rw[vct]
   have:(λp:Int×Int=>p.1)∘ (λx:Int=>(x,f x))=id:=rfl
   rw[this,List.map_id]
   exact R.dn.nd
  .rw[ev,ev,varE rfl,bindok,ev]
   refine sumR T.1 ?_
   have l4:r<h4.n:=zah g4
   exact(zab (show r<h5.n from vch l4)).trans ((zab l4).trans g4)
 show fin h (exs (run F (k+4)) fn206.body [some B,some (papW (xs,bk)),some (.int (n:Int)),none,none,none,none,none,none,none,none,none,none,none] ⟨h.n,h.n,h.os⟩)=_
 rw[eb]
 refine zj8 (Up.new (Up.new (((u1.new).trans u3).set gd3 (by omega)))) (Pl.tup λw hw=>?_)
 simp only[vau,vbp,vd8]at hw
 rcases hw with rfl|rfl|rfl
 .exact zga
 .exact zf9
 .exact Pl.int
end
noncomputable def zeg:S:=(.seq (.set 7 (.op .add (.var 7) (.var 7))) .skip)
noncomputable def zeh:S:=(.seq (.set 13 (.call 701 (.cons (.var 10) (.cons (.var 6) (.cons (.op .sub (.op .add (.op .mul (.var 7) (.var 12)) (.var 7)) (.cst (.int (1)))) (.cons (.var 9) .nil)))))) (.seq (.put (.var 11) (.idx (.var 4) (.op .add (.cst (.int (1))) (.var 12))) (.op .add (.mt .get (.var 11) (.cons (.idx (.var 4) (.op .add (.cst (.int (1))) (.var 12))) (.cons (.cst (.int (0))) .nil))) (.var 13))) (.seq (.put (.var 11) (.idx (.var 4) (.cst (.int (0)))) (.op .sub (.mt .get (.var 11) (.cons (.idx (.var 4) (.cst (.int (0)))) (.cons (.cst (.int (0))) .nil))) (.var 13))) .skip)))
noncomputable def zbj:E:=(.cmp .gt (.idx (.var 1) (.var 0)) (.cst (.int (0))))
noncomputable def zbk:E:=(.tup (.cons (.var 0) (.cons (.idx (.var 1) (.var 0)) .nil)))
noncomputable def zcu:Fn:=⟨7,16,(.seq (.set 7 (.cst (.int (1)))) (.seq (.«for» .rng1 (.cons (.var 2) .nil) (.one 8) zeg) (.seq (.set 9 (.op .mul (.var 7) (.var 3))) (.seq (.set 10 (.op .add (.op .mul (.var 7) (.var 1)) (.var 0))) (.seq (.ite (.cmp .isn (.var 5) (.cst .non)) (.seq (.set 6 (.bi .min (.cons (.var 6) (.cons (.op .sub (.var 9) (.var 10)) .nil)))) .skip) .skip) (.seq (.set 11 (.bi .dm0 .nil)) (.seq (.«for» .rng1 (.cons (.var 3) .nil) (.one 12) zeh) (.seq (.put (.var 11) (.idx (.var 4) (.cst (.int (0)))) (.op .add (.idx (.var 11) (.idx (.var 4) (.cst (.int (0))))) (.var 6))) (.seq (.set 14 (.op .mod (.op .add (.var 10) (.var 6)) (.var 9))) (.seq (.set 15 (.tup (.cons (.call 143 (.cons (.op .mod (.var 14) (.var 7)) (.cons (.var 2) .nil))) (.cons (.op .fdiv (.var 14) (.var 7)) .nil)))) (.seq (.ite (.and (.cmp .isn (.var 5) (.cst .non)) (.cmp .eq (.op .add (.var 10) (.var 6)) (.var 9))) (.seq (.set 15 (.tup (.cons (.idx (.var 15) (.cst (.int (0)))) (.cons (.cst .non) .nil)))) .skip) .skip) (.seq (.ret (.tup (.cons (.var 15) (.cons (.bi .tuple (.cons (.lc .seq (.bi .srt (.cons (.bi .list (.cons (.var 11) .nil)) .nil)) (.one 0) 1 [11] zbj zbk) .nil)) (.cons (.var 6) .nil))))) .skip))))))))))))⟩
noncomputable def zb1:Fn:=⟨4,4,(.seq (.ret (.op .sub (.op .fdiv (.op .sub (.op .sub (.op .add (.var 0) (.var 1)) (.cst (.int (1)))) (.var 2)) (.var 3)) (.op .fdiv (.op .sub (.op .sub (.var 0) (.cst (.int (1)))) (.var 2)) (.var 3)))) .skip)⟩
noncomputable def zce:E:=(.call 5 (.cons (.var 1) (.cons (.cst (.int (100))) .nil)))
noncomputable def zcf:E:=(.call 5 (.cons (.var 1) (.cons (.cst (.int (2))) .nil)))
noncomputable def zei:S:=(.seq (.set 8 (.op .add (.op .mul (.cst (.int (2))) (.var 8)) (.var 9))) .skip)
noncomputable def zej:S:=(.seq (.set 13 (.call 700 (.cons (.var 8) (.cons (.var 10) (.cons (.var 2) (.cons (.var 3) (.cons (.var 4) (.cons (.var 5) (.cons (.var 12) .nil))))))))) (.seq (.ite (.not (.tru (.call 92 (.cons (.call 208 (.cons (.var 6) (.cons (.tup (.cons (.var 7) (.cons (.var 10) .nil))) (.cons (.var 12) .nil)))) (.cons (.var 13) .nil))))) (.seq (.ret (.cst (.bl false))) .skip) .skip) .skip))
noncomputable def zdl:Fn:=⟨1,14,(.seq (.set 1 (.call 3 (.cons (.var 0) .nil))) (.seq (.set 2 (.idx (.lst (.cons (.call 5 (.cons (.var 1) (.cons (.cst (.int (9))) .nil))) (.cons (.cst (.int (8))) (.cons (.call 5 (.cons (.var 1) (.cons (.cst (.int (4))) .nil))) .nil)))) (.call 5 (.cons (.var 1) (.cons (.cst (.int (3))) .nil))))) (.seq (.set 3 (.op .add (.cst (.int (1))) (.call 5 (.cons (.var 1) (.cons (.cst (.int (4))) .nil))))) (.seq (.set 4 (.lc .rng1 (.cons (.cst (.int (5))) .nil) (.one 0) 1 [1] (.cst (.bl true)) zce)) (.seq (.ite (.cmp .eq (.call 5 (.cons (.var 1) (.cons (.cst (.int (3))) .nil))) (.cst (.int (0)))) (.seq (.put (.var 4) (.cst (.int (2))) (.idx (.var 4) (.cst (.int (1))))) (.seq (.put (.var 4) (.cst (.int (3))) (.idx (.var 4) (.cst (.int (0))))) .skip)) .skip) (.seq (.set 5 (.idx (.lst (.cons (.cst (.int (0))) (.cons (.cst .non) .nil))) (.op .fdiv (.call 5 (.cons (.var 1) (.cons (.cst (.int (4))) .nil))) (.cst (.int (3)))))) (.seq (.set 6 (.call 130 (.cons (.var 2) (.cons (.var 3) (.cons (.var 4) (.cons (.var 5) .nil)))))) (.seq (.set 7 (.bi .tuple (.cons (.lc .rng1 (.cons (.var 2) .nil) (.one 0) 1 [1] (.cst (.bl true)) zcf) .nil))) (.seq (.set 8 (.cst (.int (0)))) (.seq (.«for» .rev (.var 7) (.one 9) zei) (.seq (.set 10 (.call 5 (.cons (.var 1) (.cons (.var 3) .nil)))) (.seq (.set 11 (.lst (.cons (.cst (.int (0))) (.cons (.cst (.int (1))) (.cons (.cst (.int (255))) (.cons (.cst (.int (256))) (.cons (.cst (.int (1023))) (.cons (.cst (.int (1024))) (.cons (.cst (.int (1025))) (.cons (.op .pow (.cst (.int (10))) (.cst (.int (50)))) (.cons (.op .sub (.op .pow (.cst (.int (10))) (.cst (.int (50)))) (.cst (.int (1)))) (.cons (.call 5 (.cons (.var 1) (.cons (.cst (.int (2000))) .nil))) .nil)))))))))))) (.seq (.expr (.mt .append (.var 11) (.cons (.op .add (.op .mul (.call 5 (.cons (.var 1) (.cons (.op .pow (.cst (.int (10))) (.cst (.int (6)))) .nil))) (.op .pow (.cst (.int (10))) (.cst (.int (44))))) (.call 5 (.cons (.var 1) (.cons (.op .pow (.cst (.int (10))) (.cst (.int (6)))) .nil)))) .nil))) (.seq (.«for» .seq (.var 11) (.one 12) zej) (.seq (.ret (.cst (.bl true))) .skip)))))))))))))))⟩
noncomputable abbrev E700(v i g b l la n:W)(x7 x8 x9 x10 x11 x12 x13 x14 x15:Option W):En:=[some v,some i,some g,some b,some l,some la,some n,x7,x8,x9,x10,x11,x12,x13,x14,x15]
theorem gtE{cl:Call}{a b:E}{ρ:En}{h h1 h2:VH}{i j:Int}(ea:ev cl a ρ h=.ok (.int i) h1)(eb:ev cl b ρ h1=.ok (.int j) h2):ev cl (.cmp .gt a b) ρ h=.ok (.bl (decide (j<i))) h2:=by
 rw[ev,ea,bindok,eb,bindok]
 rfl
theorem eqE{cl:Call}{a b:E}{ρ:En}{h h1 h2:VH}{i j:Int}(ea:ev cl a ρ h=.ok (.int i) h1)(eb:ev cl b ρ h1=.ok (.int j) h2):ev cl (.cmp .eq a b) ρ h=.ok (.bl (decide (i=j))) h2:=by
 rw[ev,ea,bindok,eb,bindok]
 simp only[cmpW,zbt,ofsome,vaw]
theorem fdivI{h:VH}{i j:Int}(h1:0<j)(h2:j<1073741824):opW .fdiv (.int i) (.int j) h=.ok (.int (i/j)) h:=by
 simp only[opW,opI,va1 h1,va1 h2,vd3,va8,vaw,ofsome]
theorem zyg{cl:Call}{a:E}{ρ:En}{h:VH}{d:Nat}{ks:List Int}{f:Int->Int}(ea:ev cl a ρ h=.ok (.ref d) h)(g:h.get d=some (.dm (kvD ks f))):ev cl (.bi .list (.cons a .nil)) ρ h=.ok (.ref h.n) (h.new (.lst (ks.map .int))):=by
 rw[ev,ev,ea,bindok,ev]
 show listW [.ref d] h=_
 simp only[listW,seqW,keysM,g]
 unfold kvD
 rw[vct]
 rfl
theorem zhi{cl:Call}{v i g b l la n:W}{h:VH}:∀(m p:Nat) (a:Int) (x8:Option W),∃y8,forL (tgW (.one 8)) (exs cl zeg) (zam a m) (E700 v i g b l la n (some (.int ((2 ^ p:Nat):Int))) x8 none none none none none none none) h=.ok (.nx (E700 v i g b l la n (some (.int ((2 ^ (p+m):Nat):Int))) y8 none none none none none none none)) h
 |0,p,a,x8=>⟨x8,rfl⟩
 |m+1,p,a,x8=>by
  obtain⟨y8,e⟩:=zhi (cl:=cl) (v:=v) (i:=i) (g:=g) (b:=b) (l:=l) (la:=la) (n:=n) (h:=h) m (p+1) (a+1) (some (.int a))
  refine⟨y8,?_⟩
  rw[zav,show p+ (m+1)=p+1+m by omega]
  refine(za8 (h':=h) (ρ':=E700 v i g b l la n (some (.int ((2 ^ (p+1):Nat):Int))) (some (.int a)) none none none none none none none) ?_).trans e
  refine(zaa (setE (x:=.int ((2 ^ (p+1):Nat):Int)) (h1:=h) (opE (varE rfl) (varE rfl) ?_))).trans rfl
  rw[addI,show((2 ^ p:Nat):Int)+ ((2 ^ p:Nat):Int)=((2 ^ (p+1):Nat):Int) by rw[vfk];omega]
section
variable{F:Nat->Option Fn}(f701:F 701=some zb1)
include f701
theorem zoj{k:Nat}{h:VH}{t n p N:Int}(h1:0<N)(h2:N<1073741824):run F (k+1) 701 [.int t,.int n,.int p,.int N] h=.ok (.int (tms t n p N)) h:=by
 rw[zao f701 rfl]
 have eb:exs (run F k) zb1.body [some (.int t),some (.int n),some (.int p),some (.int N)] ⟨h.n,h.n,h.os⟩=.ok (.rt (.int (tms t n p N))) ⟨h.n,h.n,h.os⟩:=by
  refine zak (retE (opE (opE (opE (opE (opE (varE rfl) (varE rfl) addI) rfl subI) (varE rfl) subI) (varE rfl) (fdivI h1 h2)) (opE (opE (opE (varE rfl) rfl subI) (varE rfl) subI) (varE rfl) (fdivI h1 h2)) subI))
 show fin h (exs (run F k) zb1.body [some (.int t),some (.int n),some (.int p),some (.int N)] ⟨h.n,h.n,h.os⟩)=_
 rw[eb]
 exact zal (vad _) (by simp)
structure Lk(nm:Int)(es ks:List Int)(f:Int->Int)(T:Nat->Int)(o:Nat):Prop where
 dn:DN (nm::es) ks f
 eq:∀x,f x=lawC T (λq=>(if es.getD q 0=x then 1 else 0)-if nm=x then 1 else 0) o
 has:1<=o->nm∈ks
theorem zke{k g b t n l d bs:Nat}{nm:Int}{es:List Int}{v i la:W}{x8:Option W}(hN:2 ^ g*b<=1024)(b1:1<=b)(hb4:b<=4)(hg8:g<=8)(hes:b<=es.length)(hes2:es.length<=50)(hd:bs<=d)(hl:l≠d):∀(m o:Nat) (x12 x13:Option W) (ks:List Int) (f:Int->Int) (h:VH),o+m=b->h.get l=some (.lst (.int nm::es.map .int))->h.get d=some (.dm (kvD ks f))->Lk nm es ks f (λq=>tms t n ((2 ^ g*q+ (2 ^ g-1):Nat):Int) ((2 ^ g*b:Nat):Int)) o->
 ∃y12 y13 ks' f' h',forL (tgW (.one 12)) (exs (run F (k+1)) zeh) (zam (o:Int) m) (E700 v i (.int (g:Int)) (.int (b:Int)) (.ref l) la (.int (n:Int)) (some (.int ((2 ^ g:Nat):Int))) x8 (some (.int ((2 ^ g*b:Nat):Int))) (some (.int (t:Int))) (some (.ref d)) x12 x13 none none) h=.ok (.nx (E700 v i (.int (g:Int)) (.int (b:Int)) (.ref l) la (.int (n:Int)) (some (.int ((2 ^ g:Nat):Int))) x8 (some (.int ((2 ^ g*b:Nat):Int))) (some (.int (t:Int))) (some (.ref d)) y12 y13 none none)) h'/\h'.get l=some (.lst (.int nm::es.map .int))/\h'.get d=some (.dm (kvD ks' f'))/\Lk nm es ks' f' (λq=>tms t n ((2 ^ g*q+ (2 ^ g-1):Nat):Int) ((2 ^ g*b:Nat):Int)) b/\Up bs h h'
 |0,o,x12,x13,ks,f,h,ho,gl,gd,L=>⟨x12,x13,ks,f,h,rfl,gl,gd,by rw[show b=o by omega];rw[show b=o by omega]at L;exact L,.refl⟩
 |m+1,o,x12,x13,ks,f,h,ho,gl,gd,L=>by
  have M0:=vd1 g
  have hM:2 ^ g<=256:=vd5 (n:=2) (by omega) hg8
  have N0:0<2 ^ g*b:=ve9 M0 b1
  have hev:(W.int nm::es.map W.int)[o+1]?=some (.int (es.getD o 0)):=by
   rw[va2,vas,vat (by omega),va4,vat (by omega)];rfl
  have hme:es.getD o 0∈nm::es:=by
   refine vag _ ?_
   rw[va4,vat (by omega)]
   exact vc0 _
  generalize hT:(λq:Nat=>tms (t:Int) (n:Int) ((2 ^ g*q+ (2 ^ g-1):Nat):Int) ((2 ^ g*b:Nat):Int))=T at *
  generalize he:es.getD o 0=e at *
  have D1:DN (nm::es) (addK ks e) (updF f e (f e+T o)):=L.dn.add hme
  have D2:DN (nm::es) (addK (addK ks e) nm) (updF (updF f e (f e+T o)) nm (updF f e (f e+T o) nm-T o)):=D1.add vai
  have g1:=zag (o:=.dm (kvD (addK ks e) (updF f e (f e+T o)))) gd
  have g2:=zag (o:=.dm (kvD (addK (addK ks e) nm) (updF (updF f e (f e+T o)) nm (updF f e (f e+T o) nm-T o)))) g1
  have gl1:(h.set d (.dm (kvD (addK ks e) (updF f e (f e+T o))))).get l=some (.lst (.int nm::es.map .int)):=(zaf gd hl).trans gl
  have gl2:=(zaf (o:=.dm (kvD (addK (addK ks e) nm) (updF (updF f e (f e+T o)) nm (updF f e (f e+T o) nm-T o)))) g1 hl).trans gl1
  have L2:Lk nm es (addK (addK ks e) nm) (updF (updF f e (f e+T o)) nm (updF f e (f e+T o) nm-T o)) T (o+1):=by
   refine⟨D2,λx=>?_,λ_=>zct.mpr (.inr rfl)⟩
   rw[lawC,<-L.eq x,he]
   have q1:∀y:Int,T o* ((1:Int)-1)=0/\T o* ((1:Int)-0)=T o/\T o* ((0:Int)-1)=-T o/\T o* ((0:Int)-0)=0:=λ_=>by refine⟨?_,?_,?_,?_⟩<;>omega
   obtain⟨q1,q2,q3,q4⟩:=q1 0
   unfold updF
   by_cases a:nm=x<;>by_cases c:e=x
   .subst a;subst c;simp only[va8,q1];omega
   .subst a
    have c':¬nm=e:=λz=>c z.symm
    simp only[c,c',va8,va7,q3];omega
   .subst c
    have a':¬e=nm:=λz=>a z.symm
    simp only[a,a',va8,va7,q2]
   .have a':¬x=nm:=λz=>a z.symm
    have c':¬x=e:=λz=>c z.symm
    simp only[a,a',c,c',va7,q4];omega
  obtain⟨y12,y13,ks',f',h',er,r1,r2,r3,u⟩:=zke (k:=k) (v:=v) (i:=i) (la:=la) (x8:=x8) (t:=t) (n:=n) hN b1 hb4 hg8 hes hes2 hd hl m (o+1) (some (.int (o:Int))) (some (.int (T o))) _ _ _ (by omega) gl2 g2 (by rw[hT];exact L2)
  rw[hT]at r3
  refine⟨y12,y13,ks',f',h',?_,r1,r2,r3,((Up.set .refl gd hd).set g1 hd).trans u⟩
  rw[zav]
  refine(za8 (ρ':=E700 v i (.int (g:Int)) (.int (b:Int)) (.ref l) la (.int (n:Int)) (some (.int ((2 ^ g:Nat):Int))) x8 (some (.int ((2 ^ g*b:Nat):Int))) (some (.int (t:Int))) (some (.ref d)) (some (.int (o:Int))) (some (.int (T o))) none none) ?_).trans er
  have et:run F (k+1) 701 [.int (t:Int),.int (n:Int),.int (((2 ^ g:Nat):Int)* (o:Int)+ ((2 ^ g:Nat):Int)-1),.int ((2 ^ g*b:Nat):Int)] h=.ok (.int (T o)) h:=by
   have ep:((2 ^ g:Nat):Int)* (o:Int)+ ((2 ^ g:Nat):Int)-1=((2 ^ g*o+ (2 ^ g-1):Nat):Int):=by
    rw[vcf,veo];omega
   rw[ep,<-hT]
   exact zoj f701 (by omega) (by omega)
  refine(zaa (setE (znv (varE rfl) (varE rfl) (opE (opE (opE (varE rfl) (varE rfl) (mulI (sml (by omega)))) (varE rfl) addI) rfl subI) (varE rfl) et))).trans ?_
  have hi1:∀{ρ:En}{h:VH},ρ[4]?=some (some (.ref l))->ρ[12]?=some (some (.int (o:Int)))->h.get l=some (.lst (.int nm::es.map .int))->ev (run F (k+1)) (.idx (.var 4) (.op .add (.cst (.int (1))) (.var 12))) ρ h=.ok (.int e) h:=λ{ρ h} p1 p2 g=>by
   refine idxE (varE p1) (opE rfl (varE p2) addI) ?_
   rw[show(1:Int)+ (o:Int)=((o+1:Nat):Int) by omega]
   exact zcs g hev
  have hi0:∀{ρ:En}{h:VH},ρ[4]?=some (some (.ref l))->h.get l=some (.lst (.int nm::es.map .int))->ev (run F (k+1)) (.idx (.var 4) (.cst (.int (0)))) ρ h=.ok (.int nm) h:=λ{ρ h} p1 g=>idxE (varE p1) rfl (zcs (j:=0) g rfl)
  have len1:=L.dn.len
  have len2:=D1.len
  simp only[vaj]at len1 len2
  refine(zaa (putME (w:=.int (f e+T o)) (opE (getME rfl gd (hi1 rfl rfl gl)) (varE rfl) ?_) (varE rfl) (hi1 rfl rfl gl) gd ?_)).trans ?_
  .rw[L.dn.look,addI]
  .unfold kvD;rw[vaf];omega
  rw[zkb]
  refine(zaa (putME (w:=.int (updF f e (f e+T o) nm-T o)) (opE (getME rfl g1 (hi0 rfl gl1)) (varE rfl) ?_) (varE rfl) (hi0 rfl gl1) g1 ?_)).trans ?_
  .rw[D1.look,subI]
  .unfold kvD;rw[vaf];omega
  rw[zkb]
  rfl
end
noncomputable def numP(la:Option Nat)(n r:Nat):Nat:=match la with
 |none=>min n r
 |some _=>n
noncomputable def endP(la:Option Nat)(b:Bool)(i:Nat):Option Nat:=match la with
 |none=>if b then none else some i
 |some _=>some i
section
variable{F:Nat->Option Fn}(f701:F 701=some zb1)(f143:F 143=some fn143)(f700:F 700=some zcu)
include f701 f143 f700
theorem zt7{k g b l v i n j:Nat}{nm:Int}{es ms:List Int}{la:Option Nat}{h:VH}(hg8:g<=8)(b1:1<=b)(hb4:b<=4)(hes:b<=es.length)(hes2:es.length<=50)(gl:h.get l=some (.lst (.int nm::es.map .int)))(ht:2 ^ g*i+v<=2 ^ g*b)
 (hml:ms.length=g) (hmb:Bits ms) (hmy:2 ^ g*j+val ms=(2 ^ g*i+v+numP la n (2 ^ g*b- (2 ^ g*i+v))) % (2 ^ g*b)) :
 ∃ks f,DN (nm::es) ks f/\(∀x,f x=cnt (λq=>fnd g nm es ((2 ^ g*i+v+q) % (2 ^ g*b))) x (numP la n (2 ^ g*b- (2 ^ g*i+v))))/\
 run F (k+3) 700 [.int (v:Int),.int (i:Int),.int (g:Int),.int (b:Int),.ref l,optW la,.int (n:Int)] h=.ok (.tup [stW (ms,endP la (decide (2 ^ g*i+v+numP la n (2 ^ g*b- (2 ^ g*i+v))=2 ^ g*b)) j),.tup ((((srtB id ks).filter λx=>decide (0<f x)).map λx=>(x,f x)).map wP),.int ((numP la n (2 ^ g*b- (2 ^ g*i+v)):Nat):Int)]) h:=by
 rw[zao f700 rfl]
 have M0:=vd1 g
 have hM:2 ^ g<=256:=vd5 (n:=2) (by omega) hg8
 have hN:2 ^ g*b<=256*4:=ves hM hb4
 have N0:0<2 ^ g*b:=ve9 M0 b1
 have hv:=zb7 hmb
 rw[hml]at hv
 have m1:(2 ^ g*j+val ms) % 2 ^ g=val ms:=by rw[vem,vbe hv]
 have m2:(2 ^ g*j+val ms)/2 ^ g=j:=by rw[vd0 M0,vc2 hv,veu]
 have hln:=zah gl
 have c1:((2 ^ g:Nat):Int)* (b:Int)=((2 ^ g*b:Nat):Int):=(veo ..).symm
 have c2:((2 ^ g:Nat):Int)* (i:Int)+ (v:Int)=((2 ^ g*i+v:Nat):Int):=by rw[vcf,veo]
 generalize hMM:2 ^ g=M at *
 generalize hNN:M*b=N at *
 generalize htt:M*i+v=t at *
 generalize hn':numP la n (N-t)=n' at *
 let k0:VH:=⟨h.n,h.n,h.os⟩
 let k1:=k0.new (.dm (kvD [] λ_=>0))
 have gl1:k1.get l=some (.lst (.int nm::es.map .int)):=(zab hln).trans gl
 obtain⟨x8,eM⟩:=zhi (cl:=run F (k+2)) (v:=.int (v:Int)) (i:=.int (i:Int)) (g:=.int (g:Int)) (b:=.int (b:Int)) (l:=.ref l) (la:=optW la) (n:=.int (n:Int)) (h:=k0) g 0 0 none
 rw[vfb,hMM]at eM
 obtain⟨y12,y13,ks,f,h2,eL,gl2,gd2,L,u2⟩:=zke f701 (k:=k+1) (g:=g) (b:=b) (t:=t) (n:=n') (l:=l) (d:=h.n) (bs:=h.n) (nm:=nm) (es:=es) (v:=.int (v:Int)) (i:=.int (i:Int)) (la:=optW la) (x8:=x8) (by rw[hMM,hNN];omega) b1 hb4 hg8 hes hes2 (vad _) (by omega) b 0 none none [] (λ_=>0) k1 (by omega) gl1 (zai (h:=k0)) ⟨DN.nil,λ_=>rfl,λz=>absurd z (by decide)⟩
 rw[hMM,hNN]at eL L
 have hcn:=λx=>zoc (g:=g) (b:=b) (t:=t) (nm:=nm) (x:=x) (es:=es) b1 n'
 rw[hMM,hNN]at hcn
 have hnk:=L.has b1
 let f':=updF f nm (f nm+n')
 let h3:=h2.set h.n (.dm (kvD (addK ks nm) f'))
 have gd3:h3.get h.n=some (.dm (kvD (addK ks nm) f')):=zag gd2
 have D3:DN (nm::es) (addK ks nm) f':=L.dn.add vai
 have hkl:=D3.len
 rw[vaj]at hkl
 refine⟨addK ks nm,f',D3,λx=>?_,?_⟩
 .rw[<-hcn x,<-L.eq x]
  show updF f nm (f nm+n') x=_
  unfold updF
  by_cases a:x=nm
  .rw[if_pos a,if_pos a.symm,a]
  .rw[if_neg a,if_neg (λz=>a z.symm)];omega
 let h4:=h3.new (.lst ((addK ks nm).map .int))
 let h5:=h4.new (.lst ((srtB id (addK ks nm)).map .int))
 have gd5:h5.get h.n=some (.dm (kvD (addK ks nm) f')):=by
  have q:=zah gd3
  exact(zab (show h.n<h4.n from vch q)).trans ((zab q).trans gd3)
 let ys:List W:=(((srtB id (addK ks nm)).filter λx=>decide (0<f' x)).map λx=>(x,f' x)).map wP
 let h6:=h5.new (.lst ys)
 have hsl:(srtB id (addK ks nm)).length=(addK ks nm).length:=(zbh (f:=id) (addK ks nm)).length_eq
 have hidx:∀x,x∈addK ks nm->idxW h5 (.ref h.n) (.int x)=some (.int (f' x)):=λx hx=>by
  show(match h5.get h.n with
   |some (.lst ws)=>L2.atI ws x
   |some (.dk kvs)=>lookK kvs (.inl x)
   |some (.dm kvs)=>lookK kvs (.inl x)
   |_=>none)=_
  rw[gd5]
  show lookK (kvD (addK ks nm) f') (.inl x)=_
  rw[zef,if_pos hx]
 have elc:lcG (nxt .seq (.ref h4.n)) (tgW (.one 0)) (ev (run F (k+2)) zbj) (ev (run F (k+2)) zbk) fuel 0 [none,some (.ref h.n)] h5 []=.ok ys h5:=by
  have:=zn2 (nx:=nxt .seq (.ref h4.n)) (c:=ev (run F (k+2)) zbj) (e:=ev (run F (k+2)) zbk) (h:=h5) (ws:=(srtB id (addK ks nm)).map .int) (tl:=[some (.ref h.n)]) (p:=λw=>match w with|.int x=>decide (0<f' x)|_=>false) (f:=λw=>match w with|.int x=>.tup [.int x,.int (f' x)]|w=>w) (λi=>by
   show((seqW h5 (.ref h4.n)).map λws=>ws[i]?)=_
   simp only[seqW,show h5.get h4.n=some (.lst ((srtB id (addK ks nm)).map .int))from zai]
   rfl) (λw hw=>by
   obtain⟨x,hx,rfl⟩:=va3.mp hw
   exact gtE (idxE (varE rfl) (varE rfl) (hidx x (zis.mp hx))) rfl) (λw hw=>by
   obtain⟨x,hx,rfl⟩:=va3.mp hw
   exact tup2E (varE rfl) (idxE (varE rfl) (varE rfl) (hidx x (zis.mp hx)))) fuel 0 none [] (vbb _) (by rw[vaf,hsl];unfold fuel;omega)
  rw[this,vd7,vez,vcc,List.filter_map,vct]
  show _=Res.ok ((List.map _ _).map _) h5
  rw[vct]
  rfl
 have hyl:ys.length<=60:=by
  have:ys.length<=(srtB id (addK ks nm)).length:=by
   show((List.map _ _).map _).length<=_
   rw[vaf,vaf]
   exact List.length_filter_le ..
  omega
 have eb:exs (run F (k+2)) zcu.body [some (.int (v:Int)),some (.int (i:Int)),some (.int (g:Int)),some (.int (b:Int)),some (.ref l),some (optW la),some (.int (n:Int)),none,none,none,none,none,none,none,none,none] k0=.ok (.rt (.tup [stW (ms,endP la (decide (t+n'=N)) j),.tup ys,.int (n':Int)])) h6:=by
  refine(zaa (setE (x:=.int 1) (h1:=k0) rfl)).trans ?_
  refine(zaa ((zb0 (n:=g) (varE rfl) (by omega)).trans eM)).trans ?_
  refine(zaa (setE (x:=.int (N:Int)) (h1:=k0) (opE (varE rfl) (varE rfl) (by rw[mulI (sml (by omega)),c1])))).trans ?_
  refine(zaa (setE (x:=.int (t:Int)) (h1:=k0) (opE (opE (varE rfl) (varE rfl) (mulI (sml (by omega)))) (varE rfl) (by rw[addI,c2])))).trans ?_
  refine(zaa (ρ':=E700 (.int (v:Int)) (.int (i:Int)) (.int (g:Int)) (.int (b:Int)) (.ref l) (optW la) (.int (n':Int)) (some (.int (M:Int))) x8 (some (.int (N:Int))) (some (.int (t:Int))) none none none none none) (h':=k0) ?_).trans ?_
  .cases la with
   |none=>
    refine(iteT (h1:=k0) rfl).trans ?_
    refine(zaa (setE (x:=.int (n':Int)) (h1:=k0) ?_)).trans rfl
    have:=minE (cl:=run F (k+2)) (a:=.var 6) (b:=.op .sub (.var 9) (.var 10)) (m:=n) (n:=N-t) (h:=k0) (h1:=k0) (h2:=k0) (ρ:=E700 (.int (v:Int)) (.int (i:Int)) (.int (g:Int)) (.int (b:Int)) (.ref l) (optW none) (.int (n:Int)) (some (.int (M:Int))) x8 (some (.int (N:Int))) (some (.int (t:Int))) none none none none none) (varE rfl) (opE (varE rfl) (varE rfl) (by rw[subI,show(N:Int)- (t:Int)=((N-t:Nat):Int) by omega]))
    rw[<-hn']
    exact this
   |some c=>
    have:n'=n:=hn'.symm
    rw[this]
    exact(iteF (h1:=k0) rfl).trans rfl
  refine(zaa (setE (x:=.ref h.n) (h1:=k1) rfl)).trans ?_
  refine(zaa ((zb0 (n:=b) (varE rfl) (by omega)).trans eL)).trans ?_
  have hi0:∀{ρ:En}{h:VH},ρ[4]?=some (some (.ref l))->h.get l=some (.lst (.int nm::es.map .int))->ev (run F (k+2)) (.idx (.var 4) (.cst (.int (0)))) ρ h=.ok (.int nm) h:=λ{ρ h} p1 g=>idxE (varE p1) rfl (zcs (j:=0) g rfl)
  refine(zaa (putME (w:=.int (f nm+n')) (opE (idxE (varE rfl) (hi0 rfl gl2) (z:=.int (f nm)) ?_) (varE rfl) addI) (varE rfl) (hi0 rfl gl2) gd2 ?_)).trans ?_
  .show(match h2.get h.n with
    |some (.lst ws)=>L2.atI ws nm
    |some (.dk kvs)=>lookK kvs (.inl nm)
    |some (.dm kvs)=>lookK kvs (.inl nm)
    |_=>none)=_
   rw[gd2]
   show lookK (kvD ks f) (.inl nm)=_
   rw[zef,if_pos hnk]
  .have:=L.dn.len
   rw[vaj]at this
   unfold kvD
   rw[vaf]
   omega
  rw[zkb]
  refine(zaa (setE (x:=.int ((t+n') % N:Nat)) (h1:=h3) (opE (opE (varE rfl) (varE rfl) addI) (varE rfl) (modI (show(0:Int)< (N:Int) by omega))))).trans ?_
  rw[<-hmy]
  have ebits:=zqm f143 (k:=k+1) (h:=h3) hml hg8 hmb
  refine(zaa (setE (x:=stW (ms,some j)) (h1:=h3) (tup2E (zbn (x:=.int (val ms:Int)) (opE (varE rfl) (varE rfl) ?_) (varE rfl) ebits) (opE (varE rfl) (varE rfl) ?_)))).trans ?_
  .rw[modI (show(0:Int)< (M:Int) by omega)]
   rw[show((M*j+val ms:Nat):Int) % (M:Int)=(((M*j+val ms) % M:Nat):Int)from rfl,m1]
  .rw[fdivI (show(0:Int)< (M:Int) by omega) (by omega)]
   rw[show((M*j+val ms:Nat):Int)/ (M:Int)=(((M*j+val ms)/M:Nat):Int)from rfl,m2]
   rfl
  refine(zaa (ρ':=E700 (.int (v:Int)) (.int (i:Int)) (.int (g:Int)) (.int (b:Int)) (.ref l) (optW la) (.int (n':Int)) (some (.int (M:Int))) x8 (some (.int (N:Int))) (some (.int (t:Int))) (some (.ref h.n)) y12 y13 (some (.int ((M*j+val ms:Nat):Int))) (some (stW (ms,endP la (decide (t+n'=N)) j)))) (h':=h3) ?_).trans ?_
  .cases la with
   |none=>
    have ec:ev (run F (k+2)) (.and (.cmp .isn (.var 5) (.cst .non)) (.cmp .eq (.op .add (.var 10) (.var 6)) (.var 9))) (E700 (.int (v:Int)) (.int (i:Int)) (.int (g:Int)) (.int (b:Int)) (.ref l) (optW none) (.int (n':Int)) (some (.int (M:Int))) x8 (some (.int (N:Int))) (some (.int (t:Int))) (some (.ref h.n)) y12 y13 (some (.int ((M*j+val ms:Nat):Int))) (some (stW (ms,some j)))) h3=.ok (.bl (decide (t+n'=N))) h3:=by
     refine(andT (h1:=h3) rfl).trans ?_
     rw[eqE (opE (varE rfl) (varE rfl) addI) (varE rfl)]
     congr 2
     exact decide_eq_decide.mpr (by omega)
    by_cases z:t+n'=N
    .rw[va1 z]at ec ⊢
     refine(iteT ec).trans ?_
     exact(zaa (setE (x:=stW (ms,none)) (h1:=h3) (tup2E (idxE (varE rfl) rfl rfl) rfl))).trans rfl
    .rw[vay z]at ec ⊢
     exact(iteF ec).trans rfl
   |some c=>exact(iteF (h1:=h3) (andF (h1:=h3) rfl)).trans rfl
  refine zak (retE (tup3E (h1:=h3) (h2:=h6) (h3:=h6) (varE rfl) (tupRE (l:=h5.n) ?_ zai) (varE rfl)))
  rw[ev,srtE (l:=h3.n) (zyg (varE rfl) gd3) zai (by rw[vaf];omega) (zqk _),bindok]
  show Res.bind (lcG (nxt .seq (.ref h4.n)) (tgW (.one 0)) (ev (run F (k+2)) zbj) (ev (run F (k+2)) zbk) fuel 0 [none,some (.ref h.n)] h5 []) _=_
  rw[elc,bindok,zcb (by omega),if_pos rfl]
 show fin h (exs (run F (k+2)) zcu.body [some (.int (v:Int)),some (.int (i:Int)),some (.int (g:Int)),some (.int (b:Int)),some (.ref l),some (optW la),some (.int (n:Int)),none,none,none,none,none,none,none,none,none] k0)=_
 rw[eb]
 refine zj8 (Up.new (Up.new (Up.new (((Up.new .refl).trans u2).set gd2 (vad _))))) (Pl.tup λw hw=>?_)
 simp only[vau,vbp,vd8]at hw
 rcases hw with rfl|rfl|rfl
 .exact zga
 .exact zf9
 .exact Pl.int
end
theorem zok{g b:Nat}{nm:Int}{es:List Int}{s:Stn}{t:Nat}(hN:2 ^ g*b<=1279)(hs:At g b s t):∃ls,ls.length=g/\Bits ls/\val ls=0/\everP (chain g b nm es none) 1281 [] (some s)=((List.range (2 ^ g*b-t)).map (orb (chain g b nm es none) s)++[(ls,none)],none):=by
 have ht:=hs.lt
 have O:=ziq (nm:=nm) (es:=es) hs
 obtain⟨m,hm⟩:∃m,2 ^ g*b-t=m+1:=⟨2 ^ g*b-t-1,by omega⟩
 have hl:=O m (by omega)
 obtain⟨ls,e1,e2,e3,e4⟩:=At.last (nm:=nm) (es:=es) (la:=none) hl (by omega)
 have hnx:∀a,a<0+ (m+1)->nextS (chain g b nm es none) (orb (chain g b nm es none) s a)=some (orb (chain g b nm es none) s (a+1)):=by
  intro a ha
  show _=some ((nextS _ (orb (chain g b nm es none) s a)).getD _)
  rcases vet a m with h|h
  .obtain⟨s2,q1,q2⟩:=At.next (nm:=nm) (es:=es) (la:=none) (O a (by omega)) (by omega)
   rw[q1];rfl
  .rw[show a=m by omega,e1];rfl
 have hdist:∀a c,a<c->c<0+ (m+1)->orb (chain g b nm es none) s a≠orb (chain g b nm es none) s c:=by
  intro a c h1 h2 e
  have q1:=O a (by omega)
  have q2:=O c (by omega)
  rw[e]at q1
  have:=At.uniq q1 q2
  omega
 obtain⟨n,hn⟩:∃n,1281=(n+2)+ (m+1):=⟨1278-m,by omega⟩
 have w:=zee (B:=chain g b nm es none) (s:=s) (n+2) (m+1) 0 hnx hdist
 refine⟨ls,e2,e3,e4,?_⟩
 rw[hn]
 refine w.trans ?_
 rw[vfb,hm]
 have eo:orb (chain g b nm es none) s (m+1)=(ls,none):=by
  show(nextS _ (orb (chain g b nm es none) s m)).getD _=_
  rw[e1];rfl
 rw[eo]
 rw[zj4]
 .show everP _ (n+1) _ none=_
  rfl
 .intro h
  obtain⟨a,ha,e⟩:=va3.mp h
  obtain⟨ms,i,q,_⟩:=O a (by have:=vb5.mp ha;omega)
  rw[e]at q
  cases q
structure C20(F:Nat->Option Fn):Prop where
 e:CoreE F
 m:CoreM F
 b:CoreB F
 d:CoreD F
 f58:F 58=some fn58
 f61:F 61=some fn61
 f130:F 130=some fn130
 f143:F 143=some fn143
 f206:F 206=some fn206
 f208:F 208=some fn208
 f700:F 700=some zcu
 f701:F 701=some zb1
 f702:F 702=some zdl
theorem zol{a m:Nat}{r:Int}{j:Nat}(ha:a<=m)(hj:j<m):(vgc a (r+1)++vgc (m-a) r).getD j 0=if j<a then r+1 else r:=by
 rw[va4]
 by_cases z:j<a
 .rw[if_pos z,vbx (by simpa using z),vcr,if_pos z];rfl
 .rw[if_neg z,va0 (by simpa using z),vcn,vcr,if_pos (by omega)];rfl
theorem zhj{f tm tm':Nat->Int}{x:Int}:∀n,(∀k,k<n->tm k=tm' k)->wcn f tm x n=wcn f tm' x n
 |0,_=>rfl
 |n+1,h=>by rw[wcn,wcn,zhj n λk hk=>h k (by omega),h n (by omega)]
theorem zt8{a m:Nat}{r x:Int}{f:Nat->Int}(ha:a<=m):wcn f (λj=>(vgc a (r+1)++vgc (m-a) r).getD j 0) x m=r*cnt f x m+cnt f x a:=by
 rw[zhj (tm':=λj=>if j<a then r+1 else r) m λj hj=>zol ha hj,zrs,ve0 ha]
theorem zit(x:Int):∀n:Nat,(vgc n x).sum=n*x
 |0=>by simp
 |n+1=>by rw[vbn,List.sum_cons,zit x n,vcf,Int.add_mul];omega
theorem zt9{a m:Nat}{r:Int}(ha:a<=m):(vgc a (r+1)++vgc (m-a) r).sum=m*r+a:=by
 rw[List.sum_append,zit,zit,Int.mul_add,Int.mul_one,Int.natCast_sub ha,Int.sub_mul]
 omega
theorem ziu{N n:Nat}(N0:0<N):za2 N (some 0) n=(vgc (n % N) ((n/N:Nat)+1:Int)++vgc (N-n % N) ((n/N:Nat):Int),n % N):=by
 unfold za2
 by_cases z:n<N
 .simp only[if_pos z]
  rw[vbe z,vc2 z,vfa (by omega)]
  rfl
 .simp only[if_neg z,Nat.sub_zero,List.replicate_zero,vcc,vfb]
theorem zhk{M n:Nat}:za2 (M+1) none n=(vgc (min n M) ((0:Int)+1)++vgc (M+1-min n M) 0,min n M):=rfl
theorem zua{g b y:Nat}{nm:Int}{es:List Int}(hy:y<2 ^ g*b)(hes:b<=es.length):fnd g nm es y∈nm::es:=by
 unfold fnd
 split
 .have:y/2 ^ g<b:=vdc hy
  refine vag _ ?_
  rw[va4,vat (by omega)]
  exact vc0 _
 .exact vai
noncomputable def resW(s:Stn)(ps:List (Int×Int))(n:Int):W:=.tup [stW s,.tup (ps.map wP),.int n]
theorem zqq{s:Stn}{ps:List (Int×Int)}{n:Int}(h1:s.1.length<=100)(h2:ps.length<=100):nestN 4 (resW s ps n)=true:=by
 have a1:nestN 2 (iW s.1)=true:=by
  show(Nat.ble (s.1.map W.int).length 5000&& (s.1.map W.int).all (nestN 1))=true
  rw[vab,vb1]
  refine⟨veq.mpr (by rw[vaf];omega),λw hw=>?_⟩
  obtain⟨x,_,rfl⟩:=va3.mp hw
  rfl
 have a2:nestN 3 (stW s)=true:=by
  show(Nat.ble 2 5000 && [iW s.1,optW s.2].all (nestN 2))=true
  have:nestN 2 (optW s.2)=true:=by cases s.2<;>rfl
  simp[a1,this]
 have a3:nestN 3 (.tup (ps.map wP))=true:=by
  show(Nat.ble (ps.map wP).length 5000&& (ps.map wP).all (nestN 2))=true
  rw[vab,vb1]
  refine⟨veq.mpr (by rw[vaf];omega),λw hw=>?_⟩
  obtain⟨x,_,rfl⟩:=va3.mp hw
  rfl
 show(Nat.ble 3 5000 && [stW s,.tup (ps.map wP),.int n].all (nestN 3))=true
 have a4:nestN 3 (.int n)=true:=rfl
 simp[a2,a3,a4]
section
variable{F:Nat->Option Fn}(C:C20 F)
include C
theorem zom{k n:Nat}{h:VH}(hn:n<=10 ^ 50):run F (k+3) 58 [.int (n:Int)] h=.ok (.bl true) h:=by
 rw[zao C.f58 rfl]
 have e:=zaq C.b.toCoreA (k:=k) (h:=⟨h.n,h.n,h.os⟩) (w:=.int (n:Int)) (lo:=0) (hi:=100000000000000000000000000000000000000000000000000) (by unfold Kn;simp)
 have:within (.int (n:Int)) 0 100000000000000000000000000000000000000000000000000=true:=by
  show(decide ((0:Int)<=(n:Int))&&decide ((n:Int)<=100000000000000000000000000000000000000000000000000))=true
  rw[vab,vav,vav]
  omega
 rw[this]at e
 have eb:exs (run F (k+2)) fn58.body [some (.int (n:Int))] ⟨h.n,h.n,h.os⟩=.ok (.rt (.bl true)) ⟨h.n,h.n,h.os⟩:=zak (retE (zjz (varE rfl) rfl rfl e))
 show fin h (exs (run F (k+2)) fn58.body [some (.int (n:Int))] ⟨h.n,h.n,h.os⟩)=_
 rw[eb]
 exact zal (vad _) (by simp)
theorem zqr{k n:Nat}{B:Bd}{s:Stn}{h:VH}{w:W}(b:B.Ok)(g:GoodS B s)(hn:n<=10 ^ 50)(hw:Pl w)(hr:∀h,run F (k+10) 206 [B.w,papW (everP B 1281 [] (some s)),.int (n:Int)] h=.ok w h):run F (k+11) 208 [B.w,stW s,.int (n:Int)] h=.ok w h:=by
 rw[zao C.f208 rfl]
 have e1:=zb6 C.e C.b (k:=k+1) (h:=⟨h.n,h.n,h.os⟩) b g
 have e2:=zom C (k:=k+7) (h:=⟨h.n,h.n,h.os⟩) hn
 have e3:=zqc C.e C.b (k:=k) (h:=⟨h.n,h.n,h.os⟩) b g
 have eb:exs (run F (k+10)) fn208.body [some B.w,some (stW s),some (.int (n:Int))] ⟨h.n,h.n,h.os⟩=.ok (.rt w) ⟨h.n,h.n,h.os⟩:=by
  refine(zaa (exprE (zbn (varE rfl) (varE rfl) e1))).trans ?_
  refine(zaa (ρ':=[some B.w,some (stW s),some (.int (n:Int))]) (h':=⟨h.n,h.n,h.os⟩) ((iteF (by rw[ev,truE (zro (varE rfl) e2)];rfl)).trans rfl)).trans ?_
  exact zak (retE (zjz (varE rfl) (zbn (varE rfl) (varE rfl) e3) (varE rfl) (hr _)))
 show fin h (exs (run F (k+10)) fn208.body [some B.w,some (stW s),some (.int (n:Int))] ⟨h.n,h.n,h.os⟩)=_
 rw[eb]
 exact zal (vad _) (hw _)
theorem zub{k g b y:Nat}{nm:Int}{es:List Int}{la:Option Nat}{s:Stn}(bo:(chain g b nm es la).Ok)(hs:At g b s y)(h:VH):∃c q,run F (k+4) 176 [(chain g b nm es la).w,iW s.1,optW s.2,.non] h=.ok (.tup [.tup [.int (fnd g nm es y),c],q]) h:=by
 have gs:=hs.good (nm:=nm) (es:=es) (la:=la)
 have nmq:=hs.name (nm:=nm) (es:=es) (la:=la)
 obtain⟨ls,i,rfl,_⟩:=hs
 obtain⟨g1,g2,g3⟩:=gs
 have e:=zg7 C.e (k:=k) (h:=h) bo (g3 i rfl) g1 g2
 obtain⟨o1,_⟩:=zcr bo (g3 i rfl) g1 g2
 rw[o1,show nameP (chain g b nm es la) ls i=.int (fnd g nm es y)from nmq]at e
 exact⟨_,_,e⟩
theorem zyh{k k2 g b l i n:Nat}{nm:Int}{es ls:List Int}{la:Option Nat}{h:VH}(hg8:g<=8)(b1:1<=b)(hb4:b<=4)(hla:la=none\/la=some 0)(hes:b<=es.length)(hes2:es.length<=50)(bo:(chain g b nm es la).Ok)(hn:n<=10 ^ 50)
 (hl:ls.length=g) (hbi:Bits ls) (hi:i<b) (gl:h.get l=some (.lst (.int nm::es.map .int))) :
 ∃w,nestN 4 w=true/\run F (k+11) 208 [(chain g b nm es la).w,stW (ls,some i),.int (n:Int)] h=.ok w h/\run F (k2+3) 700 [.int (val ls:Int),.int (i:Int),.int (g:Int),.int (b:Int),.ref l,optW la,.int (n:Int)] h=.ok w h:=by
 have hs:At g b (ls,some i) (2 ^ g*i+val ls):=⟨ls,i,rfl,hl,hbi,hi,rfl⟩
 have gs:GoodS (chain g b nm es la) (ls,some i):=hs.good
 have ht:=hs.lt
 have M0:=vd1 g
 have hM:2 ^ g<=256:=vd5 (n:=2) (by omega) hg8
 have hN:2 ^ g*b<=256*4:=ves hM hb4
 have N0:0<2 ^ g*b:=ve9 M0 b1
 have key:∀(xs:List Stn)(bk:Option Nat)(r:Int)(a:Nat)(sl:Stn)(ms:List Int)(j:Nat),everP (chain g b nm es la) 1281 [] (some (ls,some i))=(xs,bk)->1<=xs.length->xs.length<=1281->(∀c,bk=some c->c<xs.length)->a<=xs.length->za2 xs.length bk n=(vgc a (r+1)++vgc (xs.length-a) r,a)->
  (∀(j:Nat)(s:Stn),xs[j]?=some s->(j<a\/0<r)->At g b s ((2 ^ g*i+val ls+j) % (2 ^ g*b)))->xs[a]?=some sl->(xs.length:Int)*r+a=((numP la n (2 ^ g*b- (2 ^ g*i+val ls)):Nat):Int)->
  (∀x,r*cnt (λq=>fnd g nm es ((2 ^ g*i+val ls+q) % (2 ^ g*b))) x xs.length+cnt (λq=>fnd g nm es ((2 ^ g*i+val ls+q) % (2 ^ g*b))) x a=cnt (λq=>fnd g nm es ((2 ^ g*i+val ls+q) % (2 ^ g*b))) x (numP la n (2 ^ g*b- (2 ^ g*i+val ls))))->
  ms.length=g->Bits ms->2 ^ g*j+val ms=(2 ^ g*i+val ls+numP la n (2 ^ g*b- (2 ^ g*i+val ls))) % (2 ^ g*b)->sl=(ms,endP la (decide (2 ^ g*i+val ls+numP la n (2 ^ g*b- (2 ^ g*i+val ls))=2 ^ g*b)) j)->
  ∃w,nestN 4 w=true/\run F (k+11) 208 [(chain g b nm es la).w,stW (ls,some i),.int (n:Int)] h=.ok w h/\run F (k2+3) 700 [.int (val ls:Int),.int (i:Int),.int (g:Int),.int (b:Int),.ref l,optW la,.int (n:Int)] h=.ok w h:=by
  intro xs bk r a sl ms j hE x1 x2 hbk ha hT hat hsl hsum hcnt hml hmb hmy hend
  obtain⟨ms1,f1,D1,c1,e700⟩:=zt7 C.f701 C.f143 C.f700 (k:=k2) (nm:=nm) (es:=es) (la:=la) (n:=n) hg8 b1 hb4 hes hes2 gl (vdh ht) hml hmb hmy
  rw[<-hend]at e700
  have hco:∀(j:Nat)(s:Stn)(t:Int),xs[j]?=some s->(za2 xs.length bk n).1[j]?=some t->0<t->(λq=>fnd g nm es ((2 ^ g*i+val ls+q) % (2 ^ g*b))) j∈nm::es/\∀h,∃c q,run F (k+5+4) 176 [(chain g b nm es la).w,iW s.1,optW s.2,.non] h=.ok (.tup [.tup [.int ((λq=>fnd g nm es ((2 ^ g*i+val ls+q) % (2 ^ g*b))) j),c],q]) h:=by
   intro j s t h1 h2 h3
   refine⟨zua (ve2 _ N0) hes,λh=>zub C bo (hat j s h1 ?_) h⟩
   rw[hT]at h2
   have hjl:=(vaq.mp h1).1
   have:=zol (r:=r) ha hjl
   rw[va4,h2]at this
   by_cases z:j<a
   .exact .inl z
   .rw[if_neg z]at this
    exact .inr (by rw[<-show t=r from this];exact h3)
  have hrec:=λh=>zqp C.f61 C.f206 (k:=k+5) (n:=n) (h:=h) (B:=(chain g b nm es la).w) (ns:=nm::es) (sl:=sl) x1 x2 hbk (by simp;omega) hco (by rw[hT];exact hsl)
  have same:∀{ks:List Int}{f:Int->Int},Rk (nm::es) ks f (λq=>fnd g nm es ((2 ^ g*i+val ls+q) % (2 ^ g*b))) (za2 xs.length bk n).1 xs.length->srtB (λp:Int×Int=>p.1) (ks.map λx=>(x,f x))=((srtB id ms1).filter λx=>decide (0<f1 x)).map λx=>(x,f1 x):=by
   intro ks f R
   have hff:f=f1:=funext λx=>by rw[R.eq x,hT,zt8 ha,hcnt x,c1 x]
   subst hff
   refine(zof R.dn.nd D1.nd λx=>?_).symm
   rw[R.pos x]
   refine⟨λz=>⟨Decidable.byContradiction λq=>?_,z⟩,λz=>z.2⟩
   have:=D1.out x q
   omega
  have hlen1:=D1.len
  rw[vaj]at hlen1
  refine⟨_,?_,?_,e700⟩
  .refine zqq (s:=sl) ?_ ?_
   .rw[hend];show ms.length<=100;omega
   .rw[vaf]
    refine vbo (List.length_filter_le ..) ?_
    rw[(zbh (f:=id) ms1).length_eq];omega
  .refine zqr C bo gs hn (Pl.tup λw hw=>?_) λh=>?_
   .simp only[vau,vbp,vd8]at hw
    rcases hw with rfl|rfl|rfl
    .exact zga
    .exact zf9
    .exact Pl.int
   .obtain⟨ks,f,R,e⟩:=hrec h
    rw[hE]
    rw[same R,hT]at e
    rw[zt9 ha,hsum]at e
    exact e
 rcases hla with rfl|rfl
 .obtain⟨l0,z1,z2,z3,hE⟩:=zok (nm:=nm) (es:=es) (by omega) hs
  have O:=ziq (nm:=nm) (es:=es) hs
  have hlen:((List.range (2 ^ g*b- (2 ^ g*i+val ls))).map (orb (chain g b nm es none) (ls,some i))++[(l0,none)]).length=2 ^ g*b- (2 ^ g*i+val ls)+1:=by simp
  have hget:∀(j:Nat),j<2 ^ g*b- (2 ^ g*i+val ls)->((List.range (2 ^ g*b- (2 ^ g*i+val ls))).map (orb (chain g b nm es none) (ls,some i))++[(l0,none)])[j]?=some (orb (chain g b nm es none) (ls,some i) j):=λj hj=>by
   rw[vbx (by simpa using hj),vas,vbd hj];rfl
  generalize hxs:(List.range (2 ^ g*b- (2 ^ g*i+val ls))).map (orb (chain g b nm es none) (ls,some i))++[(l0,none)]=xs at *
  have hlast:xs[2 ^ g*b- (2 ^ g*i+val ls)]?=some (l0,none):=by
   rw[<-hxs,va0 (by simp)]
   simp
  have hat:∀(j:Nat)(s:Stn),xs[j]?=some s->(j<min n (2 ^ g*b- (2 ^ g*i+val ls))\/(0:Int)<0)->At g b s ((2 ^ g*i+val ls+j) % (2 ^ g*b)):=by
   intro j s h1 h2
   rcases h2 with h2|h2
   .rw[hget j (by omega)]at h1
    cases h1
    rw[vbe (by omega)]
    exact O j (by omega)
   .exact absurd h2 (by decide)
  rcases vet n (2 ^ g*b- (2 ^ g*i+val ls))with q|q
  .have hmin:min n (2 ^ g*b- (2 ^ g*i+val ls))=n:=vfa (by omega)
   have hsa:=O n (by omega)
   have hgn:=hget n q
   obtain⟨ms,j,e1,a1,a2,a3,a4⟩:=hsa
   rw[e1]at hgn
   refine key xs none 0 n (ms,some j) ms j hE (by omega) (by omega) (λc z=>nomatch z) (by omega) (by rw[hlen,zhk,hmin]) (λj' s' p1 p2=>hat j' s' p1 (by rw[hmin];exact p2)) hgn ?_ (λx=>?_) a1 a2 ?_ ?_
   .show _=((min n (2 ^ g*b- (2 ^ g*i+val ls)):Nat):Int)
    rw[hmin];omega
   .show _=cnt _ x (min n (2 ^ g*b- (2 ^ g*i+val ls)))
    rw[hmin];omega
   .show _=(_+min n (2 ^ g*b- (2 ^ g*i+val ls))) % _
    rw[hmin,vbe (by omega)];exact a4
   .show(ms,some j)=(ms,if decide (_+min n (2 ^ g*b- (2 ^ g*i+val ls))=_)then none else some j)
    rw[hmin,vay (by omega)];rfl
  .have hmin:min n (2 ^ g*b- (2 ^ g*i+val ls))=2 ^ g*b- (2 ^ g*i+val ls):=ve0 (by omega)
   refine key xs none 0 (2 ^ g*b- (2 ^ g*i+val ls)) (l0,none) l0 0 hE (by omega) (by omega) (λc z=>nomatch z) (by omega) (by rw[hlen,zhk,hmin]) (λj' s' p1 p2=>hat j' s' p1 (by rw[hmin];exact p2)) hlast ?_ (λx=>?_) z1 z2 ?_ ?_
   .show _=((min n (2 ^ g*b- (2 ^ g*i+val ls)):Nat):Int)
    rw[hmin];omega
   .show _=cnt _ x (min n (2 ^ g*b- (2 ^ g*i+val ls)))
    rw[hmin];omega
   .show _=(_+min n (2 ^ g*b- (2 ^ g*i+val ls))) % _
    rw[hmin,show 2 ^ g*i+val ls+ (2 ^ g*b- (2 ^ g*i+val ls))=2 ^ g*b by omega,Nat.mod_self,z3]
    rfl
   .show(l0,none)=(l0,if decide (_+min n (2 ^ g*b- (2 ^ g*i+val ls))=_)then none else some 0)
    rw[hmin,va1 (by omega)];rfl
 .have hE:=zk7 (nm:=nm) (es:=es) b1 (by omega) hs
  have O:=zha (nm:=nm) (es:=es) b1 hs
  have hr:=ve2 n N0
  have hdm:=ven n (2 ^ g*b)
  have hsa:=(O (n % (2 ^ g*b))).1
  obtain⟨ms,j,e1,a1,a2,a3,a4⟩:=hsa
  have hlen:((List.range (2 ^ g*b)).map (orb (chain g b nm es (some 0)) (ls,some i))).length=2 ^ g*b:=by simp
  refine key _ (some 0) ((n/ (2 ^ g*b):Nat):Int) (n % (2 ^ g*b)) (ms,some j) ms j hE (by rw[hlen];omega) (by rw[hlen];omega) (λc z=>by cases z;rw[hlen];exact N0) (by rw[hlen];omega) (by rw[hlen];exact ziu N0) (λj' s' p1 _=>?_) ?_ ?_ (λx=>?_) a1 a2 ?_ rfl
  .have hj:j'<2 ^ g*b:=by have:=(vaq.mp p1).1;rw[hlen]at this;exact this
   rw[vas,vbd hj]at p1
   cases p1
   exact(O j').1
  .rw[vas,vbd hr,<-e1];rfl
  .show _=(n:Int)
   rw[hlen,<-veo,<-vcf,hdm]
  .show _=cnt _ x n
   rw[hlen]
   have:=zob (f:=λq=>fnd g nm es ((2 ^ g*i+val ls+q) % (2 ^ g*b))) (x:=x) (N:=2 ^ g*b) (λj=>by
    show fnd g nm es ((2 ^ g*i+val ls+ (j+2 ^ g*b)) % (2 ^ g*b))=_
    rw[<-vei,Nat.add_mod_right]) (n % (2 ^ g*b)) (n/ (2 ^ g*b))
   rw[hdm]at this
   exact this.symm
  .show _=(2 ^ g*i+val ls+n) % (2 ^ g*b)
   rw[a4,Nat.add_mod_mod]
end
theorem zkf{cl:Call}{h:VH}{pre post:En}(hpre:pre.length=8):∀(rs:List Int) (a:Nat) (x13:Option W),Bits rs->∃x13',forL (tgW (.one 9)) (exs cl zei) (rs.map .int) (pre++some (.int (a:Int))::x13::post) h=.ok (.nx (pre++some (.int ((rs.foldl (λa x=>2*a+x.toNat) a:Nat):Int))::x13'::post)) h
 |[],a,x13,_=>⟨x13,rfl⟩
 |r::rs,a,x13,hb=>by
  have hr:=hb r vai
  obtain⟨x13',e⟩:=zkf (cl:=cl) (h:=h) (post:=post) hpre rs (2*a+r.toNat) (some (.int r)) λy hy=>hb y (vag _ hy)
  refine⟨x13',?_⟩
  rw[van]
  refine(za8 (ρ':=pre++some (.int ((2*a+r.toNat:Nat):Int))::some (.int r)::post) (h':=h) ?_).trans e
  have hset:(pre++some (.int (a:Int))::x13::post).set 9 (some (.int r))=pre++some (.int (a:Int))::some (.int r)::post:=by
   rw[vc6 _ _ (by omega),hpre];rfl
  have h12:(pre++some (.int (a:Int))::some (.int r)::post)[8]?=some (some (.int (a:Int))):=by
   rw[va0 (by omega),hpre];rfl
  have h13:(pre++some (.int (a:Int))::some (.int r)::post)[9]?=some (some (.int r)):=by
   rw[va0 (by omega),hpre];rfl
  have hset2:(pre++some (.int (a:Int))::some (.int r)::post).set 8 (some (.int ((2*a+r.toNat:Nat):Int)))=pre++some (.int ((2*a+r.toNat:Nat):Int))::some (.int r)::post:=by
   rw[vc6 _ _ (by omega),hpre];rfl
  rw[hset]
  refine(zaa (setE (x:=.int ((2*a+r.toNat:Nat):Int)) (h1:=h) (opE (opE rfl (varE h12) (mulI rfl)) (varE h13) ?_))).trans ?_
  .rw[addI]
   have:(2:Int)* (a:Int)+r=((2*a+r.toNat:Nat):Int):=by rcases hr with rfl|rfl<;>simp
   rw[this]
  .rw[hset2];rfl
theorem Dk.setQ{h:VH}{d c b l:Nat}{o o0:VO}(D:Dk h d c b)(g:h.get l=some o0)(hd:l≠d)(hc:l≠c):Dk (h.set l o) d c b:=by
 obtain⟨ne,ns,cells,p,q,a1,a2,a3⟩:=D
 exact⟨ne,ns,cells,p,q,(zaf g (vb6 hd)).trans a1,(zaf g (vb6 hc)).trans a2,a3⟩
theorem zfb{nx:Nat->VH->Option (Option W)}{tg:W->VH->En->Option En}{b:FS}{h:VH}{ws:List W}{P:En->Prop}(hx:∀i,nx i h=some ws[i]?)(hb:∀w∈ws,∀ρ,P ρ->∃ρ1 ρ2,tg w h ρ=some ρ1/\b ρ1 h=.ok (.nx ρ2) h/\P ρ2) :
 ∀(fu i:Nat)(ρ:En),P ρ->i<=ws.length->ws.length<fu+i->∃ρ',forG nx tg b fu i ρ h=.ok (.nx ρ') h/\P ρ'
 |0,i,ρ,_,h1,h2=>by omega
 |fu+1,i,ρ,p,h1,h2=>by
  cases q:ws[i]? with
  |none=>exact⟨ρ,zhh ((hx i).trans (by rw[q])),p⟩
  |some w=>
   obtain⟨hi,_⟩:=vaq.mp q
   obtain⟨ρ1,ρ2,e1,e2,p2⟩:=hb w (vb3 q) ρ p
   obtain⟨ρ',e,p'⟩:=zfb hx hb fu (i+1) ρ2 p2 hi (by omega)
   exact⟨ρ',(zhg ((hx i).trans (by rw[q])) e1 e2).trans e,p'⟩
theorem powI{h:VH}{a j m:Nat}(ha:a<100)(hj:j<1000)(hm:a ^ j=m):opW .pow (.int (a:Int)) (.int (j:Int)) h=.ok (.int (m:Int)) h:=by
 have h1:decide ((0:Int)<=(j:Int))=true:=va1 (by omega)
 have h2:decide ((j:Int)<=1000000)=true:=va1 (by omega)
 have h3:decide ((a:Int).natAbs<2 ^ 64)=true:=va1 (by omega)
 simp only[opW,opI,h1,h2,h3,vd3,va8,vaw,ofsome,vby]
 rw[<-hm,Int.natCast_pow]
noncomputable abbrev R20(x0 x1 x2 x3 x4 x5 x6 x7 x8 x9 x10 x11 x12 x13:Option W):En:=[x0,x1,x2,x3,x4,x5,x6,x7,x8,x9,x10,x11,x12,x13]
section
variable{F:Nat->Option Fn}(C:C20 F)
include C
theorem tk20{h:VH}{d c bb:Nat}{m:Int}{ρ:En}{y:E}(D:Dk h d c bb)(hb:bb<100000)(hm:0<m)(hm2:m<1073741824)(hx:ρ[1]?=some (some (.ref d)))(hy:ev (run F 29) y ρ h=.ok (.int m) h):∃(r:Nat) (h':VH),ev (run F 29) (.call 5 (.cons (.var 1) (.cons y .nil))) ρ h=.ok (.int (r:Int)) h'/\(r:Int)<m/\Dk h' d c (bb+1)/\Keep h h' d c:=by
 obtain⟨r,h',e,r0,r1,D',K⟩:=take C.d (k:=26) (m:=m) D (by omega) hm hm2
 obtain⟨r,rfl⟩:=vbt r0
 exact⟨r,h',zbn (varE hx) hy e,r1,D',K⟩
theorem zuc{h:VH}{d c:Nat}{x0:Option W}(D:Dk h d c 0):∃(g b:Nat) (h':VH),g<=8/\1<=b/\b<=4/\Dk h' d c 4/\∀rest:S,
 exs (run F 29) (.seq (.set 2 (.idx (.lst (.cons (.call 5 (.cons (.var 1) (.cons (.cst (.int (9))) .nil))) (.cons (.cst (.int (8))) (.cons (.call 5 (.cons (.var 1) (.cons (.cst (.int (4))) .nil))) .nil)))) (.call 5 (.cons (.var 1) (.cons (.cst (.int (3))) .nil))))) (.seq (.set 3 (.op .add (.cst (.int (1))) (.call 5 (.cons (.var 1) (.cons (.cst (.int (4))) .nil))))) rest)) (R20 x0 (some (.ref d)) none none none none none none none none none none none none) h =
 exs (run F 29) rest (R20 x0 (some (.ref d)) (some (.int (g:Int))) (some (.int (b:Int))) none none none none none none none none none none) h':=by
 obtain⟨r1,h1,e1,b1,D1,K1⟩:=tk20 C (ρ:=R20 x0 (some (.ref d)) none none none none none none none none none none none none) (y:=.cst (.int (9))) D (by omega) (by decide) (by decide) rfl rfl
 obtain⟨r2,h2,e2,b2,D2,K2⟩:=tk20 C (ρ:=R20 x0 (some (.ref d)) none none none none none none none none none none none none) (y:=.cst (.int (4))) D1 (by omega) (by decide) (by decide) rfl rfl
 obtain⟨r3,h3,e3,b3,D3,K3⟩:=tk20 C (ρ:=R20 x0 (some (.ref d)) none none none none none none none none none none none none) (y:=.cst (.int (3))) (D2.new (o:=.lst [.int (r1:Int),.int 8,.int (r2:Int)])) (by omega) (by decide) (by decide) rfl rfl
 obtain⟨hd2,hc2⟩:=D2.lt
 have gl:h3.get h2.n=some (.lst [.int (r1:Int),.int ((8:Nat):Int),.int (r2:Int)]):=K3.get _ _ (by omega) (by omega) zai
 obtain⟨g,hg,hg8⟩:∃g:Nat,[W.int (r1:Int),.int ((8:Nat):Int),.int (r2:Int)][r3]?=some (.int (g:Int))/\g<=8:=by
  have:r3=0\/r3=1\/r3=2:=by omega
  rcases this with rfl|rfl|rfl
  .exact⟨r1,rfl,by omega⟩
  .exact⟨8,rfl,by omega⟩
  .exact⟨r2,rfl,by omega⟩
 obtain⟨r4,h4,e4,b4,D4,K4⟩:=tk20 C (ρ:=R20 x0 (some (.ref d)) (some (.int (g:Int))) none none none none none none none none none none none) (y:=.cst (.int (4))) D3 (by omega) (by decide) (by decide) rfl rfl
 refine⟨g,1+r4,h4,hg8,by omega,by omega,D4.mono (by omega),λrest=>?_⟩
 refine(zaa (setE (idxE (lst3E e1 rfl e2) e3 (zcs gl hg)))).trans ?_
 refine zaa (setE (x:=.int ((1+r4:Nat):Int)) (h1:=h4) (opE rfl e4 ?_))
 rw[addI,vcf];rfl
theorem zud{h:VH}{d c l:Nat}{x0 x2 x3:Option W}{as:List Int}(D:Dk h d c 9)(gl:h.get l=some (.lst (as.map .int)))(hd:l≠d)(hc:l≠c)(hlen:as.length=5)(hb:∀a∈as,0<=a/\a<=99):∃(nm:Int) (es:List Int) (h':VH),es.length=4/\(0<=nm/\nm<=99)/\(∀e∈es,0<=e/\e<=99)/\Dk h' d c 10/\h'.get l=some (.lst (.int nm::es.map .int))/\h.n<=h'.n/\
 exs (run F 29) (.ite (.cmp .eq (.call 5 (.cons (.var 1) (.cons (.cst (.int (3))) .nil))) (.cst (.int (0)))) (.seq (.put (.var 4) (.cst (.int (2))) (.idx (.var 4) (.cst (.int (1))))) (.seq (.put (.var 4) (.cst (.int (3))) (.idx (.var 4) (.cst (.int (0))))) .skip)) .skip) (R20 x0 (some (.ref d)) x2 x3 (some (.ref l)) none none none none none none none none none) h=.ok (.nx (R20 x0 (some (.ref d)) x2 x3 (some (.ref l)) none none none none none none none none none)) h':=by
 obtain⟨a0,a1,a2,a3,a4,rfl⟩:∃a0 a1 a2 a3 a4,as=[a0,a1,a2,a3,a4]:=by
  match as,hlen with
  |[a0,a1,a2,a3,a4],_=>exact⟨a0,a1,a2,a3,a4,rfl⟩
 have q0:=hb a0 (by simp)
 have q1:=hb a1 (by simp)
 have q2:=hb a2 (by simp)
 have q3:=hb a3 (by simp)
 have q4:=hb a4 (by simp)
 obtain⟨r,h1,e1,b1,D1,K1⟩:=tk20 C (ρ:=R20 x0 (some (.ref d)) x2 x3 (some (.ref l)) none none none none none none none none none) (y:=.cst (.int (3))) D (by omega) (by decide) (by decide) rfl rfl
 have g1:h1.get l=some (.lst [.int a0,.int a1,.int a2,.int a3,.int a4]):=K1.get _ _ hd hc gl
 have ec:=eqE (cl:=run F 29) (ρ:=R20 x0 (some (.ref d)) x2 x3 (some (.ref l)) none none none none none none none none none) (b:=.cst (.int (0))) (j:=0) (h2:=h1) e1 rfl
 by_cases z:(r:Int)=0
 .rw[va1 z]at ec
  have g2:=zag (o:=.lst [.int a0,.int a1,.int a1,.int a3,.int a4]) g1
  have g3:=zag (o:=.lst [.int a0,.int a1,.int a1,.int a0,.int a4]) g2
  refine⟨a0,[a1,a1,a0,a4],_,rfl,q0,λe he=>?_,(D1.setQ g1 hd hc).setQ g2 hd hc,g3,K1.le,?_⟩
  .simp only[vau,vbp,vd8]at he
   rcases he with rfl|rfl|rfl|rfl<;>assumption
  .refine(iteT ec).trans ?_
   refine(zaa (putL (j:=2) (w:=.int a1) (ws:=[.int a0,.int a1,.int a2,.int a3,.int a4]) (idxE (varE rfl) rfl (zcs (j:=1) g1 rfl)) (varE rfl) rfl g1 (by simp))).trans ?_
   exact(zaa (putL (j:=3) (w:=.int a0) (ws:=[.int a0,.int a1,.int a1,.int a3,.int a4]) (idxE (varE rfl) rfl (zcs (j:=0) g2 rfl)) (varE rfl) rfl g2 (by simp))).trans rfl
 .rw[vay z]at ec
  refine⟨a0,[a1,a2,a3,a4],h1,rfl,q0,λe he=>?_,D1,g1,K1.le,(iteF ec).trans rfl⟩
  simp only[vau,vbp,vd8]at he
  rcases he with rfl|rfl|rfl|rfl<;>assumption
end
theorem zyi{cl:Call}{ρ:En}{h h':VH}{n:Nat}{a b c d e f g:E}{x y z u v p q w:W}(ea:ev cl a ρ h=.ok x h)(eb:ev cl b ρ h=.ok y h)(ec:ev cl c ρ h=.ok z h)(ed:ev cl d ρ h=.ok u h)(ee:ev cl e ρ h=.ok v h)(ef:ev cl f ρ h=.ok p h)(eg:ev cl g ρ h=.ok q h)(k:cl n [x,y,z,u,v,p,q] h=.ok w h'):ev cl (.call n (.cons a (.cons b (.cons c (.cons d (.cons e (.cons f (.cons g .nil)))))))) ρ h=.ok w h':=by
 have t:ev cl (.cons a (.cons b (.cons c (.cons d (.cons e (.cons f (.cons g .nil))))))) ρ h=.ok (.tup [x,y,z,u,v,p,q]) h:=by
  rw[ev,ea,bindok,ev,eb,bindok,ev,ec,bindok,ev,ed,bindok,ev,ee,bindok,ev,ef,bindok,ev,eg,bindok,ev]
  rfl
 rw[ev,t,bindok]
 exact k
theorem consE{cl:Call}{a r:E}{ρ:En}{h h1 h2:VH}{x:W}{ys:List W}(ea:ev cl a ρ h=.ok x h1)(er:ev cl r ρ h1=.ok (.tup ys) h2):ev cl (.cons a r) ρ h=.ok (.tup (x::ys)) h2:=by
 rw[ev,ea,bindok,er,bindok]
theorem nilE{cl:Call}{ρ:En}{h:VH}:ev cl .nil ρ h=.ok (.tup []) h:=by rw[ev]
theorem lstE{cl:Call}{a:E}{ρ:En}{h h1:VH}{ys:List W}(ea:ev cl a ρ h=.ok (.tup ys) h1)(hl:ys.length<=1000):ev cl (.lst a) ρ h=.ok (.ref h1.n) (h1.new (.lst ys)):=by
 rw[ev,ea,bindok]
 dsimp only
 rw[if_pos (veq.mpr hl)]
section
variable{F:Nat->Option Fn}(C:C20 F)
include C
theorem law20{ns:List Int}(hl:ns.length<=63):zbx (run F 30 702 [.fz (ns.map .int)] ⟨0,0,[]⟩)=true:=by
 rw[show(30:Nat)=29+1 from rfl,zao C.f702 rfl]
 obtain⟨h1,e1,D1⟩:=deck C.d (k:=28) (h:=⟨0,0,[]⟩) hl
 generalize hx0:W.fz (ns.map .int)=x0 at *
 obtain⟨g,b,h2,hg,b1,hb4,D2,E2⟩:=zuc C (x0:=some x0) D1
 obtain⟨ws,h3,e3,p3,l3,D3,K3⟩:=zig (cl:=run F 29) (P:=λ_ w=>∃x:Int,w=.int x/\(0<=x/\x<=99)) (e:=zce) (tl:=[some (.ref (0+1))]) (m:=1) (lim:=5) (d:=0+1) (c:=0) (λi h bb h0 hl D hb=>by
  obtain⟨r,h',e,r0,r1,D',K'⟩:=take C.d (k:=26) (m:=100) D (by omega) (by decide) (by decide)
  exact⟨.int r,h',zbn (varE rfl) rfl e,⟨r,rfl,by omega⟩,D',K'⟩) 5 0 none h2 4 (by omega) (by omega) D2 (by omega)
 obtain⟨as,rfl,hab⟩:=zim (zf0 p3)
 rw[vaf]at l3
 have e4:=zrl (cl:=run F 29) (a:=.cons (.cst (.int (5))) .nil) (ρ:=R20 (some x0) (some (.ref (0+1))) (some (.int (g:Int))) (some (.int (b:Int))) none none none none none none none none none none) (h:=h2) (h1:=h2) (n:=5) (ow:=1) (ix:=[1]) (e:=zce) rfl (by omega) e3 (by rw[vaf,l3];omega)
 obtain⟨hd3,hc3⟩:=D3.lt
 obtain⟨nm,es,h4,les,hnm,hesb,D4,g4,n4,e5⟩:=zud C (l:=h3.n) (x0:=some x0) (x2:=some (.int (g:Int))) (x3:=some (.int (b:Int))) (D3.new (o:=.lst (as.map .int))) zai (by omega) (by omega) l3 hab
 obtain⟨r5,h5,e6,b5,D5,K5⟩:=tk20 C (h:=h4.new (.lst [.int 0,.non])) (ρ:=R20 (some x0) (some (.ref (0+1))) (some (.int (g:Int))) (some (.int (b:Int))) (some (.ref h3.n)) none none none none none none none none none) (y:=.cst (.int (4))) D4.new (by omega) (by decide) (by decide) rfl rfl
 obtain⟨hd4,hc4⟩:=D4.lt
 have gm:h5.get h4.n=some (.lst [.int 0,.non]):=K5.get _ _ (by omega) (by omega) zai
 have g5:h5.get h3.n=some (.lst (.int nm::es.map .int)):=K5.get _ _ (by omega) (by omega) ((zab (zah g4)).trans g4)
 obtain⟨la,hla,hlaw⟩:∃la:Option Nat,(la=none\/la=some 0)/\[W.int 0,.non][r5/3]?=some (optW la):=by
  have:r5/3=0\/r5/3=1:=by omega
  rcases this with z|z<;>rw[z]
  .exact⟨some 0,.inr rfl,rfl⟩
  .exact⟨none,.inl rfl,rfl⟩
 have bo:(chain g b nm es la).Ok:=ch_ok hg b1 hb4 hnm hesb hla
 have e130:=zn9 C.f130 (k:=28) (la:=la) hg hb4 (show b<=es.length by omega) g5
 obtain⟨ws,h6,e7,p7,l7,D6,K6⟩:=zig (cl:=run F 29) (P:=λ_ w=>∃x:Int,w=.int x/\(x=0\/x=1)) (e:=zcf) (tl:=[some (.ref (0+1))]) (m:=1) (lim:=g) (d:=0+1) (c:=0) (λi h bb h0 hl D hb=>by
  obtain⟨r,h',e,r0,r1,D',K'⟩:=take C.d (k:=26) (m:=2) D (by omega) (by decide) (by decide)
  exact⟨.int r,h',zbn (varE rfl) rfl e,⟨r,rfl,by omega⟩,D',K'⟩) g 0 none h5 11 (by omega) (by omega) D5 (by omega)
 obtain⟨ls,rfl,hbits⟩:=zim (zf0 p7)
 rw[vaf]at l7
 have e8:=zrm (cl:=run F 29) (a:=.cons (.var 2) .nil) (ρ:=R20 (some x0) (some (.ref (0+1))) (some (.int (g:Int))) (some (.int (b:Int))) (some (.ref h3.n)) (some (optW la)) (some (chain g b nm es la).w) none none none none none none none) (h:=h5) (h1:=h5) (n:=g) (ow:=1) (ix:=[1]) (e:=zcf) (by rw[ev,varE rfl,bindok,ev];rfl) (by omega) e7 (by rw[vaf,l7];omega)
 obtain⟨x9,e9⟩:=zkf (cl:=run F 29) (h:=h6.new (.lst (ls.map .int))) (pre:=[some x0,some (.ref (0+1)),some (.int (g:Int)),some (.int (b:Int)),some (.ref h3.n),some (optW la),some (chain g b nm es la).w,some (iW ls)]) (post:=[none,none,none,none]) rfl ls.reverse 0 none (λy hy=>hbits y (List.mem_reverse.mp hy))
 rw[zkd]at e9
 obtain⟨i,h7,e10,i10,D7,K7⟩:=tk20 C (h:=h6.new (.lst (ls.map .int))) (m:=(b:Int)) (ρ:=R20 (some x0) (some (.ref (0+1))) (some (.int (g:Int))) (some (.int (b:Int))) (some (.ref h3.n)) (some (optW la)) (some (chain g b nm es la).w) (some (iW ls)) (some (.int (val ls:Int))) x9 none none none none) (y:=.var 3) D6.new (by omega) (by omega) (by omega) rfl (varE rfl)
 obtain⟨n1,h8,e11,i11,D8,K8⟩:=tk20 C (h:=h7) (m:=2000) (ρ:=R20 (some x0) (some (.ref (0+1))) (some (.int (g:Int))) (some (.int (b:Int))) (some (.ref h3.n)) (some (optW la)) (some (chain g b nm es la).w) (some (iW ls)) (some (.int (val ls:Int))) x9 (some (.int (i:Int))) none none none) (y:=.cst (.int (2000))) D7 (by omega) (by decide) (by decide) rfl rfl
 let nums:List Nat:=[0,1,255,256,1023,1024,1025,10 ^ 50,10 ^ 50-1,n1]
 let h9:=h8.new (.lst (nums.map λ(n:Nat)=>W.int (n:Int)))
 have e12:ev (run F 29) (.lst (.cons (.cst (.int (0))) (.cons (.cst (.int (1))) (.cons (.cst (.int (255))) (.cons (.cst (.int (256))) (.cons (.cst (.int (1023))) (.cons (.cst (.int (1024))) (.cons (.cst (.int (1025))) (.cons (.op .pow (.cst (.int (10))) (.cst (.int (50)))) (.cons (.op .sub (.op .pow (.cst (.int (10))) (.cst (.int (50)))) (.cst (.int (1)))) (.cons (.call 5 (.cons (.var 1) (.cons (.cst (.int (2000))) .nil))) .nil))))))))))) (R20 (some x0) (some (.ref (0+1))) (some (.int (g:Int))) (some (.int (b:Int))) (some (.ref h3.n)) (some (optW la)) (some (chain g b nm es la).w) (some (iW ls)) (some (.int (val ls:Int))) x9 (some (.int (i:Int))) none none none) h7=.ok (.ref h8.n) h9:=by
  refine lstE (consE rfl (consE rfl (consE rfl (consE rfl (consE rfl (consE rfl (consE rfl (consE (opE (x:=.int ((10:Nat):Int)) (y:=.int ((50:Nat):Int)) rfl rfl (powI (by omega) (by omega) rfl)) (consE (opE (opE (x:=.int ((10:Nat):Int)) (y:=.int ((50:Nat):Int)) rfl rfl (powI (by omega) (by omega) rfl)) rfl ?_) (consE e11 nilE)))))))))) (by show 10<=1000;decide)
  rw[subI]
  rfl
 obtain⟨n2,h10,e13,i13,D10,K10⟩:=tk20 C (h:=h9) (m:=1000000) (ρ:=R20 (some x0) (some (.ref (0+1))) (some (.int (g:Int))) (some (.int (b:Int))) (some (.ref h3.n)) (some (optW la)) (some (chain g b nm es la).w) (some (iW ls)) (some (.int (val ls:Int))) x9 (some (.int (i:Int))) (some (.ref h8.n)) none none) (y:=.op .pow (.cst (.int (10))) (.cst (.int (6)))) D8.new (by omega) (by decide) (by decide) rfl (opE (x:=.int ((10:Nat):Int)) (y:=.int ((6:Nat):Int)) rfl rfl (powI (m:=1000000) (by omega) (by omega) rfl))
 obtain⟨n3,h11,e14,i14,D11,K11⟩:=tk20 C (h:=h10) (m:=1000000) (ρ:=R20 (some x0) (some (.ref (0+1))) (some (.int (g:Int))) (some (.int (b:Int))) (some (.ref h3.n)) (some (optW la)) (some (chain g b nm es la).w) (some (iW ls)) (some (.int (val ls:Int))) x9 (some (.int (i:Int))) (some (.ref h8.n)) none none) (y:=.op .pow (.cst (.int (10))) (.cst (.int (6)))) D10 (by omega) (by decide) (by decide) rfl (opE (x:=.int ((10:Nat):Int)) (y:=.int ((6:Nat):Int)) rfl rfl (powI (m:=1000000) (by omega) (by omega) rfl))
 obtain⟨hd8,hc8⟩:=D8.lt
 have g9:h9.get h8.n=some (.lst (nums.map λ(n:Nat)=>W.int (n:Int))):=zai
 have g11:h11.get h8.n=some (.lst (nums.map λ(n:Nat)=>W.int (n:Int))):=K11.get _ _ (by omega) (by omega) (K10.get _ _ (by omega) (by omega) g9)
 have e15:=zbe (cl:=run F 29) (i:=11) (l:=h8.n) (x:=.op .add (.op .mul (.call 5 (.cons (.var 1) (.cons (.op .pow (.cst (.int (10))) (.cst (.int (6)))) .nil))) (.op .pow (.cst (.int (10))) (.cst (.int (44))))) (.call 5 (.cons (.var 1) (.cons (.op .pow (.cst (.int (10))) (.cst (.int (6)))) .nil)))) (w:=.int ((n2*10 ^ 44+n3:Nat):Int)) (ρ:=R20 (some x0) (some (.ref (0+1))) (some (.int (g:Int))) (some (.int (b:Int))) (some (.ref h3.n)) (some (optW la)) (some (chain g b nm es la).w) (some (iW ls)) (some (.int (val ls:Int))) x9 (some (.int (i:Int))) (some (.ref h8.n)) none none) (h:=h9) (h1:=h11) rfl g9 (opE (opE e13 (opE (x:=.int ((10:Nat):Int)) (y:=.int ((44:Nat):Int)) rfl rfl (powI (m:=10 ^ 44) (by omega) (by omega) rfl)) (mulI (zcp (by omega) (by omega)))) e14 (by
  rw[addI,vcf,veo])) g11 (by simp[nums])
 let all:List Nat:=nums++[n2*10 ^ 44+n3]
 have hall:(nums.map λ(n:Nat)=>W.int (n:Int))++[.int ((n2*10 ^ 44+n3:Nat):Int)]=all.map λ(n:Nat)=>W.int (n:Int):=by
  show _=List.map _ (nums++[_])
  rw[vbv];rfl
 rw[hall]at e15
 let h12:=h11.set h8.n (.lst (all.map λ(n:Nat)=>W.int (n:Int)))
 have g12:h12.get h8.n=some (.lst (all.map λ(n:Nat)=>W.int (n:Int))):=zag g11
 have hle:∀n∈all,n<=10 ^ 50:=by
  intro n hn
  rcases vdd.mp hn with q|q
  .simp only[nums,vau,vbp,vd8]at q
   rcases q with rfl|rfl|rfl|rfl|rfl|rfl|rfl|rfl|rfl|rfl<;>first|decide|omega
  .rw[vce.mp q];omega
 have gl12:h12.get h3.n=some (.lst (.int nm::es.map .int)):=by
  have n1:=zah g5
  have q1:h6.get h3.n=some (.lst (.int nm::es.map .int)):=K6.get _ _ (by omega) (by omega) g5
  have q2:=K7.get _ _ (by omega) (by omega) ((zab (o:=.lst (ls.map .int)) (zah q1)).trans q1)
  have q3:=K8.get _ _ (by omega) (by omega) q2
  have q4:=K11.get _ _ (by omega) (by omega) (K10.get _ _ (by omega) (by omega) ((zab (o:=.lst (nums.map λ(n:Nat)=>W.int (n:Int))) (zah q3)).trans q3))
  exact(zaf g11 (vaz (zah q3))).trans q4
 obtain⟨ρ',ef,_⟩:=zfb (nx:=nxt .seq (.ref h8.n)) (tg:=tgW (.one 12)) (b:=exs (run F 29) zej) (h:=h12) (ws:=all.map λ(n:Nat)=>W.int (n:Int)) (P:=λρ=>∃x12 x13,ρ=R20 (some x0) (some (.ref (0+1))) (some (.int (g:Int))) (some (.int (b:Int))) (some (.ref h3.n)) (some (optW la)) (some (chain g b nm es la).w) (some (iW ls)) (some (.int (val ls:Int))) x9 (some (.int (i:Int))) (some (.ref h8.n)) x12 x13) (λi=>by
  show((seqW h12 (.ref h8.n)).map λws=>ws[i]?)=_
  simp only[seqW,g12]
  rfl) (λw hw ρ hρ=>by
  obtain⟨n,hn,rfl⟩:=va3.mp hw
  obtain⟨x12,x13,rfl⟩:=hρ
  obtain⟨w,hnest,e208,e700⟩:=zyh C (k:=18) (k2:=26) (n:=n) (h:=h12) hg b1 hb4 hla (show b<=es.length by omega) (by omega) bo (hle n hn) l7 hbits (show i<b by omega) gl12
  refine⟨_,R20 (some x0) (some (.ref (0+1))) (some (.int (g:Int))) (some (.int (b:Int))) (some (.ref h3.n)) (some (optW la)) (some (chain g b nm es la).w) (some (iW ls)) (some (.int (val ls:Int))) x9 (some (.int (i:Int))) (some (.ref h8.n)) (some (.int (n:Int))) (some w),rfl,?_,_,_,rfl⟩
  refine(zaa (setE (zyi (varE rfl) (varE rfl) (varE rfl) (varE rfl) (varE rfl) (varE rfl) (varE rfl) e700))).trans ?_
  refine(zaa (ρ':=R20 (some x0) (some (.ref (0+1))) (some (.int (g:Int))) (some (.int (b:Int))) (some (.ref h3.n)) (some (optW la)) (some (chain g b nm es la).w) (some (iW ls)) (some (.int (val ls:Int))) x9 (some (.int (i:Int))) (some (.ref h8.n)) (some (.int (n:Int))) (some w)) (h':=h12) ((iteF (h1:=h12) ?_).trans rfl)).trans rfl
  rw[ev,truE (zbn (zjz (varE rfl) (tup2E (varE rfl) (varE rfl)) (varE rfl) e208) (varE rfl) (zqd C.m 4 (k:=23) (h:=h12) hnest))]
  rfl) fuel 0 _ ⟨none,none,rfl⟩ (vbb _) (by simp[all,nums,fuel])
 have eb:exs (run F 29) zdl.body (R20 (some x0) none none none none none none none none none none none none none) ⟨0,0,[]⟩=.ok (.rt (.bl true)) h12:=by
  refine(zaa (setE (h1:=h1) (x:=.ref (0+1)) (zro (varE rfl) e1))).trans ?_
  refine(E2 _).trans ?_
  refine(zaa (setE e4)).trans ?_
  refine(zaa e5).trans ?_
  refine(zaa (setE (x:=optW la) (h1:=h5) (idxE (lst2E rfl rfl) (opE (y:=.int ((3:Nat):Int)) e6 rfl (fdivI (by decide) (by decide))) ?_))).trans ?_
  .exact zcs (j:=r5/3) gm hlaw
  refine(zaa (setE (znv (varE rfl) (varE rfl) (varE rfl) (varE rfl) e130))).trans ?_
  refine(zaa (setE e8)).trans ?_
  refine(zaa (setE rfl)).trans ?_
  refine(zaa (ρ':=R20 (some x0) (some (.ref (0+1))) (some (.int (g:Int))) (some (.int (b:Int))) (some (.ref h3.n)) (some (optW la)) (some (chain g b nm es la).w) (some (iW ls)) (some (.int (val ls:Int))) x9 none none none none) (h':=h6.new (.lst (ls.map .int))) ?_).trans ?_
  .refine(zqn (ws:=ls.map .int) (varE rfl) (by rw[vaf,l7];omega)).trans ?_
   rw[<-List.map_reverse]
   exact e9
  refine(zaa (setE e10)).trans ?_
  refine(zaa (setE e12)).trans ?_
  refine(zaa (exprE e15)).trans ?_
  refine(zaa (ρ':=ρ') (h':=h12) ?_).trans ?_
  .rw[exs,varE rfl,bindok]
   exact ef
  .exact zak (retE rfl)
 subst hx0
 show zbx (fin ⟨0,0,[]⟩ (exs (run F 29) zdl.body (R20 (some (.fz (ns.map .int))) none none none none none none none none none none none none none) ⟨0,0,[]⟩))=true
 rw[eb]
 obtain⟨h13,e16,_⟩:=zg5 (h:=⟨0,0,[]⟩) (w:=.bl true) (zjb (zjc F 29) _ _ ⟨0,0,[]⟩ _ _ eb)
 show zbx (leave ⟨0,0,[]⟩ (.bl true) h12)=true
 rw[e16]
 rfl
end
end RF
namespace HD
open PySem PySem.W PySem.Calls PyProof.Rows
noncomputable section
noncomputable def p:Program:=PySem.Challenge.pw_ballrockers_k20_after_great
noncomputable abbrev S(x:String):Str:=Str.ofString x
noncomputable abbrev U(x:String)(t:Tok):Value:=Value.str (S x) t
noncomputable abbrev R(a:Addr):Value:=Value.ref a
noncomputable abbrev I(i:Int)(t:Tok):Value:=Value.int i t
noncomputable abbrev E(P:Params)(x:String)(t:Tok)(v:Value):DictEntry:=DictEntry.mk (PyData.keyHash P (S x)) (Value.str (S x) t) v
noncomputable abbrev N(o:Obj)(l r:BT):BT:=BT.node o l r
noncomputable abbrev Z:BT:=BT.nil
noncomputable abbrev L(o:Obj):BT:=BT.node o Z Z
noncomputable abbrev Y(c:String)(d:Data):Obj:=Obj.mk (Value.type c) none d #[]
noncomputable abbrev X(d:Data):Obj:=Obj.mk Value.none none d #[]
noncomputable def atN(l:List Stmt)(i:Nat):Stmt:=l.getD i (Stmt.Pass ⟨0,0,0,0⟩)
noncomputable def fbS:Stmt->List Stmt
 |.FunctionDef _ _ b _ _ _ _ _ _ _=>b
 |.ClassDef _ _ _ b _ _ _ _ _ _ _=>b
 |_=>[]
noncomputable def faS:Stmt->Arguments
 |.FunctionDef _ a _ _ _ _ _ _ _ _=>a
 |_=>⟨[],[],none,[],[],none,[]⟩
noncomputable def fsS:Stmt->Scope
 |.FunctionDef _ _ _ _ _ _ s _ _ _=>s
 |_=>p.main.scope
noncomputable def fb(i:Nat):List Stmt:=fbS (atN p.main.body i)
noncomputable def fa(i:Nat):Arguments:=faS (atN p.main.body i)
noncomputable def fs(i:Nat):Scope:=fsS (atN p.main.body i)
noncomputable def cb(i j:Nat):List Stmt:=fbS (atN (fb i) j)
noncomputable def ca(i j:Nat):Arguments:=faS (atN (fb i) j)
noncomputable def cs(i j:Nat):Scope:=fsS (atN (fb i) j)
noncomputable abbrev O:Value:=Value.none
noncomputable abbrev J(i:Int):Value:=Value.int i 0
noncomputable abbrev V(t:Tok):Value:=Value.str (S "/claim/cut.py") t
noncomputable abbrev A(l:Array Value):Data:=Data.fields l
noncomputable abbrev B(f:FuncData):Data:=Data.func f
noncomputable abbrev G(x:String)(i:Nat)(g:Addr)(c:List (Str×Addr))(d k o m:Value)(n:Option Addr)(cd ct:Value)(b:Addr):FuncData:=FuncData.mk (S x) (S x) (fa i) (FuncBody.stmts (fb i)) (fs i) g c d k o m n cd ct b
section
variable(P:Params)
noncomputable def N0:Nat:=4858
noncomputable def lo:List Str:=[S "fallen",S "heading_behind",S "come_down",S "come_out",S "MOST_COUNTED_BALLS"]
noncomputable def keep:List Nat:=[1,2,3,4,5,7,8,9,10,12,13,14,15,16,17,18,19,20,21,22,23,24,25,26,27,29,30,31,32,38,39,41,42,43,44,45,47,48,49,50,51,52,53,54,55,56,57]
noncomputable def life:Life:=(Life.mk [] [] [] 0 [] [] false #[] [] 0 false false false 0 [2000,10,10] false 0 true [] [] 0 false)
noncomputable def m0:Nat:=11
noncomputable def ann:Option Value:=(some (R 6))
noncomputable def env:Env:={scope:=p.main.scope,locals:=mainNs,globals:=mainNs,cells:=[],code:=(R 13),frame:=some 14}
noncomputable def bd:List Stmt:=behindTheImports p
noncomputable def cd:Code:=Code.body bd env
noncomputable def fr:List Frame:=[topFrame (Pos.mk 0 0 0 0)]
noncomputable abbrev qC(n:String)(t:Nat)(l k:Int)(r m:Nat):Obj:=Y "code" (A #[U n t,U n (t+1),V (t+2),J l,J k,J 0,J 0,J 3,R r,Value.bool true,J 181,R (r+1),O,R (r+2),R (r+3),R (r+4),J (Int.ofNat m),J l,V (m+1)])
noncomputable abbrev qD(n:String)(t:Nat)(l k:Int)(r m:Nat):Obj:=Y "code" (A #[U n t,U n (t+1),V (t+2),J l,J k,J 0,J 0,J 3,R r,Value.bool true,J 181,R (r+1),O,O,O,R (r+2),J (Int.ofNat m),J l,V (m+1)])
noncomputable def qU:Nat->List String->List Value
 |_,[]=>[]
 |t,x::r=>U x t::qU (t+1) r
noncomputable abbrev qT(t:Nat)(l:List String):Obj:=Y "tuple" (Data.seq (qU t l).toArray 0)
noncomputable abbrev qF(n:String)(i:Nat)(u:Value)(r:Addr):Obj:=Y "function" (B (G n i 3 [] O O O u none (R r) O 0))
noncomputable abbrev qG(n:String)(i:Nat):Obj:=X (B (G n i 0 [] O O O O none O O 0))
noncomputable def qJ:List (Int×Nat)->List Value
 |[]=>[]
 |(a,b)::r=>J a::J 0::R b::qJ r
noncomputable def qO:List Obj->List Obj
 |x::_::r=>x::qO r
 |x=>x
noncomputable def qE:List Obj->List Obj
 |_::y::r=>y::qE r
 |_=>[]
noncomputable def qB:Nat->List Obj->BT
 |f+1,x::r=>N x (qB f (qO r)) (qB f (qE r))
 |_,_=>Z
 def a0:=(Y "tuple" (Data.seq #[] 0))
 def a1:=(X (A #[]))
 abbrev qN(n:String)(i t:Nat)(l k:Int)(r:Nat)(u:Value):List Obj:=[a0,a1,qG n i,qD n t l k r (t+3),qF n i u (r+3)]
 abbrev qM(n:String)(i t:Nat)(s:List String)(l k:Int)(r:Nat)(u:Value):List Obj:=[a0,a1,qT (t+3) s,a0,qG n i,qC n t l k r (t+3+s.length),qF n i u (r+5)]
 def a2:=(Y "code" (A #[(U "<module>" 182),(U "<module>" 183),(V 184),(J 1),(J 0),(J 0),(J 0),(J 0),(R 11),(Value.bool false),(J 181),(R 12),O,O,O,O,(J 185),(J 1),(V 186)]))
 def a3:=(Obj.mk (Value.type "frame") none Data.plain #[(some (R 13)),(some (R 3)),(some (R 3)),none,(some (U "__main__" 164)),none,(some (R 0))])
 def ha:Heap:=Heap.mk (Array.mk [(boot_o_0 P),(boot_o_1 P),(boot_o_2 P),(boot_o_3 P),(boot_o_4 P),(boot_o_5 P),(boot_o_6 P),(boot_o_7 P),(boot_o_8 P),(boot_o_9 P),(boot_o_10 P),a0,a1,a2,a3]) (Life.mk [] [] [] 0 [] [] false #[] [] 0 false false false 0 [2000,10,10] false 0 true [] [] 0 false)
noncomputable def sa(w:World)(os:OsState):Shared:=⟨ha w.params,(Array.mk []),(Drawn.mk 0 0 0 0),187,os⟩
theorem seg_q{w:World}{n:Nat}{s s':SharedT}{l:List Stmt}{pos pos':Pos}(h:PySem.W.Fast.tw10110043849684766642 PySem.W.Fast.tw14364793385576792824 p w m0 ann 1 n s (piecesOf l env cd pos fr)=some (.next,s',cd,pos')) :
 segRun treeTable p w m0 ann 1 n s.abs (piecesOf l env cd pos fr)=some (.next,s'.abs,cd,pos'):=
 segRun_of (by rw[PySem.W.Fast.te10110043849684766642,vb8];exact h)
theorem pre_q{w:World}{n:Nat}{s s':Shared}{pos:Pos}(h:PySem.W.Fast.tw15667345088766844465 PySem.W.Fast.tw14364793385576792824 p w m0 ann n s (topStub p)=some (s',⟨PySem.W.Fast.tw11892475500146522536 PySem.W.Fast.tw14364793385576792824 cd,cd,pos,fr⟩)) :
 topGo treeTable p w m0 ann n s (topStub p)=some (s',⟨denote treeTable cd,cd,pos,fr⟩):=by
 rw[PySem.W.Fast.te15667345088766844465,vb8,PySem.W.Fast.te11892475500146522536];exact h
theorem zue{w:World}{n:Nat}{s s':Shared}{pos pos':Pos}(h:PySem.W.Fast.tw14374325043358763698 PySem.W.Fast.tw14364793385576792824 p w m0 ann 1 n s (blockOf bd env cd pos fr)=some (.next,s',cd,pos')) :
 segRun treeTable p w m0 ann 1 n s (blockOf bd env cd pos fr)=some (.next,s',cd,pos'):=by
 rw[PySem.W.Fast.te14374325043358763698,vb8];exact h
theorem fin_q{w:World}{n:Nat}{s s':Shared}{pos:Pos}(h:PySem.W.Fast.tw14082659384304107361 PySem.W.Fast.tw14364793385576792824 p w m0 ann n s ⟨doneF .next,cd,pos,fr⟩=some s') :
 topRun treeTable p w m0 ann n s ⟨doneF .next,cd,pos,fr⟩=some s':=by
 rw[PySem.W.Fast.te14082659384304107361,vb8];exact h
set_option maxHeartbeats 0 in
theorem pre(w:World)(os:OsState):topGo treeTable p w m0 ann 12 ⟨boot_heap w.params,Array.mk [],boot_drawn,boot_toks,os⟩ (topStub p)=some (sa w os,⟨denote treeTable cd,cd,(Pos.mk 0 0 0 0),fr⟩):=pre_q (by kernel_rfl)
 def vtb:List Obj:=[(boot_o_0 P),(boot_o_1 P),(boot_o_2 P),(boot_o_3 P),(boot_o_4 P),(boot_o_5 P),(boot_o_6 P),(boot_o_7 P),(boot_o_8 P),(boot_o_9 P),(boot_o_10 P),a0,a1,a2,a3]
 def tb:=qB 20 (vtb P)
noncomputable def sb(w:World)(os:OsState):SharedT:=⟨tb w.params,15,life,(Array.mk []),(Drawn.mk 0 0 0 0),187,os⟩
set_option maxHeartbeats 0 in
theorem block(w:World)(os:OsState):segRun treeTable p w m0 ann 1 1 (sa w os) (blockOf bd env cd (Pos.mk 0 0 0 0) fr)=some (.next,(sb w os).abs,cd,(Pos.mk 0 0 0 0)):=zue (by kernel_rfl)
 def ea4:=[(E P "__doc__" 166 O),(E P "__package__" 167 O),(E P "__loader__" 168 (Value.builtin "__main__.__loader__#opaque")),(E P "__spec__" 169 O),(E P "__annotations__" 170 (R 6)),(E P "__builtins__" 171 (R 4)),(E P "__file__" 173 (V 172)),(E P "__cached__" 174 O),(E P "BoardError" 206 (R 24)),(E P "NoBoard" 222 (R 37)),(E P "Fault" 249 (R 56)),(E P "NoStand" 265 (R 68)),(E P "NoNumber" 281 (R 80)),(E P "is_whole" 290 (R 89)),(E P "is_whole_within" 299 (R 96)),(E P "is_tuple_within" 308 (R 103)),(E P "are_wholes_within" 320 (R 110)),(E P "MOST_COLUMNS" 324 (I 40 323)),(E P "MOST_ROWS" 326 (I 60 325)),(E P "MOST_GROUPS" 328 (I 8 327)),(E P "MOST_FEEDERS" 330 (I 4 329)),(E P "MOST_NAME" 332 (I 99 331)),(E P "look_at_board" 346 (R 117)),(E P "is_stand" 356 (R 124)),(E P "look_at_stand" 364 (R 131)),(E P "is_board_but_for_places" 376 (R 138)),(E P "are_rows" 385 (R 145)),(E P "are_doors" 395 (R 152)),(E P "is_door" 405 (R 159))]
 def a4:=Y "dict" (Data.dict ((E P "__name__" 165 (U "ballrockers.boards" 321))::ea4 P).toArray 30)
 def ja5:List (Int×Nat):=[(2,20),(4,33),(6,45),(11,64),(13,76),(16,88),(18,95),(20,102),(22,109),(35,116),(43,123),(49,130),(52,137),(61,144),(68,151),(75,158)]
 def a5:=X (A (qJ ja5).toArray)
 def a6:=(Y "tuple" (Data.seq #[(Value.type "ValueError")] 0))
 def a7:=(Y "builtin_function_or_method" (A #[(Value.builtin "type.__prepare__"),(Value.type "type")]))
 def a8:=(Y "dict" (Data.dict #[(E P "__module__" 196 (U "ballrockers.errors" 187)),(E P "__qualname__" 198 (U "BoardError" 197)),(E P "__firstlineno__" 200 (I 2 199)),(E P "__static_attributes__" 201 (R 22))] 4))
 def a9:=(Y "code" (A #[(U "BoardError" 191),(U "BoardError" 192),(V 193),(J 2),(J 0),(J 0),(J 0),(J 0),(R 18),(Value.bool false),(J 181),(R 19),O,O,O,O,(J 194),(J 2),(V 195)]))
 def a10:=(Obj.mk (Value.type "frame") none Data.plain #[(some (R 20)),(some (R 3)),(some (R 17)),none,(some (U "ballrockers.errors" 187)),none,(some (R 0))])
 def a11:=(Y "dict" (Data.dict #[(E P "__module__" 196 (U "ballrockers.errors" 187)),(E P "__firstlineno__" 200 (I 2 199)),(E P "__static_attributes__" 201 (R 22)),(E P "__weakref__" 203 (R 25)),(E P "__doc__" 204 O)] 3))
 def qR(l:List Nat):Obj:=(Obj.mk (Value.type "type") none (Data.cls (ClassData.mk (S "BoardError") [(Value.type "ValueError")] [(R 24),(Value.type "ValueError"),(Value.type "Exception"),(Value.type "BaseException"),(Value.type "object")] 23 (S "BoardError") true [] (l.map λi=>R i) false none false)) #[(some (R 15)),none,(some (U "BoardError" 189)),(some (U "BoardError" 197)),(some (Value.builtin "ValueError.__new__")),(some (Value.bool true))])
 def a12:=qR [37,56,68,80]
 def a13:=(Y "getset_descriptor" (A #[(U "__weakref__" 202),(R 24),(Value.builtin "ExceptionGroup.__weakref__"),O]))
 def a14:=(Y "super" (A #[(R 24),(R 24),(R 24)]))
 def a15:=(Y "builtin_function_or_method" (A #[(Value.builtin "object.__init_subclass__"),(R 24)]))
 def a16:=(Y "tuple" (Data.seq #[(R 24)] 0))
 def a24:=(Y "dict" (Data.dict #[(E P "__module__" 230 (U "ballrockers.errors" 187)),(E P "__qualname__" 232 (U "Fault" 231)),(E P "__firstlineno__" 234 (I 6 233)),(E P "__init__" 243 (R 53)),(E P "__static_attributes__" 246 (R 54))] 5))
 def a25:=(X (A #[(J 8),(J 4),(R 52)]))
 def a26:=(Y "code" (A #[(U "Fault" 225),(U "Fault" 226),(V 227),(J 6),(J 0),(J 0),(J 0),(J 0),(R 43),(Value.bool false),(J 181),(R 44),O,O,O,O,(J 228),(J 6),(V 229)]))
 def a27:=(Obj.mk (Value.type "frame") none Data.plain #[(some (R 45)),(some (R 3)),(some (R 42)),none,(some (U "ballrockers.errors" 187)),none,(some (R 0))])
 def a28:=qT 238 ["self","row","column"]
 def a29:=(X (B (FuncData.mk (S "__init__") (S "Fault.__init__") (ca 3 0) (FuncBody.stmts (cb 3 0)) (cs 3 0) 0 [] O O O O none O O 0)))
 def a30:=(Y "code" (A #[(U "__init__" 235),(U "Fault.__init__" 236),(V 237),(J 8),(J 3),(J 0),(J 0),(J 3),(R 47),(Value.bool true),(J 181),(R 48),O,(R 49),(R 50),(R 51),(J 241),(J 8),(V 242)]))
 def a31:=(Y "function" (B (FuncData.mk (S "__init__") (S "Fault.__init__") (ca 3 0) (FuncBody.stmts (cb 3 0)) (cs 3 0) 3 [] O O O (U "ballrockers.errors" 187) none (R 52) O 0)))
 def a32:=qT 244 ["column","row"]
 def a33:=(Y "dict" (Data.dict #[(E P "__module__" 230 (U "ballrockers.errors" 187)),(E P "__firstlineno__" 234 (I 6 233)),(E P "__init__" 243 (R 53)),(E P "__static_attributes__" 246 (R 54)),(E P "__doc__" 247 O)] 2))
 def a34:=(Obj.mk (Value.type "type") none (Data.cls (ClassData.mk (S "Fault") [(R 24)] [(R 56),(R 24),(Value.type "ValueError"),(Value.type "Exception"),(Value.type "BaseException"),(Value.type "object")] 55 (S "Fault") true [] [] false none false)) #[(some (R 40)),none,(some (U "Fault" 223)),(some (U "Fault" 231)),(some (Value.builtin "ValueError.__new__")),(some (Value.bool true))])
 def a35:=(Y "super" (A #[(R 56),(R 56),(R 56)]))
 def a36:=(Y "builtin_function_or_method" (A #[(Value.builtin "object.__init_subclass__"),(R 56)]))
 def u282:=U "ballrockers.whole" 282
 def u321:=U "ballrockers.boards" 321
 def qK(n:String)(t:Nat)(l:Int)(b:Nat):List Obj:=[a16,a7,Y "dict" (Data.dict #[E P "__module__" (t+7) (U "ballrockers.errors" 187),E P "__qualname__" (t+9) (U n (t+8)),E P "__firstlineno__" (t+11) (I l (t+10)),E P "__static_attributes__" (t+12) (R (b+7))] 4),a0,a1,Y "code" (A #[U n (t+2),U n (t+3),V (t+4),J l,J 0,J 0,J 0,J 0,R (b+3),Value.bool false,J 181,R (b+4),O,O,O,O,J (Int.ofNat (t+5)),J l,V (t+6)]),Obj.mk (Value.type "frame") none Data.plain #[some (R (b+5)),some (R 3),some (R (b+2)),none,some (U "ballrockers.errors" 187),none,some (R 0)],a0,Y "dict" (Data.dict #[E P "__module__" (t+7) (U "ballrockers.errors" 187),E P "__firstlineno__" (t+11) (I l (t+10)),E P "__static_attributes__" (t+12) (R (b+7)),E P "__doc__" (t+13) O] 2),Obj.mk (Value.type "type") none (Data.cls (ClassData.mk (S n) [R 24] [R (b+9),R 24,Value.type "ValueError",Value.type "Exception",Value.type "BaseException",Value.type "object"] (b+8) (S n) true [] [] false none false)) #[some (R b),none,some (U n t),some (U n (t+8)),some (Value.builtin "ValueError.__new__"),some (Value.bool true)],Y "super" (A #[R (b+9),R (b+9),R (b+9)]),Y "builtin_function_or_method" (A #[Value.builtin "object.__init_subclass__",R (b+9)])]
 def vt0:List Obj:=((vtb P).set 3 (a4 P)).set 12 a5++([a6,a7,(a8 P),a0,a1,a9,a10,a0,(a11 P),a12,a13,a14,a15]++(qK P "NoBoard" 207 4 28++([a16,a7,(a24 P),a0,a25,a26,a27,a0,a1,a28,a0,a29,a30,a31,a32,(a33 P),a34,a35,a36]++(qK P "NoStand" 250 11 59++(qK P "NoNumber" 266 13 71++(qM "is_whole" 7 284 ["thing"] 16 1 83 u282++(qM "is_whole_within" 8 291 ["thing","low","high"] 18 3 90 u282++(qM "is_tuple_within" 9 300 ["thing","fewest","most"] 20 3 97 u282++(qM "are_wholes_within" 10 309 ["thing","fewest","most","low","high","number"] 22 5 104 u282++(qM "look_at_board" 17 333 ["board","width","groups","rows","row","places","column","piece"] 35 1 111 u321++(qM "is_stand" 18 347 ["board","thing","leans","feeder"] 43 2 118 u321++(qM "look_at_stand" 19 357 ["board","thing"] 49 2 125 u321++(qM "is_board_but_for_places" 20 365 ["board","width","groups","rows","feeders","doors"] 52 1 132 u321++(qM "are_rows" 21 377 ["thing","width","places"] 61 2 139 u321++(qM "are_doors" 22 386 ["thing","width","feeders","door"] 68 3 146 u321++(qM "is_door" 23 396 ["thing","feeders","name","call"] 75 2 153 u321))))))))))))))))
 def t0:=qB 20 (vt0 P)
noncomputable def s0(w:World)(os:OsState):SharedT:=⟨t0 w.params,160,life,(Array.mk []),(Drawn.mk 0 0 0 0),406,os⟩
noncomputable def st0:List Stmt:=(bd.drop 0).take 24
set_option maxHeartbeats 0 in
theorem seg0(w:World)(os:OsState):segRun treeTable p w m0 ann 1 1497 (sb w os).abs (piecesOf st0 env cd (Pos.mk 0 0 0 0) fr)=some (.next,(s0 w os).abs,cd,(Pos.mk 75 0 79 83)):=seg_q (by kernel_rfl)
 def ea95:=(ea4 P++[(E P "is_feeder_or_none" 413 (R 166)),(E P "may_stand" 423 (R 173)),(E P "is_rocker" 433 (R 180)),(E P "are_leans" 441 (R 187)),(E P "LEFT" 446 (I (-1) 445)),(E P "STRAIGHT" 448 (I 0 447)),(E P "RIGHT" 450 (I 1 449)),(E P "NO_DOOR" 451 (R 188)),(E P "fallen" 468 (R 196)),(E P "heading_behind" 481 (R 204)),(E P "come_down" 495 (R 212)),(E P "come_out" 508 (R 220)),(E P "for_ever" 521 (R 227)),(E P "stand_behind" 533 (R 234)),(E P "MOST_COUNTED_BALLS" 539 (I 100000000000000000000000000000000000000000000000000 538)),(E P "after" 548 (R 241)),(E P "is_countable" 555 (R 248)),(E P "reckoned" 561 (R 253)),(E P "times_of_stands" 573 (R 260)),(E P "_law_cell" 583 (R 267)),(E P "_law_mixed" 593 (R 274)),(E P "_law_deck" 599 (R 279)),(E P "_law_take" 608 (R 286)),(E P "_law_number" 616 (R 293)),(E P "_law_same" 622 (R 298)),(E P "_law_chain" 628 (R 303)),(E P "_law_bits" 638 (R 310)),(E P "_law_times" 648 (R 317)),(E P "_law_due" 654 (R 322)),(E P "law" 660 (R 327))])
 def a95:=Y "dict" (Data.dict ((E P "__name__" 165 (U "law_ballrockers_k20_after_great" 574))::ea95 P).toArray 60)
 def ja96:List (Int×Nat):=ja5++[(80,165),(82,172),(90,179),(95,186),(102,195),(118,203),(132,211),(136,219),(141,226),(150,233),(158,240),(163,247),(165,252),(175,259),(182,266),(186,273),(189,278),(191,285),(200,292),(202,297),(210,302),(227,309),(233,316),(235,321),(254,326)]
 def a96:=X (A (qJ ja96).toArray)
 def a113:=(Y "tuple" (Data.seq #[O,O] 0))
 def a114:=(Y "tuple" (Data.seq #[O] 0))
 def a115:=qT 455 ["board","leans","feeder","fault","column","columns","turned","leaning","heading","places","piece"]
 def a116:=qG "fallen" 33
 def a117:=qC "fallen" 452 102 4 190 466
 def a118:=(Y "function" (B (G "fallen" 33 3 [] (R 189) O O (U "ballrockers.ways" 442) none (R 195) O 0)))
 def a119:=qT 472 ["piece","heading","leaning","fault","group","side","lean"]
 def a120:=qG "heading_behind" 34
 def a121:=qC "heading_behind" 469 118 4 198 479
 def a122:=(Y "function" (B (G "heading_behind" 34 3 [] (R 197) O O (U "ballrockers.ways" 442) none (R 203) O 0)))
 def a123:=qT 485 ["board","leans","feeder","fault","columns","turned","behind","column"]
 def a124:=qG "come_down" 35
 def a125:=qC "come_down" 482 132 4 206 493
 def a126:=(Y "function" (B (G "come_down" 35 3 [] (R 205) O O (U "ballrockers.ways" 442) none (R 211) O 0)))
 def a127:=qT 499 ["board","leans","feeder","fault","column","behind","door"]
 def a128:=qG "come_out" 36
 def a129:=qC "come_out" 496 136 4 214 506
 def a130:=(Y "function" (B (G "come_out" 36 3 [] (R 213) O O (U "ballrockers.ways" 442) none (R 219) O 0)))
 def a131:=qT 514 ["board","stand","numbers","coming","back"]
 def a132:=qG "for_ever" 38
 def a133:=qC "for_ever" 511 141 2 221 519
 def a134:=qF "for_ever" 38 (U "ballrockers.ever" 509) 226
 def a135:=qT 525 ["board","stand","leans","feeder","door","behind"]
 def a136:=qG "stand_behind" 39
 def a137:=qC "stand_behind" 522 150 2 228 531
 def a138:=qF "stand_behind" 39 (U "ballrockers.ever" 509) 233
 def u534:=U "ballrockers.counts" 534
 def u574:=U "law_ballrockers_k20_after_great" 574
 def vt1:List Obj:=((vt0 P).set 3 (a95 P)).set 12 a96++(qM "is_feeder_or_none" 24 406 ["thing","feeders"] 80 2 160 u321++(qM "may_stand" 25 414 ["piece","column","width","groups"] 82 4 167 u321++(qM "is_rocker" 26 424 ["thing","groups","group","side"] 90 2 174 u321++(qM "are_leans" 27 434 ["thing","groups"] 95 2 181 u321++([a113,a114,a0,a1,a115,a0,a116,a117,a118,a114,a0,a1,a119,a0,a120,a121,a122,a114,a0,a1,a123,a0,a124,a125,a126,a114,a0,a1,a127,a0,a128,a129,a130,a0,a1,a131,a0,a132,a133,a134,a0,a1,a135,a0,a136,a137,a138]++(qM "after" 42 540 ["board","stand","number"] 158 3 235 u534++(qM "is_countable" 43 549 ["thing"] 163 1 242 u534++(qN "reckoned" 44 556 165 3 249 u534++(qM "times_of_stands" 45 562 ["stands","back","number","balls","rounds","rest"] 175 3 254 u534++(qM "_law_cell" 47 576 ["_law_script","_law_k"] 182 2 261 u574++(qM "_law_mixed" 48 584 ["_law_script","_law_k","_law_many","_law_number_here"] 186 3 268 u574++(qN "_law_deck" 49 594 189 1 275 u574++(qM "_law_take" 50 600 ["_law_deck_here","_law_many","_law_cell_here"] 191 2 280 u574++(qM "_law_number" 51 609 ["_law_found","_law_due_here"] 200 2 287 u574++(qN "_law_same" 52 617 202 2 294 u574++(qN "_law_chain" 53 623 210 4 299 u574)++(qM "_law_bits" 54 629 ["_law_value","_law_groups","_law_found","_law_group"] 227 2 304 u574++(qM "_law_times" 55 639 ["_law_first","_law_number_here","_law_place","_law_span"] 233 4 311 u574++(qN "_law_due" 56 649 235 7 318 u574++(qN "law" 57 655 254 1 323 u574)))))))))))))))))))
 def t1:=qB 20 (vt1 P)
noncomputable def s1(w:World)(os:OsState):SharedT:=⟨t1 w.params,328,life,(Array.mk []),(Drawn.mk 0 0 0 0),661,os⟩
noncomputable def st1:List Stmt:=(bd.drop 24).take 34
set_option maxHeartbeats 0 in
theorem seg1(w:World)(os:OsState):segRun treeTable p w m0 ann 1 871 (s0 w os).abs (piecesOf st1 env cd (Pos.mk 75 0 79 83) fr)=some (.next,(s1 w os).abs,cd,(Pos.mk 254 0 275 15)):=seg_q (by kernel_rfl)
 def hz:Heap:=Heap.mk (Array.mk (vt1 P)) (Life.mk [] [] [] 0 [] [] false #[] [] 0 false false false 0 [2000,10,10] false 0 true [] [] 0 false)
noncomputable def sz(w:World)(os:OsState):Shared:=⟨hz w.params,(Array.mk []),(Drawn.mk 0 0 0 0),661,os⟩
set_option maxHeartbeats 0 in
theorem fin(w:World)(os:OsState):topRun treeTable p w m0 ann 2 (s1 w os).abs ⟨doneF .next,cd,(Pos.mk 254 0 275 15),fr⟩=some (sz w os):=fin_q (by kernel_rfl)
 def as:List Addr:=[2,3,15,22,23,24,25,28,35,36,37,40,47,49,50,52,53,54,55,56,59,66,67,68,71,78,79,80,83,85,86,88,89,90,92,93,95,96,97,99,100,102,103,104,106,107,109,110,111,113,114,116,117,118,120,121,123,124,125,127,128,130,131,132,134,135,137,138,139,141,142,144,145,146,148,149,151,152,153,155,156,158,159,160,162,163,165,166,167,169,170,172,173,174,176,177,179,180,181,183,184,186,187,188,189,190,192,193,195,196,197,198,200,201,203,204,205,206,208,209,211,212,213,214,216,217,219,220,221,223,224,226,227,228,230,231,233,234,235,237,238,240,241,242,244,245,247,248,249,252,253,254,256,257,259,260,261,263,264,266,267,268,270,271,273,274,275,278,279,280,282,283,285,286,287,289,290,292,293,294,297,298,299,302,303,304,306,307,309,310,311,313,314,316,317,318,321,322,323,326,327]
 def K:Frag:=as.map λi=>(i,(vt1 P).getD i a0)
noncomputable def M0:Nat:=(12+ (1+ (1497+ (871+2))))
theorem bd_is:bd=st0++(st1++([])):=by kernel_rfl
theorem rest(w:World)(os:OsState):topRun treeTable p w m0 ann (1497+ (871+ (2))) (sb w os).abs (restOf bd env cd (Pos.mk 0 0 0 0) fr)=some (sz w os):=by
 rw[show restOf bd env cd (Pos.mk 0 0 0 0) fr=restOf (st0++(st1++([]))) env cd (Pos.mk 0 0 0 0) fr from vdr (λb=>restOf b env cd (Pos.mk 0 0 0 0) fr) bd_is]
 exact(piece_app (seg0 w os) (piece_app (seg1 w os) (piece_nil (fin w os))))
theorem run(w:World)(os:OsState):topRun treeTable p w m0 ann M0 ⟨boot_heap w.params,Array.mk [],boot_drawn,boot_toks,os⟩ (topStub p)=some (sz w os):=
 go_top (pre w os) (piece_block (block w os) (rest w os))
noncomputable def lawAt:Nat:=57
noncomputable def zyj:Pos:=(Pos.mk 254 0 275 15)
noncomputable def q:Program:={p with main:={p.main with body:=keep.map (atN p.main.body)}}
theorem as_is:∀P,as=(K P).map (·.1):=λ_=>by kernel_rfl
noncomputable def H:Hook:=kHook K as as_is
noncomputable def Xt(s:Shared):Bool:=xlAt q [] s&&recOk [] s
theorem zyk(w:World)(os:OsState):(staticsOk (importedModules p.main.body) (boot_heap w.params) (hz w.params)&&namesBound p (hz w.params)&&gensDone (sz w os)&&laidKept (boot_heap w.params) (hz w.params))=true:=by
 rw[PySem.W.Fast.te5923862056798008813];kernel_rfl
theorem zyl(w:World)(os:OsState):seen ((recsOf q).map (·.name)) (ownsOf q) [] {sz w os with gens:=#[]}=expectedOf q:=by
 rw[PySem.W.Fast.te5160383126252970620,PySem.W.R.mapR_eq,PySem.W.Fast.te3399658132070893891,PySem.W.Fast.te5991557255702980513];kernel_rfl
theorem l_blt(w:World)(os:OsState):(sz w os).heap.bltView=bltViewBooted:=by kernel_rfl
theorem zym(w:World)(os:OsState):((sz w os).heap.keysOk (looseW q lo) ((recsOf q).map (·.name)) ((litsOf q).map (·.1)) ((clssOf q (looseW q lo)).map (·.name))&& (sz w os).heap.accountedOkI (importedModules p.main.body)&& (sz w os).heap.isNs mainGlobals&& (sz w os).heap.isNs builtinsNs&&tablesOk q (sz w os).heap&&Xt (sz w os)&& (if true=true then(sz w os).gens.size==0 else !leftWithCleanup (sz w os).gens))=true:=by
 rw[PySem.W.Fast.te10880121769531294198,PySem.W.Fast.te821141287760084731,PySem.W.R.mapR_eq,PySem.W.Fast.te3399658132070893891,PySem.W.Fast.te7409074990110511671,PySem.W.Fast.te13664370479719496447,PySem.W.Fast.te14722251495701143533,PySem.W.Fast.te10994771534591457954,PySem.W.Fast.te5923862056798008813];kernel_rfl
theorem zyn(w:World)(os:OsState):tabsOk q (sz w os)=true:=by rw[PySem.W.Fast.te479339242167458305];kernel_rfl
theorem l_pin(w:World)(os:OsState):pinSeenD q (drecsOf q) (sz w os)=pinGoodD (drecsOf q):=by rw[PySem.W.Fast.te16090120013241838585,PySem.W.Fast.te3247288618530077131];kernel_rfl
theorem l_plE(w:World)(os:OsState):plainSeenE q (looseW q lo) (sz w os)=plainGoodE q (looseW q lo):=by rw[PySem.W.Fast.te2386780881361962483,PySem.W.Fast.te821141287760084731];kernel_rfl
theorem l_plD(w:World)(os:OsState):plainSeenD q lo (sz w os)=plainGoodD q lo:=by rw[PySem.W.Fast.te11698064438423848299];kernel_rfl
theorem zyo(w:World)(os:OsState):wideSeen q (sz w os)=wideGood q:=by rw[PySem.W.Fast.te7317090234206586261];kernel_rfl
theorem l_cls(w:World)(os:OsState):clsSeenW q lo (sz w os)=clsGoodW q lo:=by rw[PySem.W.Fast.te7369524293546568484];kernel_rfl
theorem zyp(w:World)(os:OsState):as.map (sz w os).heap.get?=(K w.params).map λp=>some p.2:=by kernel_rfl
theorem left:LeftO p q lo Xt (Hook.obs H) (Hook.val H) N0 true:=
 LeftO.of_pieces (H₀:=boot_heap) (H₁:=hz) (boot_open (by kernel_rfl) (by kernel_rfl) (λs=>by kernel_rfl)) (λw=>by kernel_rfl) run (by kernel_rfl)
  (λw=>funext λos=>looks_pair (zyk w os) (looks_pair
    (looks_pair (zyl w os) (looks_pair (l_blt w os) (looks_pair (zym w os) (looks_pair (zyn w os) (looks_pair (l_pin w os) (looks_pair (l_plE w os) (looks_pair (l_plD w os) (looks_pair (zyo w os) (l_cls w os)))))))))
    (zyp w os)))
noncomputable def df:DefRec:=⟨S "law",fa lawAt,fb lawAt,fs lawAt,zyj⟩
theorem df_is:defOf q (S "law")=some (df,[]):=by kernel_rfl
theorem holds(l:OpenLaw)(hp:l.prog=p)(hn:l.name=S "law")(ok:l.wellSaid=true)(hch:(chainsOk q&&opensWell p&& (frees l.row.toRowW&&l.row.within.isEmpty))=true)(hb:l.row.toRowW.prog.bare)(hw:l.row.toRowW.promised)
 (hwr:(!l.row.writes||l.row.records.isEmpty)=true) (hk:p.theDef (S "law")=some (df.params,df.body,df.scope)) (hkw:kwWritten? df.params.kwonlyargs df.params.kw_defaults=some [])
 (call:WalkO q lo (XL q []) (Hook.says H) l.row.toRowW df [] λf vs=>PySem.call f vs):l.Holds:=
 holds_law ok λsaid=>PySem.W.holds_open (q:=q) (loose:=lo) (Xt:=Xt) (XP:=XL q []) (Yf:=Hook.obs H) (Ya:=Hook.val H) (YP:=Hook.says H) (N:=N0) (r:=l.row) (by have h:l.row.toRowW.prog=p:=hp;show LeftO l.row.toRowW.prog q lo Xt (Hook.obs H) (Hook.val H) N0 true;rw[h];exact left) (Hook.of H) (Hook.keeps H) (λs e=>xl_of s (Bool.and_eq_true_iff.mp e).1) XL.keeps
  (by show defOf q l.name=_;rw[hn];exact df_is) (by show l.prog.theDef l.name=_;rw[hp,hn];exact hk) hkw (λs e=>recFacts_of (Bool.and_eq_true_iff.mp e).2) hwr said (by have h:l.row.toRowW.prog=p:=hp;rw[h];exact hch) hb hw call
end
end
end HD
namespace RF
noncomputable def T20:List PySem.Str:=(["is_whole","is_whole_within","_law_cell","_law_deck","_law_mixed","_law_take","is_tuple_within","are_wholes_within","are_doors","are_rows","is_board_but_for_places","is_door","is_feeder_or_none","is_rocker","look_at_board","may_stand"]++vgc 1 "" ++ ["are_leans"]++vgc 9 "" ++ ["is_stand"]++vgc 1 "" ++ ["look_at_stand"]++vgc 9 "" ++ ["_law_number"]++vgc 18 "" ++ ["is_countable"]++vgc 2 "" ++ ["times_of_stands"]++vgc 30 "" ++ ["_law_same"]++vgc 37 "" ++ ["_law_chain"]++vgc 12 "" ++ ["_law_bits"]++vgc 29 "" ++ ["heading_behind","fallen","come_down","come_out"]++vgc 5 "" ++ ["stand_behind"]++vgc 1 "" ++ ["for_ever"]++vgc 21 "" ++ ["reckoned"]++vgc 1 "" ++ ["after"]++vgc 491 "" ++ ["_law_due","_law_times","law"]).map vgb
noncomputable def fnNo:Fn:=⟨0,0,.no⟩
noncomputable def zrw:List Fn:=[fn0,fn1,fn2,fn3,fn4,fn5,fn6,fn7,fn8,fn9,fn10,fn11,fn12,fn13,fn14,fn15]++vgc 1 fnNo++[fn17]++vgc 9 fnNo++[fn27]++vgc 1 fnNo++[fn29]++vgc 9 fnNo++[fn39]++vgc 18 fnNo++[fn58]++vgc 2 fnNo++[fn61]++vgc 30 fnNo++[fn92]++vgc 37 fnNo++[fn130]++vgc 12 fnNo++[fn143]++vgc 29 fnNo++[fn173,fn174,fn175,fn176]++vgc 5 fnNo++[fn182]++vgc 1 fnNo++[fn184]++vgc 21 fnNo++[fn206]++vgc 1 fnNo++[fn208]++vgc 491 fnNo++[zcu,zb1,zdl]
theorem c20:C20 λi=>zrw[i]?:=by repeat' (first|rfl|constructor)
end RF
set_option maxHeartbeats 0 in
theorem RF.pb20(P:PySem.Params):RF.cProg (HD.K P) RF.T20 60 60=some RF.zrw:=by kernel_rfl
open PySem PySem.W PyProof.Rows
set_option maxRecDepth 100000 in
set_option maxHeartbeats 0 in
theorem PySem.Challenge.cw_ballrockers_k20_after_great_holds : PySem.Challenge.rw_ballrockers_k20_after_great.Holds := by
 refine HD.holds _ rfl rfl RF.pa20 (by kernel_rfl) ⟨rfl,rfl,rfl,rfl,rfl,by decide +kernel⟩ ?hw rfl (by kernel_rfl) (by kernel_rfl) ?call
 (case hw=>w_witness2)
 refine RF.zp3 RF.T20 60 60 30 702 rfl (by kernel_rfl) ⟨rfl,by decide,by decide⟩ (λw h Y=>PySem.W.kIn_of Y) (by kernel_rfl) (by decide +kernel) ?b ?c
 (case c=>intro w;kernel_rfl)
 (case b=>
   intro w ns hl
   exact RF.ztm (RF.pb20 _) (RF.law20 RF.c20 hl))
