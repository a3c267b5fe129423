import PyProof.Rows.All
import Wide.All
import OpenK.AllK
import Wide.FinOn
import Lean
import PyProof.EqAt
import PyProof.EqKinds
import PyProof.TupleCall
import KE.KUnpack
import KE.KSortTup
import PySem.Challenge.RW_ballrockers_k41_counter
set_option Elab.async false
set_option linter.all false
set_option genSizeOf false
set_option bootstrap.genMatcherCode false
set_option compiler.extract_closed false
set_option maxRecDepth 100000
set_option maxHeartbeats 0 in
theorem RF.pa41:PySem.Challenge.rw_ballrockers_k41_counter.wellSaid=true:=by kernel_rfl
def vap:=@decide_eq_true_eq
def vav:=@decide_eq_false
def vaz:=@decide_eq_true
def va6:=@of_decide_eq_true
def vbe:=@if_true
def vbi:=@if_false
def vb4:=@decide_eq_false_iff_not
def vd4:=@beq_eq_false_iff_ne
def vd8:=@congrArg
def veu:=@beq_iff_eq
def vey:=@decide_true
open Nat renaming le_refl->vaa,lt_of_lt_of_le->vag,le_of_ble_eq_true->va2,lt_succ_self->va4,ne_of_lt->va7,lt_irrefl->vbf,zero_le->vbg,le_trans->vbo,not_lt->vb6,zero_add->vce,lt_succ_of_lt->vcl,eq_of_beq_eq_true->vcs,le_of_lt->vdf,le_succ->vdk,lt_of_succ_lt->vdw,le_succ_of_le->vdx,lt_of_le_of_lt->vea,add_sub_cancel->vec,le_of_succ_le->vef,ble_eq->veg,add_assoc->vez,ne_of_gt->ve1
open PySem.W renaming Frag->vga
open PySem.Str renaming ofString->vgb
open List renaming replicate->vgc
open Bool renaming and_eq_true->vab,false_eq_true->vam,not_eq_true'->vb3,or_eq_true->vcp,false_ne_true->vdn,false_and->veh
open PySem renaming wpAny_bind->vac,wpAny_pure->vas,wpAny_mono->vbz,wpAny_holding->vcg,wpAny_truthy_bool->vcj,wpAny_newObj_type->vck,wpAny_standAt->vc6,wpAny_passesOwn->vdc,wpAny_comprehension_free->vdd,mem_of_lookup->vdg,wpAny_callSpecial?_slot->vdi,wpAny_rule->vdl,noFill_tuple_add->vd1,wpAny_call_entry->vd2,call_meets->vd6,wpAny_Call_Name_kw->vd9,wpAny_field->vee,seq_tuple_add->ven,sizeLine_eq->vex,wpAny_typeOf->ve2,wpAny_ite->ve5
open List renaming size_toArray->vad,mem_cons_of_mem->vaf,length_map->vah,length_cons->vai,length_append->vaj,mem_cons_self->vak,mem_append_right->vat,lookup_cons->vau,map_cons->vaw,all_eq_true->vax,getElem?_append_right->vay,getElem?_eq_getElem->va0,append_assoc->va1,mem_cons->va3,getElem?_map->va5,getElem?_eq_some_iff->vba,getElem?_cons_succ->vbc,getElem_mem->vbd,pairwise_append->vbh,length_take->vbj,length_drop->vbk,getElem?_cons_zero->vbm,pairwise_iff_getElem->vbn,append_nil->vbp,mem_singleton->vbr,mem_range->vbu,getElem?_append_left->vbv,getElem?_set_self->vbx,zip_cons_cons->vby,getD_eq_getElem?_getD->vb5,mem_append->vb8,drop_eq_getElem_cons->vb9,map_append->vca,getElem?_eq_none_iff->vcb,replicate_succ->vcc,all_cons->vch,mem_append_left->vci,length_range->vcm,length_replicate->vcn,find?_cons->vco,mem_map->vct,cons_append->vcv,getElem?_set_ne->vcw,flatten_cons->vc0,filterMap_cons->vc1,length_singleton->vc7,set_cons_succ->vc8,set_cons_zero->vc9,mem_or_eq_of_mem_set->vda,getElem?_replicate->vdh,nodup_cons->vdo,length_set->vdp,foldl_cons->vdq,length_nil->vdr,perm_append_comm->vdt,getElem?_eq_none->vdu,mem_of_getElem?->vdz,mem_of_mem_take->vd0,getElem_of_mem->vd5,map_nil->vd7,nil_append->veb,forIn_nil->vei,drop_length->vek,take_length->vel,any_cons->veo,range_succ->ves
open PySem.Heap renaming get?_push_of_some->vae,lt_size->vaq,get?_push_size->va9,size_push->vcf
open PyProof.Rows renaming wpS_bind->van,wpS_pure->vao,slot_tuple_getitem->vbq,wpS_forRange->vbw,callWith_type1->vc3,wpS_mono->vdb,wpS_get->vet,wpS_modify->vev,listUpdate_at->ve0,wpS_lift->ve3,seqEpoch_at->ve4
open PySem.AutoSeq1 renaming wpAny_loadPart'->va8
open Array renaming getElem?_eq_getElem->vbb,getD_eq_getD_getElem?->vb0,getElem?_toList->vcr,length_toList->vc2
open Int renaming eq_ofNat_of_zero_le->vbl,le_trans->vb1,le_of_lt->vcy,toNat_natCast->vde,toNat_of_nonneg->vdj,not_lt->vdv,emod_lt_of_pos->ved,le_refl->vep,emod_nonneg->ver
open PySem.W renaming kia_one->vbs
open Option renaming map_some->vbt,join_some->vb2,getD_some->vem
open Option.some renaming inj->vb7
open PySem.W.Fast renaming te14364793385576792824->vcd
open List.Perm renaming append_left->vcq,refl->vcz,append->vej
open PySem.F renaming args_tuple_add_2->vcu,entry_tuple_add->vcx,slot_tuple_add->vc4,slot_tuple_iterator_next->vc5,slot_tuple_mul->vd3
open PySem.SeqAt renaming canLay_of_shaped->vdm
open Array.Perm renaming refl->vds
open Ne renaming symm->vdy
open LawfulMonad renaming pure_bind->veq
open PySem.Paired renaming length->vew
namespace L2
open PySem PySem.Spec PyProof.Rows
noncomputable abbrev Key:=Sum Int Str
noncomputable def keyIs:Key->Value->Bool
 |.inl k,v=>Value.isInt k v
 |.inr x,v=>Value.isStrOf x v
noncomputable def keyH(w:World):Key->Int
 |.inl k=>hashInt k
 |.inr x=>hashStr w x
theorem zar:∀{k:Key} {v:Value},keyIs k v=true->(∃i t,k=Sum.inl i/\v=Value.int i t)\/(∃x t,k=Sum.inr x/\v=Value.str x t)
 |.inl i,v,h=>by
  obtain⟨t,e⟩:=Value.isInt_shape (k:=i) (v:=v) h
  exact .inl ⟨i,t,rfl,e⟩
 |.inr x,v,h=>by
  obtain⟨t,e⟩:=Value.isStrOf_shape (x:=x) (v:=v) h
  exact .inr ⟨x,t,rfl,e⟩
theorem zj4(i:Int)(t:Tok):keyIs (.inl i) (.int i t)=true:=by simp[keyIs,Value.isInt]
theorem zj5(x:Str)(t:Tok):keyIs (.inr x) (.str x t)=true:=by simp[keyIs,Value.isStrOf]
theorem zs3(a b:Int):decide ((Sum.inl a:Key)=Sum.inl b)=(a==b):=by
 by_cases e:a=b
 .subst e;simp
 .have h:¬(Sum.inl a:Key)=Sum.inl b:=λq=>e (Sum.inl.inj q)
  rw[vav h]
  exact(vd4.mpr e).symm
theorem zs4(a b:Str):decide ((Sum.inr a:Key)=Sum.inr b)=decide (a=b):=by
 by_cases e:a=b
 .subst e;simp
 .have h:¬(Sum.inr a:Key)=Sum.inr b:=λq=>e (Sum.inr.inj q)
  rw[vav h,vav e]
theorem zs5(a:Int)(b:Str):decide ((Sum.inl a:Key)=Sum.inr b)=false:=vav (λq=>nomatch q)
theorem zs6(a:Str)(b:Int):decide ((Sum.inr a:Key)=Sum.inl b)=false:=vav (λq=>nomatch q)
noncomputable def zaq(prog:Program)(w:World):PySem.KeyKind prog w Key where
 is:=keyIs
 hash:=keyH w
 inj:=λv a b ha hb=>by
  rcases zar ha with⟨i,t,rfl,rfl⟩|⟨x,t,rfl,rfl⟩
  .rcases zar hb with⟨j,u,rfl,e⟩|⟨y,u,rfl,e⟩
   .injection e with e1 _;rw[e1]
   .exact nomatch e
  .rcases zar hb with⟨j,u,rfl,e⟩|⟨y,u,rfl,e⟩
   .exact nomatch e
   .injection e with e1 _;rw[e1]
 byValue:=λk v h=>by
  rcases zar h with⟨i,t,rfl,rfl⟩|⟨x,t,rfl,rfl⟩<;>rfl
 pyHash:=λhv h=>by
  rcases zar hv with⟨i,t,rfl,rfl⟩|⟨x,t,rfl,rfl⟩
  .exact wpAny_pyHash_int h
  .exact wpAny_pyHash_str h
 eqBool:=λhu hv h=>by
  rcases zar hu with⟨i,t,rfl,rfl⟩|⟨x,t,rfl,rfl⟩
  .rcases zar hv with⟨j,u,rfl,rfl⟩|⟨y,u,rfl,rfl⟩
   .rw[zs3]at h;exact wpAny_eqBool_int h
   .rw[zs5]at h;exact SeqAt.EqAt.int_str i t y u _ _ _ _ h
  .rcases zar hv with⟨j,u,rfl,rfl⟩|⟨y,u,rfl,rfl⟩
   .rw[zs6]at h;exact SeqAt.EqAt.str_int x t j u _ _ _ _ h
   .rw[zs4]at h;exact wpAny_eqBool_str h
 «strs»:=λk x t v h=>by
  rcases zar h with⟨i,u,rfl,e⟩|⟨y,u,rfl,e⟩
  .exact nomatch e
  .injection e with e1 _
   subst e1
   cases v<;>rfl
theorem zg5(prog:Program)(w:World)(i:Int)(t:Tok):(zaq prog w).is (.inl i) (.int i t)=true:=zj4 i t
theorem zg6(prog:Program)(w:World)(x:Str)(t:Tok):(zaq prog w).is (.inr x) (.str x t)=true:=zj5 x t
inductive V where
 |non|bl (b:Bool)|int (i:Int)|str (x:Str)|byt (b:Array UInt8)|flt (b:UInt64)|ref (a:Addr)|ty (n:String)
 deriving DecidableEq
noncomputable def RelV:V->Value->Prop
 |.non,u=>u=Value.none
 |.bl b,u=>u=Value.bool b
 |.int i,u=>∃t,u=Value.int i t
 |.str x,u=>∃t,u=Value.str x t
 |.byt b,u=>∃t,u=Value.bytes b t
 |.flt b,u=>∃t,u=Value.float b t
 |.ref a,u=>u=Value.ref a
 |.ty n,u=>u=Value.type n
noncomputable abbrev Vals:List V->List Value->Prop:=Paired RelV
theorem Vals.length{xs:List V}{us:List Value}(r:Vals xs us):xs.length=us.length:=vew r
theorem Vals.get:∀{xs:List V} {us:List Value} {i:Nat} {x:V},Vals xs us->xs[i]?=some x->∃u,us[i]?=some u/\RelV x u
 |_,_,_,_,.nil,e=>by simp at e
 |_,_,0,_,.cons r _,e=>by simp at e;subst e;exact⟨_,rfl,r⟩
 |_,_,i+1,x,.cons _ t,e=>by
  obtain⟨u,h1,h2⟩:=Vals.get (i:=i) (x:=x) t (by simpa using e)
  exact⟨u,by simpa using h1,h2⟩
theorem Vals.set{x:V}{u:Value}(r:RelV x u):∀{xs:List V} {us:List Value} (i:Nat),Vals xs us->Vals (xs.set i x) (us.set i u)
 |_,_,_,.nil=>.nil
 |_,_,0,.cons _ t=>.cons r t
 |_,_,i+1,.cons q t=>.cons q (Vals.set r i t)
theorem Vals.append:∀{xs ys:List V} {us ws:List Value},Vals xs us->Vals ys ws->Vals (xs++ys) (us++ws)
 |_,_,_,_,.nil,s=>s
 |_,_,_,_,.cons r t,s=>.cons r (Vals.append t s)
theorem Vals.take:∀{xs:List V} {us:List Value} (n:Nat),Vals xs us->Vals (xs.take n) (us.take n)
 |_,_,0,_=>.nil
 |_,_,_+1,.nil=>.nil
 |_,_,n+1,.cons r t=>.cons r (Vals.take n t)
theorem Vals.drop:∀{xs:List V} {us:List Value} (n:Nat),Vals xs us->Vals (xs.drop n) (us.drop n)
 |_,_,0,r=>r
 |_,_,_+1,.nil=>.nil
 |_,_,n+1,.cons _ t=>Vals.drop n t
noncomputable def RelO:Option V->Option Value->Prop
 |some v,some u=>RelV v u
 |none,none=>True
 |_,_=>False
noncomputable def KV{κ:Type}:List (κ×V)->List (κ×Value)->Prop:=Paired λ(p:κ×V) (q:κ×Value)=>p.1=q.1/\RelV p.2 q.2
noncomputable def kV:Key->V
 |.inl i=>.int i
 |.inr x=>.str x
inductive HO where
 /-- a list -/
 |lst (xs:List V)
 /-- a tuple (never changes) -/
 |tup (xs:List V)
 /-- a dict whose keys are ints and texts;one whose keys are tuples of ints and texts (the empty one is both) -/
 |dK (kvs:List (Key×V))|dT (kvs:List (List Key×V))
 /-- a set of ints: its members,its size -/
 |set (S:Int->Bool) (n:Nat)
 /-- an instance of the class at C,its dict at dx,its attributes -/
 |ins (C dx:Addr) (fs:List (Str×V))
 /-- the dict of the instance at x -/
 |own (x:Addr)
 /-- the dict of an exception -/
 |xd (fs:List (Str×V))
 /-- a bound method,f of x -/
 |met (f x:Addr)
 /-- a range object lo,lo+1,.. below hi -/
 |rng (lo hi:Int)
 /-- a thing that is known to the object (the script;a dict while a loop walks it): read,never written while it is so -/
 |frz (o:Obj) (u:HO)
 /-- a code object's table -/
 |tbl (ps:Array Value)
 /-- any other thing,by what is true of its one object (a def of one's own: SetO a S n:=HO.ext λh=>..) -/
 |ext (φ:Heap->Prop)
noncomputable abbrev Hp:=Addr->Option HO
noncomputable def upd(H:Hp)(a:Addr)(o:HO):Hp:=λb=>if b=a then some o else H b
theorem zaf{H:Hp}{a:Addr}{o:HO}:upd H a o a=some o:=by unfold upd;rw[if_pos rfl]
theorem zac{H:Hp}{a b:Addr}{o:HO}(h:b≠a):upd H a o b=H b:=by unfold upd;rw[if_neg h]
theorem ne_of{H:Hp}{a b:Addr}{o u:HO}(h:H a=some o)(h':H b=some u)(d:o≠u):a≠b:=by
 intro e;subst e;rw[h]at h';exact d (vb7 h')
theorem zad{H:Hp}{a b:Addr}{o:HO}(h:H a=some o)(h':H b=none):a≠b:=by
 intro e;subst e;rw[h]at h';cases h'
noncomputable def zba(h:Heap)(a:Addr)(items:Array Value):Prop:=∃o,h.get? a=some o/\o.cls=.type "tuple"/\(∃n,o.data=.seq items n)/\o.dict=none
theorem zba.tup{h:Heap}{a:Addr}{items:Array Value}(x:zba h a items):IsTup h a items:=let⟨o,e,c,d,_⟩:=x;⟨o,e,c,d⟩
theorem zba.lt{h:Heap}{a:Addr}{items:Array Value}(x:zba h a items):a<h.objs.size:=x.tup.lt
theorem zba.new(h:Heap)(items:Array Value):zba (h.push {cls:=.type "tuple",data:=.seq items}) h.objs.size items:=⟨_,va9 _ rfl,rfl,⟨_,rfl⟩,rfl⟩
section
variable(P:Program)(w:World)
noncomputable def ObjOk(H:Hp)(h:Heap)(a:Addr):HO->Prop
 |.lst xs=>xs.length<=sizeLine/\∃(its:List Value) (n:Nat),Vals xs its/\h.get? a=some {cls:=.type "list",data:=.seq its.toArray n}
 |.tup xs=>xs.length<=sizeLine/\∃its:List Value,Vals xs its/\zba h a its.toArray
 |.dK kvs=>kvs.length<=sizeLine/\(a==sysModules)=false/\∃vs,KV kvs vs/\h.DictOf (zaq P w) a vs
 |.dT kvs=>kvs.length<=sizeLine/\(a==sysModules)=false/\∃xs:List (List Key×Addr×Value),
  Paired (λ(p:List Key×V)(q:List Key×Addr×Value)=>p.1=q.1/\H q.2.1=some (.tup (p.1.map kV))/\RelV p.2 q.2.2) kvs xs/\
  ∃o es ep,h.get? a=some o/\o.ExactDict/\o.data=.dict es ep/\es.toList=xs.map (entryOfKey (tupleKind (zaq P w)))/\(xs.map (·.1)).Nodup
 |.set S n=>h.SetOf (intKind P w) a S n
 |.ins C dx fs=>H dx=some (.own a)/\fs.length<=1000/\dx≠a/\h.get? a=some (PySem.W.instObj C dx)/\
  ∃mA,h.Ns1 dx mA/\(∀f,RelO (fs.lookup f) (mA f))/\PySem.Within mA (fs.map (·.1))
 |.own _=>∃o,h.get? a=some o
 |.xd fs=>∃mA,h.Ns1 a mA/\∀f,RelO (fs.lookup f) (mA f)
 |.rng lo hi=>∃t u v,h.get? a=some {cls:=.type "range",data:=.fields #[.int lo t,.int hi u,.int 1 v]}
 |.frz o u=>h.get? a=some o/\ObjOk H h a u
 |.tbl ps=>h.get? a=some {cls:=.none,data:=.fields ps}
 |.met f x=>h.get? a=some (PySem.W.methodObj (.ref f) (.ref x))
 |.ext φ=>φ h/\(∃o,h.get? a=some o)/\∀h1 h2:Heap,φ h1->(∀o,h1.get? a=some o->h2.get? a=some o)->φ h2
noncomputable def HOk(H:Hp)(h:Heap):Prop:=∀a o,H a=some o->ObjOk P w H h a o
end
section
variable{P:Program}{w:World}{H H':Hp}{h h':Heap}{a:Addr}{o:HO}
theorem ObjOk.lt(x:ObjOk P w H h a o):a<h.objs.size:=by
 cases o with
 |lst xs=>obtain⟨_,_,_,_,e⟩:=x;exact vaq e
 |tup xs=>obtain⟨_,_,_,p⟩:=x;exact p.lt
 |dK kvs=>obtain⟨_,_,_,_,o,_,_,e,_⟩:=x;exact vaq e
 |dT kvs=>obtain⟨_,_,_,_,o,_,_,e,_⟩:=x;exact vaq e
 |set S n=>obtain⟨o,_,_,_,e,_⟩:=x;exact vaq e
 |ins C dx fs=>obtain⟨_,_,_,e,_⟩:=x;exact vaq e
 |own y=>obtain⟨_,e⟩:=x;exact vaq e
 |xd fs=>obtain⟨_,⟨_,_,_,e,_⟩,_⟩:=x;exact vaq e
 |rng lo hi=>obtain⟨_,_,_,e⟩:=x;exact vaq e
 |frz ob u=>obtain⟨e,_⟩:=x;exact vaq e
 |tbl ps=>exact vaq (show h.get? a=some _ from x)
 |met f y=>exact vaq (show h.get? a=some _ from x)
 |ext φ=>obtain⟨_,⟨_,e⟩,_⟩:=x;exact vaq e
theorem Paired.mapP{α β:Type}{F G:α->β->Prop}:∀{l₁:List α} {l₂:List β},Paired F l₁ l₂->(∀a b,F a b->G a b)->Paired G l₁ l₂
 |_,_,.nil,_=>.nil
 |_,_,.cons r t,f=>.cons (f _ _ r) (Paired.mapP t f)
theorem ObjOk.stay(x:ObjOk P w H h a o)(k:∀b u,(b=a\/H b=some (.own a))->h.get? b=some u->h'.get? b=some u)
 (ho:∀b,H b=some (.own a)->H' b=some (.own a)) (ht:∀b xs,H b=some (.tup xs)->H' b=some (.tup xs)):ObjOk P w H' h' a o:=by
 induction o with
 |lst xs=>obtain⟨z,its,n,r,e⟩:=x;exact⟨z,its,n,r,k _ _ (.inl rfl) e⟩
 |tup xs=>obtain⟨z,its,r,ob,e,c⟩:=x;exact⟨z,its,r,ob,k _ _ (.inl rfl) e,c⟩
 |dK kvs=>obtain⟨z,y,vs,r,ob,es,ep,e,c⟩:=x;exact⟨z,y,vs,r,ob,es,ep,k _ _ (.inl rfl) e,c⟩
 |dT kvs=>
  obtain⟨z,y,xs,r,ob,es,ep,e,c⟩:=x
  exact⟨z,y,xs,Paired.mapP r λp q z=>⟨z.1,ht _ _ z.2.1,z.2.2⟩,ob,es,ep,k _ _ (.inl rfl) e,c⟩
 |set S n=>obtain⟨ob,es,ep,t,e,c⟩:=x;exact⟨ob,es,ep,t,k _ _ (.inl rfl) e,c⟩
 |ins C dx fs=>
  obtain⟨d,z,ne,e,mA,⟨od,es,ep,e2,c⟩,r⟩:=x
  exact⟨ho _ d,z,ne,k _ _ (.inl rfl) e,mA,⟨od,es,ep,k _ _ (.inr d) e2,c⟩,r⟩
 |own y=>obtain⟨ob,e⟩:=x;exact⟨ob,k _ _ (.inl rfl) e⟩
 |xd fs=>obtain⟨mA,⟨od,es,ep,e,c⟩,r⟩:=x;exact⟨mA,⟨od,es,ep,k _ _ (.inl rfl) e,c⟩,r⟩
 |rng lo hi=>obtain⟨t,u,v,e⟩:=x;exact⟨t,u,v,k _ _ (.inl rfl) e⟩
 |frz ob u ih=>obtain⟨e,q⟩:=x;exact⟨k _ _ (.inl rfl) e,ih q⟩
 |tbl ps=>
  have e:h.get? a=some {cls:=.none,data:=.fields ps}:=x
  show h'.get? a=some {cls:=.none,data:=.fields ps}
  exact k a _ (.inl rfl) e
 |met f y=>
  have e:h.get? a=some (PySem.W.methodObj (.ref f) (.ref y)):=x
  show h'.get? a=some (PySem.W.methodObj (.ref f) (.ref y))
  exact k a _ (.inl rfl) e
 |ext φ=>obtain⟨p,⟨o,e⟩,st⟩:=x;exact⟨st _ _ p λo q=>k _ _ (.inl rfl) q,⟨o,k _ _ (.inl rfl) e⟩,st⟩
theorem HOk.lt(x:HOk P w H h)(e:H a=some o):a<h.objs.size:=(x a o e).lt
theorem HOk.fresh(x:HOk P w H h)(e:h.objs.size<=a):H a=none:=by
 cases q:H a with
 |none=>rfl
 |some u=>exact absurd (vag (x.lt q) e) (vbf _)
theorem HOk.kept(x:HOk P w H h)(k:∀b u,h.get? b=some u->h'.get? b=some u):HOk P w H h':=λa o e=>
 (x a o e).stay (λb u _ q=>k b u q) (λ_ q=>q) λ_ _ q=>q
theorem HOk.laid(x:HOk P w H h)(k:∀b u,h.get? b=some u->h'.get? b=some u)(hp:h.objs.size<=a)(new:ObjOk P w (upd H a o) h' a o):HOk P w (upd H a o) h':=λb u e=>by
 have hn:=x.fresh hp
 by_cases hb:b=a
 .subst hb;rw[zaf]at e;cases e;exact new
 .rw[zac hb]at e
  exact(x b u e).stay (λc v _ q=>k c v q) (λc q=>by rw[zac (zad q hn)];exact q) λc xs q=>by rw[zac (zad q hn)];exact q
end
noncomputable def Rd(H:Hp)(a:Addr)(u:HO):Prop:=H a=some u\/∃o,H a=some (.frz o u)
theorem Rd.ok{P:Program}{w:World}{H:Hp}{h:Heap}{a:Addr}{u:HO}(r:Rd H a u)(x:HOk P w H h):ObjOk P w H h a u:=by
 rcases r with r|⟨o,r⟩
 .exact x a u r
 .obtain⟨_,q⟩:=x a _ r
  exact q
noncomputable def Mut:Option HO->Prop
 |some (.lst _)=>True
 |some (.dK _)=>True
 |some (.dT _)=>True
 |some (.set _ _)=>True
 |some (.ins _ _ _)=>True
 |some (.ext _)=>True
 |_=>False
section
variable{P:Program}{w:World}{H:Hp}{h h':Heap}{x e:Addr}{o':HO}
theorem HOk.write(ok:HOk P w H h)(mu:Mut (H x))(he:e=x\/H e=some (.own x))(k:∀b u,b≠e->h.get? b=some u->h'.get? b=some u)(heo:∃u,h'.get? e=some u)
 (new:ObjOk P w (upd H x o') h' x o'):HOk P w (upd H x o') h':=λb u q=>by
 have nown:∀c y,H c=some (.own y)->c≠x:=λc y r z=>by subst z;rw[r]at mu;exact mu
 have ntup:∀c xs,H c=some (.tup xs)->c≠x:=λc xs r z=>by subst z;rw[r]at mu;exact mu
 by_cases hb:b=x
 .subst hb;rw[zaf]at q;cases q;exact new
 .rw[zac hb]at q
  by_cases hbe:b=e
  .have q':H b=some (.own x):=by
    rcases he with z|z
    .exact absurd (hbe.trans z) hb
    .rw[hbe];exact z
   rw[q]at q';cases q'
   obtain⟨v,hv⟩:=heo
   exact⟨v,by rw[hbe];exact hv⟩
  .refine(ok b u q).stay (λc v hc r=>k c v ?_ r) (λc r=>by rw[zac (nown c b r)];exact r) λc xs r=>by rw[zac (ntup c xs r)];exact r
   rcases hc with rfl|hc
   .exact hbe
   .rintro rfl
    rcases he with z|z
    .exact nown c b hc z
    .rw[hc]at z;cases z;exact hb rfl
end
structure Un(fs ex:List Addr)(H H':Hp)(h h':Heap):Prop where
 keep:∀b o,h.get? b=some o->H b=none->b∉fs->b∉ex->h'.get? b=some o
 slot:∀b o,h.get? b=some o->H b=none->b∈fs->b∉ex->∃sl,h'.get? b=some {o with slots:=sl}
 free:∀b o,h.get? b=some o->H b=none->b∉ex->H' b=none
 there:∀b o,h.get? b=some o->b∉ex->∃o',h'.get? b=some o'
 tups:∀b xs,H b=some (.tup xs)->H' b=some (.tup xs)
 frzs:∀b o u,H b=some (.frz o u)->H' b=some (.frz o u)
 tbls:∀b ps,H b=some (.tbl ps)->∃more,H' b=some (.tbl (ps++more))
section
variable{fs fs' ex ex':List Addr}{H H1 H2:Hp}{h h1 h2 h':Heap}{a x e:Addr}{o:HO}
theorem Un.any(u:Un fs ex H H1 h h1){b:Addr}{ob:Obj}(q:h.get? b=some ob)(n:H b=none)(hx:b∉ex):∃sl,h1.get? b=some {ob with slots:=sl}:=by
 by_cases hb:b∈fs
 .exact u.slot b ob q n hb hx
 .exact⟨ob.slots,u.keep b ob q n hb hx⟩
theorem Un.kept(k:∀b u,h.get? b=some u->h'.get? b=some u):Un fs ex H H h h':=
 ⟨λb ob q _ _ _=>k b ob q,λb ob q _ _ _=>⟨ob.slots,k b ob q⟩,λ_ _ _ n _=>n,λb ob q _=>⟨ob,k b ob q⟩,λ_ _ q=>q,λ_ _ _ q=>q,λ_ ps q=>⟨#[],by rw[q];simp⟩⟩
theorem Un.refl:Un fs ex H H h h:=Un.kept λ_ _ q=>q
theorem Un.laid(k:∀b u,h.get? b=some u->h'.get? b=some u)(hp:h.objs.size<=a)(hn:H a=none):Un fs ex H (upd H a o) h h' where
 keep:=λb u q _ _ _=>k b u q
 slot:=λb u q _ _ _=>⟨u.slots,k b u q⟩
 free:=λb u q n _=>by rw[zac (va7 (vag (vaq q) hp))];exact n
 there:=λb u q _=>⟨u,k b u q⟩
 tups:=λb xs q=>by rw[zac (zad q hn)];exact q
 frzs:=λb u xs q=>by rw[zac (zad q hn)];exact q
 tbls:=λb ps q=>⟨#[],by rw[zac (zad q hn),q];simp⟩
theorem Un.write(mu:Mut (H x))(he:e=x\/H e=some (.own x))(k:∀b u,b≠e->h.get? b=some u->h'.get? b=some u)(heo:∃u,h'.get? e=some u):Un fs ex H (upd H x o) h h':=by
 have hx:∀b,H b=none->b≠x:=λb n z=>by subst z;rw[n]at mu;exact mu
 have hb:∀b,H b=none->b≠e:=λb n z=>by
  subst z
  rcases he with r|r
  .exact hx b n r
  .rw[n]at r;cases r
 have hm:∀b u,H b=some u->¬Mut (some u)->b≠x:=λb u q nm z=>by subst z;rw[q]at mu;exact nm mu
 refine⟨λb u q n _ _=>k b u (hb b n) q,λb u q n _ _=>⟨u.slots,k b u (hb b n) q⟩,λb u q n _=>by rw[zac (hx b n)];exact n,λb u q _=>?_,
  λb xs q=>by rw[zac (hm b _ q λz=>z)];exact q,λb u xs q=>by rw[zac (hm b _ q λz=>z)];exact q,λb ps q=>⟨#[],by rw[zac (hm b _ q λz=>z),q];simp⟩⟩
 by_cases hbe:b=e
 .subst hbe;exact heo
 .exact⟨u,k b u hbe q⟩
end
noncomputable def trk(h:Heap)(H:Hp):List Addr:=(List.range h.objs.size).filter λa=>(H a).isSome
noncomputable def hidT(h:Heap)(H:Hp):Heap:=PySem.W.hideAll h (trk h H)
theorem zj6(h:Heap)(H:Hp):(hidT h H).objs.size=h.objs.size:=PySem.W.hideAll_size _ _
theorem zm2{h:Heap}{H:Hp}{b:Addr}{o:Obj}(e:h.get? b=some o)(n:H b=none):(hidT h H).get? b=some o:=
 PySem.W.hideAll_get _ e λhm=>by
  have q:(H b).isSome=true:=(List.mem_filter.mp hm).2
  rw[n]at q;simp at q
theorem zqf{h:Heap}{H:Hp}{b:Addr}{o:Obj}(e:(hidT h H).get? b=some o):h.get? b=some o/\H b=none:=by
 have e':h.get? b=some o:=PySem.W.of_hideAll (trk h H) e
 refine⟨e',?_⟩
 cases q:H b with
 |none=>rfl
 |some x=>
  have hm:b∈trk h H:=List.mem_filter.mpr ⟨vbu.mpr (vaq e'),by simp[q]⟩
  have z:(hidT h H).get? b=none:=PySem.W.hideAll_none (trk h H) hm
  rw[z]at e;cases e
structure Mod(K:vga)(mg:Str->Option Value)(base:Heap):Prop where
 kin:K.In base
 glob:base.Ns mainGlobals mg
 blt:∃mb,base.Ns builtinsNs mb/\∀x:Str,x≠"__name__"->mb x=bootBuiltins x
 nolimit:base.NoLimit
set_option genInjectivity false in
structure Cx where
 prog:Program
 w:World
 K:vga
 mg:Str->Option Value
 base:Heap
 A:Around
 N:List Str
 s₀:Shared
 H₀:Hp
 env:Env
 outer:List Env
 stack:List Env
 ex:List Addr
 fn:Str->Bool
 calm:Bool
 pn:List (Addr×Obj)
 xe:Value->Shared->Prop
noncomputable def frs(l:List Env):List Addr:=l.filterMap (·.frame)
noncomputable abbrev Cx.fs(X:Cx):List Addr:=frs X.outer
noncomputable def Vis(sc:Scope)(x:Str):Prop:=sc.names.lookup x=some .local\/sc.names.lookup x=some .cell\/sc.names.lookup x=some .free
noncomputable def Loc(sc:Scope)(x:Str):Prop:=sc.names.lookup x=some .local\/sc.names.lookup x=some .cell
noncomputable def Look(env:Env)(h:Heap)(m:Str->Option Value)(x:Str)(u:Value):Prop:=
 (env.kindOf x=some .local/\m x=some u)\/((env.kindOf x=some .cell\/env.kindOf x=some .free)/\∃c,env.cells.lookup x=some c/\h.IsCell c (some u))
structure Cx.Ok(X:Cx):Prop where
 mod:Mod X.K X.mg X.base
 kind:X.env.scope.kind=.function
 glob:X.env.globals=mainGlobals
 blt:X.env.builtins=builtinsNs
 above:X.s₀.heap.objs.size<=X.env.locals
 inj:∀x y c,X.env.cells.lookup x=some c->X.env.cells.lookup y=some c->x=y
 has:∀x,(X.env.kindOf x=some .cell\/X.env.kindOf x=some .free)->∃c,X.env.cells.lookup x=some c
 cab:∀x c,X.fn x=true->X.env.cells.lookup x=some c->X.s₀.heap.objs.size<=c
 hd:X.calm=true->X.A.handled=none
 frames:X.A.frames=some X.stack
 stk:X.stack=X.outer\/(X.stack=X.env::X.outer/\X.env.frame=some X.env.locals)
 exf:∀b∈X.ex,b≠X.env.locals/\∀x c,X.env.cells.lookup x=some c->c≠b
 bs:∀b o,X.base.get? b=some o->X.s₀.heap.get? b=some o/\X.H₀ b=none
 bsz:X.base.objs.size<=X.s₀.heap.objs.size
 noex:∀b o,X.base.get? b=some o->b∉X.ex
 exfs:∀b∈X.ex,b∉X.fs
 funs:X.s₀.heap.FunFrames X.base X.outer
 frf:∀b∈X.fs,X.H₀ b=none
structure Inv(X:Cx)(pins:List (Addr×Obj))(σ:List (Option V))(H:Hp)(s:Shared):Prop where
 ok:X.Ok
 os:s.os=X.s₀.os
 bare:AllBare s.gens
 base:Un X.fs X.ex X.H₀ H X.s₀.heap s.heap
 loc:∃m,s.heap.Ns X.env.locals m/\∀(i:Nat)(x:Str)(v:V),X.N[i]?=some x->σ[i]?=some (some v)->Vis X.env.scope x->∃u,RelV v u/\Look X.env s.heap m x u
 cell:∀x c,X.env.cells.lookup x=some c->∃v,s.heap.IsCell c v
 free:H X.env.locals=none
 freeC:∀x c,X.env.cells.lookup x=some c->H c=none
 pin:∀p∈X.pn++pins,s.heap.get? p.1=some p.2/\H p.1=none/\p.1≠X.env.locals/\p.1∉X.fs/\∀v,p.2.data≠.cell v
 hok:HOk X.prog X.w H s.heap
 len:σ.length=X.N.length
section
variable{X:Cx}{pins:List (Addr×Obj)}{σ:List (Option V)}{H H':Hp}{s:Shared}{h':Heap}
theorem Cx.Ok.nofr(ok:X.Ok){b:Addr}{o:Obj}(e:X.base.get? b=some o):b∉X.fs:=λhb=>by
 have:=(ok.funs.mem hb).1
 rw[e]at this;cases this
theorem Inv.bs(I:Inv X pins σ H s):∀b o,X.base.get? b=some o->s.heap.get? b=some o/\H b=none:=λb o e=>
 ⟨I.base.keep b o (I.ok.bs b o e).1 (I.ok.bs b o e).2 (I.ok.nofr e) (I.ok.noex b o e),I.base.free b o (I.ok.bs b o e).1 (I.ok.bs b o e).2 (I.ok.noex b o e)⟩
theorem Inv.bk(I:Inv X pins σ H s):∀b o,X.base.get? b=some o->s.heap.get? b=some o:=λb o e=>(I.bs b o e).1
theorem Inv.mod(I:Inv X pins σ H s):Mod X.K X.mg X.base:=I.ok.mod
theorem Inv.kIn(I:Inv X pins σ H s):X.K.In s.heap:=I.ok.mod.kin.keeps I.bk
theorem Inv.lt(I:Inv X pins σ H s):X.env.locals<s.heap.objs.size:=let⟨_,hn,_⟩:=I.loc;hn.lt
theorem Inv.sz(I:Inv X pins σ H s):X.s₀.heap.objs.size<=s.heap.objs.size:=vbo I.ok.above (vdf I.lt)
theorem Inv.nofs(I:Inv X pins σ H s){a:Addr}(h:s.heap.objs.size<=a):a∉X.fs:=λhb=>by
 obtain⟨_,o,ho,_⟩:=I.ok.funs.mem hb
 exact absurd (vag (vaq ho) (vbo I.sz h)) (vbf _)
theorem Inv.cne(I:Inv X pins σ H s):∀x c,X.env.cells.lookup x=some c->c≠X.env.locals:=λx c e z=>by
 obtain⟨v,o,ho,hd⟩:=I.cell x c e
 obtain⟨m,⟨o',es,ep,ho',hd',_⟩,_⟩:=I.loc
 rw[z,ho']at ho;cases ho;rw[hd']at hd;cases hd
theorem Inv.funs(I:Inv X pins σ H s):s.heap.FunFrames X.base X.outer:=by
 have all:∀(l:List Env),(∀b∈frs l,b∈X.fs)->X.s₀.heap.FunFrames X.base l->s.heap.FunFrames X.base l:=by
  intro l
  induction l with
  |nil=>intro _ _;trivial
  |cons env r ih=>
   intro hs hl
   obtain⟨hk,⟨L,o,hf,hn,ho,hd⟩,hr⟩:=hl
   have hL:L∈X.fs:=hs L (by unfold frs;rw[vc1,hf];exact vak)
   obtain⟨sl,e⟩:=I.base.slot L o ho (I.ok.frf L hL) hL λz=>I.ok.exfs L z hL
   exact⟨hk,⟨L,_,hf,hn,e,hd⟩,ih (λb hb=>hs b (by unfold frs;rw[vc1,hf];exact vaf _ hb)) hr⟩
 exact all X.outer (λ_ hb=>hb) I.ok.funs
theorem Inv.stack(I:Inv X pins σ H s):s.heap.FunFrames X.base X.stack:=by
 rcases I.ok.stk with e|⟨e,hf⟩
 .rw[e];exact I.funs
 .rw[e]
  obtain⟨m,hn,_⟩:=I.loc
  refine .cons (by rw[I.ok.kind];decide) hf hn ?_ I.funs
  exact Heap.get?_none_of_le (vbo I.ok.bsz I.ok.above)
theorem Inv.stkSub(I:Inv X pins σ H s):∀b∈frs X.stack,b∈X.env.locals::X.fs:=λb hb=>by
 rcases I.ok.stk with e|⟨e,hf⟩
 .rw[e]at hb;exact vaf _ hb
 .rw[e]at hb
  unfold frs at hb
  rw[vc1,hf]at hb
  exact hb
theorem Inv.stkFree(I:Inv X pins σ H s):∀b∈frs X.stack,H b=none:=λb hb=>by
 rcases va3.mp (I.stkSub b hb)with e|hb
 .rw[e];exact I.free
 .obtain⟨_,o,ho,_⟩:=I.ok.funs.mem hb
  exact I.base.free b o ho (I.ok.frf b hb) λz=>I.ok.exfs b z hb
theorem Inv.step{g':Array GenState}{t':Nat}{d':Drawn}{ch:List Addr}(I:Inv X pins σ H s)
 (hch:∀b∈ch,(b∈X.ex\/X.s₀.heap.objs.size<=b)/\b≠X.env.locals/\(∀x c,X.env.cells.lookup x=some c->c≠b)/\∀p∈X.pn++pins,p.1≠b)
 (keep:∀b o,b≠X.env.locals->b∉X.fs->b∉ch->s.heap.get? b=some o->H b=none->h'.get? b=some o)
 (slot:∀b o,b≠X.env.locals->b∈X.fs->b∉ch->s.heap.get? b=some o->H b=none->∃sl,h'.get? b=some {o with slots:=sl}) (free:∀b o,b∉ch->s.heap.get? b=some o->H b=none->H' b=none)
 (there:∀b o,b∉ch->s.heap.get? b=some o->∃o',h'.get? b=some o')
 (tups:∀b xs,H b=some (.tup xs)->H' b=some (.tup xs)) (frzs:∀b o u,H b=some (.frz o u)->H' b=some (.frz o u)) (tbls:∀b ps,H b=some (.tbl ps)->∃more,H' b=some (.tbl (ps++more)))
 (ns:∀m,s.heap.Ns X.env.locals m->h'.Ns X.env.locals m) (hok:HOk X.prog X.w H' h') (hg:AllBare g') :
 Inv X pins σ H' {s with heap:=h',gens:=g',drawn:=d',toks:=t'}:=by
 have neL:∀b o,X.s₀.heap.get? b=some o->b≠X.env.locals:=λb o e=>va7 (vag (vaq e) I.ok.above)
 have neC:∀b o,X.s₀.heap.get? b=some o->b∉X.ex->b∉ch:=λb o e hx hb=>by
  rcases(hch b hb).1 with z|z
  .exact hx z
  .exact absurd (vag (vaq e) z) (vbf _)
 have cellK:∀x c,X.env.cells.lookup x=some c->∀v,s.heap.IsCell c v->h'.IsCell c v:=λx c e v hq0=>by
  obtain⟨o,ho,hd⟩:=hq0
  have nch:c∉ch:=λz=>(hch c z).2.2.1 x c e rfl
  by_cases hc:c∈X.fs
  .obtain⟨sl,q⟩:=slot c o (I.cne x c e) hc nch ho (I.freeC x c e)
   exact⟨_,q,hd⟩
  .exact⟨o,keep c o (I.cne x c e) hc nch ho (I.freeC x c e),hd⟩
 refine⟨I.ok,I.os,hg,⟨λb o e n hb hx=>?_,λb o e n hb hx=>?_,λb o e n hx=>?_,λb o e hx=>?_,λb xs e=>tups b xs (I.base.tups b xs e),λb o xs e=>frzs b o xs (I.base.frzs b o xs e),λb ps e=>?_⟩,?_,λx c e=>?_,?_,λx c e=>?_,λp hp=>?_,hok,I.len⟩
 .exact keep b o (neL b o e) hb (neC b o e hx) (I.base.keep b o e n hb hx) (I.base.free b o e n hx)
 .obtain⟨sl,e1⟩:=I.base.slot b o e n hb hx
  obtain⟨sl',e2⟩:=slot b _ (neL b o e) hb (neC b o e hx) e1 (I.base.free b o e n hx)
  exact⟨sl',e2⟩
 .obtain⟨o',e1⟩:=I.base.there b o e hx
  exact free b o' (neC b o e hx) e1 (I.base.free b o e n hx)
 .obtain⟨o',e1⟩:=I.base.there b o e hx
  exact there b o' (neC b o e hx) e1
 .obtain⟨m1,e1⟩:=I.base.tbls b ps e
  obtain⟨m2,e2⟩:=tbls b _ e1
  exact⟨m1++m2,by rw[e2,Array.append_assoc]⟩
 .obtain⟨m,hn,hl⟩:=I.loc
  refine⟨m,ns m hn,λi x v e1 e2 e3=>?_⟩
  obtain⟨u,r,l⟩:=hl i x v e1 e2 e3
  refine⟨u,r,?_⟩
  rcases l with l|⟨k,c,e,z⟩
  .exact .inl l
  .exact .inr ⟨k,c,e,cellK x c e _ z⟩
 .obtain⟨v,z⟩:=I.cell x c e
  exact⟨v,cellK x c e v z⟩
 .obtain⟨m,⟨o,_,_,ho,_⟩,_⟩:=I.loc
  exact free _ o (λz=>(hch _ z).2.1 rfl) ho I.free
 .obtain⟨v,o,ho,hd⟩:=I.cell x c e
  exact free c o (λz=>(hch c z).2.2.1 x c e rfl) ho (I.freeC x c e)
 .obtain⟨e,n,ne,nf,d⟩:=I.pin p hp
  have nch:p.1∉ch:=λz=>(hch p.1 z).2.2.2 p hp rfl
  exact⟨keep p.1 p.2 ne nf nch e n,free p.1 p.2 nch e n,ne,nf,d⟩
theorem Inv.un{t':Nat}(I:Inv X pins σ H s)(u:Un X.fs [] H H' s.heap h')(hok:HOk X.prog X.w H' h'):Inv X pins σ H' {s with heap:=h',toks:=t'}:=by
 obtain⟨m,⟨o,es,ep,ho,r⟩,_⟩:=id I.loc
 obtain⟨sl,hL⟩:=u.any ho I.free (by simp)
 exact I.step (g':=s.gens) (d':=s.drawn) (ch:=[]) (λ_ z=>nomatch z) (λb o _ hb _ e n=>u.keep b o e n hb (by simp)) (λb o _ hb _ e n=>u.slot b o e n hb (by simp)) (λb o _ e n=>u.free b o e n (by simp)) (λb o _ e=>u.there b o e (by simp)) u.tups u.frzs u.tbls (λm' hm=>by
  obtain⟨o',es',ep',ho',r'⟩:=hm
  rw[ho]at ho';cases ho'
  exact⟨_,es',ep',hL,r'⟩) hok I.bare
theorem Inv.call{g':Array GenState}{t':Nat}{d':Drawn}{ch:List Addr}(I:Inv X pins σ H s)(u:Un (frs X.stack) ch H H' s.heap h')(hok:HOk X.prog X.w H' h')(hg:AllBare g')
 (hch:∀b∈ch,(b∈X.ex\/X.s₀.heap.objs.size<=b)/\b≠X.env.locals/\(∀x c,X.env.cells.lookup x=some c->c≠b)/\∀p∈X.pn++pins,p.1≠b) :
 Inv X pins σ H' {s with heap:=h',gens:=g',drawn:=d',toks:=t'}:=by
 obtain⟨m,⟨o,es,ep,ho,r⟩,_⟩:=id I.loc
 obtain⟨sl,hL⟩:=u.any ho I.free λz=>(hch _ z).2.1 rfl
 exact I.step (ch:=ch) hch (λb o hL hb hc e n=>u.keep b o e n (λz=>(va3.mp (I.stkSub b z)).elim hL hb) hc) (λb o _ _ hc e n=>u.any e n hc) (λb o hc e n=>u.free b o e n hc) (λb o hc e=>u.there b o e hc) u.tups u.frzs u.tbls (λm' hm=>by
  obtain⟨o',es',ep',ho',r'⟩:=hm
  rw[ho]at ho';cases ho'
  exact⟨_,es',ep',hL,r'⟩) hok hg
theorem Inv.turned{t':Nat}{it:Addr}(I:Inv X pins σ H s)(k:∀b o,b≠it->s.heap.get? b=some o->h'.get? b=some o)(hn:H it=none)(hL:it≠X.env.locals)
 (h1:it∈X.ex\/X.s₀.heap.objs.size<=it) (h2:∀x c,X.env.cells.lookup x=some c->c≠it) (h3:∀p∈X.pn++pins,p.1≠it):Inv X pins σ H {s with heap:=h',toks:=t'}:=by
 have nit:∀b u,H b=some u->b≠it:=λb u e z=>by rw[z,hn]at e;cases e
 refine I.step (g':=s.gens) (d':=s.drawn) (ch:=[it]) (λb hb=>?_) (λb o _ _ hc e _=>k b o (λz=>hc (by simp[z])) e) (λb o _ _ hc e _=>⟨o.slots,k b o (λz=>hc (by simp[z])) e⟩) (λ_ _ _ _ n=>n)
  (λb o hc e=>⟨o,k b o (λz=>hc (by simp[z])) e⟩) (λ_ _ e=>e) (λ_ _ _ e=>e) (λb ps e=>⟨#[],by rw[e];simp⟩) (λm hm=>?_) (λb u e=>?_) I.bare
 .have e:b=it:=by simpa using hb
  subst e
  exact⟨h1,hL,h2,h3⟩
 .obtain⟨o,es,ep,ho,r⟩:=hm
  exact⟨o,es,ep,k _ o (vdy hL) ho,r⟩
 .refine(I.hok b u e).stay (λc v hc q=>k c v ?_ q) (λ_ q=>q) λ_ _ q=>q
  rcases hc with z|z
  .rw[z];exact nit b u e
  .exact nit c _ z
theorem Inv.tok(I:Inv X pins σ H s)(t:Nat):Inv X pins σ H {s with toks:=t}:=I.un (h':=s.heap) (t':=t) Un.refl I.hok
theorem Inv.kept{t':Nat}(I:Inv X pins σ H s)(k:∀b u,s.heap.get? b=some u->h'.get? b=some u):Inv X pins σ H {s with heap:=h',toks:=t'}:=I.un (Un.kept k) (I.hok.kept k)
theorem Inv.laid{a:Addr}{o:HO}{t':Nat}(I:Inv X pins σ H s)(k:∀b u,s.heap.get? b=some u->h'.get? b=some u)(hp:s.heap.objs.size<=a)(new:ObjOk X.prog X.w (upd H a o) h' a o) :
 Inv X pins σ (upd H a o) {s with heap:=h',toks:=t'}:=I.un (Un.laid k hp (I.hok.fresh hp)) (I.hok.laid k hp new)
theorem Inv.write{x e:Addr}{o:HO}{t':Nat}(I:Inv X pins σ H s)(mu:Mut (H x))(he:e=x\/H e=some (.own x))(k:∀b u,b≠e->s.heap.get? b=some u->h'.get? b=some u)(heo:∃u,h'.get? e=some u)
 (new:ObjOk X.prog X.w (upd H x o) h' x o):Inv X pins σ (upd H x o) {s with heap:=h',toks:=t'}:=I.un (Un.write mu he k heo) (I.hok.write mu he k heo new)
theorem Inv.pins_of{pins':List (Addr×Obj)}(I:Inv X pins σ H s)(h:∀p∈pins',s.heap.get? p.1=some p.2/\H p.1=none/\p.1≠X.env.locals/\p.1∉X.fs/\∀v,p.2.data≠.cell v):Inv X pins' σ H s:=
 ⟨I.ok,I.os,I.bare,I.base,I.loc,I.cell,I.free,I.freeC,λp hp=>(vb8.mp hp).elim (λz=>I.pin p (vci _ z)) (h p),I.hok,I.len⟩
theorem zhw{N:List Str}(hN:N.Nodup){i j:Nat}{x:Str}(a:N[i]?=some x)(b:N[j]?=some x):i=j:=by
 obtain⟨h1,e1⟩:=vba.mp a
 obtain⟨h2,e2⟩:=vba.mp b
 exact(List.getElem_inj hN).mp (e1.trans e2.symm)
theorem zdx{M:Model}{A:Around}{E:Value->Shared->Prop}{i:Nat}{x:Str}{v:V}{u:Value}{Q:Unit->Shared->Prop}(I:Inv X pins σ H s)(hN:X.N.Nodup)(hi:X.N[i]?=some x)(hx:Loc X.env.scope x)(r:RelV v u)
 (h:∀s',Inv X pins (σ.set i (some v)) H s'->(∃a,Heap.SameBut a s.heap s'.heap/\(a=X.env.locals\/X.env.cells.lookup x=some a))->Q () s') (hf:X.fn x=true\/X.env.scope.names.lookup x=some .local:=by first|exact .inl rfl|exact .inr rfl|assumption):wpAny M A (storeName X.env x u) Q E s:=by
 obtain⟨m,hn,hl⟩:=id I.loc
 have hcls:(X.env.scope.kind == .class|| (X.env.scope.kind == .module&&X.env.locals != X.env.globals))=false:=by rw[I.ok.kind];rfl
 have hiσ:i<σ.length:=by rw[I.len];exact(vba.mp hi).1
 have cne:=I.cne
 have tracked:∀{a:Addr}{h':Heap},(∃o,s.heap.get? a=some o/\H a=none)->Heap.SameBut a s.heap h'->HOk X.prog X.w H h':=λ{a h'} ha hs b ob e=>by
  obtain⟨_,_,hfree⟩:=ha
  refine(I.hok b ob e).stay (λc w' hc q=>(hs.2 c ?_).trans q) (λ_ q=>q) λ_ _ q=>q
  rintro rfl
  rcases hc with rfl|hc
  .rw[hfree]at e;cases e
  .rw[hfree]at hc;cases hc
 rcases hx with hk|hk
 .refine wpAny_storeName_local hk hn (λh' hn' hs=>?_) hcls
  obtain⟨oL,_,_,hoL,_⟩:=id hn
  refine h _ ⟨I.ok,I.os,I.bare,⟨λb o e n hb hx=>?_,λb o e n hb hx=>?_,I.base.free,λb o e hx=>?_,I.base.tups,I.base.frzs,I.base.tbls⟩,⟨_,hn',λj y v' e1 e2 e3=>?_⟩,λy c e=>?_,I.free,I.freeC,λp hp=>?_,tracked ⟨oL,hoL,I.free⟩ hs,by simpa using I.len⟩ ⟨_,hs,.inl rfl⟩
  .exact(hs.2 b (va7 (vag (vaq e) I.ok.above))).trans (I.base.keep b o e n hb hx)
  .obtain⟨sl,e1⟩:=I.base.slot b o e n hb hx
   exact⟨sl,(hs.2 b (va7 (vag (vaq e) I.ok.above))).trans e1⟩
  .obtain⟨o',e1⟩:=I.base.there b o e hx
   exact⟨o',(hs.2 b (va7 (vag (vaq e) I.ok.above))).trans e1⟩
  .by_cases hj:j=i
   .subst hj
    rw[hi]at e1;cases e1
    rw[vbx hiσ]at e2
    cases e2
    exact⟨u,r,.inl ⟨hk,by simp⟩⟩
   .rw[vcw (vdy hj)]at e2
    obtain⟨u',r',q⟩:=hl j y v' e1 e2 e3
    refine⟨u',r',?_⟩
    rcases q with⟨k,e⟩|⟨k,c,e,z⟩
    .refine .inl ⟨k,?_⟩
     have:y≠x:=λe=>hj (zhw hN e1 (e▸hi))
     simp[this,e]
    .exact .inr ⟨k,c,e,z.sameBut hs (cne y c e)⟩
  .obtain⟨w',z⟩:=I.cell y c e
   exact⟨w',z.sameBut hs (cne y c e)⟩
  .obtain⟨e,n,ne,nf,d⟩:=I.pin p hp
   exact⟨(hs.2 p.1 ne).trans e,n,ne,nf,d⟩
 .have hfn:X.fn x=true:=by
   rcases hf with z|z
   .exact z
   .rw[z]at hk;cases hk
  obtain⟨c,hc⟩:=I.ok.has x (.inl hk)
  obtain⟨w',z⟩:=I.cell x c hc
  refine wpAny_storeName_cell I.ok.kind hk hc z (λh' hc' hs=>?_)
  obtain⟨oc,hoc,hocd⟩:=id z
  refine h {s with heap:=h'} ⟨I.ok,I.os,I.bare,⟨λb o e n hb hx=>?_,λb o e n hb hx=>?_,I.base.free,λb o e hx=>?_,I.base.tups,I.base.frzs,I.base.tbls⟩,⟨m,hn.sameBut hs (vdy (cne x c hc)),λj y v' e1 e2 e3=>?_⟩,λy c' e=>?_,I.free,I.freeC,λp hp=>?_,tracked ⟨oc,hoc,I.freeC x c hc⟩ hs,by simpa using I.len⟩ ⟨c,hs,.inr hc⟩
  .exact(hs.2 b (va7 (vag (vaq e) (I.ok.cab x c hfn hc)))).trans (I.base.keep b o e n hb hx)
  .obtain⟨sl,e1⟩:=I.base.slot b o e n hb hx
   exact⟨sl,(hs.2 b (va7 (vag (vaq e) (I.ok.cab x c hfn hc)))).trans e1⟩
  .obtain⟨o',e1⟩:=I.base.there b o e hx
   exact⟨o',(hs.2 b (va7 (vag (vaq e) (I.ok.cab x c hfn hc)))).trans e1⟩
  .by_cases hj:j=i
   .subst hj
    rw[hi]at e1;cases e1
    rw[vbx hiσ]at e2
    cases e2
    exact⟨u,r,.inr ⟨.inl hk,c,hc,hc'⟩⟩
   .rw[vcw (vdy hj)]at e2
    obtain⟨u',r',q⟩:=hl j y v' e1 e2 e3
    refine⟨u',r',?_⟩
    rcases q with q|⟨k,c',e,z'⟩
    .exact .inl q
    .refine .inr ⟨k,c',e,z'.sameBut hs ?_⟩
     rintro rfl
     exact hj (zhw hN e1 (I.ok.inj _ _ _ e hc▸hi))
  .by_cases hcc:c'=c
   .subst hcc;exact⟨_,hc'⟩
   .obtain⟨w2,z2⟩:=I.cell y c' e
    exact⟨w2,z2.sameBut hs hcc⟩
  .obtain⟨e,n,ne,nf,d⟩:=I.pin p hp
   refine⟨(hs.2 p.1 ?_).trans e,n,ne,nf,d⟩
   intro q
   rw[q,hoc]at e
   have q':oc=p.2:=vb7 e
   exact d w' (by rw[<-q'];exact hocd)
theorem ze6{M:Model}{A:Around}{E:Value->Shared->Prop}{i:Nat}{x:Str}{v:V}{u:Value}{Q:Unit->Shared->Prop}(I:Inv X pins σ H s)(hN:X.N.Nodup)(hi:X.N[i]?=some x)(hx:Loc X.env.scope x)(r:RelV v u)
 (h:∀s',Inv X pins (σ.set i (some v)) H s'->Q () s') (hf:X.fn x=true\/X.env.scope.names.lookup x=some .local:=by first|exact .inl rfl|exact .inr rfl|assumption):wpAny M A (storeName X.env x u) Q E s:=
 zdx I hN hi hx r (λs' I' _=>h s' I') hf
theorem Inv.call'{s':Shared}{ch:List Addr}(I:Inv X pins σ H s)(ho:s'.os=s.os)(u:Un (frs X.stack) ch H H' s.heap s'.heap)(hok:HOk X.prog X.w H' s'.heap)(hg:AllBare s'.gens)
 (hch:∀b∈ch,(b∈X.ex\/X.s₀.heap.objs.size<=b)/\b≠X.env.locals/\(∀x c,X.env.cells.lookup x=some c->c≠b)/\∀p∈X.pn++pins,p.1≠b):Inv X pins σ H' s':=by
 obtain⟨h',g',d',t',o'⟩:=s'
 have e:o'=s.os:=ho
 subst e
 exact I.call (g':=g') (t':=t') (d':=d') u hok hg hch
end
noncomputable abbrev XK:=Value->Option Addr->Hp->Prop
noncomputable abbrev St:=List (Option V)
noncomputable abbrev VK:=V->Hp->Prop
noncomputable abbrev TE:=St->Hp->VK->Prop
noncomputable abbrev TT:=St->Hp->(Bool->Hp->Prop)->Prop
noncomputable abbrev TA:=St->Hp->(List V->Hp->Prop)->Prop
set_option genInjectivity false in
structure Ends where
 nx:St->Hp->Prop
 rt:VK
 bk:St->Hp->Prop:=λ_ _=>False
 ct:St->Hp->Prop:=λ_ _=>False
noncomputable abbrev TS:=Ends->St->Hp->Prop
noncomputable def EP(X:Cx)(pins:List (Addr×Obj))(σ:St)(Q:VK)(u:Value)(s':Shared):Prop:=∃v H',Inv X pins σ H' s'/\RelV v u/\Q v H'
noncomputable def TP(X:Cx)(pins:List (Addr×Obj))(σ:St)(Q:Bool->Hp->Prop)(b:Bool)(s':Shared):Prop:=∃H',Inv X pins σ H' s'/\Q b H'
noncomputable def AP(X:Cx)(pins:List (Addr×Obj))(σ:St)(Q:List V->Hp->Prop)(us:List Value)(s':Shared):Prop:=∃vs H',Inv X pins σ H' s'/\Vals vs us/\Q vs H'
theorem EP.el{X:Cx}{pins:List (Addr×Obj)}{σ:St}{Q:VK}{u:Value}{s':Shared}{P:Prop}(q:EP X pins σ Q u s')(k:∀v H',Inv X pins σ H' s'->RelV v u->Q v H'->P):P:=by
 obtain⟨v,H',a,b,c⟩:=q
 exact k v H' a b c
theorem TP.el{X:Cx}{pins:List (Addr×Obj)}{σ:St}{Q:Bool->Hp->Prop}{b:Bool}{s':Shared}{P:Prop}(q:TP X pins σ Q b s')(k:∀H',Inv X pins σ H' s'->Q b H'->P):P:=by
 obtain⟨H',a,c⟩:=q
 exact k H' a c
theorem AP.el{X:Cx}{pins:List (Addr×Obj)}{σ:St}{Q:List V->Hp->Prop}{us:List Value}{s':Shared}{P:Prop}(q:AP X pins σ Q us s')(k:∀vs H',Inv X pins σ H' s'->Vals vs us->Q vs H'->P):P:=by
 obtain⟨v,H',a,b,c⟩:=q
 exact k v H' a b c
noncomputable def SP(X:Cx)(pins:List (Addr×Obj))(D:Ends)(f:Flow)(s':Shared):Prop:=
 match f with
 |.next=>∃σ' H',Inv X pins σ' H' s'/\D.nx σ' H'
 |.brk=>∃σ' H',Inv X pins σ' H' s'/\D.bk σ' H'
 |.cont=>∃σ' H',Inv X pins σ' H' s'/\D.ct σ' H'
 |.ret u=>∃v σ' H',Inv X pins σ' H' s'/\RelV v u/\D.rt v H'
noncomputable def PE(X:Cx)(e:Expr)(t:TE):Prop:=
 ∀(pins:List (Addr×Obj))(s:Shared)(σ:St)(H:Hp)(Q:VK),Inv X pins σ H s->t σ H Q->wpAny (model X.prog X.w) X.A (eval e X.env) (EP X pins σ Q) X.xe s
noncomputable def PT(X:Cx)(e:Expr)(t:TT):Prop:=
 ∀(pins:List (Addr×Obj))(s:Shared)(σ:St)(H:Hp)(Q:Bool->Hp->Prop),Inv X pins σ H s->t σ H Q->wpAny (model X.prog X.w) X.A (isTrue e X.env (eval e X.env)) (TP X pins σ Q) X.xe s
noncomputable def PW(X:Cx)(e:Expr)(t:TT):Prop:=
 ∀(whole:Sem Value)(pins:List (Addr×Obj))(s:Shared)(σ:St)(H:Hp)(Q:Bool->Hp->Prop),Inv X pins σ H s->t σ H Q->wpAny (model X.prog X.w) X.A (isTrue e X.env whole) (TP X pins σ Q) X.xe s
theorem PW.pt{X:Cx}{e:Expr}{t:TT}(h:PW X e t):PT X e t:=h _
noncomputable def PA(X:Cx)(es:List Expr)(t:TA):Prop:=
 ∀(pos:Pos)(pins:List (Addr×Obj))(s:Shared)(σ:St)(H:Hp)(Q:List V->Hp->Prop),Inv X pins σ H s->t σ H Q->wpAny (model X.prog X.w) X.A (spliced (backTo pos (starEach es X.env))) (AP X pins σ Q) X.xe s
noncomputable def PS(X:Cx)(st:Stmt)(t:TS):Prop:=
 ∀(pins:List (Addr×Obj))(s:Shared)(σ:St)(H:Hp)(D:Ends),Inv X pins σ H s->t D σ H->wpAny (model X.prog X.w) X.A (exec st X.env) (SP X pins D) X.xe s
noncomputable def PSs(X:Cx)(st:List Stmt)(t:TS):Prop:=
 ∀(pins:List (Addr×Obj))(s:Shared)(σ:St)(H:Hp)(D:Ends),Inv X pins σ H s->t D σ H->wpAny (model X.prog X.w) X.A (execs st X.env) (SP X pins D) X.xe s
theorem thn{α:Type}{t:Sem α}{Q Q':α->Shared->Prop}{M:Model}{A:Around}{E:Value->Shared->Prop}{s:Shared}(h:wpAny M A t Q E s)(hQ:∀a s,Q a s->Q' a s):wpAny M A t Q' E s:=vbz h hQ λ_ _ x=>x
section
variable{X:Cx}
noncomputable def tVar(i:Nat):TE:=λσ H Q=>∃v,σ[i]?=some (some v)/\Q v H
noncomputable def tC(v:V):TE:=λ_ H Q=>Q v H
theorem zs7{i:Nat}{x:Str}{pos:Pos}(hN:X.N[i]?=some x)(hv:Vis X.env.scope x)(hd:(x==("__debug__" : Str))=false:=by decide)(hcd:(x==("__classdict__" : Str))=false:=by decide):PE X (.Name x pos) (tVar i):=by
 intro pins s σ H Q I h
 obtain⟨v,e,h⟩:=h
 obtain⟨m,hn,hl⟩:=I.loc
 obtain⟨u,r,l⟩:=hl i x v hN e hv
 have fin:EP X pins σ Q u s:=⟨v,H,I,r,h⟩
 rcases l with⟨hk,hm⟩|⟨hk,c,hc,hcell⟩
 .exact wpAny_Name (wpAny_loadName_local I.ok.kind hk hn hm fin) hd
 .rcases hk with hk|hk
  .exact wpAny_Name (wpAny_loadName_cell I.ok.kind hk hc hcell fin) hd
  .exact wpAny_Name (wpAny_loadName_free I.ok.kind hk hc hcell fin hcd) hd
theorem zs8{i j pos}:PE X (.Constant (.int i) j pos) (tC (.int i)):=λ_ _ _ H _ I h=>wpAny_Constant_int ⟨.int i,H,I.tok _,⟨_,rfl⟩,h⟩
theorem pe_bl{b j pos}:PE X (.Constant (.bool b) j pos) (tC (.bl b)):=λ_ _ _ H _ I h=>Constant_bool ⟨.bl b,H,I,rfl,h⟩
theorem zs9{j pos}:PE X (.Constant .none j pos) (tC .non):=λ_ _ _ H _ I h=>Constant_none ⟨.non,H,I,rfl,h⟩
theorem zta{x j pos}:PE X (.Constant (.str x) j pos) (tC (.str x)):=λ_ _ _ H _ I h=>Calls.Constant_str ⟨.str x,H,I.tok _,⟨_,rfl⟩,h⟩
noncomputable def Gl(X:Cx)(x:Str):Prop:=X.env.kindOf x=some .globalImplicit
theorem zg7{E:Value->Shared->Prop}{pins:List (Addr×Obj)}{s:Shared}{σ:St}{H:Hp}{x:Str}{u:Value}{pos:Pos}{Q:Value->Shared->Prop}(I:Inv X pins σ H s)(hg:Gl X x)(hm:X.mg x=some u)(h:Q u s)
 (hd:(x==("__debug__" : Str))=false:=by decide):wpAny (model X.prog X.w) X.A (eval (.Name x pos) X.env) Q E s:=
 Calls.Name_function_global I.ok.kind hg (Calls.loadGlobal_global (by rw[I.ok.glob];exact I.mod.glob.keeps I.bk) hm h) hd
theorem zem{E:Value->Shared->Prop}{pins:List (Addr×Obj)}{s:Shared}{σ:St}{H:Hp}{x:Str}{u:Value}{pos:Pos}{Q:Value->Shared->Prop}(I:Inv X pins σ H s)(hg:Gl X x)(hm:X.mg x=none)(hv:bootBuiltins x=some u)(h:Q u s)
 (hn:x≠"__name__":=by decide) (hd:(x==("__debug__" : Str))=false:=by decide):wpAny (model X.prog X.w) X.A (eval (.Name x pos) X.env) Q E s:=by
 obtain⟨mb,h1,h2⟩:=I.mod.blt
 exact Calls.Name_function_global I.ok.kind hg (Calls.loadGlobal_builtin (by rw[I.ok.glob];exact I.mod.glob.keeps I.bk) hm (by rw[I.ok.blt];exact h1.keeps I.bk) ((h2 x hn).trans hv) h) hd
theorem zqg{x:Str}{v:V}{u:Value}{pos:Pos}(hg:Gl X x)(hm:X.mg x=some u)(r:RelV v u)(hd:(x==("__debug__" : Str))=false:=by decide):PE X (.Name x pos) (tC v):=
 λ_ _ _ H _ I h=>zg7 I hg hm ⟨v,H,I,r,h⟩ hd
theorem zqh{x:Str}{v:V}{u:Value}{pos:Pos}(hg:Gl X x)(hm:X.mg x=none)(hv:bootBuiltins x=some u)(r:RelV v u)(hn:x≠"__name__":=by decide)(hd:(x==("__debug__" : Str))=false:=by decide):PE X (.Name x pos) (tC v):=
 λ_ _ _ H _ I h=>zem I hg hm hv ⟨v,H,I,r,h⟩ hn hd
variable{a b:Expr}{ta tb:TE}{pos:Pos}
variable{tA tB':TT}{rest:List Expr}
noncomputable def tAnd(t u:TT):TT:=λσ H Q=>t σ H λc H1=>if c=true then u σ H1 Q else Q false H1
noncomputable def tOr(t u:TT):TT:=λσ H Q=>t σ H λc H1=>if c=true then Q true H1 else u σ H1 Q
noncomputable def tNot(t:TT):TT:=λσ H Q=>t σ H λc H1=>Q (!c) H1
theorem zqi(ha:PT X a tA):PW X (.BoolOp .And [a] pos) tA:=by
 intro wh pins s σ H Q I h
 refine isTrue_and (thn (ha pins s σ H Q I h) λc s1 e=>?_)
 cases c with
 |true=>exact isTrue_and_nil e
 |false=>exact e
theorem ztb(ha:PT X a tA):PW X (.BoolOp .Or [a] pos) tA:=by
 intro wh pins s σ H Q I h
 refine isTrue_or (thn (ha pins s σ H Q I h) λc s1 e=>?_)
 cases c with
 |false=>exact isTrue_or_nil e
 |true=>exact e
theorem ztc(ha:PT X a tA)(hb:PW X (.BoolOp .And (b::rest) pos) tB'):PW X (.BoolOp .And (a::b::rest) pos) (tAnd tA tB'):=by
 intro wh pins s σ H Q I h
 refine isTrue_and (thn (ha pins s σ H _ I h) λc s1 z9=>z9.el λH1 I1 q1=>?_)
 cases c with
 |true=>exact hb wh pins s1 σ H1 Q I1 q1
 |false=>exact⟨H1,I1,q1⟩
theorem pw_or(ha:PT X a tA)(hb:PW X (.BoolOp .Or (b::rest) pos) tB'):PW X (.BoolOp .Or (a::b::rest) pos) (tOr tA tB'):=by
 intro wh pins s σ H Q I h
 refine isTrue_or (thn (ha pins s σ H _ I h) λc s1 z9=>z9.el λH1 I1 q1=>?_)
 cases c with
 |true=>exact⟨H1,I1,q1⟩
 |false=>exact hb wh pins s1 σ H1 Q I1 q1
theorem ztd(ha:PT X a tA):PT X (.UnaryOp .Not a pos) (tNot tA):=by
 intro pins s σ H Q I h
 exact isTrue_not (ha pins s σ H (λc H1=>Q (!c) H1) I h)
noncomputable def tAndV(ta tb:TE):TE:=λσ H Q=>ta σ H λx H1=>∃c,x=.bl c/\if c=true then tb σ H1 Q else Q (.bl false) H1
noncomputable def tOrV(ta tb:TE):TE:=λσ H Q=>ta σ H λx H1=>∃c,x=.bl c/\if c=true then Q (.bl true) H1 else tb σ H1 Q
noncomputable def tNotV(ta:TE):TE:=λσ H Q=>ta σ H λx H1=>∃c,x=.bl c/\Q (.bl (!c)) H1
theorem zte{op}{t:TE}(h:PE X a t):PE X (.BoolOp op [a] pos) t:=λpins s σ H Q I hw=>BoolOp_one (h pins s σ H Q I hw)
theorem ztf(ha:PE X a ta)(hb:PE X (.BoolOp .And (b::rest) pos) tb):PE X (.BoolOp .And (a::b::rest) pos) (tAndV ta tb):=by
 intro pins s σ H Q I h
 refine BoolOp_and (thn (ha pins s σ H _ I h) λv s1 z9=>z9.el λx H1 I1 r1 q1=>?_)
 obtain⟨c,rfl,q1⟩:=q1
 cases r1
 refine vcj ?_
 cases c with
 |true=>exact hb pins s1 σ H1 Q I1 q1
 |false=>exact⟨.bl false,H1,I1,rfl,q1⟩
theorem pe_or(ha:PE X a ta)(hb:PE X (.BoolOp .Or (b::rest) pos) tb):PE X (.BoolOp .Or (a::b::rest) pos) (tOrV ta tb):=by
 intro pins s σ H Q I h
 refine BoolOp_or (thn (ha pins s σ H _ I h) λv s1 z9=>z9.el λx H1 I1 r1 q1=>?_)
 obtain⟨c,rfl,q1⟩:=q1
 cases r1
 refine vcj ?_
 cases c with
 |false=>exact hb pins s1 σ H1 Q I1 q1
 |true=>exact⟨.bl true,H1,I1,rfl,q1⟩
theorem ztg(ha:PE X a ta):PE X (.UnaryOp .Not a pos) (tNotV ta):=by
 intro pins s σ H Q I h
 refine UnaryOp_ (thn (ha pins s σ H _ I h) λv s1 z9=>z9.el λx H1 I1 r1 q1=>?_)
 obtain⟨c,rfl,q1⟩:=q1
 cases r1
 exact not_of (vcj ⟨.bl (!c),H1,I1,rfl,q1⟩)
noncomputable def tIf(t:TT)(ta tb:TE):TE:=λσ H Q=>t σ H λc H1=>if c=true then ta σ H1 Q else tb σ H1 Q
theorem zm3{c:Expr}(hc:PT X c tA)(ha:PE X a ta)(hb:PE X b tb):PE X (.IfExp c a b pos) (tIf tA ta tb):=by
 intro pins s σ H Q I h
 refine wpAny_IfExp (thn (hc pins s σ H _ I h) λd s1 z9=>z9.el λH1 I1 q1=>?_)
 cases d with
 |true=>exact ha pins s1 σ H1 Q I1 q1
 |false=>exact hb pins s1 σ H1 Q I1 q1
end
noncomputable def SqL(K:vga)(H:Hp)(a:Addr)(xs:List V):Prop:=
 Rd H a (.lst xs)\/
  ∃(o:Obj) (its:Array Value) (n:Nat),K.lookup a=some o/\o.cls=.type "list"/\o.dict=none/\o.data=.seq its n/\its.size<=sizeLine/\Vals xs its.toList
noncomputable def SqT(K:vga)(H:Hp)(a:Addr)(xs:List V):Prop:=
 Rd H a (.tup xs)\/
  ∃(o:Obj) (its:Array Value) (n:Nat),K.lookup a=some o/\o.cls=.type "tuple"/\o.dict=none/\o.data=.seq its n/\its.size<=sizeLine/\Vals xs its.toList
noncomputable def absV:Value->Option V
 |.none=>some .non
 |.bool b=>some (.bl b)
 |.int i _=>some (.int i)
 |.str x _=>some (.str x)
 |.bytes b _=>some (.byt b)
 |.float b _=>some (.flt b)
 |.ref a=>some (.ref a)
 |.type n=>some (.ty n)
 |_=>none
theorem RelV.abs{x:V}{u:Value}(r:RelV x u):absV u=some x:=by
 cases x with
 |non=>cases r;rfl
 |bl _=>cases r;rfl
 |int _=>obtain⟨t,rfl⟩:=r;rfl
 |str _=>obtain⟨t,rfl⟩:=r;rfl
 |byt _=>obtain⟨t,rfl⟩:=r;rfl
 |flt _=>obtain⟨t,rfl⟩:=r;rfl
 |ref _=>cases r;rfl
 |ty _=>cases r;rfl
theorem RelV.inj{x y:V}{u:Value}(r:RelV x u)(q:RelV y u):x=y:=vb7 (r.abs.symm.trans q.abs)
theorem Vals.inj:∀{xs ys:List V} {us:List Value},Vals xs us->Vals ys us->xs=ys
 |_,_,_,.nil,.nil=>rfl
 |_,_,_,.cons r t,.cons r' t'=>by rw[r.inj r',Vals.inj t t']
section
variable{X:Cx}{pins:List (Addr×Obj)}{σ:St}{H:Hp}{s:Shared}{a:Addr}{xs ys:List V}
theorem SqL.of{K:vga}(h:H a=some (.lst xs)):SqL K H a xs:=.inl (.inl h)
theorem SqT.of{K:vga}(h:H a=some (.tup xs)):SqT K H a xs:=.inl (.inl h)
theorem Inv.list(I:Inv X pins σ H s)(h:SqL X.K H a xs):∃its:List Value,Vals xs its/\PlainL s.heap a its.toArray/\xs.length<=sizeLine:=by
 rcases h with h|⟨o,its,n,hk,hc,hd,hs,hz,r⟩
 .obtain⟨z,its,n,r,e⟩:=h.ok I.hok
  exact⟨its,r,⟨_,n,e,rfl,rfl,rfl⟩,z⟩
 .refine⟨its.toList,r,⟨o,n,I.kIn a o hk,hc,hd,by simpa using hs⟩,?_⟩
  have e:=r.length
  simp only[vc2]at e
  lia
theorem Inv.tupleD(I:Inv X pins σ H s)(h:SqT X.K H a xs):∃its:List Value,Vals xs its/\zba s.heap a its.toArray/\xs.length<=sizeLine:=by
 rcases h with h|⟨o,its,n,hk,hc,hd,hs,hz,r⟩
 .obtain⟨z,its,r,p⟩:=h.ok I.hok
  exact⟨its,r,p,z⟩
 .refine⟨its.toList,r,⟨o,I.kIn a o hk,hc,⟨n,by simpa using hs⟩,hd⟩,?_⟩
  have e:=r.length
  simp only[vc2]at e
  lia
theorem Inv.tuple(I:Inv X pins σ H s)(h:SqT X.K H a xs):∃its:List Value,Vals xs its/\IsTup s.heap a its.toArray/\xs.length<=sizeLine:=by
 obtain⟨its,r,p,z⟩:=I.tupleD h
 exact⟨its,r,p.tup,z⟩
theorem Inv.list_inj(I:Inv X pins σ H s)(h:SqL X.K H a xs)(h':SqL X.K H a ys):xs=ys:=by
 obtain⟨its,r,⟨o,n,e,_,_,d⟩,_⟩:=I.list h
 obtain⟨its',r',⟨o',n',e',_,_,d'⟩,_⟩:=I.list h'
 rw[e]at e';cases e'
 rw[d]at d'
 injection d' with d1 _
 have:its=its':=by simpa using vd8 Array.toList d1
 subst this
 exact r.inj r'
theorem Inv.tuple_inj(I:Inv X pins σ H s)(h:SqT X.K H a xs)(h':SqT X.K H a ys):xs=ys:=by
 obtain⟨its,r,⟨o,e,_,n,d⟩,_⟩:=I.tuple h
 obtain⟨its',r',⟨o',e',_,n',d'⟩,_⟩:=I.tuple h'
 rw[e]at e';cases e'
 rw[d]at d'
 injection d' with d1 _
 have:its=its':=by simpa using vd8 Array.toList d1
 subst this
 exact r.inj r'
end
noncomputable abbrev Cx.wish(X:Cx)(E:Value->Shared->Prop):Cx:={X with xe:=E}
noncomputable abbrev Cx.nox(X:Cx):Cx:=X.wish λ_ _=>False
theorem Cx.Ok.wish{X:Cx}(ok:X.Ok)(E:Value->Shared->Prop):(X.wish E).Ok:=
 ⟨ok.mod,ok.kind,ok.glob,ok.blt,ok.above,ok.inj,ok.has,ok.cab,ok.hd,ok.frames,ok.stk,ok.exf,ok.bs,ok.bsz,ok.noex,ok.exfs,ok.funs,ok.frf⟩
theorem Cx.Ok.unwish{X:Cx}{E:Value->Shared->Prop}(ok:(X.wish E).Ok):X.Ok:=
 ⟨ok.mod,ok.kind,ok.glob,ok.blt,ok.above,ok.inj,ok.has,ok.cab,ok.hd,ok.frames,ok.stk,ok.exf,ok.bs,ok.bsz,ok.noex,ok.exfs,ok.funs,ok.frf⟩
section
variable{X:Cx}{pins:List (Addr×Obj)}{σ:St}{H:Hp}{s:Shared}{E:Value->Shared->Prop}
theorem Inv.wish(I:Inv X pins σ H s)(E:Value->Shared->Prop):Inv (X.wish E) pins σ H s:=⟨I.ok.wish E,I.os,I.bare,I.base,I.loc,I.cell,I.free,I.freeC,I.pin,I.hok,I.len⟩
theorem Inv.unwish(I:Inv (X.wish E) pins σ H s):Inv X pins σ H s:=⟨I.ok.unwish,I.os,I.bare,I.base,I.loc,I.cell,I.free,I.freeC,I.pin,I.hok,I.len⟩
theorem SP.unwish{D:Ends}{f:Flow}{s':Shared}(h:SP (X.wish E) pins D f s'):SP X pins D f s':=by
 cases f with
 |next=>obtain⟨σ',H',I,q⟩:=h;exact⟨σ',H',I.unwish,q⟩
 |brk=>obtain⟨σ',H',I,q⟩:=h;exact⟨σ',H',I.unwish,q⟩
 |cont=>obtain⟨σ',H',I,q⟩:=h;exact⟨σ',H',I.unwish,q⟩
 |ret u=>obtain⟨v,σ',H',I,r,q⟩:=h;exact⟨v,σ',H',I.unwish,r,q⟩
theorem PSs.nox{st:List Stmt}{t:TS}(h:PSs X.nox st t):PSs X st t:=λpins s σ H D I hw=>
 vbz (h pins s σ H D (I.wish _) hw) (λ_ _ q=>q.unwish) λ_ _ z=>False.elim z
end
section
variable{X:Cx}{st:Stmt}{rest:List Stmt}{t u:TS}{e:Expr}{te:TE}{pos:Pos}
noncomputable def tNext:TS:=λD σ H=>D.nx σ H
noncomputable def tSeq(t u:TS):TS:=λD σ H=>t {D with nx:=u D} σ H
theorem zqj:PSs X [] tNext:=λ_ _ σ H _ I h=>wpAny_execs_nil ⟨σ,H,I,h⟩
theorem zm4(h1:PS X st t)(h2:PSs X rest u):PSs X (st::rest) (tSeq t u):=by
 intro pins s σ H D I h
 refine wpAny_execs_cons (thn (h1 pins s σ H {D with nx:=u D} I h) λf s1 q=>?_)
 cases f with
 |next=>
  obtain⟨σ',H',I',q⟩:=q
  exact h2 pins s1 σ' H' D I' q
 |ret v=>exact q
 |brk=>exact q
 |cont=>exact q
noncomputable def zth:TS:=λD σ H=>D.bk σ H
noncomputable def tCont:TS:=λD σ H=>D.ct σ H
theorem zqk:PS X (.Pass pos) tNext:=λ_ _ σ H _ I h=>wpAny_Pass ⟨σ,H,I,h⟩
theorem zm5:PS X (.Break pos) zth:=λ_ _ σ H _ I h=>wpAny_Break ⟨σ,H,I,h⟩
theorem zg8:PS X (.Continue pos) tCont:=λ_ _ σ H _ I h=>wpAny_Continue ⟨σ,H,I,h⟩
theorem Inv.quiet{pins:List (Addr×Obj)}{σ:St}{H:Hp}{s:Shared}(I:Inv X pins σ H s):interactive X.env=false:=by simp[interactive,I.ok.kind]
noncomputable def tDrop(te:TE):TS:=λD σ H=>te σ H λ_ H1=>D.nx σ H1
theorem zql(he:PE X e te)(hs:swapsWith e none pos.line X.env=pure false:=by rfl):PS X (.Expr e pos) (tDrop te):=by
 intro pins s σ H D I h
 exact wpAny_Expr_any (thn (he pins s σ H _ I h) λv s1 z9=>z9.el λx H1 I1 r1 q1=>⟨σ,H1,I1,q1⟩) I.quiet hs
noncomputable def tRet(te:TE):TS:=λD σ H=>te σ H D.rt
theorem zti(he:PE X e te):PS X (.Return (some e) pos) (tRet te):=by
 intro pins s σ H D I h
 exact wpAny_Return_some (thn (he pins s σ H _ I h) λv s1 z9=>z9.el λx H1 I1 r1 q1=>⟨x,σ,H1,I1,r1,q1⟩)
noncomputable def tRetN:TS:=λD _ H=>D.rt .non H
theorem zqm:PS X (.Return none pos) tRetN:=λ_ _ σ H _ I h=>wpAny_Return_none ⟨.non,σ,H,I,rfl,h⟩
noncomputable def tIfS(c:TT)(t u:TS):TS:=λD σ H=>c σ H λb H1=>if b=true then t D σ H1 else u D σ H1
theorem ps_if{c:Expr}{a b:List Stmt}{tc:TT}(hc:PT X c tc)(ha:PSs X a t)(hb:PSs X b u):PS X (.If c a b pos) (tIfS tc t u):=by
 intro pins s σ H D I h
 refine wpAny_If (thn (hc pins s σ H _ I h) λd s1 z9=>z9.el λH1 I1 q1=>?_)
 cases d with
 |true=>exact ha pins s1 σ H1 D I1 q1
 |false=>exact hb pins s1 σ H1 D I1 q1
noncomputable def ztj:TS:=λ_ _ _=>False
theorem zm6:PS X st ztj:=λ_ _ _ _ _ _ h=>h.elim
end
noncomputable abbrev TG:=V->St->Hp->(St->Hp->Prop)->Prop
noncomputable abbrev TGs:=List V->St->Hp->(St->Hp->Prop)->Prop
noncomputable def PG(X:Cx)(target:Expr)(t:TG):Prop:=
 ∀(pins:List (Addr×Obj))(s:Shared)(σ:St)(H:Hp)(v:V)(u:Value)(Q:St->Hp->Prop),Inv X pins σ H s->RelV v u->t v σ H Q->
  wpAny (model X.prog X.w) X.A (assign target X.env u) (λ_ s'=>∃σ' H',Inv X pins σ' H' s'/\Q σ' H') X.xe s
noncomputable def PGs(X:Cx)(ts:List Expr)(t:TGs):Prop:=
 ∀(pins:List (Addr×Obj))(s:Shared)(σ:St)(H:Hp)(vs:List V)(us:List Value)(Q:St->Hp->Prop),Inv X pins σ H s->Vals vs us->t vs σ H Q->
  wpAny (model X.prog X.w) X.A (assignInOrder ((assignEach ts X.env).map (·.2)) us) (λ_ s'=>∃σ' H',Inv X pins σ' H' s'/\Q σ' H') X.xe s
noncomputable abbrev TSet:=V->V->V->Hp->(Hp->Prop)->Prop
noncomputable def PSet(X:Cx)(t:TSet):Prop:=
 ∀(pins:List (Addr×Obj))(s:Shared)(σ:St)(H:Hp)(o i v:V)(ov iv u:Value)(Q:Hp->Prop),Inv X pins σ H s->RelV o ov->RelV i iv->RelV v u->t o i v H Q->
  wpAny (model X.prog X.w) X.A (setItem ov iv u) (λ_ s'=>∃H',Inv X pins σ H' s'/\Q H') X.xe s
noncomputable abbrev TIp:=V->V->Hp->VK->Prop
noncomputable def PIp(X:Cx)(op:Operator)(t:TIp):Prop:=
 ∀(pins:List (Addr×Obj))(s:Shared)(σ:St)(H:Hp)(x y:V)(v u:Value)(Q:VK),Inv X pins σ H s->RelV x v->RelV y u->t x y H Q->
  wpAny (model X.prog X.w) X.A (inplaceOp op v u) (EP X pins σ Q) X.xe s
section
variable{X:Cx}{pos:Pos}
noncomputable def gName(i:Nat):TG:=λv σ H Q=>Q (σ.set i (some v)) H
theorem zj7{i:Nat}{x:Str}(hN:X.N.Nodup)(hi:X.N[i]?=some x)(hx:Loc X.env.scope x)(hf:X.fn x=true\/X.env.scope.names.lookup x=some .local:=by first|exact .inl rfl|exact .inr rfl|assumption):PG X (.Name x pos) (gName i):=by
 intro pins s σ H v u Q I r h
 exact wpAny_assign_Name (ze6 I hN hi hx r (λs' I'=>⟨_,H,I',h⟩) hf)
noncomputable def gNil:TGs:=λvs σ H Q=>vs=[]/\Q σ H
noncomputable def gCons(t:TG)(u:TGs):TGs:=λvs σ H Q=>∃v r,vs=v::r/\t v σ H λσ' H'=>u r σ' H' Q
theorem zqn:PGs X [] gNil:=by
 intro pins s σ H vs us Q I r h
 obtain⟨e,h⟩:=h
 subst e
 cases r
 exact assignInOrder_nil ⟨σ,H,I,h⟩
theorem zm7{e:Expr}{es:List Expr}{t:TG}{u:TGs}(h1:PG X e t)(h2:PGs X es u)
 (hs:(assignEach (e::es) X.env).map (·.2)=assign e X.env:: (assignEach es X.env).map (·.2):=by rfl):PGs X (e::es) (gCons t u):=by
 intro pins s σ H vs us Q I r h
 obtain⟨v,vr,e1,h⟩:=h
 subst e1
 cases r with
 |cons r rr=>
  rw[hs]
  refine assignInOrder_cons (thn (h1 pins s σ H _ _ _ I r h) λ_ s1 hq0=>?_)
  obtain⟨σ1,H1,I1,q1⟩:=hq0
  exact h2 pins s1 σ1 H1 _ _ Q I1 rr q1
noncomputable def gTup(K:vga)(n:Nat)(t:TGs):TG:=λv σ H Q=>∃a xs,v=.ref a/\SqT K H a xs/\xs.length=n/\t xs σ H Q
theorem ztk{es:List Expr}{k:Nat}{t:TGs}{n:Nat}(hc:X.calm=true)(h:PGs X es t)
 (hn:(assignEach es X.env).length=n:=by rfl) (hst:(assignEach es X.env).findIdx? (·.1)=none:=by rfl):PG X (.Tuple es k pos) (gTup X.K n t):=by
 intro pins s σ H v u Q I r hw
 obtain⟨a,xs,e1,hq,hl,hw⟩:=hw
 subst e1
 cases r
 obtain⟨its,rv,ht,hz⟩:=I.tuple hq
 refine assign_Tuple_tuple (I.ok.hd hc) ht (by simp[hn,<-hl,rv.length]) hst λh' hx=>?_
 have I1:Inv X pins σ H {s with heap:=h'}:=I.kept (t':=s.toks) λb o e=>hx b o (va7 (vaq e)) e
 exact h pins _ σ H xs _ Q I1 (by simpa using rv) hw
noncomputable def gSub(to ti:TE)(t:TSet):TG:=λv σ H Q=>to σ H λo H1=>ti σ H1 λi H2=>t o i v H2 λH3=>Q σ H3
theorem ztl{o i:Expr}{to ti:TE}{t:TSet}(ho:PE X o to)(hi:PE X i ti)(hs:PSet X t)
 (ha:∀v,assign (.Subscript o i pos) X.env v=(do
   let ov <-holding [v] (eval o X.env)
   let iv <-holding [v,ov] (eval i X.env)
   standAt pos
   holding [v,ov,iv] (setItem ov iv v)
   release [v,ov,iv] []):=by intro _;rfl):PG X (.Subscript o i pos) (gSub to ti t):=by
 intro pins s σ H v u Q I r h
 rw[ha]
 refine vac (vcg (thn (ho pins s σ H _ I h) λov s1 z9=>z9.el λx H1 I1 r1 q1=>?_))
 refine vac (vcg (thn (hi pins s1 σ H1 _ I1 q1) λiv s2 z9=>z9.el λy H2 I2 r2 q2=>?_))
 refine vac (vc6 (vac (vcg (thn (hs pins s2 σ H2 x y v ov iv u _ I2 r1 r2 r q2) λ_ s3 hq0=>?_))))
 obtain⟨H3,I3,q3⟩:=hq0
 exact wpAny_release ⟨σ,H3,I3,q3⟩
noncomputable def tAsg(te:TE)(g:TG):TS:=λD σ H=>te σ H λx H1=>g x σ H1 D.nx
theorem zoz{tg e:Expr}{te:TE}{g:TG}(he:PE X e te)(hg:PG X tg g)(hs:swapsWithSole [tg] e pos.line X.env=pure false:=by rfl)(hw:swappedStores [tg] e X.env=pure none:=by rfl)
 (h1:(assignEach [tg] X.env).map (·.2)=[assign tg X.env]:=by rfl):PS X (.Assign [tg] e pos) (tAsg te g):=by
 intro pins s σ H D I h
 refine wpAny_Assign_stores (thn (he pins s σ H _ I h) λv s1 z9=>z9.el λx H1 I1 r1 q1=>?_) hs hw
 rw[h1]
 exact thn (hg pins s1 σ H1 x v _ I1 r1 q1) λ_ s2 q=>q
theorem ztm{i:Nat}{x:Str}{e:Expr}{te:TE}{pos':Pos}(hN:X.N.Nodup)(hi:X.N[i]?=some x)(hx:Loc X.env.scope x)(he:PE X e te)(hs:swapsWith e (some (.Name x pos')) pos.line X.env=pure false:=by rfl)(hf:X.fn x=true\/X.env.scope.names.lookup x=some .local:=by first|exact .inl rfl|exact .inr rfl|assumption) :
 PS X (.Assign [.Name x pos'] e pos) (tAsg te (gName i)):=by
 intro pins s σ H D I h
 refine wpAny_Assign_Name (thn (he pins s σ H _ I h) λv s1 z9=>z9.el λy H1 I1 r1 q1=>?_) hs
 exact ze6 I1 hN hi hx r1 (λs2 I2=>⟨_,H1,I2,q1⟩) hf
noncomputable def tAug(i:Nat)(te:TE)(ti:TIp):TS:=λD σ H=>∃x,σ[i]?=some (some x)/\te σ H λy H1=>ti x y H1 λz H2=>D.nx (σ.set i (some z)) H2
theorem ztn{i:Nat}{x:Str}{e:Expr}{te:TE}{op:Operator}{ti:TIp}{pos':Pos}(hN:X.N.Nodup)(hi:X.N[i]?=some x)(hx:Loc X.env.scope x)(he:PE X e te)(ho:PIp X op ti)(hf:X.fn x=true\/X.env.scope.names.lookup x=some .local:=by first|exact .inl rfl|exact .inr rfl|assumption) :
 PS X (.AugAssign (.Name x pos') op e pos) (tAug i te ti):=by
 intro pins s σ H D I h
 obtain⟨v,e1,h⟩:=h
 obtain⟨m,hn,hl⟩:=I.loc
 have vis:Vis X.env.scope x:=by rcases hx with k|k;exact .inl k;exact .inr (.inl k)
 obtain⟨u,r,l⟩:=hl i x v hi e1 vis
 refine wpAny_AugAssign_Name ?_
 have go:wpAny (model X.prog X.w) X.A (eval e X.env) (λw s₂=>wpAny (model X.prog X.w) X.A (inplaceOp op u w) (λr s₃=>wpAny (model X.prog X.w) X.A (storeName X.env x r) (λ_=>SP X pins D .next) X.xe s₃) X.xe s₂) X.xe s:=by
  refine thn (he pins s σ H _ I h) λw s1 z9=>z9.el λy H1 I1 r1 q1=>?_
  refine thn (ho pins s1 σ H1 v y u w _ I1 r r1 q1) λz s2 z9=>z9.el λzv H2 I2 r2 q2=>?_
  exact ze6 I2 hN hi hx r2 (λs3 I3=>⟨_,H2,I3,q2⟩) hf
 rcases l with⟨hk,hm⟩|⟨hk,c,hc,hcell⟩
 .exact wpAny_loadName_local I.ok.kind hk hn hm go
 .rcases hk with hk|hk
  .exact wpAny_loadName_cell I.ok.kind hk hc hcell go
  .rcases hx with k|k
   .have:X.env.scope.names.lookup x=some .free:=hk
    rw[k]at this;cases this
   .have:X.env.scope.names.lookup x=some .free:=hk
    rw[k]at this;cases this
noncomputable def ipI(f:Int->Int->Int):TIp:=λx y H Q=>∃i j,x=.int i/\y=.int j/\Q (.int (f i j)) H
theorem zto:PIp X .Add (ipI λi j=>i+j):=by
 intro pins s σ H x y v u Q I r1 r2 h
 obtain⟨i,j,e1,e2,q⟩:=h
 subst e1;subst e2
 obtain⟨t,rfl⟩:=r1
 obtain⟨t',rfl⟩:=r2
 exact iadd_int ⟨.int _,H,I.tok _,⟨_,rfl⟩,q⟩
theorem ztp:PIp X .Sub (ipI λi j=>i-j):=by
 intro pins s σ H x y v u Q I r1 r2 h
 obtain⟨i,j,e1,e2,q⟩:=h
 subst e1;subst e2
 obtain⟨t,rfl⟩:=r1
 obtain⟨t',rfl⟩:=r2
 exact isub_int ⟨.int _,H,I.tok _,⟨_,rfl⟩,q⟩
end
section
variable{X:Cx}{pos:Pos}
noncomputable def ztq(c:TT)(tb:TS):TS:=λD σ H=>∃W:Nat->St->Hp->Prop,(∃m,W m σ H)/\∀m σ H,W m σ H->
 c σ H λb H1=>if b=true then ∃N:St->Hp->Prop,(∀σ' H',N σ' H'->∃m',m'<m/\W m' σ' H')/\tb {D with nx:=N,ct:=N,bk:=D.nx} σ H1 else D.nx σ H1
theorem zm8{c:Expr}{body:List Stmt}{tc:TT}{tb:TS}(hp:PassesOwn (model X.prog X.w) X.A X.env X.xe)(hc:PT X c tc)(hb:PSs X body tb):PS X (.While c body [] pos) (ztq tc tb):=by
 intro pins s σ H D I h
 obtain⟨W,⟨m0,w0⟩,turn⟩:=h
 refine wpAny_While (codeAny_whileLoop (λn s'=>∃σ' H',Inv X pins σ' H' s'/\W n σ' H') ?_ m0 ⟨σ,H,I,w0⟩)
 rintro n s1 ⟨σ1,H1,I1,w1⟩
 refine vdc hp (thn (hc pins s1 σ1 H1 _ I1 (turn n σ1 H1 w1)) λb s2 z9=>z9.el λH2 I2 q2=>?_)
 cases b with
 |true=>
  obtain⟨N,hN,q2⟩:=q2
  rw[if_pos rfl]
  refine vdc hp (thn (hb pins s2 σ1 H2 _ I2 q2) λf s3 q3=>?_)
  cases f with
  |next=>
   obtain⟨σ3,H3,I3,n3⟩:=q3
   obtain⟨m',hm,w3⟩:=hN σ3 H3 n3
   exact⟨m',hm,σ3,H3,I3,w3⟩
  |cont=>
   obtain⟨σ3,H3,I3,n3⟩:=q3
   obtain⟨m',hm,w3⟩:=hN σ3 H3 n3
   exact⟨m',hm,σ3,H3,I3,w3⟩
  |brk=>exact q3
  |ret v=>exact q3
 |false=>
  rw[if_neg vdn]
  exact wpAny_execs_nil ⟨σ1,H2,I2,q2⟩
end
set_option genInjectivity false in
structure It where
 go:Nat->Hp->Prop
 yld:Nat->Hp->V->Hp->Prop
 stop:Nat->Hp->Prop
noncomputable def FpOk(X:Cx)(pins:List (Addr×Obj))(H:Hp)(b:Addr):Prop:=
 H b=none/\b≠X.env.locals/\b∉X.fs/\(b∈X.ex\/X.s₀.heap.objs.size<=b)/\(∀x c,X.env.cells.lookup x=some c->c≠b)/\∀p∈X.pn++pins,p.1≠b
theorem Inv.fpOk{X:Cx}{pins:List (Addr×Obj)}{σ:St}{H H':Hp}{s:Shared}{b:Addr}(I:Inv X pins σ H s)(hb:s.heap.objs.size<=b)(hn:H' b=none):FpOk X pins H' b:=by
 refine⟨hn,ve1 (vag I.lt hb),I.nofs hb,.inr (vbo I.sz hb),λx c e z=>?_,λp hp z=>?_⟩
 .obtain⟨v,q⟩:=I.cell x c e
  exact absurd (vag q.lt (by rw[z];exact hb)) (vbf _)
 .exact absurd (vag (vaq (I.pin p hp).1) (by rw[z];exact hb)) (vbf _)
structure Turn(P:Program)(w:World)(K:vga)(tg:Expr)(J:It)(fp:List Addr)(it:Addr)(tn:Nat->Heap->Prop):Prop where
 mem:it∈fp
 obj:∀i h,tn i h->∀b∈fp,∃o,h.get? b=some o/\∀v,o.data≠.cell v
 keep:∀i h h',tn i h->(∀b∈fp,∀o,h.get? b=some o->h'.get? b=some o)->tn i h'
 item:∀(X:Cx),X.prog=P->X.w=w->X.K=K->X.calm=true->∀(i:Nat)(pins:List (Addr×Obj))(s:Shared)(σ:St)(H:Hp)(E:Value->Shared->Prop),Inv X pins σ H s->(∀b∈fp,FpOk X pins H b)->tn i s.heap->J.go i H->
  wpAny (model P w) X.A (pyNext (.ref it)) (λr s1=>∃u,r=some u/\
   wpAny (model P w) X.A (letOwnedTupleGo tg (.ref it) u) (λ_ s2=>∃x H',Inv X pins σ H' s2/\RelV x u/\J.yld i H x H'/\tn (i+1) s2.heap/\∀b∈fp,H' b=none) E s1) E s
 done:∀(X:Cx),X.prog=P->X.w=w->X.K=K->X.calm=true->∀(i:Nat)(pins:List (Addr×Obj))(s:Shared)(σ:St)(H:Hp)(E:Value->Shared->Prop),Inv X pins σ H s->(∀b∈fp,FpOk X pins H b)->tn i s.heap->J.stop i H->
  wpAny (model P w) X.A (pyNext (.ref it)) (λr s1=>r=none/\Inv X pins σ H s1) E s
 self:∀(A:Around)(i:Nat)(s:Shared)(Q:Value->Shared->Prop)(E:Value->Shared->Prop),tn i s.heap->Q (.ref it) s->wpAny (model P w) A (pyIter (.ref it)) Q E s
noncomputable abbrev TI:=St->Hp->(It->Hp->Prop)->Prop
noncomputable def PIE(X:Cx)(pins:List (Addr×Obj))(σ:St)(tg:Expr)(R:It->Hp->Prop)(itv:Value)(s2:Shared):Prop:=
 ∃(it:Addr) (fp:List Addr) (tn:Nat->Heap->Prop) (J:It) (H':Hp),itv=.ref it/\Inv X pins σ H' s2/\Turn X.prog X.w X.K tg J fp it tn/\tn 0 s2.heap/\(∀b∈fp,FpOk X pins H' b)/\R J H'
noncomputable def PI(X:Cx)(tg iter:Expr)(wi:TI):Prop:=
 ∀(pins:List (Addr×Obj))(s:Shared)(σ:St)(H:Hp)(R:It->Hp->Prop),Inv X pins σ H s->wi σ H R->
  wpAny (model X.prog X.w) X.A (eval iter X.env) (λv s1=>wpAny (model X.prog X.w) X.A (pyIter v) (PIE X pins σ tg R) X.xe s1) X.xe s
theorem go_of{M:Model}{A:Around}{E:Value->Shared->Prop}{s:Shared}{tg:Expr}{it:Addr}{u:Value}{o:Obj}{n:String}{vs:Array Value}{Q:Unit->Shared->Prop}(ho:s.heap.get? it=some o)(hc:o.cls=.type n)(hd:o.data=.fields vs)
 (hn:["enumerate","zip","dict_itemiterator","dict_reverseitemiterator","odict_iterator","itertools.zip_longest","itertools.pairwise"].contains n=false) (hQ:Q () s):wpAny M A (letOwnedTupleGo tg (.ref it) u) Q E s:=by
 unfold letOwnedTupleGo
 cases tg<;>first
  |exact vas hQ
  |(cases u<;>first
     |exact vas hQ
     |(refine vac (wpAny_load ho ?_)
       rw[hc,hd]
       show wpAny M A (if(["enumerate","zip","dict_itemiterator","dict_reverseitemiterator","odict_iterator","itertools.zip_longest","itertools.pairwise"].contains n&&vs[0]? == some (rawInt _))=true then _ else _) Q E s
       rw[if_neg (by intro h;rw[hn,veh]at h;cases h)]
       exact vas hQ))
noncomputable def Itl(K:vga)(a:Addr):It:=
 ⟨λi H=>∃xs x,SqL K H a xs/\xs[i]?=some x,λi H x H'=>H'=H/\∀xs,SqL K H a xs->xs[i]?=some x,λi H=>∃xs,SqL K H a xs/\xs.length<=i⟩
noncomputable def Itt(K:vga)(a:Addr):It:=
 ⟨λi H=>∃xs x,SqT K H a xs/\xs[i]?=some x,λi H x H'=>H'=H/\∀xs,SqT K H a xs->xs[i]?=some x,λi H=>∃xs,SqT K H a xs/\xs.length<=i⟩
noncomputable def Itr(lo:Int)(n:Nat):It:=⟨λi _=>i<n,λi H x H'=>H'=H/\x=.int (lo+i),λi _=>n<=i⟩
theorem zj8{P:Program}{w:World}{K:vga}{tg:Expr}(a it:Addr):Turn P w K tg (Itl K a) [it] it (λi h=>h.IsListIter it a i)where
 mem:=by simp
 obj:=λi h st b hb=>by
  have e:b=it:=by simpa using hb
  subst e
  obtain⟨o,e,c,d⟩:=st
  exact⟨o,e,λv z=>by rw[d]at z;cases z⟩
 keep:=λi h h' st k=>st.at λo e=>k it (by simp) o e
 item:=by
  intro X hP hw hK hc i pins s σ H E I hf st hg
  subst hP hw hK
  obtain⟨xs,x,hq,hx⟩:=hg
  obtain⟨its,rv,p,hz⟩:=I.list hq
  obtain⟨u,hu,ru⟩:=rv.get hx
  obtain⟨f0,f1,f2,f3,f4,f5⟩:=hf it (by simp)
  refine wpAny_pyNext_list_item st p.isList (x:=u) (by simpa using hu) λh' st' sb=>?_
  have I1:Inv X pins σ H {s with heap:=h'}:=I.turned (t':=s.toks) (λb o hb e=>(sb.2 b hb).trans e) f0 f1 f3 f4 f5
  obtain⟨o,e,c,d⟩:=id st'
  exact⟨u,rfl,go_of (s:={s with heap:=h'}) e c d (by decide) ⟨x,H,I1,ru,⟨rfl,λys hy=>by rw[I.list_inj hy hq];exact hx⟩,st',λb hb=>(hf b hb).1⟩⟩
 done:=by
  intro X hP hw hK hc i pins s σ H E I hf st hg
  subst hP hw hK
  obtain⟨xs,hq,hx⟩:=hg
  obtain⟨its,rv,p,hz⟩:=I.list hq
  obtain⟨f0,f1,f2,f3,f4,f5⟩:=hf it (by simp)
  have hl:=rv.length
  exact wpAny_pyNext_list_end (I.ok.hd hc) st p.isList (by simp;lia) λh' eb=>⟨rfl,I.turned (t':=s.toks) (λb o hb e=>eb b o hb e) f0 f1 f3 f4 f5⟩
 self:=λ_ _ _ _ _ st h=>wpAny_pyIter_listiter st h
theorem zji{P:Program}{w:World}{K:vga}{tg:Expr}(a it:Addr):Turn P w K tg (Itt K a) [it] it (λi h=>h.IsTupleIter it a i)where
 mem:=by simp
 obj:=λi h st b hb=>by
  have e:b=it:=by simpa using hb
  subst e
  obtain⟨o,e,c,d⟩:=st
  exact⟨o,e,λv z=>by rw[d]at z;cases z⟩
 keep:=λi h h' st k=>st.at λo e=>k it (by simp) o e
 item:=by
  intro X hP hw hK hc i pins s σ H E I hf st hg
  subst hP hw hK
  obtain⟨xs,x,hq,hx⟩:=hg
  obtain⟨its,rv,p,hz⟩:=I.tuple hq
  obtain⟨u,hu,ru⟩:=rv.get hx
  obtain⟨f0,f1,f2,f3,f4,f5⟩:=hf it (by simp)
  refine wpAny_pyNext_tuple_item st (show s.heap.IsTuple a its.toArray from p) (x:=u) (by simpa using hu) λh' st' sb=>?_
  have I1:Inv X pins σ H {s with heap:=h'}:=I.turned (t':=s.toks) (λb o hb e=>(sb.2 b hb).trans e) f0 f1 f3 f4 f5
  obtain⟨o,e,c,d⟩:=id st'
  exact⟨u,rfl,go_of (s:={s with heap:=h'}) e c d (by decide) ⟨x,H,I1,ru,⟨rfl,λys hy=>by rw[I.tuple_inj hy hq];exact hx⟩,st',λb hb=>(hf b hb).1⟩⟩
 done:=by
  intro X hP hw hK hc i pins s σ H E I hf st hg
  subst hP hw hK
  obtain⟨xs,hq,hx⟩:=hg
  obtain⟨its,rv,p,hz⟩:=I.tuple hq
  obtain⟨f0,f1,f2,f3,f4,f5⟩:=hf it (by simp)
  have hl:=rv.length
  exact wpAny_pyNext_tuple_end (I.ok.hd hc) st (show s.heap.IsTuple a its.toArray from p) (by simp;lia) λh' eb=>⟨rfl,I.turned (t':=s.toks) (λb o hb e=>eb b o hb e) f0 f1 f3 f4 f5⟩
 self:=λ_ _ _ _ _ st h=>wpAny_pyIter_tupleiter st h
theorem zjj{P:Program}{w:World}{K:vga}{tg:Expr}(it:Addr)(lo:Int)(n:Nat):Turn P w K tg (Itr lo n) [it] it (λi h=>IsRangeIter h it (lo+ (i:Nat)*1) ((n:Int)- (i:Nat)) 1)where
 mem:=by simp
 obj:=λi h st b hb=>by
  have e:b=it:=by simpa using hb
  subst e
  exact⟨_,st,λv z=>by
   have z':Data.fields _=Data.cell v:=z
   cases z'⟩
 keep:=λi h h' st k=>k it (by simp) _ st
 item:=by
  intro X hP hw hK hc i pins s σ H E I hf st hg
  subst hP hw hK
  obtain⟨f0,f1,f2,f3,f4,f5⟩:=hf it (by simp)
  have W:=Walks.range (prog:=X.prog) (w:=X.w) (I.ok.hd hc) it lo 1 n
  refine W.item i s _ _ hg st λv h' tk hv st' kk=>?_
  obtain⟨t,rfl⟩:=hv
  have I1:Inv X pins σ H {s with heap:=h',toks:=tk}:=I.turned (λb o hb e=>kk b o (by simpa using hb) e) f0 f1 f3 f4 f5
  refine⟨_,rfl,go_of (s:={s with heap:=h',toks:=tk}) (n:="range_iterator") st' rfl rfl (by decide) ⟨.int (lo+i),H,I1,⟨t,?_⟩,⟨rfl,rfl⟩,st',λb hb=>(hf b hb).1⟩⟩
  rw[Int.mul_one]
 done:=by
  intro X hP hw hK hc i pins s σ H E I hf st hg
  subst hP hw hK
  obtain⟨f0,f1,f2,f3,f4,f5⟩:=hf it (by simp)
  exact wpAny_pyNext_range_end (I.ok.hd hc) st (by have:n<=i:=hg;lia) λh' eb=>⟨rfl,I.turned (t':=s.toks) (λb o hb e=>eb b o hb e) f0 f1 f3 f4 f5⟩
 self:=λ_ _ _ _ _ st h=>wpAny_pyIter_rangeiter st h
section
variable{X:Cx}{tg:Expr}
noncomputable def iList(K:vga)(tl:TE):TI:=λσ H R=>tl σ H λx H1=>∃a,x=.ref a/\(∃xs,SqL K H1 a xs)/\R (Itl K a) H1
noncomputable def iTup(K:vga)(tl:TE):TI:=λσ H R=>tl σ H λx H1=>∃a,x=.ref a/\(∃xs,SqT K H1 a xs)/\R (Itt K a) H1
theorem zj9{l:Expr}{tl:TE}(hl:PE X l tl):PI X tg l (iList X.K tl):=by
 intro pins s σ H R I h
 refine thn (hl pins s σ H _ I h) λv s1 z9=>z9.el λx H1 I1 r1 q1=>?_
 obtain⟨a,e,⟨xs,hq⟩,q⟩:=q1
 subst e
 cases r1
 obtain⟨its,rv,p,hz⟩:=I1.list hq
 refine wpAny_pyIter_list p.isList ?_
 refine⟨s1.heap.objs.size,[s1.heap.objs.size],_,_,H1,rfl,I1.kept (t':=s1.toks) λb o e=>vae _ e,zj8 a _,⟨_,va9 _ rfl,rfl,rfl⟩,λb hb=>?_,q⟩
 have e:b=s1.heap.objs.size:=by simpa using hb
 subst e
 exact I1.fpOk (vaa _) (I1.hok.fresh (vaa _))
theorem ztr{l:Expr}{tl:TE}(hl:PE X l tl):PI X tg l (iTup X.K tl):=by
 intro pins s σ H R I h
 refine thn (hl pins s σ H _ I h) λv s1 z9=>z9.el λx H1 I1 r1 q1=>?_
 obtain⟨a,e,⟨xs,hq⟩,q⟩:=q1
 subst e
 cases r1
 obtain⟨its,rv,p,hz⟩:=I1.tuple hq
 refine wpAny_pyIter_tuple (show s1.heap.IsTuple a its.toArray from p) ?_
 refine⟨s1.heap.objs.size,[s1.heap.objs.size],_,_,H1,rfl,I1.kept (t':=s1.toks) λb o e=>vae _ e,zji a _,⟨_,va9 _ rfl,rfl,rfl⟩,λb hb=>?_,q⟩
 have e:b=s1.heap.objs.size:=by simpa using hb
 subst e
 exact I1.fpOk (vaa _) (I1.hok.fresh (vaa _))
theorem zhx{pins:List (Addr×Obj)}{σ:St}{H:Hp}{s:Shared}{R:It->Hp->Prop}{E:Value->Shared->Prop}{lo hi:Int}{t u v:Tok}{tk:Nat}(I:Inv X pins σ H s)(h1:-(2 ^ 62)<=lo)(h2:lo<2 ^ 62)(h3:-(2 ^ 62)<=hi)(h4:hi<2 ^ 62)
 (q:R (Itr lo (hi-lo).toNat) H):wpAny (model X.prog X.w) X.A (pyIter (.ref s.heap.objs.size)) (PIE X pins σ tg R) E {s with heap:=s.heap.push {cls:=.type "range",data:=.fields #[.int lo t,.int hi u,.int 1 v]},toks:=tk}:=by
 refine wpAny_pyIter_range (IsRange.new ..) (small_one h1 h2 h3 h4) ?_
 have I1:Inv X pins σ H {s with heap:=s.heap.push {cls:=.type "range",data:=.fields #[.int lo t,.int hi u,.int 1 v]},toks:=tk}:=I.kept λb o e=>vae _ e
 refine⟨(s.heap.push {cls:=.type "range",data:=.fields #[.int lo t,.int hi u,.int 1 v]}).objs.size,[(s.heap.push {cls:=.type "range",data:=.fields #[.int lo t,.int hi u,.int 1 v]}).objs.size],_,_,H,rfl,
  I1.kept (t':=tk) λb o e=>vae _ e,zjj _ lo (hi-lo).toNat,?_,λb hb=>?_,q⟩
 .have e1:lo+ ((0:Nat):Int)*1=lo:=by simp
  have e2:(((hi-lo).toNat:Nat):Int)- ((0:Nat):Int)=Builtin.Range.rangeSize lo hi 1:=by rw[rangeSize_one];split<;>lia
  show IsRangeIter _ _ (lo+ ((0:Nat):Int)*1) ((((hi-lo).toNat:Nat):Int)- ((0:Nat):Int)) 1
  rw[e1,e2]
  exact va9 _ rfl
 .have e:b=(s.heap.push {cls:=.type "range",data:=.fields #[.int lo t,.int hi u,.int 1 v]}).objs.size:=by simpa using hb
  subst e
  exact I1.fpOk (vaa _) (I1.hok.fresh (vaa _))
noncomputable def iRng1(ta:TA):TI:=λσ H R=>ta σ H λvs H1=>∃j:Int,vs=[.int j]/\-(2 ^ 62)<=j/\j<2 ^ 62/\R (Itr 0 j.toNat) H1
noncomputable def iRng2(ta:TA):TI:=λσ H R=>ta σ H λvs H1=>∃i j:Int,vs=[.int i,.int j]/\(-(2 ^ 62)<=i/\i<2 ^ 62/\-(2 ^ 62)<=j/\j<2 ^ 62)/\R (Itr i (j-i).toNat) H1
theorem zka{a:Expr}{ta:TA}{p pos:Pos}(hg:Gl X "range")(hm:X.mg "range" = none)(ha:PA X [a] ta)(hs:starEach [a] X.env=[(false,eval a X.env)]:=by rfl):PI X tg (.Call (.Name "range" p) [a] [] pos) (iRng1 ta):=by
 intro pins s σ H R I h
 refine Call_ (zem I hg hm boot_range (vc3 (thn (ha pos pins s σ H _ I h) λus s1 z9=>z9.el λvs H1 I1 r1 q1=>?_) hs rfl))
 obtain⟨j,e,q1,q2,q⟩:=q1
 subst e
 cases r1 with
 |cons r rr=>
  cases rr
  obtain⟨t,rfl⟩:=r
  exact call_range_1 (zhx I1 (by lia) (by lia) q1 q2 (by simpa using q))
theorem zkb{a b:Expr}{ta:TA}{p pos:Pos}(hg:Gl X "range")(hm:X.mg "range" = none)(ha:PA X [a,b] ta)(hs:starEach [a,b] X.env=[(false,eval a X.env),(false,eval b X.env)]:=by rfl)(hs2:starEach [b] X.env=[(false,eval b X.env)]:=by rfl) :
 PI X tg (.Call (.Name "range" p) [a,b] [] pos) (iRng2 ta):=by
 intro pins s σ H R I h
 refine Call_ (zem I hg hm boot_range (vc3 (thn (ha pos pins s σ H _ I h) λus s1 z9=>z9.el λvs H1 I1 r1 q1=>?_) (by rw[hs,hs2]) (by rw[hs2];rfl)))
 obtain⟨i,j,e,⟨q1,q2,q3,q4⟩,q⟩:=q1
 subst e
 cases r1 with
 |cons r rr=>
  cases rr with
  |cons r' rr=>
   cases rr
   obtain⟨t,rfl⟩:=r
   obtain⟨t',rfl⟩:=r'
   exact call_range_2 (zhx I1 q1 q2 q3 q4 q)
noncomputable def tFor(wi:TI)(g:TG)(tb:TS):TS:=λD σ H=>wi σ H λJ H1=>∃W:Nat->Nat->St->Hp->Prop,(∃m,W 0 m σ H1)/\∀i m σ H,W i m σ H->
 (J.stop i H/\D.nx σ H)\/(J.go i H/\∃N:St->Hp->Prop,(∀σ' H',N σ' H'->∃m',m'<m/\W (i+1) m' σ' H')/\∀x H',J.yld i H x H'->g x σ H' λσ2 H2=>tb {D with nx:=N,ct:=N,bk:=D.nx} σ2 H2)
noncomputable def zen(fp:List Addr)(h:Heap):List (Addr×Obj):=fp.filterMap λb=>(h.get? b).map λo=>(b,o)
theorem za8{fp:List Addr}{h:Heap}{b:Addr}{o:Obj}(hb:b∈fp)(e:h.get? b=some o):(b,o)∈zen fp h:=List.mem_filterMap.mpr ⟨b,hb,by rw[e];rfl⟩
theorem zkc{fp:List Addr}{h:Heap}{p:Addr×Obj}(hp:p∈zen fp h):p.1∈fp/\h.get? p.1=some p.2:=by
 obtain⟨b,hb,e⟩:=List.mem_filterMap.mp hp
 cases q:h.get? b with
 |none=>rw[q]at e;cases e
 |some o=>
  rw[q]at e
  have e':(b,o)=p:=vb7 e
  subst e'
  exact⟨hb,q⟩
theorem Inv.pinned{pins:List (Addr×Obj)}{σ:St}{H:Hp}{s:Shared}{fp:List Addr}(I:Inv X pins σ H s)(hf:∀b∈fp,FpOk X pins H b)(ho:∀b∈fp,∃o,s.heap.get? b=some o/\∀v,o.data≠.cell v):Inv X (pins++zen fp s.heap) σ H s:=
 I.pins_of λp hp=>(vb8.mp hp).elim (λz=>I.pin p (vat _ z)) λz=>by
  obtain⟨hb,e⟩:=zkc z
  obtain⟨f0,f1,f2,_⟩:=hf p.1 hb
  obtain⟨o,e',d⟩:=ho p.1 hb
  rw[e]at e';cases e'
  exact⟨e,f0,f1,f2,d⟩
theorem Inv.unpinned{pins pl:List (Addr×Obj)}{σ:St}{H:Hp}{s:Shared}(I:Inv X (pins++pl) σ H s):Inv X pins σ H s:=I.pins_of λp hp=>I.pin p (vat _ (vci _ hp))
theorem zts{iter:Expr}{body:List Stmt}{wi:TI}{g:TG}{tb:TS}{pos:Pos}(hp:PassesOwn (model X.prog X.w) X.A X.env X.xe)(hc:X.calm=true)(hi:PI X tg iter wi)(hg:PG X tg g)(hb:PSs X body tb)
 (hs:∀x,foldedSetIterable iter X.env x=pure x:=by intro _;rfl):PS X (.For tg iter body [] pos) (tFor wi g tb):=by
 intro pins s σ H D I h
 refine wpAny_For (thn (hi pins s σ H _ I h) λv s1 h1=>thn h1 λitv s2 h2=>?_) hs
 obtain⟨it,fp,tn,J,H2,e,I2,T,st2,f2,W,⟨m0,w0⟩,turn⟩:=h2
 subst e
 have stat:∀{H':Hp},(∀b∈fp,H' b=none)->∀b∈fp,FpOk X pins H' b:=λhn b hb=>⟨hn b hb,(f2 b hb).2⟩
 refine codeAny_forLoop_any (λn s'=>∃i σ' H',Inv X pins σ' H' s'/\tn i s'.heap/\(∀b∈fp,H' b=none)/\W i n σ' H') ?_ m0 ⟨0,σ,H2,I2,st2,λb hb=>(f2 b hb).1,w0⟩
 rintro n s3 ⟨i,σ3,H3,I3,st3,fr3,w3⟩
 rcases turn i n σ3 H3 w3 with⟨stop,qn⟩|⟨go,N,hN,step⟩
 .refine vdc hp (thn (T.done X rfl rfl rfl hc i pins s3 σ3 H3 X.xe I3 (stat fr3) st3 stop) λr s4 hq0=>?_)
  obtain⟨hr,I4⟩:=hq0
  subst hr
  exact wpAny_execs_nil ⟨σ3,H3,I4,qn⟩
 .refine vdc hp (thn (T.item X rfl rfl rfl hc i pins s3 σ3 H3 X.xe I3 (stat fr3) st3 go) λr s4 hq0=>?_)
  obtain⟨u,hr,h4⟩:=hq0
  subst hr
  refine vdc hp (thn h4 λ_ s5 hq0=>?_)
  obtain⟨x,H5,I5,r5,y5,st5,fr5⟩:=hq0
  have I5':=I5.pinned (stat fr5) (T.obj _ _ st5)
  refine vdc hp (thn (hg _ s5 σ3 H5 x u _ I5' r5 (step x H5 y5)) λ_ s6 hq0=>?_)
  obtain⟨σ6,H6,I6,q6⟩:=hq0
  refine vdc hp (thn (hb _ s6 σ6 H6 _ I6 q6) λf s7 q7=>?_)
  have again:∀{σ7:St}{H7:Hp},Inv X (pins++zen fp s5.heap) σ7 H7 s7->N σ7 H7->∃m,m<n/\∃i σ' H',Inv X pins σ' H' s7/\tn i s7.heap/\(∀b∈fp,H' b=none)/\W i m σ' H':=λ{σ7 H7} I7 n7=>by
   obtain⟨m',hm,w7⟩:=hN σ7 H7 n7
   refine⟨m',hm,i+1,σ7,H7,I7.unpinned,T.keep _ _ _ st5 λb hb o e=>(I7.pin (b,o) (vat _ (vat _ (za8 hb e)))).1,λb hb=>?_,w7⟩
   obtain⟨o,e,d⟩:=T.obj _ _ st5 b hb
   exact(I7.pin (b,o) (vat _ (vat _ (za8 hb e)))).2.1
  cases f with
  |next=>obtain⟨σ7,H7,I7,n7⟩:=q7;exact again I7 n7
  |cont=>obtain⟨σ7,H7,I7,n7⟩:=q7;exact again I7 n7
  |brk=>obtain⟨σ7,H7,I7,q7⟩:=q7;exact⟨σ7,H7,I7.unpinned,q7⟩
  |ret v=>obtain⟨x7,σ7,H7,I7,r7,q7⟩:=q7;exact⟨x7,σ7,H7,I7.unpinned,r7,q7⟩
end
noncomputable abbrev R2:=V->V->Hp->VK->Prop
noncomputable def OpR(X:Cx)(f:Value->Value->Sem Value)(r:R2):Prop:=
 ∀(pins:List (Addr×Obj))(s:Shared)(σ:St)(H:Hp)(x y:V)(v u:Value)(Q:VK),Inv X pins σ H s->RelV x v->RelV y u->r x y H Q->
  wpAny (model X.prog X.w) X.A (f v u) (EP X pins σ Q) X.xe s
noncomputable def UnR(X:Cx)(f:Value->Sem Value)(r:V->Hp->VK->Prop):Prop:=
 ∀(pins:List (Addr×Obj))(s:Shared)(σ:St)(H:Hp)(x:V)(v:Value)(Q:VK),Inv X pins σ H s->RelV x v->r x H Q->
  wpAny (model X.prog X.w) X.A (f v) (EP X pins σ Q) X.xe s
noncomputable def CallR(X:Cx)(f:Value)(r:List V->Hp->VK->Prop):Prop:=
 ∀(pins:List (Addr×Obj))(s:Shared)(σ:St)(H:Hp)(xs:List V)(us:List Value)(Q:VK),Inv X pins σ H s->Vals xs us->r xs H Q->
  wpAny (model X.prog X.w) X.A (call f us) (EP X pins σ Q) X.xe s
noncomputable def TruR(X:Cx)(r:V->Hp->(Bool->Hp->Prop)->Prop):Prop:=
 ∀(pins:List (Addr×Obj))(s:Shared)(σ:St)(H:Hp)(x:V)(v:Value)(Q:Bool->Hp->Prop),Inv X pins σ H s->RelV x v->r x H Q->
  wpAny (model X.prog X.w) X.A (truthy v) (TP X pins σ Q) X.xe s
noncomputable def tOp(r:R2)(ta tb:TE):TE:=λσ H Q=>ta σ H λx H1=>tb σ H1 λy H2=>r x y H2 Q
noncomputable def tUn(r:V->Hp->VK->Prop)(ta:TE):TE:=λσ H Q=>ta σ H λx H1=>r x H1 Q
noncomputable def rI(C:Int->Int->Prop)(g:Int->Int->V):R2:=λx y H Q=>∃i j,x=.int i/\y=.int j/\C i j/\Q (g i j) H
noncomputable def rI0(g:Int->Int->V):R2:=λx y H Q=>∃i j,x=.int i/\y=.int j/\Q (g i j) H
noncomputable def rU(g:Int->V):V->Hp->VK->Prop:=λx H Q=>∃i,x=.int i/\Q (g i) H
section
variable{X:Cx}{a b c:Expr}{ta tb tc:TE}{pos:Pos}
theorem binT(ha:PE X a ta)(hb:PE X b tb){pins:List (Addr×Obj)}{s:Shared}{σ:St}{H:Hp}{R:V->V->Hp->Prop}(I:Inv X pins σ H s)
 (h:ta σ H λx H1=>tb σ H1 λy H2=>R x y H2) {Q:Value->Shared->Prop} {f:Value->Value->Sem Value}
 (hf:∀v u s2 x y H2,Inv X pins σ H2 s2->RelV x v->RelV y u->R x y H2->wpAny (model X.prog X.w) X.A (f v u) Q X.xe s2) :
 wpAny (model X.prog X.w) X.A (eval a X.env) (λv s₁=>wpAny (model X.prog X.w) X.A (eval b X.env) (λu s₂=>wpAny (model X.prog X.w) X.A (f v u) Q X.xe s₂) X.xe s₁) X.xe s:=by
 refine thn (ha pins s σ H _ I h) λv s1 z9=>z9.el λx H1 I1 r1 q1=>?_
 refine thn (hb pins s1 σ H1 _ I1 q1) λu s2 z9=>z9.el λy H2 I2 r2 q2=>?_
 exact hf v u s2 x y H2 I2 r1 r2 q2
theorem pe_op{op:Operator}{r:R2}(ho:OpR X (binaryOp op) r)(ha:PE X a ta)(hb:PE X b tb):PE X (.BinOp a op b pos) (tOp r ta tb):=by
 intro pins s σ H Q I h
 exact wpAny_BinOp (binT ha hb I h λv u s2 x y H2 I2 rx ry q=>ho pins s2 σ H2 x y v u Q I2 rx ry q)
theorem pe_un{op:UnaryOp}{r:V->Hp->VK->Prop}(ho:UnR X (unaryOp op) r)(ha:PE X a ta):PE X (.UnaryOp op a pos) (tUn r ta):=by
 intro pins s σ H Q I h
 exact UnaryOp_ (thn (ha pins s σ H _ I h) λv s1 z9=>z9.el λx H1 I1 r1 q1=>ho pins s1 σ H1 x v Q I1 r1 q1)
theorem opI{f:Value->Value->Sem Value}{C:Int->Int->Prop}{g:Int->Int->Int}
 (rule:∀(i j:Int)(t u:Tok)(s:Shared)(Q:Value->Shared->Prop)(E:Value->Shared->Prop),C i j->Q (.int (g i j) s.toks) {s with toks:=s.toks+1}->wpAny (model X.prog X.w) X.A (f (.int i t) (.int j u)) Q E s) :
 OpR X f (rI C λi j=>.int (g i j)):=by
 intro pins s σ H x y v u Q I rx ry h
 obtain⟨i,j,rfl,rfl,hc,q⟩:=h
 obtain⟨t,rfl⟩:=rx
 obtain⟨t',rfl⟩:=ry
 exact rule i j t t' s _ _ hc ⟨.int (g i j),H,I.tok _,⟨_,rfl⟩,q⟩
theorem opI0{f:Value->Value->Sem Value}{g:Int->Int->Int}
 (rule:∀(i j:Int)(t u:Tok)(s:Shared)(Q:Value->Shared->Prop)(E:Value->Shared->Prop),Q (.int (g i j) s.toks) {s with toks:=s.toks+1}->wpAny (model X.prog X.w) X.A (f (.int i t) (.int j u)) Q E s) :
 OpR X f (rI0 λi j=>.int (g i j)):=by
 intro pins s σ H x y v u Q I rx ry h
 obtain⟨i,j,rfl,rfl,q⟩:=h
 obtain⟨t,rfl⟩:=rx
 obtain⟨t',rfl⟩:=ry
 exact rule i j t t' s _ _ ⟨.int (g i j),H,I.tok _,⟨_,rfl⟩,q⟩
theorem opB0{f:Value->Value->Sem Value}{g:Int->Int->Bool}
 (rule:∀(i j:Int)(t u:Tok)(s:Shared)(Q:Value->Shared->Prop)(E:Value->Shared->Prop),Q (.bool (g i j)) s->wpAny (model X.prog X.w) X.A (f (.int i t) (.int j u)) Q E s) :
 OpR X f (rI0 λi j=>.bl (g i j)):=by
 intro pins s σ H x y v u Q I rx ry h
 obtain⟨i,j,rfl,rfl,q⟩:=h
 obtain⟨t,rfl⟩:=rx
 obtain⟨t',rfl⟩:=ry
 exact rule i j t t' s _ _ ⟨.bl (g i j),H,I,rfl,q⟩
noncomputable def CDiv(i j:Int):Prop:=0<j/\j<1073741824
noncomputable def CPow(i j:Int):Prop:=0<=j/\j<=1000000/\i.natAbs<2 ^ 64
noncomputable def CMul(i j:Int):Prop:=(-(2 ^ 64)<i/\i<2 ^ 64)\/(-(2 ^ 64)<j/\j<2 ^ 64)
theorem CMul.ok{i j:Int}(h:CMul i j):IntMulOk i j:=by
 rcases h with⟨h1,h2⟩|⟨h1,h2⟩
 .exact .of_left (intBits_le_64 h1 h2)
 .exact .of_right (intBits_le_64 h1 h2)
theorem ztt:OpR X (binaryOp .Add) (rI0 λi j=>.int (i+j)):=opI0 λ_ _ _ _ _ _ _ q=>add_int q
theorem ztu:OpR X (binaryOp .Sub) (rI0 λi j=>.int (i-j)):=opI0 λ_ _ _ _ _ _ _ q=>sub_int q
theorem ztv:OpR X (binaryOp .Mult) (rI CMul λi j=>.int (i*j)):=opI λ_ _ _ _ _ _ _ hc q=>mul_int q hc.ok
theorem zqo:OpR X (binaryOp .FloorDiv) (rI CDiv λi j=>.int (i/j)):=opI λi j _ _ _ _ _ hc q=>by
 have h1:(0:Int)<j:=hc.1
 have h2:j<1073741824:=hc.2
 exact floordiv_int (by lia) (by rw[Int.fdiv_eq_ediv_of_nonneg i (by lia)];exact q) (.inl (PyProof.noPylong_small (by lia)))
theorem ztw:OpR X (binaryOp .Mod) (rI (λ_ j=>0<j) λi j=>.int (i % j)):=opI λi j _ _ _ _ _ hc q=>by
 have h1:(0:Int)<j:=hc
 exact mod_int' (by lia) (by rw[Int.fmod_eq_emod_of_nonneg i (by lia)];exact q)
theorem ztx:OpR X (binaryOp .Pow) (rI CPow λi j=>.int (i ^ j.toNat)):=opI λ_ _ _ _ _ _ _ hc q=>pow_int_small hc.1 hc.2.1 hc.2.2 q
theorem zty:OpR X (binaryOp .LShift) (rI CPow λi j=>.int (i*2 ^ j.toNat)):=opI λ_ _ _ _ _ _ _ hc q=>lshift_int_small hc.1 hc.2.1 hc.2.2 q
theorem zqp:OpR X (inplaceOp .Mult) (rI CMul λi j=>.int (i*j)):=opI λ_ _ _ _ _ _ _ hc q=>imul_int q hc.ok
theorem zm9:OpR X (inplaceOp .FloorDiv) (rI CDiv λi j=>.int (i/j)):=opI λi j _ _ _ _ _ hc q=>by
 have h1:(0:Int)<j:=hc.1
 have h2:j<1073741824:=hc.2
 exact ifloordiv_int (by lia) (by rw[Int.fdiv_eq_ediv_of_nonneg i (by lia)];exact q) (.inl (PyProof.noPylong_small (by lia)))
theorem unI{f:Value->Sem Value}{g:Int->Int}
 (rule:∀(i:Int)(t:Tok)(s:Shared)(Q:Value->Shared->Prop)(E:Value->Shared->Prop),Q (.int (g i) s.toks) {s with toks:=s.toks+1}->wpAny (model X.prog X.w) X.A (f (.int i t)) Q E s) :
 UnR X f (rU λi=>.int (g i)):=by
 intro pins s σ H x v Q I rx h
 obtain⟨i,rfl,q⟩:=h
 obtain⟨t,rfl⟩:=rx
 exact rule i t s _ _ ⟨.int (g i),H,I.tok _,⟨_,rfl⟩,q⟩
theorem ztz:UnR X (unaryOp .USub) (rU λi=>.int (-i)):=unI λ_ _ _ _ _ q=>neg_int q
end
section
variable{X:Cx}{a b c:Expr}{ta tb tc:TE}{pos:Pos}
theorem zhy{pins:List (Addr×Obj)}{σ:St}{H:Hp}{s:Shared}{Q:VK}{k k':Bool}(I:Inv X pins σ H s)(q:Q (.bl k) H)(e:k=k'):EP X pins σ Q (.bool k') s:=by
 subst e
 exact⟨.bl k,H,I,rfl,q⟩
theorem op_lt:OpR X (compareOp .Lt) (rI0 λi j=>.bl (decide (i<j))):=opB0 λ_ _ _ _ _ _ _ q=>lt_int q
theorem op_le:OpR X (compareOp .LtE) (rI0 λi j=>.bl (decide (i<=j))):=opB0 λ_ _ _ _ _ _ _ q=>le_int q
theorem op_gt:OpR X (compareOp .Gt) (rI0 λi j=>.bl (decide (j<i))):=opB0 λ_ _ _ _ _ _ _ q=>gt_int q
theorem op_ge:OpR X (compareOp .GtE) (rI0 λi j=>.bl (decide (j<=i))):=opB0 λ_ _ _ _ _ _ _ q=>ge_int q
theorem zt0:OpR X (compareOp .Is) (λx y H Q=>y=.non/\Q (.bl (decide (x=.non))) H):=by
 intro pins s σ H x y v u Q I rx ry h
 obtain⟨rfl,q⟩:=h
 cases ry
 refine is_none_gen (zhy I q ?_)
 cases x<;>first
  |(cases rx;rfl)
  |(obtain⟨t,rfl⟩:=rx;rfl)
theorem zqq:OpR X (compareOp .IsNot) (λx y H Q=>y=.non/\Q (.bl (!decide (x=.non))) H):=by
 intro pins s σ H x y v u Q I rx ry h
 obtain⟨rfl,q⟩:=h
 cases ry
 refine isnot_none_gen (zhy I q ?_)
 cases x<;>first
  |(cases rx;rfl)
  |(obtain⟨t,rfl⟩:=rx;rfl)
theorem OpR.or{f:Value->Value->Sem Value}{r r':R2}(h:OpR X f r)(h':OpR X f r'):OpR X f (λx y H Q=>r x y H Q\/r' x y H Q):=by
 intro pins s σ H x y v u Q I rx ry q
 rcases q with q|q
 .exact h pins s σ H x y v u Q I rx ry q
 .exact h' pins s σ H x y v u Q I rx ry q
theorem zqr{op:CmpOp}{r:R2}(ho:OpR X (compareOp op) r)(ha:PE X a ta)(hb:PE X b tb)(hm:behindInMarks op b=false):PE X (.Compare a [op] [b] pos) (tOp r ta tb):=by
 intro pins s σ H Q I h
 exact wpAny_Compare1 (binT ha hb I h λv u s2 x y H2 I2 rx ry q=>ho pins s2 σ H2 x y v u Q I2 rx ry q) hm
noncomputable def tTest(t:TE):TT:=λσ H Q=>t σ H λx H'=>∃k,x=.bl k/\Q k H'
theorem zqs{op:CmpOp}{r:R2}(ho:OpR X (compareOp op) r)(ha:PE X a ta)(hb:PE X b tb)(hm:behindInMarks op b=false):PT X (.Compare a [op] [b] pos) (tTest (tOp r ta tb)):=by
 intro pins s σ H Q I h
 refine wpAny_isTrue_Compare1 (thn (ha pins s σ H _ I h) λv s1 z9=>z9.el λx H1 I1 r1 q1=>thn (hb pins s1 σ H1 _ I1 q1) λu s2 z9=>z9.el λy H2 I2 r2 q2=>
  thn (ho pins s2 σ H2 x y v u _ I2 r1 r2 q2) λc s3 z9=>z9.el λz H3 I3 r3 ⟨k,e,q3⟩=>?_) hm
 subst e
 cases r3
 exact vcj ⟨H3,I3,q3⟩
noncomputable def zkd(r r':R2)(ta tb tc:TE):TE:=λσ H Q=>ta σ H λx H1=>tb σ H1 λy H2=>r x y H2 λz H3=>∃k,z=.bl k/\
 (if k=true then tc σ H3 λw' H4=>r' y w' H4 Q else Q (.bl false) H3)
theorem zna{op op':CmpOp}{r r':R2}(ho:OpR X (compareOp op) r)(ho':OpR X (compareOp op') r')(ha:PE X a ta)(hb:PE X b tb)(hc:PE X c tc)
 (hm:lastMarks [op,op'] [b,c]=false:=by with_unfolding_all rfl):PE X (.Compare a [op,op'] [b,c] pos) (zkd r r' ta tb tc):=by
 intro pins s σ H Q I h
 refine Compare_chain (thn (ha pins s σ H _ I h) λv s1 z9=>z9.el λx H1 I1 r1 q1=>chain_link (thn (hb pins s1 σ H1 _ I1 q1) λu s2 z9=>z9.el λy H2 I2 r2 q2=>
  thn (ho pins s2 σ H2 x y v u _ I2 r1 r2 q2) λd s3 z9=>z9.el λz H3 I3 r3 ⟨k,e,q3⟩=>?_)) hm
 subst e
 cases r3
 refine vcj ?_
 cases k with
 |false=>exact ite_ff ⟨.bl false,H3,I3,rfl,q3⟩
 |true=>exact ite_tt (chain_last (thn (hc pins s3 σ H3 _ I3 q3) λw' s4 z9=>z9.el λz' H4 I4 r4 q4=>ho' pins s4 σ H4 y z' u w' Q I4 r2 r4 q4))
theorem znb{op op':CmpOp}{r r':R2}(ho:OpR X (compareOp op) r)(ho':OpR X (compareOp op') r')(ha:PE X a ta)(hb:PE X b tb)(hc:PE X c tc)
 (hm:lastMarks [op,op'] [b,c]=false:=by with_unfolding_all rfl):PT X (.Compare a [op,op'] [b,c] pos) (tTest (zkd r r' ta tb tc)):=by
 intro pins s σ H Q I h
 refine isTrue_chain (thn (ha pins s σ H _ I h) λv s1 z9=>z9.el λx H1 I1 r1 q1=>test_link (thn (hb pins s1 σ H1 _ I1 q1) λu s2 z9=>z9.el λy H2 I2 r2 q2=>
  thn (ho pins s2 σ H2 x y v u _ I2 r1 r2 q2) λd s3 z9=>z9.el λz H3 I3 r3 ⟨k,e,q3⟩=>?_)) hm
 subst e
 cases r3
 refine vcj ?_
 cases k with
 |false=>
  obtain⟨k',e',q'⟩:=q3
  cases e'
  exact ite_ff ⟨H3,I3,q'⟩
 |true=>
  refine ite_tt (test_last (thn (hc pins s3 σ H3 _ I3 q3) λw' s4 z9=>z9.el λz' H4 I4 r4 q4=>thn (ho' pins s4 σ H4 y z' u w' _ I4 r2 r4 q4) λd' s5 z9=>z9.el λz2 H5 I5 r5 hq0=>?_))
  obtain⟨k2,e2,q5⟩:=hq0
  subst e2
  cases r5
  exact vcj ⟨H5,I5,q5⟩
noncomputable def TruV(K:vga)(x:V)(H:Hp)(k:Bool):Prop:=
 match x with
 |.non=>k=false
 |.bl b=>k=b
 |.int i=>k=(i != 0)
 |.str y=>y.length<=sizeLine/\k=((y.length:Int) != 0)
 |.byt y=>y.size<=sizeLine/\k=((y.size:Int) != 0)
 |.ref p=>(∃xs,SqL K H p xs/\k=!xs.isEmpty)\/(∃xs,SqT K H p xs/\k=!xs.isEmpty)\/∃kvs,H p=some (.dK kvs)/\k=!kvs.isEmpty
 |_=>False
theorem zjk{κ:Type}{kvs:List (κ×V)}{vs:List (κ×Value)}(r:KV kvs vs):(!vs.isEmpty)=!kvs.isEmpty:=by
 cases r<;>rfl
theorem zeo{xs:List V}{its:List Value}(r:Vals xs its):(!its.toArray.isEmpty)=!xs.isEmpty:=by
 cases r<;>simp
theorem zf3:(sizeLine:Nat)<2 ^ 63:=by rw[vex];decide
theorem zt1:TruR X (λx H Q=>∃k,TruV X.K x H k/\Q k H):=by
 intro pins s σ H x v Q I rx h
 obtain⟨k,e,q⟩:=h
 have hl:=zf3
 have hs:sizeLine=16777216:=vex
 cases x with
 |non=>
  cases rx
  have e':k=false:=e
  subst e'
  exact truthy_none ⟨H,I,q⟩
 |bl b=>
  cases rx
  have e':k=b:=e
  subst e'
  exact vcj ⟨H,I,q⟩
 |int i=>
  obtain⟨t,rfl⟩:=rx
  have e':k=(i != 0):=e
  subst e'
  exact PySem.P.truthy_int ⟨H,I,q⟩
 |str y=>
  obtain⟨t,rfl⟩:=rx
  obtain⟨hy,e'⟩:y.length<=sizeLine/\k=((y.length:Int) != 0):=e
  subst e'
  exact PySem.P.truthy_str (by lia) ⟨H,I.tok _,q⟩
 |byt y=>
  obtain⟨t,rfl⟩:=rx
  obtain⟨hy,e'⟩:y.size<=sizeLine/\k=((y.size:Int) != 0):=e
  subst e'
  exact PySem.W.truthy_bytes (by lia) ⟨H,I.tok _,q⟩
 |ref p=>
  cases rx
  have e':(∃xs,SqL X.K H p xs/\k=!xs.isEmpty)\/(∃xs,SqT X.K H p xs/\k=!xs.isEmpty)\/∃kvs,H p=some (.dK kvs)/\k=!kvs.isEmpty:=e
  rcases e' with⟨xs,hx,e'⟩|⟨xs,hx,e'⟩|⟨kvs,hx,e'⟩
  .subst e'
   obtain⟨its,r,pl,hz⟩:=I.list hx
   have hlen:=r.length
   exact wpAny_truthy_list pl.isList (by simp only[vad];lia) ⟨H,I.tok _,by rw[zeo r];exact q⟩
  .subst e'
   obtain⟨its,r,pl,hz⟩:=I.tuple hx
   have hlen:=r.length
   exact truthy_tuple pl (by simp only[vad];lia) ⟨H,I.tok _,by rw[zeo r];exact q⟩
  .subst e'
   obtain⟨hz,hS,vs,r,m⟩:kvs.length<=sizeLine/\(p==sysModules)=false/\∃vs,KV kvs vs/\s.heap.DictOf (zaq X.prog X.w) p vs:=I.hok p _ hx
   have hlen:kvs.length=vs.length:=vew r
   exact wpAny_truthy_dict hS m (by lia) ⟨H,I.tok _,by rw[zjk r];exact q⟩
 |_=>exact(show False from e).elim
theorem znc(ha:PE X a ta)(he:∀whole,isTrue a X.env whole=(do let v <-whole;standAt a.pos;holding [v] (truthy v))) :
 PT X a (λσ H Q=>ta σ H λx H'=>∃k,TruV X.K x H' k/\Q k H'):=by
 intro pins s σ H Q I h
 exact isTrue_plain (thn (ha pins s σ H _ I h) λv s1 z9=>z9.el λx H1 I1 r1 q1=>zt1 pins s1 σ H1 x v Q I1 r1 q1) (he _)
theorem vals1{x:V}{us:List Value}(r:Vals [x] us):∃u,us=[u]/\RelV x u:=by
 cases r with
 |cons r1 r2=>cases r2;exact⟨_,rfl,r1⟩
theorem vals2{x y:V}{us:List Value}(r:Vals [x,y] us):∃u w',us=[u,w']/\RelV x u/\RelV y w':=by
 cases r with
 |cons r1 r2=>
  cases r2 with
  |cons r3 r4=>cases r4;exact⟨_,_,rfl,r1,r3⟩
theorem znd:CallR X (.builtin "abs") (λxs H Q=>∃i,xs=[.int i]/\Q (.int (if i<0 then -i else i)) H):=by
 intro pins s σ H xs us Q I r h
 obtain⟨i,rfl,q⟩:=h
 obtain⟨u,rfl,t,rfl⟩:=vals1 r
 exact call_abs_int λu tk=>⟨.int (if i<0 then -i else i),H,I.tok _,⟨_,rfl⟩,q⟩
theorem zke(hc:X.calm=true):CallR X (.builtin "max") (λxs H Q=>∃i j,xs=[.int i,.int j]/\Q (.int (if j>i then j else i)) H):=by
 intro pins s σ H xs us Q I r h
 obtain⟨i,j,rfl,q⟩:=h
 obtain⟨u,w',rfl,⟨t,rfl⟩,⟨t',rfl⟩⟩:=vals2 r
 refine max_two_ints (I.ok.hd hc) λh' tk k=>⟨_,H,I.kept k,?_,q⟩
 by_cases hj:j>i
 .rw[if_pos hj,if_pos hj];exact⟨_,rfl⟩
 .rw[if_neg hj,if_neg hj];exact⟨_,rfl⟩
theorem zkf(hc:X.calm=true):CallR X (.builtin "min") (λxs H Q=>∃i j,xs=[.int i,.int j]/\Q (.int (if j<i then j else i)) H):=by
 intro pins s σ H xs us Q I r h
 obtain⟨i,j,rfl,q⟩:=h
 obtain⟨u,w',rfl,⟨t,rfl⟩,⟨t',rfl⟩⟩:=vals2 r
 refine min_two_ints (I.ok.hd hc) λh' tk k=>⟨_,H,I.kept k,?_,q⟩
 by_cases hj:j<i
 .rw[if_pos hj,if_pos hj];exact⟨_,rfl⟩
 .rw[if_neg hj,if_neg hj];exact⟨_,rfl⟩
theorem zkg:CallR X (.type "int") (λxs H Q=>(∃i,xs=[.int i]/\Q (.int i) H)\/∃k,xs=[.bl k]/\Q (.int (if k then 1 else 0)) H):=by
 intro pins s σ H xs us Q I r h
 rcases h with⟨i,rfl,q⟩|⟨k,rfl,q⟩
 .obtain⟨u,rfl,t,rfl⟩:=vals1 r
  exact call_int_int ⟨.int i,H,I,⟨_,rfl⟩,q⟩
 .obtain⟨u,rfl,r1⟩:=vals1 r
  cases r1
  exact call_int_bool ⟨.int (if k then 1 else 0),H,I.tok _,⟨_,rfl⟩,q⟩
end
structure ObjM(h:Heap)(x dx C:Addr)(mA:Str->Option Value):Prop where
 obj:h.get? x=some (PySem.W.instObj C dx)
 ns:h.Ns1 dx mA
 ne:dx≠x
theorem zkh{h:Heap}{dx:Addr}{mA:Str->Option Value}(n:h.Ns1 dx mA):∃od,h.get? dx=some od/\∀name,PySem.W.lookIn name od=some (mA name):=by
 obtain⟨o,es,ep,ho,hd,hk,_,hm⟩:=n
 refine⟨o,ho,λname=>?_⟩
 have e:=hm name
 unfold nsFind findBy at e
 rw[<-Array.find?_toList]at e
 unfold PySem.W.lookIn
 rw[hd]
 dsimp only
 split
 .rename_i y q
  rw[q]at e
  exact vd8 some e
 .rename_i q
  rw[q]at e
  have a:es.toList.any (·.refKey)=false:=by
   rw[List.any_eq_false]
   intro y hy
   obtain⟨z,t,hkey⟩:=hk y (Array.mem_toList_iff.mp hy)
   simp[DictEntry.refKey,hkey]
  have a':¬es.toList.any (·.refKey)=true:=by rw[a];exact vdn
  rw[if_neg a']
  exact vd8 some e
theorem ObjM.look{h:Heap}{x dx C:Addr}{mA:Str->Option Value}(I:ObjM h x dx C mA):∃od,PySem.W.InstAt h x (PySem.W.instObj C dx) C (some od)/\∀name,PySem.W.lookIn name od=some (mA name):=
 let⟨od,ho,hl⟩:=zkh I.ns
 ⟨od,⟨I.obj,rfl,rfl,ho⟩,hl⟩
theorem RelO.some_of{v:V}{o:Option Value}(r:RelO (some v) o):∃u,o=some u/\RelV v u:=by
 cases o with
 |none=>exact(show False from r).elim
 |some u=>exact⟨u,rfl,r⟩
section
variable{P:Program}{w:World}{H H':Hp}{h h':Heap}{a C dx:Addr}{fs fs':List (Str×V)}
theorem zqt(hok:HOk P w H h)(e:H a=some (.ins C dx fs)):∃mA,ObjM h a dx C mA/\(∀f,RelO (fs.lookup f) (mA f))/\PySem.Within mA (fs.map (·.1))/\fs.length<=1000/\H dx=some (.own a):=by
 obtain⟨d,z,ne,ob,mA,n,r,q⟩:=(show ObjOk P w H h a (.ins C dx fs)from hok a _ e)
 exact⟨mA,⟨ob,n,ne⟩,r,q,z,d⟩
end
structure Cls(K:vga)(C:Addr):Prop where
 pg:PySem.W.plainGet K C Str.empty=true
 hd:PySem.W.hasDictIn K C=true
 po:PySem.W.plainOver K C=true
 sa:PySem.W.findIn K (.ref C) "__setattr__" = some (some (.builtin "object.__setattr__"))
theorem Cls.get{K:vga}{C:Addr}(c:Cls K C)(f:Str):PySem.W.plainGet K C f=true:=c.pg
section
variable{X:Cx}{pins:List (Addr×Obj)}{σ:St}{H:Hp}{s:Shared}{A:Around}{E:Value->Shared->Prop}{Q:Value->Shared->Prop}{c:Value}{b:Bool}
inductive TyOf(K:vga)(H:Hp):V->Value->Prop where
 |non:TyOf K H .non (.type "NoneType")
 |bl (x:Bool):TyOf K H (.bl x) (.type "bool")
 |int (i:Int):TyOf K H (.int i) (.type "int")
 |str (x:Str):TyOf K H (.str x) (.type "str")
 |flt (x:UInt64):TyOf K H (.flt x) (.type "float")
 |lst {a:Addr} {xs:List V} (e:H a=some (.lst xs)):TyOf K H (.ref a) (.type "list")
 |frz {a:Addr} {o:Obj} {xs:List V} (e:H a=some (.frz o (.lst xs))):TyOf K H (.ref a) (.type "list")
 |tup {a:Addr} {xs:List V} (e:H a=some (.tup xs)):TyOf K H (.ref a) (.type "tuple")
 |dK {a:Addr} {kvs:List (Key×V)} (e:H a=some (.dK kvs)):TyOf K H (.ref a) (.type "dict")
 |dT {a:Addr} {kvs:List (List Key×V)} (e:H a=some (.dT kvs)):TyOf K H (.ref a) (.type "dict")
 |ins {a C dx:Addr} {fs:List (Str×V)} (e:H a=some (.ins C dx fs)) (cl:Cls K C) (ha:PySem.W.findIn K (.ref C) "__class__" = some (some (.builtin "object.__class__")))
   (hn:PySem.W.specialIn K (.builtin "object.__class__") "__get__" = some (some (.builtin "getset_descriptor.__get__"))) (htk:PySem.W.takesIn K (.builtin "object.__class__")=some true)
   (hm:PySem.W.mroIn K C (.type "object")=some true):TyOf K H (.ref a) (.ref C)
theorem zki{x:V}{u t:Value}(I:Inv X pins σ H s)(rx:RelV x u)(ty:TyOf X.K H x t)(e:PySem.W.kitOne X.K t c=some b)(h:∀tk,Q (.bool b) {s with toks:=tk}) :
 wpAny (model X.prog X.w) A (call (.builtin "isinstance") [u,c]) Q E s:=by
 cases ty with
 |non=>cases(show u=Value.none from rx);exact vbs PySem.W.kitx_none I.kIn True.intro e (λz=>nomatch z) h
 |bl y=>cases(show u=Value.bool y from rx);exact vbs PySem.W.kitx_bool I.kIn True.intro e (λz=>nomatch z) h
 |int i=>obtain⟨t,q⟩:=(show ∃t,u=Value.int i t from rx);cases q;exact vbs PySem.W.kitx_int I.kIn True.intro e (λz=>nomatch z) h
 |str y=>obtain⟨t,q⟩:=(show ∃t,u=Value.str y t from rx);cases q;exact vbs PySem.W.kitx_str I.kIn True.intro e (λz=>nomatch z) h
 |flt y=>obtain⟨t,q⟩:=(show ∃t,u=Value.float y t from rx);cases q;exact vbs PySem.W.kitx_float I.kIn True.intro e (λz=>nomatch z) h
 | @lst a xs ea=>
  cases(show u=Value.ref a from rx)
  obtain⟨_,_,n,_,h1⟩:=(show ObjOk X.prog X.w H s.heap a (.lst xs)from I.hok a _ ea)
  exact vbs PySem.W.kitx_list I.kIn ⟨_,h1,rfl⟩ e (λz=>nomatch z) h
 | @frz a ob xs ea=>
  cases(show u=Value.ref a from rx)
  obtain⟨_,_,_,n,_,h1⟩:=(show ObjOk X.prog X.w H s.heap a (.frz ob (.lst xs))from I.hok a _ ea)
  exact vbs PySem.W.kitx_list I.kIn ⟨_,h1,rfl⟩ e (λz=>nomatch z) h
 | @tup a xs ea=>
  cases(show u=Value.ref a from rx)
  obtain⟨_,_,_,p⟩:=(show ObjOk X.prog X.w H s.heap a (.tup xs)from I.hok a _ ea)
  obtain⟨o,h1,h2,_⟩:=p
  exact vbs PySem.W.kitx_tuple I.kIn ⟨o,h1,h2⟩ e (λz=>nomatch z) h
 | @dK a kvs ea=>
  cases(show u=Value.ref a from rx)
  obtain⟨_,_,vs,_,p⟩:=(show ObjOk X.prog X.w H s.heap a (.dK kvs)from I.hok a _ ea)
  obtain⟨o,es,ep,h1,h2,_⟩:=p
  exact vbs PySem.W.kitx_dict I.kIn ⟨o,h1,h2.1⟩ e (λz=>nomatch z) h
 | @dT a kvs ea=>
  cases(show u=Value.ref a from rx)
  obtain⟨_,_,xs,_,o,es,ep,h1,h2,_⟩:=(show ObjOk X.prog X.w H s.heap a (.dT kvs)from I.hok a _ ea)
  exact vbs PySem.W.kitx_dict I.kIn ⟨o,h1,h2.1⟩ e (λz=>nomatch z) h
 | @ins a C dx fs ea cl ha hn htk hm=>
  cases(show u=Value.ref a from rx)
  obtain⟨mA,O,_⟩:=zqt I.hok ea
  obtain⟨od,J,_⟩:=O.look
  exact vbs (PySem.W.kitx_own (cl.get _) cl.hd ha hn htk hm) I.kIn J e (λz=>nomatch z) h
end
structure Room(k:Nat)(A:Around):Prop where
 hd:A.handled=none
 dp:A.depth+3*k+5<recursionLimit
 un:A.units+16*k+200<cLine
theorem Room.deeper{k:Nat}{A:Around}(r:Room (k+1) A)(env:Env):Room k (A.deeper env):=
 ⟨r.hd,by have:=r.dp;show A.depth+1+3*k+5<_;lia,by have:=r.un;show A.units+3+16*k+200<_;lia⟩
theorem Room.depth{k:Nat}{A:Around}(r:Room k A):A.depth<recursionLimit:=by have:=r.dp;lia
theorem Room.units{k:Nat}{A:Around}(r:Room k A):A.units+64<cLine:=by have:=r.un;lia
noncomputable def tNil:TA:=λ_ H Q=>Q [] H
noncomputable def tCons(ta:TE)(tr:TA):TA:=λσ H Q=>ta σ H λx H1=>tr σ H1 λxs H2=>Q (x::xs) H2
section
variable{X:Cx}{e:Expr}{es:List Expr}{te:TE}{t:TA}{pos:Pos}
theorem zhz:PA X [] tNil:=λ_ _ _ _ H Q I h=>Calls.spliced_nil ⟨[],H,I,.nil,h⟩
theorem zdy(ha:PE X e te)(hr:PA X es t)(hs:starEach (e::es) X.env=(false,eval e X.env)::starEach es X.env:=by rfl):PA X (e::es) (tCons te t):=by
 intro pos pins s σ H Q I h
 rw[hs]
 show wpAny _ _ (spliced ((false,eval e X.env)::backTo pos (starEach es X.env))) _ _ s
 refine Calls.spliced_cons (thn (ha pins s σ H _ I h) λu s1 z9=>z9.el λx H1 I1 r1 q1=>?_)
 exact thn (hr pos pins s1 σ H1 _ I1 q1) λus s2 z9=>z9.el λxs H2 I2 r2 q2=>⟨x::xs,H2,I2,.cons r1 r2,q2⟩
noncomputable def tTup(t:TA):TE:=λσ H Q=>t σ H λxs H1=>xs.length<=sizeLine/\∀p,H1 p=none->Q (.ref p) (upd H1 p (.tup xs))
noncomputable def tLst(t:TA):TE:=λσ H Q=>t σ H λxs H1=>xs.length<=sizeLine/\∀p,H1 p=none->Q (.ref p) (upd H1 p (.lst xs))
theorem zt2{x1}(h:PA X es t):PE X (.Tuple es x1 pos) (tTup t):=by
 intro pins s σ H Q I hq
 refine wpAny_Tuple_spliced (thn (h pos pins s σ H _ I hq) λus s1 z9=>z9.el λxs H1 I1 r ⟨z,q⟩=>⟨by rw[<-r.length];exact z,?_⟩)
 have hf:H1 s1.heap.objs.size=none:=I1.hok.fresh (vaa _)
 refine⟨.ref s1.heap.objs.size,upd H1 s1.heap.objs.size (.tup xs),I1.laid (t':=s1.toks) (λb u e=>vae _ e) (vaa _) ?_,rfl,q _ hf⟩
 exact⟨z,us,r,zba.new _ _⟩
theorem zt3(h:PA X es t):PE X (.List es pos) (tLst t):=by
 intro pins s σ H Q I hq
 refine wpAny_List_spliced (thn (h pos pins s σ H _ I hq) λus s1 z9=>z9.el λxs H1 I1 r ⟨z,q⟩=>⟨by rw[<-r.length];exact z,?_⟩)
 have hf:H1 s1.heap.objs.size=none:=I1.hok.fresh (vaa _)
 refine⟨.ref s1.heap.objs.size,upd H1 s1.heap.objs.size (.lst xs),I1.laid (t':=s1.toks) (λb u e=>vae _ e) (vaa _) ?_,rfl,q _ hf⟩
 exact⟨z,us,0,r,va9 _ rfl⟩
end
noncomputable abbrev Sp:=List V->Hp->VK->XK->Prop
noncomputable abbrev CXT:=List Env->Hp->Shared->XK->Value->Shared->Prop
structure Env0(P:Program)(w:World)(K:vga)(mg:Str->Option Value)(base:Heap)(A:Around)(outer:List Env)(s:Shared)(H:Hp):Prop where
 frames:A.frames=some outer
 mod:Mod K mg base
 bs:∀b o,base.get? b=some o->s.heap.get? b=some o/\H b=none
 bsz:base.objs.size<=s.heap.objs.size
 funs:s.heap.FunFrames base outer
 frf:∀b∈frs outer,H b=none
 hok:HOk P w H s.heap
 bare:AllBare s.gens
noncomputable def CE(outer:List Env)(P:Program)(w:World)(H:Hp)(s:Shared)(Q:VK)(u:Value)(s':Shared):Prop:=
 ∃v H',s'.os=s.os/\AllBare s'.gens/\Un (frs outer) [] H H' s.heap s'.heap/\HOk P w H' s'.heap/\RelV v u/\Q v H'
noncomputable def CR(CX:CXT)(outer:List Env)(P:Program)(w:World)(H:Hp)(s:Shared)(Q:VK)(E:XK)(r:Result)(s':Shared):Prop:=
 match r with
 |.ok (.ret u)=>CE outer P w H s Q u s'
 |.ok _=>False
 |.error e=>CX outer H s E e s'
structure FnOk(P:Program)(w:World)(K:vga)(mg:Str->Option Value)(base:Heap)(CX:CXT)(k:Nat)(f:Addr)(fd:FuncData)(ps:List Str)(sp:Sp):Prop where
 len:∀vs H Q E,sp vs H Q E->vs.length=ps.length
 run:∀(A:Around)(outer:List Env)(s:Shared)(H:Hp)(args:Args)(us:List Value)(vs:List V)(Q:VK)(E:XK),Room k A->Env0 P w K mg base A outer s H->BindsTo s fd args (ps.zip us)->Vals vs us->sp vs H Q E->
  codeAny (model P w) A (.call (.ref f) args) (CR CX outer P w H s Q E) s
section
variable{X:Cx}{pins:List (Addr×Obj)}{σ:St}{H:Hp}{s s':Shared}
theorem Inv.env0(I:Inv X pins σ H s):Env0 X.prog X.w X.K X.mg X.base X.A X.stack s H:=
 ⟨I.ok.frames,I.ok.mod,I.bs,vbo I.ok.bsz I.sz,I.stack,I.stkFree,I.hok,I.bare⟩
theorem Inv.after{Q:VK}{u:Value}(I:Inv X pins σ H s)(h:CE X.stack X.prog X.w H s Q u s'):EP X pins σ Q u s':=by
 obtain⟨v,H',os,bare,un,hok,r,q⟩:=h
 obtain⟨hh,g,d,t,os'⟩:=s'
 obtain rfl:os'=s.os:=os
 exact⟨v,H',I.call (h':=hh) (g':=g) (d':=d) (t':=t) (ch:=[]) un hok bare (λb z=>absurd z (by simp)),r,q⟩
end
noncomputable def tCall(sp:Sp)(dvs:List V)(E:XK)(t:TA):TE:=λσ H Q=>t σ H λvs H1=>sp (vs++dvs) H1 Q E
noncomputable def Binds(K:vga)(fd:FuncData)(ps:List Str)(ds:List Value):Prop:=
 ∀(s:Shared)(us:List Value),K.In s.heap->(us++ds).length=ps.length->BindsTo s fd ⟨us,[]⟩ (ps.zip (us++ds))
theorem Binds.all{K:vga}{fd:FuncData}{ps:List Str}(h:∀us:List Value,us.length=ps.length->bindArgs fd ⟨us,[]⟩=pure (ps.zip us)):Binds K fd ps []:=λs us _ hl=>by
 rw[vbp]at hl ⊢
 exact .of_eq (h us hl)
noncomputable def zh0(CX:CXT)(X:Cx)(E:XK):Prop:=∀(pins:List (Addr×Obj)) (σ:St) (H:Hp) (s:Shared) (e:Value) (s':Shared),Inv X pins σ H s->CX X.stack H s E e s'->X.xe e s'
section
variable{X:Cx}{CX:CXT}{k:Nat}{f C:Addr}{fd:FuncData}{ps:List Str}{sp:Sp}{dvs:List V}{ds:List Value}{E:XK}{x m:Str}{p pos apos:Pos}{e o:Expr}{es:List Expr}{ta:TE}{t:TA}
theorem zo0{pins:List (Addr×Obj)}{σ:St}{H:Hp}{s:Shared}{Q:VK}{us:List Value}{vs:List V}(F:FnOk X.prog X.w X.K X.mg X.base CX k f fd ps sp)(hr:Room k X.A)(hb:Binds X.K fd ps ds)(hd:Vals dvs ds)(hx:zh0 CX X E)
 (I:Inv X pins σ H s) (r:Vals vs us) (h:sp (vs++dvs) H Q E):wpAny (model X.prog X.w) X.A (call (.ref f) us) (EP X pins σ Q) X.xe s:=by
 have r2:Vals (vs++dvs) (us++ds):=r.append hd
 have hl:(us++ds).length=ps.length:=by rw[<-r2.length];exact F.len _ _ _ _ h
 refine wpAny_call (codeAny_mono (F.run X.A X.stack s H ⟨us,[]⟩ (us++ds) (vs++dvs) Q E hr I.env0 (hb s us I.kIn hl) r2 h) λr s' hq=>?_)
 cases r with
 |error e=>exact hx pins σ H s e s' I hq
 |ok fl=>
  cases fl with
  |ret u=>exact I.after hq
  |next=>exact False.elim hq
  |brk=>exact False.elim hq
  |cont=>exact False.elim hq
theorem zkj(F:FnOk X.prog X.w X.K X.mg X.base CX k f fd ps sp)(hr:Room k X.A)(hg:Gl X x)(hm:X.mg x=some (.ref f))(hk:PySem.W.keepIn X.K (.ref f)=true)(hb:Binds X.K fd ps ds)(hd:Vals dvs ds)(hx:zh0 CX X E)
 (ha:PA X (e::es) t) (hdb:(x==("__debug__" : Str))=false:=by decide) (he:starEach (e::es) X.env=(false,eval e X.env)::starEach es X.env:=by rfl) (hpl:(backTo pos (starEach es X.env)).any (·.1)=false:=by rfl) :
 PE X (.Call (.Name x p) (e::es) [] pos) (tCall sp dvs E t):=by
 intro pins s σ H Q I h
 refine vd9 (zg7 I hg hm ?_ hdb)
 refine PySem.W.callWith_K (h₀:=X.base) I.ok.mod.kin hk (thn (ha pos pins s σ H _ I h) λus s1 z9=>z9.el λvs H1 I1 r q=>⟨I1.kIn,?_⟩) he hpl
 exact zo0 F hr hb hd hx I1 r q
theorem zne(F:FnOk X.prog X.w X.K X.mg X.base CX k f fd ps sp)(hr:Room k X.A)(hg:Gl X x)(hm:X.mg x=some (.ref f))(hk:PySem.W.keepIn X.K (.ref f)=true)(hb:Binds X.K fd ps ds)(hd:Vals dvs ds)(hx:zh0 CX X E)
 (hdb:(x==("__debug__" : Str))=false:=by decide):PE X (.Call (.Name x p) [] [] pos) (tCall sp dvs E tNil):=by
 intro pins s σ H Q I h
 refine vd9 (zg7 I hg hm ?_ hdb)
 exact PySem.W.callWith_K0 I.kIn hk (zo0 (us:=[]) F hr hb hd hx I .nil h)
end
structure FnScope(N P:List Str)(sc:Scope):Prop where
 kind:sc.kind=.function
 co:sc.isCoroutine=false
 gen:sc.isGenerator=false
 nd:N.Nodup
 pre:N.take P.length=P
 par:∀x∈P,sc.names.lookup x=some .local\/sc.names.lookup x=some .cell
 nofree:∀y∈sc.names,y.2≠.free
theorem zf4{kindOf:Str->Option NameKind}{x:Str}:∀{binds:List (Str×Value)} {m:Str->Option Value},(∀v,(x,v)∉binds)->bindL kindOf binds m x=m x
 |[],_,_=>rfl
 |(n,v)::r,m,h=>by
  unfold bindL
  rw[zf4 λw hw=>h w (vaf _ hw)]
  split
  .have:x≠n:=by rintro rfl;exact h v vak
   simp[this]
  .rfl
theorem zf5{kindOf:Str->Option NameKind}{x:Str}:∀{binds:List (Str×Value)} {m:Str->Option Value},(∀v,(x,v)∉binds)->bindC kindOf binds m x=m x
 |[],_,_=>rfl
 |(n,v)::r,m,h=>by
  unfold bindC
  rw[zf5 λw hw=>h w (vaf _ hw)]
  split
  .rfl
  .have:x≠n:=by rintro rfl;exact h v vak
   simp[this]
theorem zf6{kindOf:Str->Option NameKind}{x:Str}{v:Value}:∀{P:List Str} {vs:List Value} {i:Nat} {m:Str->Option Value},P.Nodup->P[i]?=some x->vs[i]?=some v->kindOf x=some .local->
 bindL kindOf (P.zip vs) m x=some v
 |[],_,_,_,_,h,_,_=>by simp at h
 |_::_,[],_,_,_,_,h,_=>by simp at h
 |p::P,w::vs,0,m,nd,h1,h2,hk=>by
  simp at h1 h2;subst h1;subst h2
  show bindL kindOf ((p,w)::P.zip vs) m p=_
  unfold bindL
  rw[zf4 λv hv=>(vdo.mp nd).1 (List.of_mem_zip hv).1,if_pos hk]
  simp
 |p::P,w::vs,i+1,m,nd,h1,h2,hk=>by
  show bindL kindOf ((p,w)::P.zip vs) m x=_
  unfold bindL
  exact zf6 (i:=i) (vdo.mp nd).2 (by simpa using h1) (by simpa using h2) hk
theorem zf7{kindOf:Str->Option NameKind}{x:Str}{v:Value}:∀{P:List Str} {vs:List Value} {i:Nat} {m:Str->Option Value},P.Nodup->P[i]?=some x->vs[i]?=some v->kindOf x≠some .local->
 bindC kindOf (P.zip vs) m x=some v
 |[],_,_,_,_,h,_,_=>by simp at h
 |_::_,[],_,_,_,_,h,_=>by simp at h
 |p::P,w::vs,0,m,nd,h1,h2,hk=>by
  simp at h1 h2;subst h1;subst h2
  show bindC kindOf ((p,w)::P.zip vs) m p=_
  unfold bindC
  rw[zf5 λv hv=>(vdo.mp nd).1 (List.of_mem_zip hv).1,if_neg hk]
  simp
 |p::P,w::vs,i+1,m,nd,h1,h2,hk=>by
  show bindC kindOf ((p,w)::P.zip vs) m x=_
  unfold bindC
  exact zf7 (i:=i) (vdo.mp nd).2 (by simpa using h1) (by simpa using h2) hk
noncomputable def start(N:List Str)(vs:List V):St:=vs.map some++vgc (N.length-vs.length) none
noncomputable def cxOf(CX:CXT)(P:Program)(w:World)(K:vga)(mg:Str->Option Value)(base:Heap)(N:List Str)(qual:Str)(scope:Scope)(f:Addr)(cd:Value)(A:Around)(outer:List Env)(s:Shared)(H:Hp)(E:XK):Cx where
 prog:=P
 w:=w
 K:=K
 mg:=mg
 base:=base
 A:=A.deeper (envOfC qual scope s.heap.objs.size f cd)
 N:=N
 s₀:=s
 H₀:=H
 env:=envOfC qual scope s.heap.objs.size f cd
 outer:=outer
 stack:=envOfC qual scope s.heap.objs.size f cd::outer
 ex:=[]
 calm:=true
 fn:=λ_=>true
 pn:=[]
 xe:=λe s'=>wpAny (model P w) (A.deeper (envOfC qual scope s.heap.objs.size f cd)) (leaving (envOfC qual scope s.heap.objs.size f cd) e) (λ_ s''=>CX outer H s E e s'') (λe' s''=>CX outer H s E e' s'') s'
theorem zh1{sc:Scope}{n:Nat}{x:Str}(h:sc.names.lookup x=some .cell):∃c,(cellsFrom n sc.names []).lookup x=some c:=by
 have q:=PySem.W.cellsFrom_some sc.names n [] (.inl h)
 exact Option.isSome_iff_exists.mp q
theorem zkk{CX:CXT}{P:Program}{w:World}{K:vga}{mg:Str->Option Value}{base:Heap}{N ps:List Str}{qual:Str}{scope:Scope}{f:Addr}{cd:Value}{A:Around}{outer:List Env}{s s1:Shared}{H:Hp}{E:XK}{us:List Value}{vs:List V}
 (S:FnScope N ps scope) (hd:A.handled=none) (e0:Env0 P w K mg base A outer s H) (hl:vs.length=ps.length) (r:Vals vs us)
 (x:InCallC s s.heap.objs.size (bindL (envOfC qual scope s.heap.objs.size f cd).kindOf (ps.zip us) λ_=>none) (cellsFrom (s.heap.objs.size+1) scope.names []) (bindC (envOfC qual scope s.heap.objs.size f cd).kindOf (ps.zip us) λ_=>none) s1) :
 Inv (cxOf CX P w K mg base N qual scope f cd A outer s H E) [] (start N vs) H s1:=by
 have hpl:ps.length<=N.length:=by have:=vd8 List.length S.pre;rw[vbj]at this;lia
 obtain⟨h1,tk,rfl,hk⟩:=x.done
 have noA:∀b:Addr,b∉(cxOf CX P w K mg base N qual scope f cd A outer s H E).ex:=λb z=>absurd (show b∈([]:List Addr)from z) (by simp)
 refine⟨⟨e0.mod,S.kind,rfl,rfl,vaa _,λy z c h1 h2=>?_,λy hy=>?_,λy c _ h=>?_,λ_=>hd,Around.frames_deeper e0.frames,.inr ⟨rfl,rfl⟩,λb z=>absurd z (noA b),e0.bs,e0.bsz,λb _ _=>noA b,λb z=>absurd z (noA b),e0.funs,e0.frf⟩,
  rfl,e0.bare,Un.kept hk,⟨_,x.toInCall.ns,λi y v h1 h2 h3=>?_⟩,λy c h=>⟨_,x.cell y c h⟩,e0.hok.fresh (vaa _),λy c h=>?_,λp hp=>absurd (show p∈([]:List (Addr×Obj))from hp) (by simp),e0.hok.kept hk,?_⟩
 .exact name_of_addr x.apart (vdg h1) (vdg h2)
 .have hy:scope.names.lookup y=some .cell\/scope.names.lookup y=some .free:=hy
  rcases hy with hy|hy
  .exact zh1 hy
  .exact absurd rfl (S.nofree _ (vdg hy))
 .exact vdf (x.above y c (vdg h))
 .have hi:i<vs.length:=by
   unfold start at h2
   by_cases hi:i<vs.length
   .exact hi
   .rw[vay (by simpa using hi)]at h2
    rw[vdh]at h2
    split at h2<;>cases h2
  have ha:vs[i]?=some v:=by
   unfold start at h2
   rw[vbv (by simpa using hi),va5]at h2
   cases e:vs[i]? with
   |none=>rw[e]at h2;cases h2
   |some a=>rw[e]at h2;cases h2;rfl
  obtain⟨u,hu,rv⟩:=r.get ha
  have hp:ps[i]?=some y:=by
   rw[<-S.pre,List.getElem?_take_of_lt (by lia)];exact h1
  have ndP:ps.Nodup:=by rw[<-S.pre];exact S.nd.sublist (List.take_sublist _ _)
  refine⟨u,rv,?_⟩
  rcases S.par y (vdz hp)with k|k
  .exact .inl ⟨k,zf6 ndP hp hu k⟩
  .obtain⟨c,e⟩:=zh1 (n:=s.heap.objs.size+1) k
   refine .inr ⟨.inl k,c,e,?_⟩
   have q:=x.cell y c e
   rw[zf7 ndP hp hu (by show scope.names.lookup y≠_;rw[k];decide)]at q
   exact q
 .exact e0.hok.fresh (vdf (x.above y c (vdg h)))
 .unfold start
  show _=N.length
  rw[vaj,vah,vcn]
  lia
theorem fn_of{CX:CXT}{P:Program}{w:World}{K:vga}{mg:Str->Option Value}{base:Heap}{k:Nat}{f:Addr}{name qual:Str}{params:Arguments}{body:List Stmt}{scope:Scope}{dV kV doc pm cdv ct oc:Value}{an od:Option Addr}
 {osl:Array (Option Value)} {N ps:List Str} {sp:Sp} (lk:K.lookup f=some ⟨oc,od,.func (PySem.W.fnOf name qual params body scope dV kV doc pm an cdv ct),osl⟩) (hcd:PySem.W.codeIn K cdv qual=true) (S:FnScope N ps scope)
 (len:∀vs H Q E,sp vs H Q E->vs.length=ps.length)
 (hbody:∀(A:Around)(outer:List Env)(s:Shared)(H:Hp)(vs:List V)(Q:VK)(E:XK),Room k (A.deeper (envOfC qual scope s.heap.objs.size f cdv))->sp vs H Q E->
   ∃t,PSs (cxOf CX P w K mg base N qual scope f cdv A outer s H E) body t/\t {nx:=λ_ H'=>Q .non H',rt:=Q} (start N vs) H) :
 FnOk P w K mg base CX (k+1) f (PySem.W.fnOf name qual params body scope dV kV doc pm an cdv ct) ps sp:=by
 refine⟨len,λA outer s H args us vs Q E hr e0 hb r hsp=>?_⟩
 have hl:=len _ _ _ _ hsp
 have KX:K.In s.heap:=e0.mod.kin.keeps λb o e=>(e0.bs b o e).1
 have lim:s.heap.NoLimit:=e0.mod.nolimit.keeps λb o e=>(e0.bs b o e).1
 have hkind:∀y∈ps.zip us,scope.names.lookup y.1=some .local\/(scope.names.lookup y.1=some .cell/\((cellsFrom (s.heap.objs.size+1) scope.names []).lookup y.1).isSome=true):=λhq0 hy=>by
  obtain⟨n,v⟩:=hq0
  rcases S.par n (List.of_mem_zip hy).1 with q|q
  .exact .inl q
  .exact .inr ⟨q,PySem.W.cellsFrom_some _ _ _ (.inl q)⟩
 refine codeAny_call_function hr.depth (KX _ _ lk) rfl S.co S.gen rfl (PySem.W.codeRec_of KX hcd) (hb _ _ _ _ ?_)
 refine wpAny_newFunctionEnv_cells S.kind hkind λenv he s1 x=>?_
 subst he
 refine⟨lim.keeps x.toInCall.keep,codeAny_func ?_⟩
 obtain⟨t,ht,hq⟩:=hbody A outer s H vs Q E (hr.deeper _) hsp
 have I:Inv (cxOf CX P w K mg base N qual scope f cdv A outer s H E) [] (start N vs) H s1:=zkk S hr.hd e0 hl r x
 refine vbz (ht [] s1 (start N vs) H _ I hq) (λfl s' hs=>?_) λe s' hs=>hs
 have fin:∀{σ':St}{H':Hp}{v:V}{u:Value},Inv (cxOf CX P w K mg base N qual scope f cdv A outer s H E) [] σ' H' s'->RelV v u->Q v H'->CE outer P w H s Q u s':=
  λ{σ' H' v u} J rv q=>⟨v,H',J.os,J.bare,J.base,J.hok,rv,q⟩
 cases fl with
 |ret u=>
  obtain⟨v,σ',H',J,rv,q⟩:=hs
  exact fin J rv q
 |next=>
  obtain⟨σ',H',J,q⟩:=hs
  exact fin (v:=V.non) (u:=Value.none) J rfl q
 |brk=>
  obtain⟨_,_,_,q⟩:=hs
  exact False.elim q
 |cont=>
  obtain⟨_,_,_,q⟩:=hs
  exact False.elim q
section
variable{X:Cx}{x:Str}{p pos:Pos}{e:Expr}{es:List Expr}{t:TA}{id T:String}{r:List V->Hp->VK->Prop}
noncomputable def tCB(r:List V->Hp->VK->Prop)(t:TA):TE:=λσ H Q=>t σ H λvs H1=>r vs H1 Q
theorem zh2(hc:CallR X (.builtin id) r)(hg:Gl X x)(hm:X.mg x=none)(hv:bootBuiltins x=some (.builtin id))(ha:PA X (e::es) t)(hn:x≠"__name__":=by decide)(hdb:(x==("__debug__" : Str))=false:=by decide)
 (he:starEach (e::es) X.env=(false,eval e X.env)::starEach es X.env:=by rfl) (hpl:(backTo pos (starEach es X.env)).any (·.1)=false:=by rfl):PE X (.Call (.Name x p) (e::es) [] pos) (tCB r t):=by
 intro pins s σ H Q I h
 refine vd9 (zem I hg hm hv ?_ hn hdb)
 exact PyProof.Rows.callWith_builtin1 (thn (ha pos pins s σ H _ I h) λus s1 z9=>z9.el λvs H1 I1 r1 q1=>hc pins s1 σ H1 vs us Q I1 r1 q1) he hpl
theorem zkl(hc:CallR X (.type T) r)(hg:Gl X x)(hm:X.mg x=none)(hv:bootBuiltins x=some (.type T))(ha:PA X (e::es) t)(hn:x≠"__name__":=by decide)(hdb:(x==("__debug__" : Str))=false:=by decide)
 (he:starEach (e::es) X.env=(false,eval e X.env)::starEach es X.env:=by rfl) (hpl:(backTo pos (starEach es X.env)).any (·.1)=false:=by rfl):PE X (.Call (.Name x p) (e::es) [] pos) (tCB r t):=by
 intro pins s σ H Q I h
 refine vd9 (zem I hg hm hv ?_ hn hdb)
 exact vc3 (thn (ha pos pins s σ H _ I h) λus s1 z9=>z9.el λvs H1 I1 r1 q1=>hc pins s1 σ H1 vs us Q I1 r1 q1) he hpl
end
end L2
namespace HT
open PySem PyProof.Rows
section
variable{prog:Program}{w:World}{A:Around}{E:Value->Shared->Prop}{s:Shared}
theorem cat_tup{t b:Addr}{vs ws:List Value}{Q:Value->Shared->Prop}(ht:IsTup s.heap t vs.toArray)(hb:IsTup s.heap b ws.toArray)(hv:vs≠[])
 (h1:ws=[]->Q (.ref t) s) (h2:ws≠[]->Q (.ref s.heap.objs.size) {s with heap:=s.heap.push {cls:=.type "tuple",data:=.seq (vs++ws).toArray}})
 (hsz:vs.length+ws.length<=sizeLine):wpAny (model prog w) A (binaryOp .Add (.ref t) (.ref b)) Q E s:=by
 obtain⟨⟨cls,dd,data,sl⟩,ho,hc,n,hd⟩:=id ht
 obtain⟨⟨cls2,dd2,data2,sl2⟩,ho2,hc2,n2,hd2⟩:=id hb
 simp only at hc hd hc2 hd2
 subst hc hd hc2 hd2
 have e:vs.toArray++ws.toArray=(vs++ws).toArray:=by simp
 by_cases hw:ws=[]
 .exact concat_meets ⟨_,ho,rfl⟩ ⟨_,ho2,rfl⟩ vd1 ven vc4 vcx (vcu _ _)
   (tuple_addW1 t b vs.toArray ws.toArray n n2 dd dd2 sl sl2 (by simpa using hv) (by simp[hw])) ⟨ho,ho2,h1 hw⟩
 .refine concat_meets ⟨_,ho,rfl⟩ ⟨_,ho2,rfl⟩ vd1 ven vc4 vcx (vcu _ _)
   (tuple_addW2 t b vs.toArray ws.toArray n n2 dd dd2 sl sl2 (by simpa using hv) (by simpa using hw) (by rw[vad,vad];exact hsz)) ⟨ho,ho2,?_⟩
  rw[e]
  exact h2 hw
noncomputable def sIx(n d:Nat):Option Int->Nat
 |none=>d
 |some v=>if v<0 then(v+ (n:Int)).toNat else min v.toNat n
theorem zt4(n d:Nat)(hd:d<=n)(o:Option Int):sIx n d o<=n:=by
 cases o with
 |none=>exact hd
 |some v=>
  show(if v<0 then(v+ (n:Int)).toNat else min v.toNat n)<=n
  by_cases hv:v<0
  .rw[if_pos hv];lia
  .rw[if_neg hv];exact Nat.min_le_right _ _
theorem zkm(v:Int)(n d:Nat):(if v<0 then max (v+ (n:Int)) 0 else min v (n:Int))=((sIx n d (some v):Nat):Int):=by
 show(if v<0 then max (v+ (n:Int)) 0 else min v (n:Int))=(((if v<0 then(v+ (n:Int)).toNat else min v.toNat n):Nat):Int)
 by_cases hv:v<0
 .simp only[if_pos hv];lia
 .simp only[if_neg hv];lia
theorem zjl(lo hi:Option Int)(n:Nat):Builtin.Slice.sliceAdjust lo hi 1 (n:Int)=(((sIx n 0 lo:Nat):Int),((sIx n n hi:Nat):Int)):=by
 have h1:¬((1:Int)<0):=by lia
 unfold Builtin.Slice.sliceAdjust
 simp only[h1,vbi]
 refine Prod.ext ?_ ?_
 .cases lo with
  |none=>rfl
  |some v=>exact zkm v n 0
 .cases hi with
  |none=>rfl
  |some v=>exact zkm v n n
theorem zjm(i j:Nat):Builtin.Slice.slicePlaces (i:Int) (j:Int) 1=j-i:=by
 unfold Builtin.Slice.slicePlaces
 have h1:(1:Int)>0:=by lia
 simp only[h1,vbe,Int.ediv_one]
 split<;>lia
theorem zep{v:Value}{o:Option Int}{Q:Option Int->Shared->Prop}(p:IsPart v o)(h:Q o s):wpAny (model prog w) A (Builtin.Slice.slicePartIndex v) Q E s:=by
 cases p with
 |none=>exact slicePart_none h
 |int i t=>exact slicePart_int h
theorem zbv{sl:Addr}{vl vu:Value}{lo hi:Option Int}{n:Nat}{Q:Int×Int×Nat->Shared->Prop}(hs:s.heap.IsSliceOf sl vl vu .none)(pl:IsPart vl lo)(pu:IsPart vu hi)
 (h:Q (((sIx n 0 lo:Nat):Int),1,sIx n n hi-sIx n 0 lo) s):wpAny (model prog w) A (Builtin.Slice.sliceApplied (.ref sl) (pure (n:Int))) Q E s:=by
 obtain⟨os,hos,hcs,hds⟩:=id hs
 unfold Builtin.Slice.sliceApplied Builtin.Slice.sliceFields
 refine vac (vac (vee hos hds (x:=vl) rfl (vac (vee hos hds (x:=vu) rfl (vac (vee hos hds (x:=.none) rfl (vas ?_)))))))
 refine vac (slicePart_none ?_)
 show wpAny _ _ (if((1:Int)==0)=true then _ else _) _ _ s
 rw[if_neg (by decide)]
 refine vac (zep pl (vac (zep pu (vac (vas ?_)))))
 show wpAny _ _ (match Builtin.Slice.sliceAdjust lo hi 1 (n:Int)with|(lo,hi)=>pure (lo,(1:Int),Builtin.Slice.slicePlaces lo hi 1)) _ _ s
 rw[zjl lo hi n]
 show wpAny _ _ (pure (((sIx n 0 lo:Nat):Int),(1:Int),Builtin.Slice.slicePlaces ((sIx n 0 lo:Nat):Int) ((sIx n n hi:Nat):Int) 1)) _ _ s
 rw[zjm]
 exact vas h
theorem znf(xs:Array Value)(i k:Nat):((List.range k).filterMap λ(m:Nat)=>xs[((i:Int)+ (m:Int)*1).toNat]?).toArray=((xs.toList.drop i).take k).toArray:=by
 have e:(λ(m:Nat)=>xs[((i:Int)+ (m:Int)*1).toNat]?)=λm=>xs[i+m]?:=by
  funext m
  have:((i:Int)+ (m:Int)*1).toNat=i+m:=by lia
  rw[this]
 rw[e]
 have:=pick_run xs i k
 rw[List.filterMap_map]at this
 have e2:((λx=>xs[x]?)∘λx=>i+x)=λm=>xs[i+m]?:=rfl
 rw[e2]at this
 rw[this]
theorem getItem_tuple_cut{t sl:Addr}{items:Array Value}{vl vu:Value}{lo hi:Option Int}{Q:Value->Shared->Prop}(ht:IsTup s.heap t items)(hs:s.heap.IsSliceOf sl vl vu .none)(pl:IsPart vl lo)(pu:IsPart vu hi)
 (hw:¬(sIx items.size 0 lo=0/\sIx items.size items.size hi=items.size))
 (h:Q (.ref s.heap.objs.size) {s with heap:=s.heap.push {cls:=.type "tuple",data:=.seq ((items.toList.drop (sIx items.size 0 lo)).take (sIx items.size items.size hi-sIx items.size 0 lo)).toArray}})
 (hsz:items.size<=sizeLine):wpAny (model prog w) A (getItem (.ref t) (.ref sl)) Q E s:=by
 have htake:sizeOk (.seq ((items.toList.drop (sIx items.size 0 lo)).take (sIx items.size items.size hi-sIx items.size 0 lo)).toArray):=by
  show((items.toList.drop (sIx items.size 0 lo)).take (sIx items.size items.size hi-sIx items.size 0 lo)).toArray.size<=sizeLine
  rw[vad,vbj,vbk,vc2]
  lia
 have hj:sIx items.size items.size hi<=items.size:=zt4 _ _ (vaa _) hi
 obtain⟨os,hos,hcs,hds⟩:=id hs
 have hTs:s.TypeIs (.ref sl) "slice":=⟨os,hos,hcs⟩
 unfold getItem
 try with_reducible refine vcg ?_
 first|refine vac (vas ?_)|skip
 refine vac (wpAny_sequenceKey ht.typeIs (by decide) ?_)
 refine vac (vdi (name:=Str.ofString "__getitem__") ht.typeIs vbq
  (vd2 vbq ht.typeIs entry_tuple_getitem ?_ (args_tuple_getitem _ _)))
 show wpAny _ _ (Builtin.Tuple.tupleItemsOf (.ref t) >>= _) _ _ s
 refine vac (tupleItemsOf_ ht ?_)
 refine vac (ve2 hTs ?_)
 rw[if_pos (by decide)]
 refine vac (zbv hs pl pu ?_)
 have hno:¬((((sIx items.size 0 lo:Nat):Int)==0&& (1:Int)==1&& (sIx items.size items.size hi-sIx items.size 0 lo)==items.size)=true):=by
  intro q
  rw[vab,vab]at q
  have q1:((sIx items.size 0 lo:Nat):Int)=0:=eq_of_beq q.1.1
  have q2:sIx items.size items.size hi-sIx items.size 0 lo=items.size:=eq_of_beq q.2
  exact hw ⟨by lia,by lia⟩
 show wpAny _ _ (if(((sIx items.size 0 lo:Nat):Int)==0&& (1:Int)==1&& (sIx items.size items.size hi-sIx items.size 0 lo)==items.size)=true then _ else _) _ _ s
 rw[if_neg hno,znf]
 first
  |exact vac (m:=Builtin.Tuple.tupleExact _) (vck (vas ⟨_,rfl,vas h⟩) htake)
  |exact vac (m:=Builtin.Tuple.tupleExact _) (vck (vac (vas (vas ⟨_,rfl,vas h⟩))) htake)
  |exact vac (vac (m:=Builtin.Tuple.tupleExact _) (vck (vas (vas ⟨_,rfl,vas h⟩)) htake))
  |exact vac (vac (m:=Builtin.Tuple.tupleExact _) (vck (vas ⟨_,rfl,vas h⟩) htake))
end
end HT
namespace L2
open PySem PySem.Spec PyProof.Rows
noncomputable abbrev TO:=St->Hp->(Option Int->Hp->Prop)->Prop
noncomputable def PO(X:Cx)(e:Option Expr)(t:TO):Prop:=
 ∀(pins:List (Addr×Obj))(s:Shared)(σ:St)(H:Hp)(Q:Option Int->Hp->Prop),Inv X pins σ H s->t σ H Q->
  wpAny (model X.prog X.w) X.A (evalPart e X.env) (λu s'=>∃o H',Inv X pins σ H' s'/\IsPart u o/\Q o H') X.xe s
noncomputable def zqu:TO:=λ_ H Q=>Q none H
noncomputable def tPart(t:TE):TO:=λσ H Q=>t σ H λx H1=>∃i,x=.int i/\Q (some i) H1
section
variable{X:Cx}{e:Expr}{te:TE}{lo hi:Option Expr}{tl th:TO}{pos p2:Pos}
theorem zqv:PO X none zqu:=by
 intro pins s σ H Q I h
 rw[evalPart_none]
 exact vas ⟨none,H,I,.none,h⟩
theorem zqw(h:PE X e te):PO X (some e) (tPart te):=by
 intro pins s σ H Q I hw
 rw[evalPart_some]
 refine thn (h pins s σ H _ I hw) λu s1 z9=>z9.el λx H1 I1 r1 q1=>?_
 obtain⟨i,rfl,q⟩:=q1
 obtain⟨t,rfl⟩:=r1
 exact⟨some i,H1,I1,.int i t,q⟩
noncomputable def SlR(X:Cx)(r:V->Option Int->Option Int->Hp->VK->Prop):Prop:=
 ∀(pins:List (Addr×Obj))(s:Shared)(σ:St)(H:Hp)(x:V)(v vl vu:Value)(lo hi:Option Int)(sl:Addr)(Q:VK),Inv X pins σ H s->RelV x v->s.heap.IsSliceOf sl vl vu .none->IsPart vl lo->IsPart vu hi->r x lo hi H Q->
  ∃T id,typeLookup (.type T) "__getitem__" = pure (some (.builtin id))/\s.TypeIs v T/\wpAny (model X.prog X.w) X.A (getItem v (.ref sl)) (EP X pins σ Q) X.xe s
theorem SlR.or{r r':V->Option Int->Option Int->Hp->VK->Prop}(h:SlR X r)(h':SlR X r'):SlR X (λx lo hi H Q=>r x lo hi H Q\/r' x lo hi H Q):=by
 intro pins s σ H x v vl vu lo hi sl Q I rx hs pl pu q
 rcases q with q|q
 .exact h pins s σ H x v vl vu lo hi sl Q I rx hs pl pu q
 .exact h' pins s σ H x v vl vu lo hi sl Q I rx hs pl pu q
noncomputable def tSl(r:V->Option Int->Option Int->Hp->VK->Prop)(te:TE)(tl th:TO):TE:=λσ H Q=>te σ H λx H1=>tl σ H1 λl H2=>th σ H2 λu H3=>r x l u H3 Q
theorem zng{r:V->Option Int->Option Int->Hp->VK->Prop}(hr:SlR X r)(he:PE X e te)(hl:PO X lo tl)(hu:PO X hi th):PE X (.Subscript e (.Slice lo hi none p2) pos) (tSl r te tl th):=by
 intro pins s σ H Q I h
 refine Subscript_ (thn (he pins s σ H _ I h) λv s1 z9=>z9.el λx H1 I1 r1 q1=>?_)
 refine wpAny_Slice (thn (hl pins s1 σ H1 _ I1 q1) λvl s2 ⟨l,H2,I2,pl,q2⟩=>thn (hu pins s2 σ H2 _ I2 q2) λvu s3 hq0=>?_)
 obtain⟨u,H3,I3,pu,q3⟩:=hq0
 rw[evalPart_none]
 refine vas ?_
 have I4:Inv X pins σ H3 {s3 with heap:=s3.heap.push {cls:=.type "slice",data:=.fields #[vl,vu,.none]}}:=I3.kept (t':=s3.toks) λb ob q=>vae _ q
 obtain⟨T,id,hT,ht,hg⟩:=hr pins {s3 with heap:=s3.heap.push {cls:=.type "slice",data:=.fields #[vl,vu,.none]}} σ H3 x v vl vu l u s3.heap.objs.size Q I4 r1 (Heap.IsSliceOf.new ..) pl pu q3
 show wpAny (model X.prog X.w) X.A (subscriptTail e (.Slice lo hi none p2) v (.ref s3.heap.objs.size)) (EP X pins σ Q) X.xe {s3 with heap:=s3.heap.push {cls:=.type "slice",data:=.fields #[vl,vu,.none]}}
 exact tail_any (ops:=[.ref s3.heap.objs.size,v]) ht hT hg (by with_unfolding_all rfl)
noncomputable def cutV(xs:List V)(lo hi:Option Int):List V:=(xs.drop (HT.sIx xs.length 0 lo)).take (HT.sIx xs.length xs.length hi-HT.sIx xs.length 0 lo)
theorem zdz(xs:List V)(lo hi:Option Int):(cutV xs lo hi).length<=xs.length:=by
 unfold cutV
 rw[vbj,vbk]
 lia
noncomputable def rSlT(K:vga):V->Option Int->Option Int->Hp->VK->Prop:=λx lo hi H Q=>∃a xs,x=.ref a/\SqT K H a xs/\
 ¬(HT.sIx xs.length 0 lo=0/\HT.sIx xs.length xs.length hi=xs.length)/\∀p,H p=none->Q (.ref p) (upd H p (.tup (cutV xs lo hi)))
theorem zt5:SlR X (rSlT X.K):=by
 intro pins s σ H x v vl vu lo hi sl Q I rx hs pl pu h
 obtain⟨a,xs,rfl,hx,hw,q⟩:=h
 cases rx
 obtain⟨its,r,ht,hz⟩:=I.tuple hx
 have hlen:its.toArray.size=xs.length:=by rw[vad];exact r.length.symm
 refine⟨"tuple",_,vbq.lookup,ht.typeIs,?_⟩
 refine HT.getItem_tuple_cut ht hs pl pu (by rw[hlen];exact hw) ?_ (by rw[hlen];exact hz)
 rw[hlen]
 refine⟨.ref s.heap.objs.size,_,I.laid (t':=s.toks) (o:=.tup (cutV xs lo hi)) (λb ob q=>vae _ q) (vaa _) ?_,rfl,q _ (I.hok.fresh (vaa _))⟩
 exact⟨vbo (zdz xs lo hi) hz,_,(r.drop (HT.sIx xs.length 0 lo)).take (HT.sIx xs.length xs.length hi-HT.sIx xs.length 0 lo),zba.new _ _⟩
noncomputable def rCatT(K:vga):R2:=λx y H Q=>∃a b xs ys,x=.ref a/\y=.ref b/\SqT K H a xs/\SqT K H b ys/\xs≠[]/\xs.length+ys.length<=sizeLine/\
 (ys=[]->Q (.ref a) H)/\(ys≠[]->∀p,H p=none->Q (.ref p) (upd H p (.tup (xs++ys))))
theorem Vals.nil_iff{xs:List V}{us:List Value}(r:Vals xs us):us=[]↔xs=[]:=by
 cases r with
 |nil=>simp
 |cons _ _=>simp
theorem zqx:OpR X (binaryOp .Add) (rCatT X.K):=by
 intro pins s σ H x y v u Q I rx ry h
 obtain⟨a,b,xs,ys,rfl,rfl,ha,hb,hx,hz,q1,q2⟩:=h
 cases rx
 cases ry
 obtain⟨its,r1,p1,_⟩:=I.tuple ha
 obtain⟨its2,r2,p2,_⟩:=I.tuple hb
 refine HT.cat_tup p1 p2 (λz=>hx (r1.nil_iff.mp z)) (λz=>⟨.ref a,H,I,rfl,q1 (r2.nil_iff.mp z)⟩) (λz=>?_) (by rw[<-r1.length,<-r2.length];exact hz)
 refine⟨.ref s.heap.objs.size,_,I.laid (t':=s.toks) (o:=.tup (xs++ys)) (λb ob q=>vae _ q) (vaa _) ?_,rfl,q2 (λw=>z (r2.nil_iff.mpr w)) _ (I.hok.fresh (vaa _))⟩
 exact⟨by rw[vaj];exact hz,_,r1.append r2,zba.new _ _⟩
end
noncomputable def ixN(n:Nat)(i:Int):Option Nat:=if 0<=i then(if i<n then some i.toNat else none)else if -(n:Int)<=i then some (i+n).toNat else none
noncomputable def atI{α:Type}(xs:List α)(i:Int):Option α:=(ixN xs.length i).bind λj=>xs[j]?
theorem zkn{n:Nat}{i:Int}{j:Nat}(h:ixN n i=some j):seqIndex? i n=some j/\j<n/\-(n:Int)<=i/\i<n:=by
 unfold ixN at h
 by_cases h0:0<=i
 .rw[if_pos h0]at h
  by_cases h1:i<n
  .rw[if_pos h1]at h
   have e:i.toNat=j:=vb7 h
   exact⟨by rw[seqIndex_of h0 h1,e],by lia,by lia,h1⟩
  .rw[if_neg h1]at h;cases h
 .rw[if_neg h0]at h
  by_cases h1:-(n:Int)<=i
  .rw[if_pos h1]at h
   have e:(i+n).toNat=j:=vb7 h
   exact⟨by rw[seqIndex_neg (by lia) h1,e],by lia,h1,by lia⟩
  .rw[if_neg h1]at h;cases h
theorem zko{α:Type}{xs:List α}{i:Int}{v:α}(h:atI xs i=some v):∃j,seqIndex? i xs.length=some j/\xs[j]?=some v/\j<xs.length/\-(xs.length:Int)<=i/\i<xs.length:=by
 unfold atI at h
 cases e:ixN xs.length i with
 |none=>rw[e]at h;cases h
 |some j=>
  rw[e]at h
  obtain⟨h1,h2,h3,h4⟩:=zkn e
  exact⟨j,h1,h,h2,h3,h4⟩
theorem zbo{α:Type}{xs:List α}{j:Nat}{v:α}(h:xs[j]?=some v):atI xs (j:Int)=some v:=by
 have hj:j<xs.length:=(vba.mp h).1
 have e:ixN xs.length (j:Int)=some j:=by
  unfold ixN
  rw[if_pos (by lia),if_pos (by lia)];simp
 unfold atI;rw[e];exact h
theorem znh{α:Type}(xs:List α)(v:α):atI (xs++[v]) (-1)=some v:=by
 have hl:(xs++[v]).length=xs.length+1:=by simp
 have e:ixN (xs++[v]).length (-1)=some xs.length:=by
  unfold ixN
  rw[hl,if_neg (by decide),if_pos (by lia)]
  congr 1
  lia
 unfold atI
 rw[e]
 show(xs++[v])[xs.length]?=some v
 simp
noncomputable def zg9(b:Expr):Prop:=∀o i,subscripted b false o i=operate [o,i] (getItem o i)
noncomputable def IxR(X:Cx)(r:R2):Prop:=
 ∀(value slice:Expr)(pins:List (Addr×Obj))(s:Shared)(σ:St)(H:Hp)(x y:V)(v u:Value)(Q:VK),Inv X pins σ H s->RelV x v->RelV y u->r x y H Q->
  subscripted slice false v u=operate [v,u] (getItem v u)->wpAny (model X.prog X.w) X.A (subscriptTail value slice v u) (EP X pins σ Q) X.xe s
noncomputable def MtR(X:Cx)(id:String)(r:V->List V->Hp->VK->Prop):Prop:=
 ∀(pins:List (Addr×Obj))(s:Shared)(σ:St)(H:Hp)(x:V)(xs:List V)(v:Value)(us:List Value)(Q:VK),Inv X pins σ H s->RelV x v->Vals xs us->r x xs H Q->
  wpAny (model X.prog X.w) X.A (call (.builtin id) (v::us)) (EP X pins σ Q) X.xe s
section
variable{X:Cx}{a b:Expr}{ta tb:TE}{pos:Pos}
theorem IxR.or{r r':R2}(h:IxR X r)(h':IxR X r'):IxR X (λx y H Q=>r x y H Q\/r' x y H Q):=by
 intro value slice pins s σ H x y v u Q I rx ry q hs
 rcases q with q|q
 .exact h value slice pins s σ H x y v u Q I rx ry q hs
 .exact h' value slice pins s σ H x y v u Q I rx ry q hs
theorem pe_ix{r:R2}(hr:IxR X r)(ha:PE X a ta)(hb:PE X b tb)(hs:zg9 b):PE X (.Subscript a b pos) (tOp r ta tb):=by
 intro pins s σ H Q I h
 exact Subscript_ (binT ha hb I h λv u s2 x y H2 I2 rx ry q=>hr a b pins s2 σ H2 x y v u Q I2 rx ry q (hs _ _))
noncomputable def rIxL(K:vga):R2:=λx y H Q=>∃p xs i v,x=.ref p/\y=.int i/\SqL K H p xs/\atI xs i=some v/\Q v H
noncomputable def rIxT(K:vga):R2:=λx y H Q=>∃p xs i v,x=.ref p/\y=.int i/\SqT K H p xs/\atI xs i=some v/\Q v H
theorem zqy:IxR X (rIxL X.K):=by
 intro value slice pins s σ H x y v u Q I rx ry h hs
 obtain⟨p,xs,i,z,rfl,rfl,hq,he,q⟩:=h
 cases rx
 obtain⟨t,rfl⟩:=ry
 obtain⟨its,r,pl,hz⟩:=I.list hq
 obtain⟨j,h1,h2,h3,h4,h5⟩:=zko he
 obtain⟨w,ew,rw'⟩:=r.get h2
 have hl:=r.length
 have hn:=zf3
 have fin:EP X pins σ Q w s:=⟨z,H,I,rw',q⟩
 by_cases h0:0<=i
 .have hj:i.toNat=j:=by
   rw[seqIndex_of h0 h5]at h1
   exact vb7 h1
  exact item_listR pl.isList h0 (by lia) (by rw[hj];simpa using ew) fin hs
 .have hj:(i+ (its.toArray.size:Int)).toNat=j:=by
   rw[seqIndex_neg (by lia) h4]at h1
   rw[vad,<-hl]
   exact vb7 h1
  exact subscriptTail_builtinR (x:=w) pl.isList.typeIs slot_list_getitem.lookup
   (wpAny_getItem_list_neg (Q:=λr s'=>r=w/\EP X pins σ Q r s') pl.isList (by lia) (by rw[vad]<;>lia) (by lia) (by rw[hj];simpa using ew) ⟨rfl,fin⟩) hs
theorem zt6:IxR X (rIxT X.K):=by
 intro value slice pins s σ H x y v u Q I rx ry h hs
 obtain⟨p,xs,i,z,rfl,rfl,hq,he,q⟩:=h
 cases rx
 obtain⟨t,rfl⟩:=ry
 obtain⟨its,r,pl,hz⟩:=I.tuple hq
 obtain⟨j,h1,h2,h3,h4,h5⟩:=zko he
 obtain⟨w,ew,rw'⟩:=r.get h2
 have hl:=r.length
 have hn:=zf3
 have fin:EP X pins σ Q w s:=⟨z,H,I,rw',q⟩
 exact subscriptTail_builtinR (x:=w) pl.typeIs slot_tuple_getitem.lookup
  (getItem_tuple (j:=j) (Q:=λr s'=>r=w/\EP X pins σ Q r s') pl (by lia) (by lia) (by rw[vad,<-hl];exact h1) (by simpa using ew) ⟨rfl,fin⟩) hs
theorem zjn(its:List Value)(n j:Nat)(u:Value):Obj.mapSeq (·.setIfInBounds j u) {cls:=.type "list",data:=.seq its.toArray n} ={cls:=.type "list",data:=.seq (its.set j u).toArray n}:=by
 simp[Obj.mapSeq]
theorem Inv.lst{pins:List (Addr×Obj)}{σ:St}{H:Hp}{s:Shared}{p:Addr}{xs:List V}(I:Inv X pins σ H s)(h:H p=some (.lst xs)) :
 ∃(its:List Value) (n:Nat),Vals xs its/\s.heap.get? p=some {cls:=.type "list",data:=.seq its.toArray n}/\xs.length<=sizeLine:=by
 obtain⟨z,its,n,r,e⟩:=I.hok p _ h
 exact⟨its,n,r,e,z⟩
theorem Inv.lstUpd{pins:List (Addr×Obj)}{σ:St}{H:Hp}{s:Shared}{p:Addr}{xs ys:List V}{its its':List Value}{n n':Nat}{f:Obj->Obj}(I:Inv X pins σ H s)(h:H p=some (.lst xs))
 (ho:s.heap.get? p=some {cls:=.type "list",data:=.seq its.toArray n}) (hf:f {cls:=.type "list",data:=.seq its.toArray n} ={cls:=.type "list",data:=.seq its'.toArray n'}) (r:Vals ys its') (hz:ys.length<=sizeLine) (t:Nat) :
 Inv X pins σ (upd H p (.lst ys)) {s with heap:=s.heap.update p f,toks:=t}:=by
 have e:(s.heap.update p f).get? p=some {cls:=.type "list",data:=.seq its'.toArray n'}:=by
  rw[Heap.get?_update_self f ho (by rw[hf]<;>rfl),hf]
 refine I.write (x:=p) (e:=p) (by rw[h];trivial) (.inl rfl) (λb u hb q=>(Heap.get?_update_other _ _ (vdy hb)).trans q) ⟨_,e⟩ ?_
 exact⟨hz,its',n',r,e⟩
noncomputable def rSetL:V->V->V->Hp->(Hp->Prop)->Prop:=λo i v H Q=>∃p xs k j,o=.ref p/\i=.int k/\H p=some (.lst xs)/\ixN xs.length k=some j/\Q (upd H p (.lst (xs.set j v)))
theorem zni:PSet X rSetL:=by
 intro pins s σ H o i v ov iv u Q I ro ri rv h
 obtain⟨p,xs,k,j,rfl,rfl,hp,hj,q⟩:=h
 cases ro
 obtain⟨t,rfl⟩:=ri
 obtain⟨its,n,r,ho,hz⟩:=I.lst hp
 obtain⟨h1,h2,h3,h4⟩:=zkn hj
 have hl:=r.length
 have hn:=zf3
 have I':Inv X pins σ (upd H p (.lst (xs.set j v))) {s with heap:=s.heap.update p (Obj.mapSeq (·.setIfInBounds j u))}:=
  I.lstUpd hp ho (zjn its n j u) (r.set rv j) (by rw[vdp];exact hz) s.toks
 by_cases h0:0<=k
 .have hk:k.toNat=j:=by
   rw[seqIndex_of h0 h4]at h1
   exact vb7 h1
  exact PySem.W.ki_setAt ho h0 (by lia) (by rw[vad,<-hl];exact h4) (by rw[hk];exact⟨_,I',q⟩)
 .have hk:(k+ (its.toArray.size:Int)).toNat=j:=by
   rw[seqIndex_neg (by lia) h3]at h1
   rw[vad,<-hl]
   exact vb7 h1
  exact PySem.W.ki_setBack ho (by lia) (by rw[vad,<-hl];exact h3) (by lia) (by rw[hk];exact⟨_,I',q⟩)
theorem zf8(lo hi:Option Int)(n:Nat):(sliceBounds lo hi none n).1=((HT.sIx n 0 lo:Nat):Int)/\(sliceBounds lo hi none n).2.1=((HT.sIx n n hi:Nat):Int)/\(sliceBounds lo hi none n).2.2=1:=by
 refine⟨?_,?_,rfl⟩
 .cases lo with
  |none=>simp[sliceBounds,HT.sIx]
  |some i=>
   simp only[sliceBounds,HT.sIx,Option.getD_none,show(1:Int)>0 by decide,vbe]
   by_cases h:i<0
   .simp only[h,vbe]<;>lia
   .simp only[h,vbi]<;>lia
 .cases hi with
  |none=>simp[sliceBounds,HT.sIx]
  |some i=>
   simp only[sliceBounds,HT.sIx,Option.getD_none,show(1:Int)>0 by decide,vbe]
   by_cases h:i<0
   .simp only[h,vbe]<;>lia
   .simp only[h,vbi]<;>lia
theorem ze7(its:List Value)(lo hi:Option Int):slicePick its.toArray lo hi none=((its.drop (HT.sIx its.length 0 lo)).take (HT.sIx its.length its.length hi-HT.sIx its.length 0 lo)).toArray:=by
 obtain⟨h1,h2,h3⟩:=zf8 lo hi its.toArray.size
 unfold slicePick
 rw[h1,h2,h3]
 simp only[sliceRange_one,pick_run,vad]<;>rfl
noncomputable def rSlL(K:vga):V->Option Int->Option Int->Hp->VK->Prop:=λx lo hi H Q=>∃a xs,x=.ref a/\SqL K H a xs/\∀p,H p=none->Q (.ref p) (upd H p (.lst (cutV xs lo hi)))
theorem zqz:SlR X (rSlL X.K):=by
 intro pins s σ H x v vl vu lo hi sl Q I rx hs pl pu h
 obtain⟨a,xs,rfl,hx,q⟩:=h
 cases rx
 obtain⟨its,r,ht,hz⟩:=I.list hx
 have hlen:=r.length
 refine⟨"list",_,slot_list_getitem.lookup,ht.isList.typeIs,?_⟩
 refine wpAny_getItem_list_slice ht.isList hs pl pu .none (by simp) ?_ (by rw[vad]<;>lia)
 rw[ze7,<-hlen]
 refine⟨.ref s.heap.objs.size,_,I.laid (t':=s.toks) (o:=.lst (cutV xs lo hi)) (λb ob q=>vae _ q) (vaa _) ?_,rfl,q _ (I.hok.fresh (vaa _))⟩
 exact⟨vbo (zdz xs lo hi) hz,_,0,(r.drop (HT.sIx xs.length 0 lo)).take (HT.sIx xs.length xs.length hi-HT.sIx xs.length 0 lo),va9 _ rfl⟩
theorem zf9:CallR X (.builtin "len") (λxs H Q=>∃p ys,xs=[.ref p]/\(SqL X.K H p ys\/SqT X.K H p ys)/\Q (.int ys.length) H):=by
 intro pins s σ H xs us Q I r h
 obtain⟨p,ys,rfl,hq,q⟩:=h
 obtain⟨u,rfl,rx⟩:=vals1 r
 cases rx
 have hn:=zf3
 rcases hq with hq|hq
 .obtain⟨its,r',pl,hz⟩:=I.list hq
  have hlen:=r'.length
  exact Calls.call_len_list pl.isList (by simp only[vad]<;>lia) ⟨.int ys.length,H,I.tok _,⟨s.toks+1,by rw[vad,hlen]⟩,q⟩
 .obtain⟨its,r',pl,hz⟩:=I.tuple hq
  have hlen:=r'.length
  exact len_tuple pl (by simp only[vad]<;>lia) ⟨.int ys.length,H,I.tok _,⟨s.toks+1,by rw[vad,hlen]⟩,q⟩
theorem CallR.or{f:Value}{r r':List V->Hp->VK->Prop}(h:CallR X f r)(h':CallR X f r'):CallR X f (λxs H Q=>r xs H Q\/r' xs H Q):=by
 intro pins s σ H xs us Q I rs q
 rcases q with q|q
 .exact h pins s σ H xs us Q I rs q
 .exact h' pins s σ H xs us Q I rs q
theorem zga:CallR X (.type "list") (λxs H Q=>∃p ys,xs=[.ref p]/\(SqL X.K H p ys\/SqT X.K H p ys)/\∀l,H l=none->Q (.ref l) (upd H l (.lst ys))):=by
 intro pins s σ H xs us Q I r h
 obtain⟨p,ys,rfl,hq,q⟩:=h
 obtain⟨u,rfl,rx⟩:=vals1 r
 cases rx
 have fin:∀(its:List Value),Vals ys its->ys.length<=sizeLine->∀(h':Heap)(c':Nat),(∀b o',s.heap.get? b=some o'->h'.get? b=some o')->
  h'.get? s.heap.objs.size=some {cls:=.type "list",dict:=none,data:=.seq its.toArray c',slots:=#[]}->EP X pins σ Q (.ref s.heap.objs.size) {s with heap:=h'}:=λits r' hz h' c' kp e=>
  ⟨.ref s.heap.objs.size,_,I.laid (t':=s.toks) kp (vaa _) (show ObjOk X.prog X.w _ h' _ (.lst ys)from⟨hz,its,c',r',e⟩),rfl,q _ (I.hok.fresh (vaa _))⟩
 rcases hq with hq|hq
 .obtain⟨its,r',pl,hz⟩:=I.list hq
  have hlen:=r'.length
  obtain⟨o,ho,hc,n,hd⟩:=pl.isList
  exact call_list_seq p (.inl rfl) ho hc hd (λh' c' kp e=>fin its r' hz h' c' kp e) (by simp only[vad]<;>lia)
 .obtain⟨its,r',pl,hz⟩:=I.tuple hq
  have hlen:=r'.length
  obtain⟨o,ho,hc,n,hd⟩:=pl
  exact call_list_seq p (.inr rfl) ho hc hd (λh' c' kp e=>fin its r' hz h' c' kp e) (by simp only[vad]<;>lia)
theorem ze8:CallR X (.type "tuple") (λxs H Q=>∃p ys,xs=[.ref p]/\((SqL X.K H p ys/\∀l,H l=none->Q (.ref l) (upd H l (.tup ys)))\/(SqT X.K H p ys/\Q (.ref p) H))):=by
 intro pins s σ H xs us Q I r h
 obtain⟨p,ys,rfl,h⟩:=h
 obtain⟨u,rfl,rx⟩:=vals1 r
 cases rx
 rcases h with⟨hq,q⟩|⟨hq,q⟩
 .obtain⟨its,r',pl,hz⟩:=I.list hq
  have hlen:=r'.length
  refine call_tuple_list pl.isList (λh' kp=>?_) (by simp only[vad]<;>lia)
  have I1:Inv X pins σ H {s with heap:=h'}:=I.kept (t':=s.toks) kp
  have I2:Inv X pins σ (upd H h'.objs.size (.tup ys)) {s with heap:=h'.push {cls:=.type "tuple",data:=.seq its.toArray}}:=
   I1.laid (t':=s.toks) (λb o e=>vae _ e) (vaa _) (show ObjOk X.prog X.w _ _ _ (.tup ys)from⟨hz,its,r',zba.new _ _⟩)
  exact⟨.ref h'.objs.size,_,I2,rfl,q _ (I1.hok.fresh (vaa _))⟩
 .obtain⟨its,r',pl,hz⟩:=I.tuple hq
  exact call_tuple_same pl ⟨.ref p,H,I,rfl,q⟩
noncomputable def tyV(K:vga)(T:String)(x:V)(H:Hp):Prop:=match x with
 |.str _=>T = "str"
 |.int _=>T = "int"
 |.ref p=>(T = "list"/\∃xs,SqL K H p xs)\/(T = "tuple"/\∃xs,SqT K H p xs)\/
  (T = "dict"/\((∃kvs,H p=some (.dK kvs))\/∃kvs,H p=some (.dT kvs)))\/(T = "set"/\∃S n,H p=some (.set S n))
 |_=>False
theorem zt7{pins:List (Addr×Obj)}{σ:St}{H:Hp}{s:Shared}{T:String}{x:V}{v:Value}(I:Inv X pins σ H s)(r:RelV x v)(ty:tyV X.K T x H) :
 s.TypeIs v T/\∀a,v=.ref a->∃ob,s.heap.get? a=some ob/\ob.dict=none:=by
 cases x with
 |str z=>
  obtain⟨t,rfl⟩:=r
  cases(show T = "str"from ty)
  exact⟨typeIs_str s z t,λ_ e=>nomatch e⟩
 |int i=>
  obtain⟨t,rfl⟩:=r
  cases(show T = "int"from ty)
  exact⟨typeIs_int s i t,λ_ e=>nomatch e⟩
 |ref p=>
  cases r
  rcases ty with⟨rfl,xs,hq⟩|⟨rfl,xs,hq⟩|⟨rfl,hk⟩|⟨rfl,S,n,hk⟩
  .obtain⟨its,_,pl,_⟩:=I.list hq
   refine⟨pl.isList.typeIs,λa e=>?_⟩
   cases e
   obtain⟨o,n,e,c,hd,_⟩:=pl
   exact⟨o,e,hd⟩
  .obtain⟨its,_,⟨o,h1,h2,_,h3⟩,_⟩:=I.tupleD hq
   refine⟨⟨o,h1,h2⟩,λa e=>?_⟩
   cases e
   exact⟨o,h1,h3⟩
  .have z:∃o,s.heap.get? p=some o/\o.ExactDict:=by
    rcases hk with⟨kvs,hk⟩|⟨kvs,hk⟩
    .obtain⟨_,_,_,_,o,_,_,e,ex,_⟩:=I.hok p _ hk
     exact⟨o,e,ex⟩
    .obtain⟨_,_,_,_,o,_,_,e,ex,_⟩:=I.hok p _ hk
     exact⟨o,e,ex⟩
   obtain⟨o,e,ex⟩:=z
   refine⟨⟨o,e,ex.1⟩,λa e2=>?_⟩
   cases e2
   exact⟨o,e,ex.2.1⟩
  .obtain⟨o,_,_,_,e,ex,_⟩:=I.hok p _ hk
   refine⟨⟨o,e,ex.1⟩,λa e2=>?_⟩
   cases e2
   exact⟨o,e,ex.2.1⟩
 |_=>exact False.elim ty
noncomputable def tBM(K:vga)(T:String)(r:V->List V->Hp->VK->Prop)(to:TE)(t:TA):TE:=λσ H Q=>to σ H λx H1=>tyV K T x H1/\t σ H1 λxs H2=>r x xs H2 Q
variable{o e:Expr}{es:List Expr}{to:TE}{t:TA}{name:Str}{apos cpos:Pos}{T id:String}{r:V->List V->Hp->VK->Prop}
theorem pe_bm(pa:PlainAttrs T)(slot:Slot T name id)(hty:typeOf (.builtin id)=pure (.type "method_descriptor"))(hm:MtR X id r)(ho:PE X o to)(ha:PA X (e::es) t)
 (hbase:attributeBase o name X.env (eval o X.env)=eval o X.env:=by rfl)
 (hfew:((backTo cpos (starEach (e::es) X.env)).all (λx=>!x.1)&& (backToKw cpos (keywordEach [] X.env)).all (λx=>x.1.isSome)
   && decide ((e::es).length+ ([]:List Keyword).length+ (if([]:List Keyword).isEmpty then 0 else 1)<30))=true:=by rfl)
 (hline:(apos.endLine==cpos.line)=true:=by rfl) (hs:starEach (e::es) X.env=(false,eval e X.env)::starEach es X.env:=by rfl) (hplain:(backTo cpos (starEach es X.env)).any (·.1)=false:=by rfl) :
 PE X (.Call (.Attribute o name apos) (e::es) [] cpos) (tBM X.K T r to t):=by
 intro pins s σ H Q I h
 refine wpAny_Call_method_late hbase hfew hline rfl (thn (ho pins s σ H _ I h) λv s1 z9=>z9.el λx H1 I1 r1 hq0=>?_)
 obtain⟨ty,q1⟩:=hq0
 obtain⟨h1,h2⟩:=zt7 I1 r1 ty
 refine⟨T,id,pa,slot,hty,h1,h2,?_⟩
 have hA:=ha cpos pins s1 σ H1 _ I1 q1
 rw[hs]at hA ⊢
 refine Calls.callWith_builtin (by show(false|| (backTo cpos (starEach es X.env)).any (·.1))=false;rw[hplain]<;>rfl) (Calls.evalArgs_plain ?_)
 exact thn hA λus s2 z9=>z9.el λvs H2 I2 r2 q2=>hm pins s2 σ H2 x vs v us Q I2 r1 r2 q2
/- xs.append(e),list.index on a module's tuple .. are MtR facts of 06m -/
end
noncomputable def MtM(X:Cx)(id:String)(r:V->List V->Hp->VK->Prop):Prop:=
 ∀(pins:List (Addr×Obj))(s:Shared)(σ:St)(H:Hp)(x:V)(xs:List V)(v:Value)(us:List Value)(Q:VK),Inv X pins σ H s->RelV x v->Vals xs us->r x xs H Q->
  wpAny (model X.prog X.w) X.A (call (.builtin id) (v::us)) (EP X pins σ Q) X.xe s
theorem Vals.one:∀{x:V} {us:List Value},Vals [x] us->∃u,us=[u]/\RelV x u
 |_,_,.cons r .nil=>⟨_,rfl,r⟩
theorem Vals.rep{xs:List V}{us:List Value}(h:Vals xs us):∀k:Nat,Vals (vgc k xs).flatten (vgc k us).flatten
 |0=>.nil
 |k+1=>by
  rw[vcc,vcc,vc0,vc0]
  exact Vals.append h (Vals.rep h k)
theorem zgb(its:List Value):∀(k:Nat) (acc:List Value),
 List.foldl (λx1 x2=>x1++x2) acc.toArray (vgc k its.toArray)=(acc++(vgc k its).flatten).toArray
 |0,acc=>by simp
 |k+1,acc=>by
  have e:acc.toArray++its.toArray=(acc++its).toArray:=by simp
  have e2:(acc++its)++(vgc k its).flatten=acc++(vgc (k+1) its).flatten:=by
   rw[vcc,vc0,va1]
  rw[<-e2,<-zgb its k (acc++its),<-e,vcc,vdq]
section
variable{X:Cx}{pins:List (Addr×Obj)}{σ:St}{H:Hp}{s:Shared}{l b:Addr}{xs ys zs:List V}
theorem Inv.lset{its its':List Value}{n:Nat}{f:Array Value->Array Value}{t':Nat}(I:Inv X pins σ H s)(hH:H l=some (.lst xs))
 (e:s.heap.get? l=some {cls:=.type "list",data:=.seq its.toArray n}) (hf:f its.toArray=its'.toArray) (hv:Vals ys its') (hz:ys.length<=sizeLine) :
 Inv X pins σ (upd H l (.lst ys)) {s with heap:=s.heap.update l (Obj.mapSeq f),toks:=t'}:=by
 have q:=PySem.IsL.update e f
 rw[hf]at q
 refine I.write (x:=l) (e:=l) (by rw[hH];exact trivial) (.inl rfl) (λb' u hb hu=>(Heap.get?_update_other s.heap (Obj.mapSeq f) (vdy hb)).trans hu) ⟨_,q⟩ ?_
 exact⟨hz,its',_,hv,q⟩
theorem Inv.lnew{its:List Value}{t':Nat}(I:Inv X pins σ H s)(hv:Vals ys its)(hz:ys.length<=sizeLine) :
 Inv X pins σ (upd H s.heap.objs.size (.lst ys)) {s with heap:=s.heap.push {cls:=.type "list",data:=.seq its.toArray},toks:=t'}:=
 I.laid (λ_ _ q=>vae _ q) (vaa _) ⟨hz,its,0,hv,va9 _ rfl⟩
theorem Inv.fresh(I:Inv X pins σ H s):H s.heap.objs.size=none:=I.hok.fresh (vaa _)
theorem Inv.lstM(I:Inv X pins σ H s)(hH:H l=some (.lst xs)):xs.length<=sizeLine/\∃(its:List Value) (n:Nat),Vals xs its/\xs.length=its.length/\s.heap.get? l=some {cls:=.type "list",data:=.seq its.toArray n}:=by
 obtain⟨z,its,n,r,e⟩:=I.hok l _ hH
 exact⟨z,its,n,r,r.length,e⟩
theorem zh3{n:Nat}(h:n<=sizeLine):Builtin.List.listTooLong n=false:=by
 unfold Builtin.List.listTooLong
 exact vav (by lia)
end
section
variable{X:Cx}
noncomputable def zq0:V->List V->Hp->VK->Prop:=λx vs H Q=>∃l xs y,x=.ref l/\vs=[y]/\H l=some (.lst xs)/\xs.length<sizeLine/\Q .non (upd H l (.lst (xs++[y])))
theorem zgc:MtM X "list.append" zq0:=by
 intro pins s σ H x vs v us Q I rx rv h
 obtain⟨l,xs,y,rfl,rfl,hH,hz,q⟩:=h
 cases rx
 obtain⟨u,rfl,ru⟩:=rv.one
 obtain⟨z,its,n,r,hl,e⟩:=I.lstM hH
 refine vd6 F.slot_list_append ⟨_,e,rfl⟩ F.entry_list_append (F.args_list_append_2 _ _) (PySem.list_append l its.toArray n u (by rw[vad];lia)) ⟨e,?_⟩
 refine⟨.non,_,I.lset (its':=its++[u]) hH e (by simp) (r.append (.cons ru .nil)) ?_,rfl,q⟩
 rw[vaj,vc7]
 lia
noncomputable def zq1:V->List V->Hp->VK->Prop:=λx vs H Q=>∃l b xs zs,x=.ref l/\vs=[.ref b]/\H l=some (.lst xs)/\H b=some (.lst zs)/\xs.length+zs.length<=sizeLine/\Q .non (upd H l (.lst (xs++zs)))
theorem zt8:MtM X "list.extend" zq1:=by
 intro pins s σ H x vs v us Q I rx rv h
 obtain⟨l,b,xs,zs,rfl,rfl,hH,hB,hz,q⟩:=h
 cases rx
 obtain⟨u,rfl,ru⟩:=rv.one
 cases ru
 obtain⟨z,its,n,r,hl,e⟩:=I.lstM hH
 obtain⟨z2,its2,n2,r2,hl2,e2⟩:=I.lstM hB
 have hsz:its.toArray.size+its2.toArray.size<=sizeLine:=by rw[vad,vad];lia
 have hlong:¬(!its.toArray.isEmpty&&Builtin.List.listTooLong (its.toArray.size+its2.toArray.size))=true:=by
  rw[zh3 hsz,Bool.and_false]
  exact vdn
 refine vd6 F.slot_list_extend ⟨_,e,rfl⟩ F.entry_list_extend (F.args_list_extend_2 _ _)
  (AutoSeq1.list_extend_list_list_0 l its.toArray n b its2.toArray n2 hlong (by rw[vad];lia) (by lia)) ⟨e,e2,?_⟩
 refine⟨.non,_,I.lset (its':=its++its2) hH e (by simp) (r.append r2) ?_,rfl,q⟩
 rw[vaj]
 lia
noncomputable def rCat:R2:=λx y H Q=>∃l b xs zs,x=.ref l/\y=.ref b/\H l=some (.lst xs)/\H b=some (.lst zs)/\xs.length+zs.length<=sizeLine/\∀p,H p=none->Q (.ref p) (upd H p (.lst (xs++zs)))
theorem zt9:OpR X (binaryOp .Add) rCat:=by
 intro pins s σ H x y v u Q I rx ry h
 obtain⟨l,b,xs,zs,rfl,rfl,hH,hB,hz,q⟩:=h
 cases rx
 cases ry
 obtain⟨z,its,n,r,hl,e⟩:=I.lstM hH
 obtain⟨z2,its2,n2,r2,hl2,e2⟩:=I.lstM hB
 refine PySem.P.add_list e e2 ?_ (by rw[vad,vad];lia)
 have ea:its.toArray++its2.toArray=(its++its2).toArray:=by simp
 rw[ea]
 exact⟨.ref _,_,I.lnew (t':=s.toks) (r.append r2) (by rw[vaj];lia),rfl,q _ I.fresh⟩
theorem zkp{α:Type}(xs:List α)(k:Nat):(vgc k xs).flatten.length=k*xs.length:=by
 induction k with
 |zero=>simp
 |succ k ih=>rw[vcc,vc0,vaj,ih,Nat.succ_mul,Nat.add_comm]
end
end L2
namespace Att
open PySem PySem.W PySem.Calls PyProof.Rows
theorem zd0{P:Params}{h:Heap}:∀(ns:List Int) (vs:List Value),WellAll P h vs (ns.map WData.int)->IntsAre vs ns:=by
 intro ns
 induction ns with
 |nil=>
  intro vs w
  rw[vd7]at w
  cases w
  exact .nil
 |cons n ns ih=>
  intro vs w
  rw[vaw]at w
  cases w with
  |cons a b=>
   cases a
   exact .cons _ _ (ih _ b)
theorem zkq{l:OpenLaw}{n:Nat}(hn:l.most=some n){P:Params}{h:Heap}{args:List WData}{vals:List Value}
 (hpre:l.row.toRowW.claim.pre args=true) (hwl:WellAll P h vals args) :
 ∃a vs ns,vals=[Value.ref a]/\args=[WData.list (ns.map WData.int)]/\h.get? a=some {cls:=.type "list",data:=.seq vs.toArray}/\IntsAre vs ns/\ns.length<=n:=by
 have hsh:WShape.hasAll [] args [.list .int]=true:=(pre_splitW hpre).1
 have hc:l.pre.holds [] {args:=args}=true:=(pre_splitW hpre).2
 obtain⟨d,r,rfl,h1,h2⟩:=hasAllW_cons hsh
 obtain rfl:=hasAllW_nil h2
 obtain⟨xs,rfl,h3⟩:=hasW_list h1
 obtain⟨ns,rfl⟩:=items_int h3
 have hlen:ns.length<=n:=by
  unfold OpenLaw.pre at hc
  have h4:(WTm.not (.lt (.lit (.int (n:Int))) (.len (.arg 0)))).holds [] {args:=[.list (ns.map .int)]}=true:=by
   have h4:=(holds_andW hc).1
   rw[hn]at h4
   exact h4
  have h5:=condW_of h4 (w_not (w_lt w_lit (w_len_list (w_arg rfl))))
  rw[vah]at h5
  refine Nat.le_of_not_lt λq=>?_
  have q':(n:Int)< ((ns.length:Nat):Int):=by lia
  first
   |(rw[vaz q']at h5;exact absurd h5 (by decide))
   |(simp at h5;lia)
 cases hwl with
 |cons w1 w2=>
  cases w2
  cases w1 with
  |list ho hall=>exact⟨_,_,ns,rfl,rfl,ho,zd0 ns _ hall,hlen⟩
theorem zkr(l:OpenLaw)(args:List WData):l.row.toRowW.claim.post args (.bool true) args=true:=
 postW_of (r:=l.row.toRowW) (X:=(true==true))
  (show WShape.has [] (.bool true) .bool=true by first|rfl|decide|simp[WShape.has,WShape.arms,WShape.armsAll])
  (show(WTm.eq .res (.lit (.bool true))).value [] {args:=args,res:=some (.bool true),after:=args}=some (.bool (true==true))from w_eq_bool (w_res rfl) w_lit) rfl
theorem attach_call{l:OpenLaw}{n:Nat}{q:Program}{loose:List Str}{XP:(Str->Option Value)->Heap->Prop}{YP:World->Heap->Prop}{d:DefRec}
 (hn:l.most=some n) (hdf:d.params.defaults=[])
 (call:∀(w:World)(s₀ s₁:Shared)(mg mb:Str->Option Value)(fa:Addr)(o:Obj)(pm cd doc:Value)(a:Addr)(vs:List Value)(ns:List Int),
   Ground q loose [] XP w s₀ mg mb s₁.heap->YP w s₁.heap->
   s₁.heap.get? fa=some o->o.data=.func (docDef d.name d.params d.body d.scope pm cd doc)->s₁.heap.CodeRec cd d.name->mg d.name=some (.ref fa)->
   s₁.heap.get? a=some {cls:=.type "list",data:=.seq vs.toArray}->IntsAre vs ns->ns.length<=n->s₁.gens = #[]->
   codeAny (model l.prog w) callerA (.call (.ref fa) ⟨[.ref a],[]⟩) (λr s'=>r=.ok (.ret (.bool true))/\OldK s₁.heap s'.heap/\s'.os=s₁.os/\AllBare s'.gens) s₁) :
 WalkO q loose XP YP l.row.toRowW d [] (λf vs=>PySem.call f vs):=by
 intro w s₀ s₁ mg mb G Y fa o pm cd doc dV kV ho hd hcd hD hmg hg args vals as hpre hlay hrd hwl hlo
 obtain rfl:dV=.none:=Dflts.none hD hdf
 obtain rfl:kV=.none:=Dflts.noKw hD
 obtain⟨a,vs,ns,rfl,rfl,hobj,hints,hlen⟩:=zkq hn hpre hwl
 refine enter_call (codeAny_mono (call w s₀ s₁ mg mb fa o pm cd doc a vs ns G Y ho (fd_plain hd) hcd hmg hobj hints hlen hg) λr s' hq=>?_)
 obtain⟨rfl,h2,h3,h4⟩:=hq
 exact⟨.inl ⟨.bool true,.bool true,[],rfl,λ_=>rfl,.bool true,zkr l _,λ_=>⟨List.Pairwise.nil,λ_ hm=>(nomatch hm)⟩⟩,h2,h3,h4⟩
end Att
namespace L2
open PySem PySem.Spec PyProof.Rows
theorem zgd:∀{vs:List Value} {ns:List Int},IntsAre vs ns->Vals (ns.map V.int) vs
 |_,_,.nil=>.nil
 |_,_,.cons n t h=>.cons ⟨t,rfl⟩ (zgd h)
noncomputable def Only(H:Hp):Prop:=∀b,H b=none\/∃o xs,H b=some (.frz o (.lst xs))
theorem znj{P:Program}{w:World}{K:vga}{mg mb:Str->Option Value}{CX:CXT}{k:Nat}{fa a:Addr}{fd:FuncData}{x:Str}{sp:Sp}{s₁:Shared}{vs:List Value}{ns:List Int}
 (KX:K.In s₁.heap) (hns:s₁.heap.Ns mainGlobals mg) (hb:s₁.heap.Ns builtinsNs mb) (hbb:∀x:Str,x≠"__name__"->mb x=bootBuiltins x) (hlim:s₁.heap.NoLimit) (hg:s₁.gens = #[])
 (ha:s₁.heap.get? a=some {cls:=.type "list",data:=.seq vs.toArray}) (hi:IntsAre vs ns) (hl:ns.length<=sizeLine) (hr:Room k callerA)
 (F:∀base:Heap,K.In base->base.Ns mainGlobals mg->FnOk P w K mg base CX k fa fd [x] sp) (hbind:∀(s:Shared)(u:Value),BindsTo s fd ⟨[u],[]⟩ [(x,u)])
 (hsp:∀H:Hp,Only H->SqL K H a (ns.map V.int)->sp [.ref a] H (λv _=>v=.bl true) λ_ _ _=>False)
 (hCX:∀H e s',CX [] H s₁ (λ_ _ _=>False) e s'->False) :
 codeAny (model P w) callerA (.call (.ref fa) ⟨[.ref a],[]⟩) (λr s'=>r=.ok (.ret (.bool true))/\OldK s₁.heap s'.heap/\s'.os=s₁.os/\AllBare s'.gens) s₁:=by
 have rv:=zgd hi
 have lenV:=hi.length
 have core:∀H:Hp,Only H->SqL K H a (ns.map V.int)->HOk P w H s₁.heap->(∀b,H b≠none->b=a)->(H a≠none->K.lookup a=none)->
  codeAny (model P w) callerA (.call (.ref fa) ⟨[.ref a],[]⟩) (λr s'=>r=.ok (.ret (.bool true))/\OldK s₁.heap s'.heap/\s'.os=s₁.os/\AllBare s'.gens) s₁:=by
  intro H hO hS hok hA hK
  have base_of:∀{b:Addr}{o:Obj},s₁.heap.get? b=some o->H b=none->(hidT s₁.heap H).get? b=some o:=λe n=>zm2 e n
  have noA:∀{b:Addr}{o:Obj}{es:Array DictEntry}{ep:Nat},s₁.heap.get? b=some o->o.data=.dict es ep->H b=none:=λ{b o es ep} e d=>by
   cases q:H b with
   |none=>rfl
   |some u=>
    have e':b=a:=hA b (by rw[q];simp)
    subst e'
    rw[ha]at e;cases e
    have d':Data.seq vs.toArray _=Data.dict es ep:=d
    cases d'
  have nsK:∀{b:Addr}{m:Str->Option Value},s₁.heap.Ns b m->(hidT s₁.heap H).Ns b m:=λ{b m}⟨o,es,ep,e,d,r⟩=>⟨o,es,ep,base_of e (noA e d),d,r⟩
  have hKb:K.In (hidT s₁.heap H):=λb o e=>base_of (KX b o e) (by
   cases q:H b with
   |none=>rfl
   |some u=>
    have e':b=a:=hA b (by rw[q];simp)
    subst e'
    rw[hK (by rw[q];simp)]at e;cases e)
  have hM:Mod K mg (hidT s₁.heap H):=⟨hKb,nsK hns,⟨mb,nsK hb,hbb⟩,let⟨mc,h1,h2⟩:=hlim;⟨mc,nsK h1,h2⟩⟩
  have e0:Env0 P w K mg (hidT s₁.heap H) callerA [] s₁ H:=⟨rfl,hM,λb o e=>zqf e,Nat.le_of_eq (zj6 _ _),trivial,λb hb=>absurd (show b∈([]:List Addr)from hb) (by simp),hok,.of_eq hg⟩
  refine codeAny_mono ((F _ hKb (nsK hns)).run callerA [] s₁ H ⟨[.ref a],[]⟩ [.ref a] [.ref a] _ _ hr e0 (hbind s₁ (.ref a)) (.cons rfl .nil) (hsp H hO hS)) λr s' h=>?_
  cases r with
  |error e=>exact(hCX H e s' h).elim
  |ok fl=>
   cases fl with
   |next=>exact False.elim h
   |brk=>exact False.elim h
   |cont=>exact False.elim h
   |ret u=>
    obtain⟨v,H',os,bare,un,hok',r',q⟩:=h
    have q':v=.bl true:=q
    subst q'
    obtain rfl:u=Value.bool true:=r'
    refine⟨rfl,OldK.of_keep λb o e=>?_,os,bare⟩
    cases q:H b with
    |none=>exact un.keep b o e q (by intro z;exact absurd (show b∈([]:List Addr)from z) (by simp)) (by simp)
    |some u=>
     rcases hO b with z|⟨ob,xs,z⟩
     .rw[q]at z;cases z
     .have z2:=un.frzs b ob _ z
      obtain⟨e1,_⟩:=hok b _ z
      obtain⟨e2,_⟩:=hok' b _ z2
      rw[e]at e1;cases e1
      exact e2
 cases hk:K.lookup a with
 |some o=>
  have e:=KX a o hk
  rw[ha]at e
  cases e
  refine core (λ_=>none) (λ_=>.inl rfl) (.inr ⟨_,vs.toArray,_,hk,rfl,rfl,rfl,by rw[vad,lenV];exact hl,by simpa using rv⟩) (λb u z=>by have z':(none:Option HO)=some u:=z;cases z') (λb z=>absurd rfl z) λz=>absurd rfl z
 |none=>
  refine core (λb=>if b=a then some (.frz {cls:=.type "list",data:=.seq vs.toArray} (.lst (ns.map V.int)))else none) (λb=>?_) (.inl (.inr ⟨{cls:=.type "list",data:=.seq vs.toArray},if_pos rfl⟩)) (λb u z=>?_) (λb z=>?_) λ_=>hk
  .by_cases hb:b=a
   .exact .inr ⟨_,_,if_pos hb⟩
   .exact .inl (if_neg hb)
  .by_cases hb:b=a
   .have z':=(if_pos hb).symm.trans z
    cases z'
    subst hb
    exact⟨ha,by rw[vah];exact hl,vs,_,rv,ha⟩
   .have z':=(if_neg hb).symm.trans z
    cases z'
  .by_cases hb:b=a
   .exact hb
   .exact absurd (if_neg hb) z
theorem zq2{l:PySem.W.OpenLaw}{n k:Nat}{q:Program}{loose:List Str}{XP:(Str->Option Value)->Heap->Prop}{YP:World->Heap->Prop}{d:DefRec}{K:Params->vga}{CX:World->CXT}{sp:World->Sp}{x:Str}
 (hn:l.most=some n) (hn2:n<=sizeLine) (hdf:d.params.defaults=[]) (hr:Room k callerA)
 (hY:∀(w:World)(h:Heap),YP w h->(K w.params).In h)
 (F:∀(w:World)(mg:Str->Option Value)(fa:Addr)(h:Heap),(K w.params).In h->h.Ns mainGlobals mg->mg d.name=some (.ref fa)->
   ∃fd:FuncData,(∀(s:Shared)(u:Value),BindsTo s fd ⟨[u],[]⟩ [(x,u)])/\
    ∀base:Heap,(K w.params).In base->base.Ns mainGlobals mg->FnOk l.prog w (K w.params) mg base (CX w) k fa fd [x] (sp w))
 (hsp:∀(w:World)(H:Hp)(a:Addr)(ns:List Int),ns.length<=n->Only H->SqL (K w.params) H a (ns.map V.int)->sp w [.ref a] H (λv _=>v=.bl true) λ_ _ _=>False)
 (hCX:∀(w:World)(H:Hp)(s:Shared)(e:Value)(s':Shared),CX w [] H s (λ_ _ _=>False) e s'->False) :
 PySem.W.WalkO q loose XP YP l.row.toRowW d [] (λf vs=>PySem.call f vs):=by
 refine Att.attach_call hn hdf λw s₀ s₁ mg mb fa o pm cd doc a vs ns G Y ho hd hcd hmg hobj hints hlen hg=>?_
 have KX:=hY w _ Y
 obtain⟨fd,hb,hF⟩:=F w mg fa _ KX G.T.g hmg
 exact znj KX G.T.g G.T.b G.T.builtins G.T.nolimit hg hobj hints (vbo hlen hn2) hr hF hb (λH hO hS=>hsp w H a ns hlen hO hS) λH e s'=>hCX w H s₁ e s'
noncomputable def zq3(s:Stmt):Arguments:=match s with
 |.FunctionDef _ a _ _ _ _ _ _ _ _=>a
 |_=>{posonlyargs:=[],args:=[],vararg:=none,kwonlyargs:=[],kw_defaults:=[],kwarg:=none,defaults:=[]}
noncomputable def zd1(s:Stmt):List Stmt:=match s with
 |.FunctionDef _ _ b _ _ _ _ _ _ _=>b
 |_=>[]
noncomputable def zam(s:Stmt):Scope:=match s with
 |.FunctionDef _ _ _ _ _ _ sc _ _ _=>sc
 |_=>{kind:=.function,names:=[],isGenerator:=false,isCoroutine:=false}
noncomputable abbrev CX0:CXT:=λ_ _ _ _ _ _=>False
noncomputable abbrev E0:XK:=λ_ _ _=>False
theorem pass0{X:Cx}:zh0 CX0 X E0:=λ_ _ _ _ _ _ _ h=>h.elim
theorem zge{n:Nat}(h:n<=1000):n<sizeLine:=vea h (by decide)
noncomputable def za2(cells:List (Str×Addr)):List (Str×NameKind)->List (Str×Addr)->List (Str×Addr)
 |[],cs=>cs
 |(n,k)::r,cs=>za2 cells r (if k == .free then(match cells.lookup n with|some c=>(n,c)::cs|none=>cs)else cs)
theorem za7{scope:Scope}{env:Env}(hf:∀y∈scope.names,y.2=.free->∃c,env.cells.lookup y.1=some c):closureFor scope env=pure (za2 env.cells scope.names []):=by
 have go:∀(l:List (Str×NameKind))(cs:List (Str×Addr)),(∀y∈l,y.2=.free->∃c,env.cells.lookup y.1=some c)->
  (forIn l cs λ(x:Str×NameKind)(r:List (Str×Addr))=>(match x with
    |(name,kind)=>if(kind==NameKind.free)=true then(do let a <-cellOf env name;pure (ForInStep.yield ((name,a)::r)))else pure (ForInStep.yield r):Sem (ForInStep (List (Str×Addr)))))=(pure (za2 env.cells l cs):Sem (List (Str×Addr))):=by
  intro l
  induction l with
  |nil=>intro cs _;rfl
  |cons x r ih=>
   intro cs h
   obtain⟨n,k⟩:=x
   rw[List.forIn_cons]
   by_cases hk:(k==NameKind.free)=true
   .have hk':k=.free:=by simpa using hk
    obtain⟨c,hc⟩:=h (n,k) vak hk'
    have hc':env.cells.lookup n=some c:=hc
    simp only[hk,vbe,cellOf,hc',za2]
    exact ih _ λy hy=>h y (vaf _ hy)
   .have hk':(k==NameKind.free)=false:=by simpa using hk
    simp only[hk',vam,vbi,za2]
    exact ih _ λy hy=>h y (vaf _ hy)
 have e:=go scope.names [] hf
 unfold closureFor
 refine Eq.trans (vd8 (λt=>t >>= λcs=>pure cs) e) ?_
 rfl
theorem zb7{cells:List (Str×Addr)}:∀(l:List (Str×NameKind)) (cs:List (Str×Addr)),(∀x c,cs.lookup x=some c->cells.lookup x=some c)->∀x c,(za2 cells l cs).lookup x=some c->cells.lookup x=some c
 |[],cs,h=>h
 |(n,k)::r,cs,h=>zb7 r _ λx c e=>by
  by_cases hk:(k==NameKind.free)=true
  .simp only[hk,vbe]at e
   cases hc:cells.lookup n with
   |none=>rw[hc]at e;exact h x c e
   |some d=>
    rw[hc]at e
    simp only[vau]at e
    by_cases hx:(x==n)=true
    .simp only[hx]at e
     cases e
     rw[show x=n by simpa using hx];exact hc
    .have hx':(x==n)=false:=by simpa using hx
     simp only[hx']at e
     exact h x c e
  .have hk':(k==NameKind.free)=false:=by simpa using hk
   simp only[hk',vam,vbi]at e
   exact h x c e
theorem zd2{cells:List (Str×Addr)}{x:Str}{c:Addr}(hc:cells.lookup x=some c):∀(l:List (Str×NameKind)) (cs:List (Str×Addr)),cs.lookup x=some c->(za2 cells l cs).lookup x=some c
 |[],cs,h=>h
 |(n,k)::r,cs,h=>zd2 hc r _ (by
  by_cases hk:(k==NameKind.free)=true
  .simp only[hk,vbe]
   cases hn:cells.lookup n with
   |none=>exact h
   |some d=>
    simp only[vau]
    by_cases hx:(x==n)=true
    .have:x=n:=by simpa using hx
     subst this
     rw[hc]at hn;cases hn
     simp
    .have hx':(x==n)=false:=by simpa using hx
     simp only[hx'];exact h
  .have hk':(k==NameKind.free)=false:=by simpa using hk
   simp only[hk',vam,vbi]
   exact h)
theorem zc8{cells:List (Str×Addr)}{x:Str}{c:Addr}(hc:cells.lookup x=some c):∀(l:List (Str×NameKind)) (cs:List (Str×Addr)),(x,NameKind.free)∈l->(za2 cells l cs).lookup x=some c
 |[],cs,h=>by cases h
 |(n,k)::r,cs,h=>by
  rcases va3.mp h with e|e
  .cases e
   refine zd2 hc r _ ?_
   rw[hc]
   simp[vau]
  .exact zc8 hc r _ e
theorem zbh{x:Str}:∀(l:List (Str×NameKind)) (a:Nat) (acc:List (Str×Addr)),(x,NameKind.cell)∉l->(cellsFrom a l acc).lookup x=acc.lookup x
 |[],_,_,_=>rfl
 |(n,k)::r,a,acc,h=>by
  unfold cellsFrom
  have hr:(x,NameKind.cell)∉r:=λz=>h (vaf _ z)
  split
  .rename_i hk
   have hk:k=.cell:=by simpa using hk
   rw[zbh r _ _ hr,vau]
   have:(x==n)=false:=by
    rw[vd4]
    rintro rfl
    exact h (by rw[hk];exact vak)
   rw[this]
  .exact zbh r _ _ hr
theorem za3{x:Str}{c:Addr}:∀(l:List (Str×NameKind)) (a:Nat) (acc:List (Str×Addr)),(cellsFrom a l acc).lookup x=some c->acc.lookup x=some c\/a<=c
 |[],_,_,h=>.inl h
 |(n,k)::r,a,acc,h=>by
  unfold cellsFrom at h
  split at h
  .rcases za3 r _ _ h with h|h
   .rw[vau]at h
    split at h
    .cases h;exact .inr (vaa _)
    .exact .inl h
   .exact .inr (vef h)
  .exact za3 r _ _ h
theorem za1{x:Str}:∀(l:List (Str×NameKind)) (a:Nat) (acc:List (Str×Addr)),(∃c,acc.lookup x=some c)->∃c,(cellsFrom a l acc).lookup x=some c
 |[],_,_,h=>h
 |(n,k)::r,a,acc,h=>by
  unfold cellsFrom
  split
  .refine za1 r _ _ ?_
   rw[vau]
   split
   .exact⟨_,rfl⟩
   .exact h
  .exact za1 r _ _ h
theorem zbp{x:Str}:∀(l:List (Str×NameKind)) (a:Nat) (acc:List (Str×Addr)),(x,NameKind.cell)∈l->∃c,(cellsFrom a l acc).lookup x=some c
 |[],_,_,h=>by cases h
 |(n,k)::r,a,acc,h=>by
  unfold cellsFrom
  rcases va3.mp h with e|e
  .cases e
   rw[if_pos (by rfl)]
   exact za1 r _ _ ⟨a,by simp[vau]⟩
  .split
   .exact zbp r _ _ e
   .exact zbp r _ _ e
theorem zbq{acc:List (Str×Addr)}:∀(l:List (Str×NameKind)) (a:Nat) (acc:List (Str×Addr)),(∀x y c,acc.lookup x=some c->acc.lookup y=some c->x=y)->(∀x c,acc.lookup x=some c->c<a)->
 ∀x y c,(cellsFrom a l acc).lookup x=some c->(cellsFrom a l acc).lookup y=some c->x=y
 |[],_,_,h,_=>h
 |(n,k)::r,a,acc,h,hl=>by
  unfold cellsFrom
  split
  .refine zbq (acc:=acc) r _ _ (λx y c e1 e2=>?_) λx c e=>?_
   .rw[vau]at e1 e2
    cases b1:x==n<;>cases b2:y==n<;>simp only[b1,b2]at e1 e2
    .exact h x y c e1 e2
    .cases e2;exact absurd (hl x _ e1) (vbf _)
    .cases e1;exact absurd (hl y _ e2) (vbf _)
    .rw[veu.mp b1,veu.mp b2]
   .rw[vau]at e
    cases b1:x==n<;>simp only[b1]at e
    .exact vcl (hl x c e)
    .cases e;exact va4 _
  .exact zbq (acc:=acc) r _ _ h hl
theorem zbi{x:Str}{c:Addr}:∀(l:List (Str×NameKind)) (h:Heap) (acc:List (Str×Addr)),(cellsFrom h.objs.size l acc).lookup x=some c->h.objs.size<=c->(∀y d,acc.lookup y=some d->h.objs.size<=d->h.IsCell d none)->(pushCells h l).IsCell c none
 |[],h,acc,e,hc,ha=>ha x c e hc
 |(n,k)::r,h,acc,e,hc,ha=>by
  unfold cellsFrom at e
  unfold pushCells
  split at e
  .rename_i hk
   rw[if_pos hk]
   by_cases z:h.objs.size+1<=c
   .refine zbi r (h.push {cls:=.type "cell",data:=.cell none}) ((n,h.objs.size)::acc) (by rw[vcf];exact e) (by rw[vcf];exact z) λy d e1 e2=>?_
    rw[vcf]at e2
    rw[vau]at e1
    cases b1:y==n<;>simp only[b1]at e1
    .exact(ha y d e1 (vef e2)).keeps λb o q=>vae _ q
    .cases e1;exact absurd e2 (Nat.not_succ_le_self _)
   .have hce:c=h.objs.size:=Nat.le_antisymm (Nat.le_of_lt_succ (Nat.lt_of_not_le z)) hc
    have:(h.push {cls:=.type "cell",data:=.cell none}).IsCell c none:=⟨_,by rw[hce];exact va9 _ rfl,rfl⟩
    exact this.keeps λb o q=>pushCells_keeps _ _ b o q
  .rename_i hk
   rw[if_neg hk]
   exact zbi r h acc e hc ha
theorem zd3{M:Model}{A:Around}{E:Value->Shared->Prop}{s:Shared}{scope:Scope}{globals:Addr}{cl:List (Str×Addr)}{qual:Str}{env:Env}{Q:Env->Shared->Prop}(hcl:∀x c,cl.lookup x=some c->c<s.heap.objs.size)
 (hQ:∀h',h'.Ns s.heap.objs.size (λ_=>none)->(∀b o,s.heap.get? b=some o->h'.get? b=some o)->(∀x c,(cellsFrom (s.heap.objs.size+1) scope.names cl).lookup x=some c->s.heap.objs.size<c->h'.IsCell c none)->
   Q (newEnv scope s.heap.objs.size globals (cellsFrom (s.heap.objs.size+1) scope.names cl) qual none .none (some env) builtinsNs) {s with heap:=h'}) :
 wpAny M A (newFunctionEnv scope globals cl [] qual none .none (some env)) Q E s:=by
 simp only[newFunctionEnv,Option.isSome_some,vbe]
 refine vac (wpAny_alloc ?_)
 refine vac (wpAny_layCells _ (λname kind cells=>by cases hkc:kind==NameKind.cell<;>simp[hkc]) _ _ _ _ ?_)
 have hz:({s with heap:=s.heap.push {cls:=.type "dict",data:=.dict #[]}}:Shared).heap.objs.size=s.heap.objs.size+1:=vcf ..
 rw[hz]
 refine vac (vas (vas ?_))
 refine hQ (pushCells (s.heap.push {cls:=.type "dict",data:=.dict #[]}) scope.names) ((Heap.Ns.new s.heap (.type "dict")).keeps (pushCells_keeps _ _)) (λb o e=>pushCells_keeps _ _ b o (vae _ e)) λx c e hc=>?_
 refine zbi scope.names (s.heap.push {cls:=.type "dict",data:=.dict #[]}) cl (by rw[vcf];exact e) (by rw[vcf];exact hc) λy d e1 e2=>?_
 rw[vcf]at e2
 exact absurd (hcl y d e1) (vb6.mpr (vef e2))
theorem zd4{cells:List (Str×Addr)}{x:Str}:∀(l:List (Str×NameKind)) (cs:List (Str×Addr)),(x,NameKind.free)∉l->cs.lookup x=none->(za2 cells l cs).lookup x=none
 |[],cs,_,h=>h
 |(n,k)::r,cs,hl,h=>by
  have hr:(x,NameKind.free)∉r:=λz=>hl (vaf _ z)
  refine zd4 r _ hr ?_
  by_cases hk:(k==NameKind.free)=true
  .simp only[hk,vbe]
   cases cells.lookup n with
   |none=>exact h
   |some d=>
    simp only[vau]
    have:(x==n)=false:=by
     rw[vd4]
     rintro rfl
     exact hl (by rw[show k=NameKind.free by simpa using hk];exact vak)
    simp only[this]
    exact h
  .have hk':(k==NameKind.free)=false:=by simpa using hk
   simp only[hk',vam,vbi]
   exact h
theorem zjo{cells:List (Str×Addr)}{x:Str}{c:Addr}{l:List (Str×NameKind)}(h:(x,NameKind.free)∉l):¬(za2 cells l []).lookup x=some c:=λz=>by
 rw[zd4 l [] h rfl]at z;cases z
noncomputable abbrev Cx.comp(X:Cx)(N:List Str)(scope:Scope)(C:Addr)(s₀:Shared)(H₀:Hp)(ex:List Addr):Cx:=
 {X with N:=N,s₀:=s₀,H₀:=H₀,env:=compEnvC scope (cellsFrom (C+1) scope.names (za2 X.env.cells scope.names [])) C X.env,outer:=X.stack,stack:=X.stack,ex:=ex,fn:=λx=>scope.names.lookup x==some .cell,pn:=[],xe:=λ_ _=>False}
structure CompScope(X:Cx)(ow fr:List Str)(ix:List Nat)(scope:Scope):Prop where
 kind:scope.kind=.function
 cell1:∀y∈scope.names,y.2=.cell->scope.names.lookup y.1=some .cell
 names:∀y∈scope.names,y.2=.local->scope.names.lookup y.1=some .local
 own:∀x∈ow,scope.names.lookup x=some .local\/scope.names.lookup x=some .cell
 free1:∀y∈scope.names,y.2=.free->scope.names.lookup y.1=some .free
 free:∀y∈scope.names,y.2=.free->X.env.kindOf y.1=some .cell\/X.env.kindOf y.1=some .free
 at_:∀(k:Nat)(x:Str),fr[k]?=some x->∃j,ix[k]?=some j/\X.N[j]?=some x/\scope.names.lookup x=some .free
 len:ix.length=fr.length
noncomputable def cσ(ow fr:List Str)(ix:List Nat)(σ:St):St:=ow.map (λ_=>none)++ix.map λj=>(σ[j]?).join
theorem zeq{x:Str}{k:NameKind}:∀{l:List (Str×NameKind)},l.lookup x=some k->(x,k)∈l
 |[],h=>by cases h
 |(n,j)::r,h=>by
  simp only[vau]at h
  by_cases hx:(x==n)=true
  .simp only[hx]at h
   cases h
   rw[show x=n by simpa using hx];exact vak
  .have hx':(x==n)=false:=by simpa using hx
   simp only[hx']at h
   exact vaf _ (zeq h)
theorem zbx{env:Env}:∀{l:List (Str×NameKind)} {x:Str} {k:NameKind},
 (l.map λ(n,k)=>if(k==NameKind.free&&env.scope.kind == .function&&env.kindOf n==some .cell)then(n,NameKind.cell)else(n,k)).lookup x=some k->k=.cell\/k=.free->(x,NameKind.free)∈l\/(x,NameKind.cell)∈l
 |[],x,k,h,_=>by cases h
 |(n,j)::r,x,k,h,hh=>by
  have ih:=@zbx env r x k
  rw[vaw]at h
  by_cases hc':(j==NameKind.free&&env.scope.kind == .function&&env.kindOf n==some .cell)=true
  .simp only[hc',vbe,vau]at h
   have hj:j=.free:=by
    simp only[vab,veu]at hc'
    exact hc'.1.1
   by_cases hx:(x==n)=true
   .rw[show x=n by simpa using hx,hj];exact .inl vak
   .have hx':(x==n)=false:=by simpa using hx
    simp only[hx']at h
    exact(ih h hh).imp (vaf _) (vaf _)
  .have hcf:(j==NameKind.free&&env.scope.kind == .function&&env.kindOf n==some .cell)=false:=by simpa using hc'
   simp only[hcf,vam,vbi,vau]at h
   by_cases hx:(x==n)=true
   .simp only[hx]at h
    cases h
    rcases hh with z|z
    .rw[show x=n by simpa using hx,z];exact .inr vak
    .rw[show x=n by simpa using hx,z];exact .inl vak
   .have hx':(x==n)=false:=by simpa using hx
    simp only[hx']at h
    exact(ih h hh).imp (vaf _) (vaf _)
theorem zbd{env:Env}(hkf:env.scope.kind=.function):∀{l:List (Str×NameKind)} {x:Str},l.lookup x=some .free->
 (l.map λ(n,k)=>if(k==NameKind.free&&env.scope.kind == .function&&env.kindOf n==some .cell)then(n,NameKind.cell)else(n,k)).lookup x=some (if env.kindOf x=some .cell then .cell else .free)
 |[],x,h=>by cases h
 |(n,j)::r,x,h=>by
  have ih:=@zbd env hkf r x
  rw[vaw]
  simp only[vau]at h
  by_cases hx:(x==n)=true
  .simp only[hx]at h
   cases h
   have e:x=n:=by simpa using hx
   subst e
   by_cases hq:env.kindOf x=some .cell
   .simp[hkf,hq,vau]
   .simp[hq,vau]
  .have hx':(x==n)=false:=by simpa using hx
   simp only[hx']at h
   by_cases hc':(j==NameKind.free&&env.scope.kind == .function&&env.kindOf n==some .cell)=true
   .simp only[hc',vbe,vau,hx'];exact ih h
   .have hcf:(j==NameKind.free&&env.scope.kind == .function&&env.kindOf n==some .cell)=false:=by simpa using hc'
    simp only[hcf,vam,vbi,vau,hx'];exact ih h
section
variable{X:Cx}{pins:List (Addr×Obj)}{σ:St}{H:Hp}{s:Shared}{ow fr:List Str}{ix:List Nat}{scope:Scope}{fp:List Addr}
theorem zh4(S:CompScope X ow fr ix scope)(I:Inv X pins σ H s)(hfp:∀b∈fp,FpOk X pins H b)(hlt:∀b∈fp,b<s.heap.objs.size){h':Heap}{tk:Nat}{m:Str->Option Value}(hn:h'.Ns s.heap.objs.size m)(hk:∀b o,s.heap.get? b=some o->h'.get? b=some o)(hnc:∀x c,(cellsFrom (s.heap.objs.size+1) scope.names (za2 X.env.cells scope.names [])).lookup x=some c->s.heap.objs.size<c->h'.IsCell c none) :
 Inv (X.comp (ow++fr) scope s.heap.objs.size s H fp) [] (cσ ow fr ix σ) H {s with heap:=h',toks:=tk}:=by
 have sub:=zb7 (cells:=X.env.cells) scope.names [] (λx c e=>by cases e)
 have ltC:∀x c,(za2 X.env.cells scope.names []).lookup x=some c->c<s.heap.objs.size:=λx c e=>by
  obtain⟨v,q⟩:=I.cell x c (sub x c e)
  exact q.lt
 have two:∀x c,(cellsFrom (s.heap.objs.size+1) scope.names (za2 X.env.cells scope.names [])).lookup x=some c->X.env.cells.lookup x=some c\/s.heap.objs.size<c:=λx c e=>(za3 _ _ _ e).imp (sub x c) λz=>z
 have pass:∀x,(x,NameKind.free)∈scope.names->scope.names.lookup x=some .free->(cellsFrom (s.heap.objs.size+1) scope.names (za2 X.env.cells scope.names [])).lookup x=(za2 X.env.cells scope.names []).lookup x:=λx hx hl=>zbh _ _ _ λz=>by
  have:=S.cell1 _ z rfl
  rw[hl]at this;cases this
 have kf:=I.ok.kind
 have ncell:∀x c,X.env.cells.lookup x=some c->c≠s.heap.objs.size:=λx c e z=>by
  obtain⟨v,q⟩:=I.cell x c e
  exact absurd q.lt (by rw[z];exact vbf _)
 have hasC:∀x,(x,NameKind.free)∈scope.names->∃c,(za2 X.env.cells scope.names []).lookup x=some c/\X.env.cells.lookup x=some c:=λx hx=>by
  obtain⟨c,hc⟩:=I.ok.has x (S.free _ hx rfl)
  exact⟨c,zc8 hc _ _ hx,hc⟩
 refine⟨⟨I.ok.mod,?_,I.ok.glob,I.ok.blt,vaa _,zbq (acc:=[]) _ _ _ (λx y c a b=>I.ok.inj x y c (sub x c a) (sub y c b)) (λx c e=>vcl (ltC x c e)),λx hx=>?_,λx c e1 e2=>?_,I.ok.hd,I.ok.frames,.inl rfl,λb hb=>?_,λb o e=>?_,?_,λb o e hb=>?_,λb hb hz=>?_,I.stack,λb hb=>I.stkFree b hb⟩,
  rfl,I.bare,Un.kept hk,⟨m,hn,λi x v e1 e2 e3=>?_⟩,λx c e=>?_,I.hok.fresh (vaa _),λx c e=>(two x c e).elim (I.freeC x c) (λz=>I.hok.fresh (vdf z)),λp hp=>?_,I.hok.kept hk,?_⟩
 .exact S.kind
 .have hx':(relabel scope X.env).names.lookup x=some .cell\/(relabel scope X.env).names.lookup x=some .free:=hx
  have hm:(x,NameKind.free)∈scope.names\/(x,NameKind.cell)∈scope.names:=by
   rcases hx' with z|z
   .exact zbx (env:=X.env) z (.inl rfl)
   .exact zbx (env:=X.env) z (.inr rfl)
  rcases hm with hm|hm
  .obtain⟨c,hc,_⟩:=hasC x hm
   exact za1 _ _ _ ⟨c,hc⟩
  .exact zbp _ _ _ hm
 .have e1:scope.names.lookup x=some .cell:=by
   have e1:(scope.names.lookup x==some NameKind.cell)=true:=e1
   simpa using e1
  rcases za3 _ _ _ e2 with z|z
  .exfalso
   have hcl:∃y,X.env.cells.lookup x=some c:=⟨c,sub x c z⟩
   exact absurd z (by
    intro z
    exact zjo (λq=>by
     have:=S.free1 _ q rfl
     rw[e1]at this;cases this) z)
  .exact vef z
 .obtain⟨f0,f1,f2,f3,f4,f5⟩:=hfp b hb
  refine⟨λz=>?_,λx c e=>(two x c e).elim (f4 x c) λz q=>by
   have:=hlt b hb
   rw[q]at z
   exact Nat.lt_asymm this z⟩
  have q:=hlt b hb
  rw[z]at q
  exact absurd q (vbf _)
 .exact⟨(I.bs b o e).1,(I.bs b o e).2⟩
 .exact vbo I.ok.bsz I.sz
 .obtain⟨f0,f1,f2,f3,f4,f5⟩:=hfp b hb
  rcases f3 with z|z
  .exact I.ok.noex b o e z
  .exact absurd (vag (vaq (I.ok.bs b o e).1) z) (vbf _)
 .obtain⟨f0,f1,f2,f3,f4,f5⟩:=hfp b hb
  rcases va3.mp (I.stkSub b hz)with z|z
  .exact f1 z
  .exact f2 z
 .have hlen:ow.length<=i:=by
   by_cases hi:i<ow.length
   .unfold cσ at e2
    rw[vbv (by simpa using hi),va5]at e2
    cases q:ow[i]? with
    |none=>rw[q]at e2;cases e2
    |some y=>rw[q]at e2;cases e2
   .lia
  have e1':fr[i-ow.length]?=some x:=by
   have e1:(ow++fr)[i]?=some x:=e1
   rw[vay hlen]at e1
   exact e1
  have e2':(ix.map λj=>(σ[j]?).join)[i-ow.length]?=some (some v):=by
   unfold cσ at e2
   rw[vay (by simpa using hlen)]at e2
   simpa using e2
  obtain⟨j,hj,hN,hl⟩:=S.at_ _ _ e1'
  rw[va5,hj]at e2'
  have e2'':(σ[j]?).join=some v:=vb7 e2'
  have hσ:σ[j]?=some (some v):=by
   cases q:σ[j]? with
   |none=>rw[q]at e2'';cases e2''
   |some o=>rw[q]at e2'';cases o with
    |none=>cases e2''
    |some w=>cases e2'';rfl
  obtain⟨m0,hm0,hl0⟩:=I.loc
  have hmem:=zeq hl
  have hkf:=S.free _ hmem rfl
  have hvis:Vis X.env.scope x:=hkf.elim (λz=>.inr (.inl z)) λz=>.inr (.inr z)
  obtain⟨u,ru,lk⟩:=hl0 j x v hN hσ hvis
  refine⟨u,ru,.inr ?_⟩
  have hcell:∃c,X.env.cells.lookup x=some c/\s.heap.IsCell c (some u):=by
   rcases lk with⟨z,_⟩|⟨_,c,e,z⟩
   .rcases hkf with q|q
    .rw[show X.env.kindOf x=some .local from z]at q;cases q
    .rw[show X.env.kindOf x=some .local from z]at q;cases q
   .exact⟨c,e,z⟩
  obtain⟨c,hc,o,ho,hd⟩:=hcell
  refine⟨?_,c,(pass x hmem hl).trans (zc8 hc _ _ hmem),o,hk _ _ ho,hd⟩
  show(relabel scope X.env).names.lookup x=some .cell\/(relabel scope X.env).names.lookup x=some .free
  have q:=zbd (env:=X.env) kf hl
  by_cases z:X.env.kindOf x=some .cell
  .rw[if_pos z]at q;exact .inl q
  .rw[if_neg z]at q;exact .inr q
 .rcases two x c e with z|z
  .obtain⟨v,q⟩:=I.cell x c z
   obtain⟨o,ho,hd⟩:=q
   exact⟨v,o,hk _ _ ho,hd⟩
  .exact⟨none,hnc x c e z⟩
 .cases(show p∈([]:List (Addr×Obj))from hp)
 .show(cσ ow fr ix σ).length=(ow++fr).length
  unfold cσ
  rw[vaj,vah,vah,vaj,S.len]
end
theorem zgf{α:Type}{M:Model}{A:Around}{t:Sem α}{Q:α->Shared->Prop}{E:Value->Shared->Prop}{s:Shared}(h:wpAny M A t Q (λ_ _=>False) s):wpAny M A t Q E s:=vbz h (λ_ _ q=>q) λ_ _ z=>z.elim
noncomputable abbrev noX:Value->Shared->Prop:=λ_ _=>False
noncomputable abbrev ze9(ifs:List Expr)(env:Env):Sem Bool:=forIn ifs true λc r=>if r=true then do let ok <-isTrue c env (eval c env);pure (ForInStep.yield ok)else pure (ForInStep.yield r)
theorem zcb{prog:Program}{w:World}{A:Around}{R:Result->Shared->Prop}{s:Shared}{elt target iter:Expr}{ifs:List Expr}{scope:Scope}{pos:Pos}{it acc:Value}{env:Env}(I:Nat->Shared->Prop)
 (turn:∀n s,I n s->wpAny (model prog w) A (pyNext it) (λr s₁=>match r with
   |none=>R (.ok .next) s₁
   |some v=>wpAny (model prog w) A (letOwnedTupleGo target it v) (λ_ s₀=>wpAny (model prog w) A (assign target env v) (λ_ s₂=>
    wpAny (model prog w) A (ze9 ifs env) (λok s₃=>
     if ok=true then wpAny (model prog w) A (eval elt env) (λx s₄=>
      wpAny (model prog w) A (call (.builtin "list.append") [acc,x]) (λ_ s₅=>∃m,m<n/\I m s₅) noX s₄) noX s₃
     else ∃m,m<n/\I m s₃) noX s₂) noX s₀) noX s₁) noX s)
 (n:Nat) (h:I n s) :
 codeAny (model prog w) A (.compLoop (.ListComp elt [⟨target,iter,ifs,0⟩] scope pos) 0 it acc env) R s:=by
 refine codeAny_loop rfl I (λn s hI=>?_) n h
 show wpAny _ A ((compTurn (.ListComp elt [⟨target,iter,ifs,0⟩] scope pos) 0 it acc env).onRaise (λx=>do noteFrame x env;theTreesLotGoes x)) _ _ s
 refine wpAny_noted (zgf ?_)
 rw[compTurn_list]
 refine vac (vc6 (vac (vbz (turn n s hI) (λr s₁ h₁=>?_) λ_ _ h'=>h')))
 cases r with
 |none=>exact vas h₁
 |some v=>
  refine vac (vbz h₁ (λ_ s₀ h₀=>?_) λ_ _ h'=>h')
  refine vac (vbz h₀ (λ_ s₂ h₂=>vac (vbz h₂ (λok s₃ h₃=>?_) λ_ _ h'=>h')) λ_ _ h'=>h')
  cases ok with
  |true=>
   simp only[vbe]at h₃ ⊢
   exact vac (vac (vbz h₃ (λx s₄ h₄=>vac (vbz h₄ (λ_ s₅ h₅=>vas (vas ⟨rfl,h₅⟩)) λ_ _ h'=>h')) λ_ _ h'=>h'))
  |false=>
   simp only[vam,vbi]at h₃ ⊢
   exact vas ⟨rfl,h₃⟩
noncomputable def PTs(X:Cx)(ifs:List Expr)(t:TT):Prop:=
 ∀(pins:List (Addr×Obj))(s:Shared)(σ:St)(H:Hp)(Q:Bool->Hp->Prop),Inv X pins σ H s->t σ H Q->wpAny (model X.prog X.w) X.A (ze9 ifs X.env) (TP X pins σ Q) X.xe s
noncomputable def tYes:TT:=λ_ H Q=>Q true H
theorem zq4{X:Cx}:PTs X [] tYes:=λpins s σ H Q I h=>wpAny_tests_nil ⟨H,I,h⟩
theorem zq5{X:Cx}{c:Expr}{t:TT}(h:PT X c t):PTs X [c] t:=λpins s σ H Q I q=>wpAny_tests_one (h pins s σ H Q I q)
noncomputable def tLC(K:vga)(f:St->St)(wi:TI)(g:TG)(tc:TT)(te:TE):TE:=λσ H Q=>wi σ H λJ H1=>∀D,H1 D=none->K.lookup D=none->
 ∃W:Nat->Nat->St->Hp->List V->Prop,(∃m,W 0 m (f σ) (upd H1 D (.lst [])) [])/\∀i m σ' H' ys,W i m σ' H' ys->H' D=some (.lst ys)/\
  ((J.stop i H'/\Q (.ref D) H')\/(J.go i H'/\∀x H2,J.yld i H' x H2->g x σ' H2 λσ2 H3=>tc σ2 H3 λb H4=>
    if b=true then te σ2 H4 λy H5=>H5 D=some (.lst ys)/\ys.length<sizeLine/\∃m',m'<m/\W (i+1) m' σ2 (upd H5 D (.lst (ys++[y]))) (ys++[y])
    else ∃m',m'<m/\W (i+1) m' σ2 H4 ys))
section
variable{X:Cx}{ow fr:List Str}{ix:List Nat}{scope:Scope}{tg iter elt:Expr}{ifs:List Expr}{pos:Pos}{wi:TI}{g:TG}{tc:TT}{te:TE}
theorem zer{pins:List (Addr×Obj)}{s:Shared}{σ:St}{Q:VK}{RR:Value->Addr->Result->Shared->Prop}(S:CompScope X ow fr ix scope)(hc:X.calm=true)
 (hg:∀C s₀ H₀ ex,PG (X.comp (ow++fr) scope C s₀ H₀ ex) tg g) (ht:∀C s₀ H₀ ex,PTs (X.comp (ow++fr) scope C s₀ H₀ ex) ifs tc) (he:∀C s₀ H₀ ex,PE (X.comp (ow++fr) scope C s₀ H₀ ex) elt te)
 {itv:Value} {E:Value->Shared->Prop}
 (h:PIE X pins σ tg (λJ H1=>∀D,H1 D=none->X.K.lookup D=none->
   ∃W:Nat->Nat->St->Hp->List V->Prop,(∃m,W 0 m (cσ ow fr ix σ) (upd H1 D (.lst [])) [])/\∀i m σ' H' ys,W i m σ' H' ys->H' D=some (.lst ys)/\
    ((J.stop i H'/\Q (.ref D) H')\/(J.go i H'/\∀x H2,J.yld i H' x H2->g x σ' H2 λσ2 H3=>tc σ2 H3 λb H4=>
      if b=true then te σ2 H4 λy H5=>H5 D=some (.lst ys)/\ys.length<sizeLine/\∃m',m'<m/\W (i+1) m' σ2 (upd H5 D (.lst (ys++[y]))) (ys++[y])
      else ∃m',m'<m/\W (i+1) m' σ2 H4 ys))) itv s)
 (fin:∀D C H' s' m,FpOk X pins H' C->s'.heap.Ns C m->(∀h'',Heap.SameBut C s'.heap h''->Inv X pins σ H' {s' with heap:=h''})->Q (.ref D) H'->RR (.ref D) C (.ok .next) s') :
 wpAny (model X.prog X.w) X.A (newList []) (λacc s₃=>wpAny (model X.prog X.w) X.A (newFunctionEnv scope X.env.globals (za2 X.env.cells scope.names []) [] X.env.qual none .none (some X.env)) (λcenv s₄=>
  codeAny (model X.prog X.w) X.A (.compStart (.ListComp elt [⟨tg,iter,ifs,0⟩] scope pos) 0 itv acc {cenv with scope:=relabel scope X.env}) (RR acc cenv.locals) s₄) E s₃) E s:=by
 obtain⟨it,fp,tn,J,H1,e,I1,T,st1,f1,hq⟩:=h
 subst e
 have hD:H1 s.heap.objs.size=none:=I1.hok.fresh (vaa _)
 have hKD:X.K.lookup s.heap.objs.size=none:=by
  cases e:X.K.lookup s.heap.objs.size with
  |none=>rfl
  |some o=>exact absurd (vaq (I1.kIn _ _ e)) (vbf _)
 obtain⟨W,⟨m0,w0⟩,turn⟩:=hq _ hD hKD
 have I3:Inv X pins σ (upd H1 s.heap.objs.size (.lst [])) {s with heap:=s.heap.push {cls:=.type "list",dict:=none,data:=.seq ([]:List Value).toArray}}:=
  I1.laid (t':=s.toks) (o:=.lst []) (λb u q=>vae _ q) (vaa _) ⟨vbg _,[],0,.nil,va9 _ rfl⟩
 have hlt1:∀b∈fp,b<s.heap.objs.size:=λb hb=>by
  obtain⟨o,ho,_⟩:=T.obj _ _ st1 b hb
  exact vaq ho
 have f3:∀b∈fp,FpOk X pins (upd H1 s.heap.objs.size (.lst [])) b:=λb hb=>⟨by rw[zac (va7 (hlt1 b hb))];exact(f1 b hb).1,(f1 b hb).2⟩
 refine vck (zd3 (λx c e=>(I3.cell x c (zb7 (cells:=X.env.cells) scope.names [] (λx c e=>by cases e) x c e)).elim λv q=>q.lt) (λh₁ hns hk0 hnc=>?_))
 dsimp only at hns hk0 hnc ⊢
 generalize hS3:({s with heap:=s.heap.push {cls:=.type "list",dict:=none,data:=.seq ([]:List Value).toArray}}:Shared)=s3 at I3
 have hh3:s3.heap=s.heap.push {cls:=.type "list",dict:=none,data:=.seq ([]:List Value).toArray}:=by rw[<-hS3]
 rw[<-hh3]at hns hk0 hnc ⊢
 have hk:∀b o,s3.heap.get? b=some o->h₁.get? b=some o:=hk0
 have hlt3:∀b∈fp,b<s3.heap.objs.size:=λb hb=>by rw[hh3,vcf];exact vcl (hlt1 b hb)
 have J3:=zh4 S I3 f3 hlt3 (tk:=s.toks) hns hk hnc
 have st3:tn 0 h₁:=T.keep _ _ _ st1 λb hb o e=>hk b o (by rw[hh3];exact vae _ e)
 have ex3:∀b∈fp,(X.comp (ow++fr) scope s3.heap.objs.size s3 (upd H1 s.heap.objs.size (.lst [])) fp).Ok->∀{H':Hp},H' b=none->FpOk (X.comp (ow++fr) scope s3.heap.objs.size s3 (upd H1 s.heap.objs.size (.lst [])) fp) [] H' b:=λb hb ok H' hn=>
  ⟨hn,(ok.exf b hb).1,ok.exfs b hb,.inl hb,(ok.exf b hb).2,λp hp=>by cases(show p∈([]:List (Addr×Obj))from hp)⟩
 have back:∀{σ':St}{H':Hp}{s':Shared},Inv (X.comp (ow++fr) scope s3.heap.objs.size s3 (upd H1 s.heap.objs.size (.lst [])) fp) [] σ' H' s'->∀h'',Heap.SameBut s3.heap.objs.size s'.heap h''->Inv X pins σ H' {s' with heap:=h''}:=λ{σ' H' s'} I' h'' hs=>by
  have neC:∀b o,s3.heap.get? b=some o->b≠s3.heap.objs.size:=λb o e=>va7 (vaq e)
  have un:Un (frs X.stack) fp (upd H1 s.heap.objs.size (.lst [])) H' s3.heap h'':=
   ⟨λb o e n hb hx=>(hs.2 b (neC b o e)).trans (I'.base.keep b o e n hb hx),λb o e n hb hx=>by
    obtain⟨sl,q⟩:=I'.base.slot b o e n hb hx
    exact⟨sl,(hs.2 b (neC b o e)).trans q⟩,I'.base.free,λb o e hx=>by
    obtain⟨o',q⟩:=I'.base.there b o e hx
    exact⟨o',(hs.2 b (neC b o e)).trans q⟩,I'.base.tups,I'.base.frzs,I'.base.tbls⟩
  have hok:HOk X.prog X.w H' h'':=λb ob e=>by
   refine(I'.hok b ob e).stay (λc w' hcc q=>(hs.2 c ?_).trans q) (λ_ q=>q) λ_ _ q=>q
   rintro rfl
   have hfree:=I'.free
   rcases hcc with rfl|hcc
   .rw[show H' s3.heap.objs.size=none from hfree]at e;cases e
   .rw[show H' s3.heap.objs.size=none from hfree]at hcc;cases hcc
  have hos:s'.os=s3.os:=I'.os
  exact I3.call' (s':={s' with heap:=h''}) (ch:=fp) hos un hok I'.bare λb hb=>by
   obtain⟨_,a1,a2,a3,a4,a5⟩:=f1 b hb
   exact⟨a3,a1,a4,a5⟩
 have loop:∀s4:Shared,Inv (X.comp (ow++fr) scope s3.heap.objs.size s3 (upd H1 s.heap.objs.size (.lst [])) fp) [] (cσ ow fr ix σ) (upd H1 s.heap.objs.size (.lst [])) s4->tn 0 s4.heap->
  codeAny (model X.prog X.w) X.A (.compLoop (.ListComp elt [⟨tg,iter,ifs,0⟩] scope pos) 0 (.ref it) (.ref s.heap.objs.size) (X.comp (ow++fr) scope s3.heap.objs.size s3 (upd H1 s.heap.objs.size (.lst [])) fp).env)
   (RR (.ref s.heap.objs.size) s3.heap.objs.size) s4:=by
  intro s4 I4 st4
  refine zcb (λn s'=>∃i σ' H' ys,Inv (X.comp (ow++fr) scope s3.heap.objs.size s3 (upd H1 s.heap.objs.size (.lst [])) fp) [] σ' H' s'/\tn i s'.heap/\(∀b∈fp,H' b=none)/\W i n σ' H' ys) ?_ m0 ⟨0,_,_,[],I4,st4,λb hb=>(f3 b hb).1,w0⟩
  rintro n s5 ⟨i,σ5,H5,ys,I5,st5,fr5,w5⟩
  obtain⟨hDl,alt⟩:=turn i n σ5 H5 ys w5
  rcases alt with⟨stop,q⟩|⟨go,step⟩
  .refine thn (T.done (X.comp (ow++fr) scope s3.heap.objs.size s3 (upd H1 s.heap.objs.size (.lst [])) fp) rfl rfl rfl hc i [] s5 σ5 H5 noX I5 (λb hb=>ex3 b hb I5.ok (fr5 b hb)) st5 stop) λr s6 hq0=>?_
   obtain⟨hr,I6⟩:=hq0
   subst hr
   obtain⟨m6,hn6,_⟩:=I6.loc
   exact fin _ _ H5 s6 m6 (I3.fpOk (vaa _) I6.free) hn6 (back I6) q
  .refine thn (T.item (X.comp (ow++fr) scope s3.heap.objs.size s3 (upd H1 s.heap.objs.size (.lst [])) fp) rfl rfl rfl hc i [] s5 σ5 H5 noX I5 (λb hb=>ex3 b hb I5.ok (fr5 b hb)) st5 go) λr s6 hq0=>?_
   obtain⟨u,hr,h6⟩:=hq0
   subst hr
   refine thn h6 λ_ s7 hq0=>?_
   obtain⟨x,H7,I7,r7,y7,st7,fr7⟩:=hq0
   have I7':=I7.pinned (λb hb=>ex3 b hb I7.ok (fr7 b hb)) (T.obj _ _ st7)
   have again:∀{σ8:St}{H8:Hp}{s8:Shared}{zs:List V}{m':Nat},Inv (X.comp (ow++fr) scope s3.heap.objs.size s3 (upd H1 s.heap.objs.size (.lst [])) fp) ([]++zen fp s7.heap) σ8 H8 s8->m'<n->W (i+1) m' σ8 H8 zs->
    ∃m,m<n/\∃i σ' H' ys,Inv (X.comp (ow++fr) scope s3.heap.objs.size s3 (upd H1 s.heap.objs.size (.lst [])) fp) [] σ' H' s8/\tn i s8.heap/\(∀b∈fp,H' b=none)/\W i m σ' H' ys:=λ{σ8 H8 s8 zs m'} I8 hm w8=>by
    refine⟨m',hm,i+1,σ8,H8,zs,I8.unpinned,T.keep _ _ _ st7 λb hb o e=>(I8.pin (b,o) (vat _ (vat _ (za8 hb e)))).1,λb hb=>?_,w8⟩
    obtain⟨o,e,d⟩:=T.obj _ _ st7 b hb
    exact(I8.pin (b,o) (vat _ (vat _ (za8 hb e)))).2.1
   refine thn (hg _ _ _ _ _ s7 σ5 H7 x u _ I7' r7 (step x H7 y7)) λ_ s8 hq0=>?_
   obtain⟨σ8,H8,I8,q8⟩:=hq0
   refine thn (ht _ _ _ _ _ s8 σ8 H8 _ I8 q8) λok s9 z9=>z9.el λH9 I9 q9=>?_
   cases ok with
   |false=>
    simp only[vam,vbi]at q9 ⊢
    obtain⟨m',hm,w9⟩:=q9
    exact again I9 hm w9
   |true=>
    simp only[vbe]at q9 ⊢
    refine thn (he _ _ _ _ _ s9 σ8 H9 _ I9 q9) λy s10 hq0=>?_
    obtain⟨vy,H10,I10,ry,hD10,hz,m',hm,w10⟩:=hq0
    refine thn (zgc _ s10 σ8 H10 (.ref s.heap.objs.size) [vy] (.ref s.heap.objs.size) [y] (λv H'=>H'=upd H10 s.heap.objs.size (.lst (ys++[vy]))) I10 rfl (.cons ry .nil) ⟨_,ys,vy,rfl,rfl,hD10,hz,rfl⟩) λ_ s11 hq0=>?_
    obtain⟨v11,H11,I11,_,e11⟩:=hq0
    subst e11
    exact again I11 hm w10
 have J3':Inv (X.comp (ow++fr) scope s3.heap.objs.size s3 (upd H1 s.heap.objs.size (.lst [])) fp) [] (cσ ow fr ix σ) (upd H1 s.heap.objs.size (.lst [])) {s with heap:=h₁,toks:=s.toks}:=by
  rw[<-hS3]at J3 ⊢
  exact J3
 exact codeAny_compStart_list (loop _ J3' st3) (T.self _ 0 _ _ _ st3 (loop _ J3' st3))
theorem pe_lc(S:CompScope X ow fr ix scope)(hc:X.calm=true)(hi:PI X tg iter wi)
 (hg:∀C s₀ H₀ ex,PG (X.comp (ow++fr) scope C s₀ H₀ ex) tg g) (ht:∀C s₀ H₀ ex,PTs (X.comp (ow++fr) scope C s₀ H₀ ex) ifs tc) (he:∀C s₀ H₀ ex,PE (X.comp (ow++fr) scope C s₀ H₀ ex) elt te)
 (hs:∀x,foldedSetIterable iter X.env x=pure x:=by intro _;rfl):PE X (.ListComp elt [⟨tg,iter,ifs,0⟩] scope pos) (tLC X.K (cσ ow fr ix) wi g tc te):=by
 intro pins s σ H Q I h
 rw[eval_ListComp]
 refine vdd (use:=none) rfl hs (za7 λy hy e=>I.ok.has _ (S.free y hy e)) S.kind S.names (thn (hi pins s σ H _ I h) λv s1 h1=>thn h1 λitv s2 h2=>?_)
 exact zer (RR:=λacc C=>compPost (model X.prog X.w) X.A X.xe none (EP X pins σ Q) acc C) S hc hg ht he h2 λD C H' s' m _ hn hI q=>⟨m,hn,λh'' hs''=>⟨.ref D,H',hI h'' hs'',rfl,q⟩⟩
theorem znk{i:Nat}{y:Str}{py spos:Pos}(hN:X.N.Nodup)(hiy:X.N[i]?=some y)(hy:Loc X.env.scope y)(S:CompScope X ow fr ix scope)(hc:X.calm=true)(hi:PI X tg iter wi)
 (hg:∀C s₀ H₀ ex,PG (X.comp (ow++fr) scope C s₀ H₀ ex) tg g) (ht:∀C s₀ H₀ ex,PTs (X.comp (ow++fr) scope C s₀ H₀ ex) ifs tc) (he:∀C s₀ H₀ ex,PE (X.comp (ow++fr) scope C s₀ H₀ ex) elt te)
 (hsw:swapsWith (.ListComp elt [⟨tg,iter,ifs,0⟩] scope pos) (some (.Name y py)) spos.line X.env=pure true:=by rfl)
 (hf:X.fn y=true\/X.env.scope.names.lookup y=some .local:=by first|exact .inl rfl|exact .inr rfl|assumption)
 (hs:∀x,foldedSetIterable iter X.env x=pure x:=by intro _;rfl):PS X (.Assign [.Name y py] (.ListComp elt [⟨tg,iter,ifs,0⟩] scope pos) spos) (tAsg (tLC X.K (cσ ow fr ix) wi g tc te) (gName i)):=by
 intro pins s σ H D I h
 rw[exec_Assign_Name_used _ _ _ _ hsw]
 refine vac (vc6 (vac ?_))
 show wpAny _ X.A (do let _ <-comprehension (.ListComp elt [⟨tg,iter,ifs,0⟩] scope pos) scope X.env _ (newList []) false (eval iter X.env) (some (assign (.Name y py) X.env))) _ _ s
 refine vac (vbz (vdd (use:=some (assign (.Name y py) X.env)) (Q:=λ_ s'=>SP X pins D .next s') rfl hs (za7 λy hy e=>I.ok.has _ (S.free y hy e)) S.kind S.names
  (thn (hi pins s σ H _ I h) λv s1 h1=>thn h1 λitv s2 h2=>?_)) (λ_ s' hq=>vas (vas hq)) λ_ _ e=>e)
 refine zer (Q:=λx H1=>gName i x σ H1 D.nx) (RR:=λacc C=>compPost (model X.prog X.w) X.A X.xe (some (assign (.Name y py) X.env)) (λ_ s'=>SP X pins D .next s') acc C) S hc hg ht he h2 λd C H' s' m hC hn hI q=>?_
 show wpAny _ X.A (assign (.Name y py) X.env (.ref d)) _ _ _
 have I':Inv X pins σ H' s':=by
  have z:=hI s'.heap (.refl ..)
  exact z
 refine wpAny_assign_Name (zdx I' hN hiy hy (v:=.ref d) rfl (λs'' I'' ⟨a,hsb,ha⟩=>?_) hf)
 obtain⟨c0,c1,c2,c3,c4,c5⟩:=hC
 have hCa:C≠a:=by
  rcases ha with rfl|ha
  .exact c1
  .exact λz=>c4 _ _ ha z.symm
 refine⟨m,hn.sameBut hsb hCa,λh'' hs''=>⟨_,H',I''.turned (t':=s''.toks) (it:=C) (λb o hb e=>(hs''.2 b hb).trans e) c0 c1 c3 c4 c5,q⟩⟩
end
end L2
set_option maxHeartbeats 4000000
namespace L2
open PySem PySem.Spec PyProof.Rows
mutual
inductive Rp(K:vga)(M:Addr->Prop)(H:Hp):V->PyData->Prop
 |non:Rp K M H .non .none
 |bl (b:Bool):Rp K M H (.bl b) (.bool b)
 |int (i:Int):Rp K M H (.int i) (.int i)
 |str (x:Str):Rp K M H (.str x) (.str x)
 |tup {a:Addr} {xs:List V} {ds:List PyData}:SqT K H a xs->¬M a->Rps K M H xs ds->Rp K M H (.ref a) (.tuple ds)
 |lst {a:Addr} {xs:List V} {ds:List PyData}:SqL K H a xs->¬M a->Rps K M H xs ds->Rp K M H (.ref a) (.list ds)
inductive Rps(K:vga)(M:Addr->Prop)(H:Hp):List V->List PyData->Prop
 |nil:Rps K M H [] []
 |cons {x:V} {d:PyData} {xs:List V} {ds:List PyData}:Rp K M H x d->Rps K M H xs ds->Rps K M H (x::xs) (d::ds)
end
section
variable{X:Cx}{pins:List (Addr×Obj)}{σ:St}{H:Hp}{s:Shared}{M:Addr->Prop}
mutual
theorem Rp.reads(I:Inv X pins σ H s):∀{x:V} {d:PyData} {u:Value},Rp X.K M H x d->RelV x u->∃as,Reads s.heap u d as
 |_,_,_,.non,r=>by cases r;exact⟨_,.none⟩
 |_,_,_,.bl b,r=>by cases r;exact⟨_,.bool b⟩
 |_,_,_,.int i,r=>by obtain⟨t,rfl⟩:=r;exact⟨_,.int i t⟩
 |_,_,_,.str x,r=>by obtain⟨t,rfl⟩:=r;exact⟨_,.str x t⟩
 |_,_,_,.tup h n rr,r=>by
  cases r
  obtain⟨its,rv,p,_⟩:=I.tuple h
  obtain⟨o,ho,hc,m,hd⟩:=p
  obtain⟨as,ra⟩:=Rps.reads I rr rv
  exact⟨_,.tuple ho hc hd (by simpa using ra)⟩
 |_,_,_,.lst h n rr,r=>by
  cases r
  obtain⟨its,rv,p,_⟩:=I.list h
  obtain⟨o,m,ho,hc,_,hd⟩:=p
  obtain⟨as,ra⟩:=Rps.reads I rr rv
  exact⟨_,.list ho hc hd (by simpa using ra)⟩
theorem Rps.reads(I:Inv X pins σ H s):∀{xs:List V} {ds:List PyData} {us:List Value},Rps X.K M H xs ds->Vals xs us->∃as,ReadsAll s.heap us ds as
 |_,_,_,.nil,.nil=>⟨_,.nil⟩
 |_,_,_,.cons r t,.cons q v=>by
  obtain⟨as,h1⟩:=Rp.reads I r q
  obtain⟨bs,h2⟩:=Rps.reads I t v
  exact⟨_,.cons h1 h2⟩
end
noncomputable def rEqD(K:vga):R2:=λx y H Q=>∃d e,Rp K (λ_=>False) H x d/\Rp K (λ_=>False) H y e/\SeqAt.shaped d=true/\SeqAt.shaped e=true/\Q (.bl (PyData.eqv d e)) H
noncomputable def rNeD(K:vga):R2:=λx y H Q=>∃d e,Rp K (λ_=>False) H x d/\Rp K (λ_=>False) H y e/\SeqAt.shaped d=true/\SeqAt.shaped e=true/\Q (.bl (!PyData.eqv d e)) H
theorem zua(hu:X.A.units+64<cLine):OpR X (compareOp .Eq) (rEqD X.K):=by
 intro pins s σ H x y v u Q I rx ry h
 obtain⟨d,e,r1,r2,s1,s2,q⟩:=h
 obtain⟨as,ra⟩:=r1.reads I rx
 obtain⟨bs,rb⟩:=r2.reads I ry
 exact PyProof.Rows.eq_dataH ra rb s1 s2 hu ⟨.bl _,H,I,rfl,q⟩
theorem zub(hu:X.A.units+64<cLine):OpR X (compareOp .NotEq) (rNeD X.K):=by
 intro pins s σ H x y v u Q I rx ry h
 obtain⟨d,e,r1,r2,s1,s2,q⟩:=h
 obtain⟨as,ra⟩:=r1.reads I rx
 obtain⟨bs,rb⟩:=r2.reads I ry
 exact PyProof.Rows.ne_dataH ra rb s1 s2 hu ⟨.bl _,H,I,rfl,q⟩
end
section
variable{prog:Program}{w:World}{A:Around}{E:Value->Shared->Prop}{s:Shared}
theorem zjp{I t:Addr}{k:Nat}{its:Array Value}{y:Value}{Q:Value->Shared->Prop}(hi:s.heap.IsTupleIter I t k)(ht:s.heap.IsTuple t its)(hy:its[k]?=some y)
 (q:∀g,g.IsTupleIter I t (k+1)->Heap.SameBut I s.heap g->Q y {s with heap:=g}):wpAny (model prog w) A (Builtin.SmallTypes.nextOf (.ref I)) Q E s:=by
 obtain⟨oi,e1,e2,e3⟩:=id hi
 obtain⟨ot,e4,_,kt,e5⟩:=ht
 unfold Builtin.SmallTypes.nextOf
 refine vac (vdi (name:=Str.ofString "__next__") hi.typeIs vc5 (vd2 vc5 hi.typeIs F.entry_tuple_iterator_next ?_ (F.args_tuple_iterator_next_1 _)))
 show wpAny _ _ (field (.ref I) 0 >>= _) _ _ s
 refine vac (vee e1 e3 (x:=.ref t) rfl ?_)
 show wpAny _ _ (if(Value.ref t==Value.none)=true then _ else _) _ _ s
 rw[if_neg (show ¬((Value.ref t==Value.none)=true)from λz=>nomatch z)]
 show wpAny _ _ (field (.ref I) 1 >>= _) _ _ s
 refine vac (vee e1 e3 (x:=.int k 0) rfl ?_)
 show wpAny _ _ (seqItems? (.ref t) >>= _) _ _ s
 refine vac (wpAny_seqItems e4 e5 ?_)
 simp only[vde,hy]
 refine vac (wpAny_setField e1 e3 (by simp) (vas ⟨y,rfl,vas (q _ ?_ (Heap.SameBut.update ..))⟩))
 refine⟨_,Heap.get?_update_self _ e1 (Obj.isFreed_of_fields (Obj.data_mapFields e3 _)),(Obj.cls_mapFields ..).trans e2,?_⟩
 rw[Obj.data_mapFields e3]
 simp[rawInt]
theorem zgg{I t:Addr}{k:Nat}{its:Array Value}{Q:Value->Shared->Prop}(hA:A.handled=none)(hi:s.heap.IsTupleIter I t k)(ht:s.heap.IsTuple t its)(hy:its[k]?=none)
 (q:∀g e,Heap.ExtBut I s.heap g->(∃o,g.get? e=some o/\o.cls=.type "StopIteration")->E (.ref e) {s with heap:=g}):wpAny (model prog w) A (Builtin.SmallTypes.nextOf (.ref I)) Q E s:=by
 obtain⟨oi,e1,e2,e3⟩:=id hi
 obtain⟨ot,e4,_,kt,e5⟩:=ht
 unfold Builtin.SmallTypes.nextOf
 refine vac (vdi (name:=Str.ofString "__next__") hi.typeIs vc5 (vd2 vc5 hi.typeIs F.entry_tuple_iterator_next ?_ (F.args_tuple_iterator_next_1 _)))
 show wpAny _ _ (field (.ref I) 0 >>= _) _ _ s
 refine vac (vee e1 e3 (x:=.ref t) rfl ?_)
 show wpAny _ _ (if(Value.ref t==Value.none)=true then _ else _) _ _ s
 rw[if_neg (show ¬((Value.ref t==Value.none)=true)from λz=>nomatch z)]
 show wpAny _ _ (field (.ref I) 1 >>= _) _ _ s
 refine vac (vee e1 e3 (x:=.int k 0) rfl ?_)
 show wpAny _ _ (seqItems? (.ref t) >>= _) _ _ s
 refine vac (wpAny_seqItems e4 e5 ?_)
 simp only[vde,hy]
 refine vac (vdl (vac (wpAny_setField e1 e3 (by simp) ?_)))
 show wpAny _ _ (newExc (.type "StopIteration") [] >>= _) _ _ _
 refine vac ?_
 simp only[newExc,newTuple]
 refine vac (vck ?_ (by size_fits))
 refine vac (m:=firstArgMember _ _) (wpAny_of_eq (a:=Value.none) (by first|rfl|(simp only[firstArgMember];rfl)) ?_)
 refine vck ?_ (by size_fits)
 simp only[raiseNew]
 refine vac (wpAny_handled ?_)
 first|rw[show A.in1.handled=none from hA]|rw[hA]
 refine vac (vas (wpAny_throw ?_))
 exact q _ _ (((Heap.SameBut.update ..).extBut.push _).push _) ⟨_,va9 _ rfl,rfl⟩
end
theorem zh5{h h':Heap}{a:Addr}{its:Array Value}(x:h.IsTuple a its)(e:∀o,h.get? a=some o->h'.get? a=some o):h'.IsTuple a its:=let⟨o,ho,r⟩:=x;⟨o,e _ ho,r⟩
theorem zuc{prog:Program}{w:World}{A:Around}(hA:A.handled=none)(I t:Addr)(hne:t≠I)(its:Array Value) :
 Draws prog w A I [I,t] its.size (λi v=>its[i]?=some v) (λi h=>h.IsTupleIter I t i/\h.IsTuple t its)where
 live:=λ_ _ st=>let⟨o,ho,_⟩:=st.1;⟨o,ho⟩
 frame:=λ_ _ _ st hk=>⟨st.1.at λo e=>hk I (by simp) o e,zh5 st.2 λo e=>hk t (by simp) o e⟩
 item:=λi s Q E hi st q=>zjp st.1 st.2 (y:=its[i]) (by simp[hi]) λg a b=>q _ g s.toks (by simp[hi]) ⟨a,st.2.extBut b.extBut hne⟩ b
 done:=λs Q E st q=>zgg hA st.1 st.2 (by simp) q
theorem zha(l:Addr)(its:Array Value)(n:Nat)(dc:Option Addr)(sl:Array (Option Value)) :
 Meets (Builtin.«enumerate.__new__» ⟨[.type "enumerate",.ref l],[]⟩) (λ_ R s=>s.heap.get? l=some {cls:=.type "tuple",dict:=dc,data:=.seq its n,slots:=sl}/\
  R (.ok (.ret (.ref (s.heap.push {cls:=.type "tuple_iterator",data:=.fields #[.ref l,.int 0 0]}).objs.size)))
   {s with heap:=(s.heap.push {cls:=.type "tuple_iterator",data:=.fields #[.ref l,.int 0 0]}).push {cls:=.type "enumerate",data:=.fields #[.none,.bool false,.ref s.heap.objs.size,rawInt 0,.none,.none]}}):=
 .of_wp λprog w A R s h=>by
  obtain⟨hp,g,d,tk,os⟩:=s
  obtain⟨e,h⟩:=h
  have hsub:=sub_enumerate
  have hT:Heap.IsTuple (Shared.heap ⟨hp,g,d,tk,os⟩) l its:=⟨_,e,rfl,n,rfl⟩
  wp_walk using va8 e
  refine wpAny_stack_any λst=>vas ?_
  split
  .rename_i c _ _ _ _ _
   cases(c==Value.type "enumerate")<;> (wp_walk using va8 e,wpAny_pyIter_tuple hT;exact⟨_,rfl,h⟩)
  .wp_walk using va8 e,wpAny_pyIter_tuple hT
   exact⟨_,rfl,h⟩
theorem zjq{prog:Program}{w:World}{A:Around}{E:Value->Shared->Prop}{s:Shared}{l:Addr}{its:Array Value}{Q:Value->Shared->Prop}(hL:s.heap.IsTuple l its)
 (h:∀g,IsEnum g (s.heap.objs.size+1) s.heap.objs.size 0 .none->g.IsTupleIter s.heap.objs.size l 0->g.objs.size=s.heap.objs.size+2->(∀b o,s.heap.get? b=some o->g.get? b=some o)->Q (.ref (s.heap.objs.size+1)) {s with heap:=g}) :
 wpAny (model prog w) A (call (.type "enumerate") [.ref l]) Q E s:=by
 obtain⟨⟨c,dc,dt,sl⟩,e1,e2,n,e3⟩:=hL
 replace e2:c=.type "tuple":=e2
 replace e3:dt=.seq its n:=e3
 subst e2 e3
 refine callType_new F.called_enumerate (by decide) (F.typeCall_enumerate_1 _) (F.newCall_enumerate_1 _) (λobj=>F.args_object_init_2 obj _) F.entry_enumerate_new (zha l its n dc sl) ⟨e1,?_⟩
 have hz:(s.heap.push {cls:=.type "tuple_iterator",data:=.fields #[.ref l,.int 0 0]}).objs.size=s.heap.objs.size+1:=vcf ..
 show _/\_
 rw[hz]
 have he:IsEnum ((s.heap.push {cls:=.type "tuple_iterator",data:=.fields #[.ref l,.int 0 0]}).push {cls:=.type "enumerate",data:=.fields #[.none,.bool false,.ref s.heap.objs.size,rawInt 0,.none,.none]}) (s.heap.objs.size+1) s.heap.objs.size 0 .none:=by
  rw[<-hz]
  exact va9 _ rfl
 exact⟨⟨_,he,rfl⟩,h _ he ⟨_,vae _ (va9 _ rfl),rfl,rfl⟩ (by rw[vcf,hz]) λb o x=>vae _ (vae _ x)⟩
noncomputable def IteT(K:vga)(a:Addr):It:=
 ⟨λi H=>∃xs x,SqT K H a xs/\xs[i]?=some x,λi H x H'=>∃T v,x=.ref T/\H T=none/\H'=upd H T (.tup [.int i,v])/\∀xs,SqT K H a xs->xs[i]?=some v,λi H=>∃xs,SqT K H a xs/\xs.length<=i⟩
theorem zjr{P:Program}{w:World}{K:vga}{elts:List Expr}{kx:Nat}{tp:Pos}(a e it:Addr)(hei:e≠it)(hae:a≠e)(hai:a≠it) :
 Turn P w K (.Tuple elts kx tp) (IteT K a) [e,it] e (λi h=>(∃old,IsEnum h e it i old)/\h.IsTupleIter it a i)where
 mem:=by simp
 obj:=λi h st b hb=>by
  obtain⟨⟨old,he⟩,o,ho,hc,hd⟩:=st
  rcases va3.mp hb with rfl|hb
  .exact⟨_,he,λv z=>by
    have z':Data.fields _=Data.cell v:=z
    cases z'⟩
  .have e':b=it:=by simpa using hb
   subst e'
   exact⟨o,ho,λv z=>by rw[hd]at z;cases z⟩
 keep:=λi h h' st k=>by
  obtain⟨⟨old,he⟩,st⟩:=st
  exact⟨⟨old,k e (by simp) _ he⟩,st.at λo q=>k it (by simp) o q⟩
 item:=by
  intro X hP hw hK hc i pins s σ H E I hf st hg
  subst hP hw hK
  obtain⟨xs,x,hq,hx⟩:=hg
  obtain⟨⟨old,he⟩,st⟩:=st
  obtain⟨its,rv,p,hz⟩:=I.tuple hq
  obtain⟨u,hu,ru⟩:=rv.get hx
  have hd:X.A.in1.handled=none:=I.ok.hd hc
  have p:s.heap.IsTuple a its.toArray:=p
  refine wpAny_pyNext_enum_itemD (zuc hd it a hai its.toArray) he ⟨st,p⟩ (by
   have:i<its.length:=by
    rw[<-rv.length]
    exact(vba.mp hx).1
   simpa using this) hei (by simp[hei,vdy hae]) λx' h1 tk hx' ho hit hT hsz hk=>?_
  obtain rfl:u=x':=by
   have:its[i]?=some x':=by simpa using hx'
   rw[hu]at this
   cases this;rfl
  refine⟨_,rfl,wpAny_letOwnedTupleGo_enum ho λh2 he2 hs2=>?_⟩
  have hTn:H s.heap.objs.size=none:=I.hok.fresh (vaa _)
  have hTe:s.heap.objs.size≠e:=ve1 (vaq he)
  have hTi:s.heap.objs.size≠it:=by
   obtain⟨o,q,_⟩:=st
   exact ve1 (vaq q)
  have hs2:Heap.SameBut e h1 h2:=hs2
  have kk:∀b o,b≠e->b≠it->s.heap.get? b=some o->h2.get? b=some o:=λb o h1 h2 q=>(hs2.2 b h1).trans (hk b o h1 h2 q)
  have f0:=λb hb=>(hf b hb).1
  have nE:∀b o,H b=some o->b≠e/\b≠it:=λb o q=>⟨λz=>(by rw[z,f0 e (by simp)]at q;cases q),λz=>(by rw[z,f0 it (by simp)]at q;cases q)⟩
  have hT2:h2.get? s.heap.objs.size=some {cls:=.type "tuple",data:=.seq #[.int i tk,u]}:=(hs2.2 _ hTe).trans hT
  have I2:Inv X pins σ (upd H s.heap.objs.size (.tup [.int i,x])) {s with heap:=h2,gens:=s.gens,drawn:=s.drawn,toks:=tk+1}:=by
   refine I.step (ch:=[e,it]) (λb hb=>?_) (λb o _ _ hc e1 _=>kk b o (λz=>hc (by simp[z])) (λz=>hc (by simp[z])) e1) (λb o _ _ hc e1 _=>⟨o.slots,kk b o (λz=>hc (by simp[z])) (λz=>hc (by simp[z])) e1⟩)
    (λb o hc e1 n=>by rw[zac (va7 (vaq e1))];exact n) (λb o hc e1=>⟨o,kk b o (λz=>hc (by simp[z])) (λz=>hc (by simp[z])) e1⟩)
    (λb ys q=>by rw[zac (zad q hTn)];exact q) (λb o u q=>by rw[zac (zad q hTn)];exact q) (λb ps q=>⟨#[],by rw[zac (zad q hTn),q];simp⟩) (λm hm=>?_) (λb ob q=>?_) I.bare
   .obtain⟨_,a1,a2,a3,a4,a5⟩:=hf b hb
    exact⟨a3,a1,a4,a5⟩
   .obtain⟨o,es,ep,ho',r⟩:=hm
    exact⟨o,es,ep,kk _ o (vdy (hf e (by simp)).2.1) (vdy (hf it (by simp)).2.1) ho',r⟩
   .by_cases hb:b=s.heap.objs.size
    .subst hb
     rw[zaf]at q;cases q
     exact⟨by show 2<=sizeLine;decide,[.int i tk,u],.cons ⟨_,rfl⟩ (.cons ru .nil),⟨_,hT2,rfl,⟨_,rfl⟩,rfl⟩⟩
    .rw[zac hb]at q
     refine(I.hok b ob q).stay (λc v hc z=>kk c v ?_ ?_ z) (λc z=>by rw[zac (zad z hTn)];exact z) λc ys z=>by rw[zac (zad z hTn)];exact z
     .rcases hc with rfl|hc
      .exact(nE c ob q).1
      .exact(nE c _ hc).1
     .rcases hc with rfl|hc
      .exact(nE c ob q).2
      .exact(nE c _ hc).2
  refine⟨.ref s.heap.objs.size,_,I2,rfl,⟨_,x,rfl,hTn,rfl,λys hy=>by rw[I.tuple_inj hy hq];exact hx⟩,⟨⟨u,by simpa using he2⟩,hit.1.at λo q=>(hs2.2 it (vdy hei)).trans q⟩,λb hb=>?_⟩
  rw[zac ?_]
  .exact f0 b hb
  .rcases va3.mp hb with rfl|hb
   .exact vdy hTe
   .have e':b=it:=by simpa using hb
    subst e'
    exact vdy hTi
 done:=by
  intro X hP hw hK hc i pins s σ H E I hf st hg
  subst hP hw hK
  obtain⟨xs,hq,hx⟩:=hg
  obtain⟨⟨old,he⟩,st⟩:=st
  obtain⟨its,rv,p,hz⟩:=I.tuple hq
  obtain⟨f0,f1,f2,f3,f4,f5⟩:=hf it (by simp)
  have hl:=rv.length
  have hd:X.A.in1.handled=none:=I.ok.hd hc
  have p:s.heap.IsTuple a its.toArray:=p
  refine PySem.wpAny_pyNext_enum_endD (n:=0) (P:=λ_ _=>True) (St:=λ_ h=>h.IsTupleIter it a i/\h.IsTuple a its.toArray) (fp:=[it,a]) ⟨?_,?_,?_,?_⟩ he ⟨st,p⟩ λh' eb=>⟨rfl,I.turned (t':=s.toks) (λb o hb q=>eb b o hb q) f0 f1 f3 f4 f5⟩
  .exact λ_ _ st=>let⟨o,ho,_⟩:=st.1;⟨o,ho⟩
  .exact λ_ _ _ st hk=>⟨st.1.at λo e=>hk it (by simp) o e,zh5 st.2 λo e=>hk a (by simp) o e⟩
  .exact λj s' Q' E' hj=>absurd hj (Nat.not_lt_zero _)
  .exact λs' Q' E' st' q'=>zgg hd st'.1 st'.2 (by simp;lia) q'
 self:=λ_ _ _ _ _ st h=>by
  obtain⟨⟨old,he⟩,_⟩:=st
  exact wpAny_pyIter_enum he h
section
variable{κ:Type}[DecidableEq κ]
noncomputable def valV(kvs:List (κ×V))(k:κ):Option V:=(kvs.find? λkv=>decide (kv.1=k)).map (·.2)
noncomputable def putK(kvs:List (κ×V))(k:κ)(v:V):List (κ×V):=
 if(kvs.any λkv=>decide (kv.1=k))=true then kvs.map (λkv=>if kv.1=k then(kv.1,v)else kv)else kvs++[(k,v)]
theorem zdp{p:κ×V}{r:List (κ×V)}{k:κ}(e:p.1=k):valV (p::r) k=some p.2:=by simp[valV,vco,e]
theorem zcr{p:κ×V}{r:List (κ×V)}{k:κ}(e:¬p.1=k):valV (p::r) k=valV r k:=by simp[valV,vco,e]
theorem zh6(k:κ):∀kvs:List (κ×V),(kvs.any λkv=>decide (kv.1=k))=(valV kvs k).isSome
 |[]=>rfl
 |p::r=>by
  rw[veo]
  by_cases e:p.1=k
  .simp only[zdp e,vaz e,Bool.true_or,Option.isSome_some]
  .rw[zcr e,vav e,Bool.false_or];exact zh6 k r
theorem zbr(kvs:List (κ×V))(k:κ)(v:V):(putK kvs k v).length<=kvs.length+1:=by
 unfold putK
 split
 .rw[vah];lia
 .rw[vaj,vai,vdr];lia
theorem RelO.isSome_eq{o:Option V}{u:Option Value}(r:RelO o u):o.isSome=u.isSome:=by
 cases o with
 |none=>cases u with
  |none=>rfl
  |some _=>exact(show False from r).elim
 |some _=>cases u with
  |none=>exact(show False from r).elim
  |some _=>rfl
theorem RelO.getD{o:Option V}{u:Option Value}{d:V}{d':Value}(r:RelO o u)(rd:RelV d d'):RelV (o.getD d) (u.getD d'):=by
 cases o with
 |none=>cases u with
  |none=>exact rd
  |some _=>exact(show False from r).elim
 |some _=>cases u with
  |none=>exact(show False from r).elim
  |some _=>exact r
theorem KV.val{kvs:List (κ×V)}{vs:List (κ×Value)}(r:KV kvs vs)(k:κ):RelO (valV kvs k) (valueAt vs k):=by
 unfold KV at r
 induction r with
 |nil=>exact True.intro
 | @cons p q ps qs h t ih=>
  obtain⟨h1,h2⟩:=h
  by_cases e:p.1=k
  .have e':q.1=k:=h1.symm.trans e
   have b:valueAt (q::qs) k=some q.2:=by simp[valueAt,vco,e']
   rw[zdp e,b];exact h2
  .have e':¬q.1=k:=λz=>e (h1.trans z)
   have b:valueAt (q::qs) k=valueAt qs k:=by simp[valueAt,vco,e']
   rw[zcr e,b];exact ih
theorem KV.any{kvs:List (κ×V)}{vs:List (κ×Value)}(r:KV kvs vs)(k:κ):(kvs.any λkv=>decide (kv.1=k))=vs.any λkv=>decide (kv.1=k):=by
 unfold KV at r
 induction r with
 |nil=>rfl
 |cons h t ih=>rw[veo,veo,ih,h.1]
theorem KV.repl{kvs:List (κ×V)}{vs:List (κ×Value)}(r:KV kvs vs)(k:κ){y:V}{u:Value}(ry:RelV y u) :
 KV (kvs.map λkv=>if kv.1=k then(kv.1,y)else kv) (vs.map λkv=>if kv.1=k then(kv.1,u)else kv):=by
 unfold KV at r ⊢
 induction r with
 |nil=>exact .nil
 | @cons p q ps qs h t ih=>
  rw[vaw,vaw]
  refine .cons ?_ ih
  obtain⟨h1,h2⟩:=h
  by_cases e:p.1=k
  .rw[if_pos e,if_pos (h1.symm.trans e)];exact⟨h1,ry⟩
  .rw[if_neg e,if_neg (λz=>e (h1.trans z))];exact⟨h1,h2⟩
theorem KV.put{kvs:List (κ×V)}{vs:List (κ×Value)}(r:KV kvs vs)(k:κ){y:V}{u:Value}(ry:RelV y u):KV (putK kvs k y) (stored vs k u):=by
 unfold putK stored
 rw[r.any k]
 by_cases e:(vs.any λkv=>decide (kv.1=k))=true
 .rw[if_pos e,if_pos e];exact r.repl k ry
 .rw[if_neg e,if_neg e];exact Paired.snoc r ⟨rfl,ry⟩
theorem KV.keys{kvs:List (κ×V)}{vs:List (κ×Value)}(r:KV kvs vs):kvs.map (·.1)=vs.map (·.1):=by
 unfold KV at r
 induction r with
 |nil=>rfl
 |cons h t ih=>rw[vaw,vaw,ih,h.1]
theorem KV.length{kvs:List (κ×V)}{vs:List (κ×Value)}(r:KV kvs vs):kvs.length=vs.length:=vew r
end
theorem kV_is{P:Program}{w:World}{k:Key}{u:Value}(r:RelV (kV k) u):(zaq P w).is k u=true:=by
 cases k with
 |inl i=>obtain⟨t,e⟩:=(show ∃t,u=Value.int i t from r);subst e;exact zg5 P w i t
 |inr x=>obtain⟨t,e⟩:=(show ∃t,u=Value.str x t from r);subst e;exact zg6 P w x t
theorem zgh{P:Program}{w:World}:∀{ks:List Key} {us:List Value},Vals (ks.map kV) us->ItemsAre (zaq P w) ks us
 |[],_,r=>by rw[vd7]at r;cases r;exact .nil
 |k::ks,_,r=>by
  rw[vaw]at r
  cases r with
  |cons h t=>exact .cons (kV_is h) (zgh t)
noncomputable abbrev KT(H:Hp):List (List Key×V)->List (List Key×Addr×Value)->Prop:=Paired λp q=>p.1=q.1/\H q.2.1=some (.tup (p.1.map kV))/\RelV p.2 q.2.2
theorem KT.val{H:Hp}{kvs:List (List Key×V)}{xs:List (List Key×Addr×Value)}(r:KT H kvs xs)(k:List Key):RelO (valV kvs k) ((atKey xs k).map (·.2)):=by
 induction r with
 |nil=>exact True.intro
 | @cons p q ps qs h t ih=>
  obtain⟨h1,_,h2⟩:=h
  by_cases e:p.1=k
  .have e':q.1=k:=h1.symm.trans e
   have b:atKey (q::qs) k=some q.2:=by simp[atKey,vco,e']
   rw[zdp e,b];exact h2
  .have e':¬q.1=k:=λz=>e (h1.trans z)
   have b:atKey (q::qs) k=atKey qs k:=by simp[atKey,vco,e']
   rw[zcr e,b];exact ih
theorem KT.repl{H:Hp}{kvs:List (List Key×V)}{xs:List (List Key×Addr×Value)}(r:KT H kvs xs)(k:List Key){y:V}{u:Value}(ry:RelV y u) :
 KT H (kvs.map λkv=>if kv.1=k then(kv.1,y)else kv) (xs.map (putAt k u)):=by
 induction r with
 |nil=>exact .nil
 | @cons p q ps qs h t ih=>
  rw[vaw,vaw]
  refine .cons ?_ ih
  obtain⟨h1,h2,h3⟩:=h
  unfold putAt
  by_cases e:p.1=k
  .rw[if_pos e,if_pos (h1.symm.trans e)];exact⟨h1,h2,ry⟩
  .rw[if_neg e,if_neg (λz=>e (h1.trans z))];exact⟨h1,h2,h3⟩
theorem KT.put{H:Hp}{kvs:List (List Key×V)}{xs:List (List Key×Addr×Value)}(r:KT H kvs xs)(k:List Key){b:Addr}{y:V}{u:Value}(hb:H b=some (.tup (k.map kV)))(ry:RelV y u) :
 KT H (putK kvs k y) (storedH xs k b u):=by
 have e:(kvs.any λkv=>decide (kv.1=k))=(atKey xs k).isSome:=by
  rw[zh6,(r.val k).isSome_eq,Option.isSome_map]
 unfold putK storedH
 rw[e]
 by_cases q:(atKey xs k).isSome=true
 .rw[if_pos q,if_pos q];exact r.repl k ry
 .rw[if_neg q,if_neg q];exact Paired.snoc r ⟨rfl,hb,ry⟩
theorem KT.keeps{H H':Hp}{kvs:List (List Key×V)}{xs:List (List Key×Addr×Value)}(r:KT H kvs xs)(ht:∀b ys,H b=some (.tup ys)->H' b=some (.tup ys)):KT H' kvs xs:=
 Paired.mapP r λ_ _ z=>⟨z.1,ht _ _ z.2.1,z.2.2⟩
section
variable{P:Program}{w:World}{H:Hp}{h:Heap}{a:Addr}
theorem rd_of{u:HO}(ok:HOk P w H h)(e:Rd H a u):ObjOk P w H h a u:=e.ok ok
theorem dk_rd{kvs:List (Key×V)}(ok:HOk P w H h)(e:Rd H a (.dK kvs)):kvs.length<=sizeLine/\(a==sysModules)=false/\∃vs,KV kvs vs/\h.DictOf (zaq P w) a vs:=
 show ObjOk P w H h a (.dK kvs)from rd_of ok e
theorem dk_of{kvs:List (Key×V)}(ok:HOk P w H h)(e:H a=some (.dK kvs)):kvs.length<=sizeLine/\(a==sysModules)=false/\∃vs,KV kvs vs/\h.DictOf (zaq P w) a vs:=dk_rd ok (.inl e)
theorem zh7{ks:List Key}(ok:HOk P w H h)(e:H a=some (.tup (ks.map kV))):(tupleKind (zaq P w)).is h ks a:=by
 obtain⟨_,its,r,o,h1,h2,⟨n,h3⟩,_⟩:=(show ObjOk P w H h a (.tup (ks.map kV))from ok a _ e)
 exact⟨o,its.toArray,n,h1,h2,h3,by simpa using zgh r⟩
theorem dt_rd{kvs:List (List Key×V)}(ok:HOk P w H h)(e:Rd H a (.dT kvs)):kvs.length<=sizeLine/\(a==sysModules)=false/\
 ∃xs,KT H kvs xs/\h.DictOfH (tupleKind (zaq P w)) a xs:=by
 obtain⟨z,y,xs,r,o,es,ep,h1,h2,h3,h4,h5⟩:=(show ObjOk P w H h a (.dT kvs)from rd_of ok e)
 refine⟨z,y,xs,r,o,es,ep,h1,h2,h3,h4,λx hx=>?_,h5⟩
 have all:∀{l:List (List Key×V)}{m:List (List Key×Addr×Value)},KT H l m->∀x∈m,(tupleKind (zaq P w)).is h x.1 x.2.1:=by
  intro l m q
  induction q with
  |nil=>intro x hx;exact nomatch hx
  | @cons p q ps qs hq t ih=>
   intro x hx
   rcases va3.mp hx with e|hx
   .subst e
    exact zh7 ok (by rw[<-hq.1];exact hq.2.1)
   .exact ih x hx
 exact all r x hx
theorem dt_of{kvs:List (List Key×V)}(ok:HOk P w H h)(e:H a=some (.dT kvs)):kvs.length<=sizeLine/\(a==sysModules)=false/\
 ∃xs,KT H kvs xs/\h.DictOfH (tupleKind (zaq P w)) a xs:=dt_rd ok (.inl e)
end
noncomputable def DGet(H:Hp)(a:Addr)(y:V)(r:Option V):Prop:=
 (∃kvs k,Rd H a (.dK kvs)/\y=kV k/\r=valV kvs k)\/∃kvs k b,Rd H a (.dT kvs)/\y=.ref b/\H b=some (.tup (k.map kV))/\r=valV kvs k
noncomputable def DPut(H:Hp)(a:Addr)(y v:V)(H':Hp):Prop:=
 (∃kvs k,H a=some (.dK kvs)/\y=kV k/\kvs.length<sizeLine/\H'=upd H a (.dK (putK kvs k v)))\/
 ∃kvs k b,H a=some (.dT kvs)/\y=.ref b/\H b=some (.tup (k.map kV))/\kvs.length<sizeLine/\H'=upd H a (.dT (putK kvs k v))
theorem DPut.k{H:Hp}{a:Addr}{kvs:List (Key×V)}{k:Key}{v:V}(e:H a=some (.dK kvs))(hl:kvs.length<sizeLine):DPut H a (kV k) v (upd H a (.dK (putK kvs k v))):=.inl ⟨kvs,k,e,rfl,hl,rfl⟩
section
variable{X:Cx}{pins:List (Addr×Obj)}{σ:St}{H:Hp}{s:Shared}{a:Addr}{y v:V}{u r:Value}{o:Option V}{A:Around}{E:Value->Shared->Prop}
theorem Inv.big(I:Inv X pins σ H s):sysModules<s.heap.objs.size:=by
 have h:mainGlobals<s.heap.objs.size:=(I.mod.glob.keeps I.bk).lt
 exact Nat.lt_trans (by decide) h
theorem zks{Q:Value->Shared->Prop}(hu:A.units+1<cLine)(I:Inv X pins σ H s)(g:DGet H a y (some v))(ry:RelV y u)(h:∀w' s',Inv X pins σ H s'->RelV v w'->Q w' s') :
 wpAny (model X.prog X.w) A (getItem (.ref a) u) Q E s:=by
 rcases g with⟨kvs,k,e,ey,l⟩|⟨kvs,k,b,e,ey,eb,l⟩
 .subst ey
  obtain⟨z,hd,vs,rel,dd⟩:=dk_rd I.hok e
  obtain⟨w',hw,rw'⟩:=RelO.some_of (v:=v) (o:=valueAt vs k) (by rw[l];exact rel.val k)
  exact wpAny_getItem_of (kV_is ry) dd.mapOf hw (h w' _ (I.tok _) rw')
 .subst ey
  cases(show u=Value.ref b from ry)
  obtain⟨z,hd,xs,rel,dd⟩:=dt_rd I.hok e
  obtain⟨w',hw,rw'⟩:=RelO.some_of (v:=v) (o:=(atKey xs k).map (·.2)) (by rw[l];exact rel.val k)
  obtain⟨p,hp,hp2⟩:=Option.map_eq_some_iff.mp hw
  refine wpAny_getItem_heap (tupleKind_room_in1 hu) (zh7 I.hok eb) dd hp ?_
  rw[hp2]
  exact h w' _ (I.tok _) rw'
theorem zfa{h':Heap}{t':Nat}{ob:HO}(I:Inv X pins σ H s)(mu:Mut (H a))(hs:Heap.SameBut a s.heap h')(he:∃q,h'.get? a=some q)(new:ObjOk X.prog X.w (upd H a ob) h' a ob) :
 Inv X pins σ (upd H a ob) {s with heap:=h',toks:=t'}:=
 I.write (x:=a) (e:=a) mu (.inl rfl) (λb q hb z=>(hs.2 b hb).trans z) he new
theorem zkt{P:Program}{w:World}{H':Hp}{h':Heap}{kvs:List (Key×V)}{vs:List (Key×Value)}(z:kvs.length<=sizeLine)(hd:(a==sysModules)=false)(rel:KV kvs vs)(dd:h'.DictOf (zaq P w) a vs) :
 ObjOk P w H' h' a (.dK kvs):=⟨z,hd,vs,rel,dd⟩
theorem zku{H':Hp}{Q:Unit->Shared->Prop}(hu:A.units+1<cLine)(I:Inv X pins σ H s)(g:DPut H a y v H')(ry:RelV y u)(rv:RelV v r)(h:∀s',Inv X pins σ H' s'->Q () s') :
 wpAny (model X.prog X.w) A (setItem (.ref a) u r) Q E s:=by
 rcases g with⟨kvs,k,e,ey,l,eH⟩|⟨kvs,k,b,e,ey,eb,l,eH⟩
 .subst ey eH
  obtain⟨z,hd,vs,rel,dd⟩:=dk_of I.hok e
  have hz:vs.length<=sizeLine:=by rw[<-rel.length];exact z
  have hl:(putK kvs k v).length<=sizeLine:=by have:=zbr kvs k v;lia
  refine wpAny_setItem_pairs (hsz:=hz) (kV_is ry) dd λh' dd' hs=>h _ ?_
  have he:∃q,h'.get? a=some q:=let⟨q,_,_,hq,_⟩:=dd';⟨q,hq⟩
  exact zfa I (by rw[e];exact True.intro) hs he (zkt hl hd (rel.put k rv) dd')
 .subst ey eH
  cases(show u=Value.ref b from ry)
  obtain⟨z,hd,xs,rel,dd⟩:=dt_of I.hok e
  have hz:xs.length<=sizeLine:=by rw[<-vew rel];exact z
  have hl:(putK kvs k v).length<=sizeLine:=by have:=zbr kvs k v;lia
  refine wpAny_setItem_heap (hsz:=hz) (tupleKind_room_in1 hu) (zh7 I.hok eb) dd λh' dd' hs=>h _ ?_
  obtain⟨q,es,ep,hq,h2,h3,h4,_,h5⟩:=dd'
  refine zfa I (by rw[e];exact True.intro) hs ⟨q,hq⟩ ⟨hl,hd,_,(rel.put k eb rv).keeps λc ys ec=>?_,q,es,ep,hq,h2,h3,h4,h5⟩
  rw[zac (ne_of ec e (λz=>nomatch z))]
  exact ec
end
theorem zhb{X:Cx}{pins:List (Addr×Obj)}{σ:St}{H:Hp}{s:Shared}{a:Addr}{y:V}{o:Option V}(I:Inv X pins σ H s)(g:DGet H a y o):s.TypeIs (.ref a) "dict":=by
 rcases g with⟨kvs,k,e,_,_⟩|⟨kvs,k,b,e,_,_,_⟩
 .obtain⟨_,_,vs,_,dd⟩:=dk_rd I.hok e
  exact dd.typeIs
 .obtain⟨_,_,xs,_,dd⟩:=dt_rd I.hok e
  exact dd.typeIs
theorem zfb{P:Program}{w:World}{H:Hp}(h:Heap)(hb:sysModules<h.objs.size):ObjOk P w H (h.push {cls:=.type "dict",data:=.dict #[]}) h.objs.size (.dK []):=
 ⟨vbg _,vd4.mpr (vdy (va7 hb)),[],.nil,Heap.DictOf.new h⟩
noncomputable def zud:TE:=λ_ H Q=>∀p,H p=none->Q (.ref p) (upd H p (.dK []))
section
variable{X:Cx}{pos:Pos}
theorem znl:PE X (.Dict [] [] pos) zud:=λpins s σ H Q I h=>
 wpAny_Dict_empty ⟨.ref s.heap.objs.size,_,I.laid (a:=s.heap.objs.size) (o:=.dK []) (t':=s.toks) (λ_ _ q=>vae _ q) (vaa _) (zfb s.heap I.big),rfl,h _ (I.hok.fresh (vaa _))⟩
end
noncomputable def zh8:List (TE×TE)->St->Hp->(List (V×V)->Hp->Prop)->Prop
 |[],_,H,Q=>Q [] H
 |(tk,tv)::r,σ,H,Q=>tk σ H λx H1=>tv σ H1 λy H2=>zh8 r σ H2 λps H3=>Q ((x,y)::ps) H3
noncomputable abbrev VV:List (V×V)->List (Value×Value)->Prop:=Paired λp q=>RelV p.1 q.1/\RelV p.2 q.2
noncomputable def PPs(X:Cx)(pos:Pos)(keys:List (Option Expr))(values:List Expr)(trs:List (TE×TE)):Prop:=
 ∀(pins:List (Addr×Obj))(s:Shared)(σ:St)(H:Hp)(Q:List (V×V)->Hp->Prop),Inv X pins σ H s->zh8 trs σ H Q->
  wpAny (model X.prog X.w) X.A (evalPairs (pairTrees keys values X.env pos)) (λvs s'=>∃ps H',Inv X pins σ H' s'/\VV ps vs/\Q ps H') X.xe s
theorem zq6{X:Cx}{pos:Pos}:PPs X pos [] [] []:=λpins s σ H Q I h=>pairTrees_nil_walk ⟨[],H,I,.nil,h⟩
theorem znm{X:Cx}{pos:Pos}{k v:Expr}{ks:List (Option Expr)}{vs:List Expr}{tk tv:TE}{trs:List (TE×TE)}(hk:PE X k tk)(hv:PE X v tv)(hr:PPs X pos ks vs trs) :
 PPs X pos (some k::ks) (v::vs) ((tk,tv)::trs):=λpins s σ H Q I h=>
 pairTrees_cons_walk (thn (hk pins s σ H _ I h) λu s1 z9=>z9.el λx H1 I1 rx q1=>thn (hv pins s1 σ H1 _ I1 q1) λw2 s2 z9=>z9.el λy H2 I2 ry q2=>
  thn (hr pins s2 σ H2 _ I2 q2) λws s3 ⟨ps,H3,I3,rel,q3⟩=>⟨(x,y)::ps,H3,I3,.cons ⟨rx,ry⟩ rel,q3⟩)
noncomputable def zdh(kvs more:List (Key×V)):List (Key×V):=more.foldl (λacc kv=>putK acc kv.1 kv.2) kvs
theorem KV.merge:∀{more:List (Key×V)} {rs:List (Key×Value)} {kvs:List (Key×V)} {vs:List (Key×Value)},KV more rs->KV kvs vs->KV (zdh kvs more) (merged vs rs):=by
 intro more rs kvs vs r
 unfold KV at r
 induction r generalizing kvs vs with
 |nil=>intro q;exact q
 | @cons p q ps qs h t ih=>
  intro r0
  have e:KV (putK kvs p.1 p.2) (stored vs q.1 q.2):=by
   have:=r0.put p.1 h.2
   rw[<-h.1];exact this
  exact ih e
theorem zcs:∀(more kvs:List (Key×V)),(zdh kvs more).length<=kvs.length+more.length
 |[],kvs=>by show kvs.length<=kvs.length+0;lia
 |p::r,kvs=>by
  have h1:=zcs r (putK kvs p.1 p.2)
  have h2:=zbr kvs p.1 p.2
  show(zdh (putK kvs p.1 p.2) r).length<=_
  rw[vai];lia
theorem zes{P:Program}{w:World}:∀{kvs:List (Key×V)} {ws:List (Value×Value)},VV (kvs.map λkv=>(kV kv.1,kv.2)) ws->∃rs,Carries (zaq P w) ws rs/\KV kvs rs
 |[],_,r=>by rw[vd7]at r;cases r;exact⟨[],True.intro,.nil⟩
 |p::kvs,_,r=>by
  rw[vaw]at r
  cases r with
  | @cons a b as bs h t=>
   obtain⟨rs,c,q⟩:=zes (P:=P) (w:=w) t
   obtain⟨b1,b2⟩:=b
   exact⟨(p.1,b2)::rs,⟨kV_is h.1,rfl,c⟩,.cons ⟨rfl,h.2⟩ q⟩
noncomputable def tDisp(trs:List (TE×TE)):TE:=λσ H Q=>∀p,H p=none->zh8 trs σ (upd H p (.dK [])) λps H2=>H2 p=some (.dK [])/\∃kvs:List (Key×V),ps=kvs.map (λkv=>(kV kv.1,kv.2))/\kvs.length<=15/\Q (.ref p) (upd H2 p (.dK (zdh [] kvs)))
theorem zq7{X:Cx}{pos:Pos}{keys:List (Option Expr)}{values:List Expr}{trs:List (TE×TE)}(h:PPs X pos keys values trs)(hall:keys.all (·.isSome)=true)(hl:keys.length=values.length)(h0:keys≠[])
 (h15:keys.length<=15):PE X (.Dict keys values pos) (tDisp trs):=by
 intro pins s σ H Q I q
 have hn:=I.hok.fresh (vaa s.heap.objs.size)
 have I1:=I.laid (a:=s.heap.objs.size) (o:=.dK []) (h':=s.heap.push {cls:=.type "dict",data:=.dict #[]}) (t':=s.toks) (λ_ _ q=>vae _ q) (vaa _) (zfb s.heap I.big)
 refine wpAny_Dict_walk (knd:=zaq X.prog X.w) hall hl h0 h15 (thn (h pins _ σ _ _ I1 (q _ hn)) λws s2 hq0=>?_)
 obtain⟨ps,H2,I2,rel,e,kvs,ep,lk,q2⟩:=hq0
 subst ep
 obtain⟨rs,c,rk⟩:=zes (P:=X.prog) (w:=X.w) rel
 obtain⟨z,hd,vs0,r0,dd⟩:=dk_of I2.hok e
 cases r0
 refine⟨rs,c,dd,λh' dd' hs=>⟨.ref s.heap.objs.size,_,?_,rfl,q2⟩⟩
 have hz:(zdh [] kvs).length<=sizeLine:=by
  have h1:=zcs kvs []
  rw[vdr]at h1
  rw[vex];lia
 have he:∃q,h'.get? s.heap.objs.size=some q:=let⟨q,_,_,hq,_⟩:=dd';⟨q,hq⟩
 exact zfa I2 (by rw[e];exact True.intro) hs he (zkt hz hd (rk.merge .nil) dd')
structure M2(X:Cx)(o:Expr)(m:Str)(apos:Pos)(e f:Expr)(cpos:Pos):Prop where
 base:attributeBase o m X.env (eval o X.env)=eval o X.env
 few:((backTo cpos (starEach [e,f] X.env)).all (λx=>!x.1)&& (backToKw cpos (keywordEach [] X.env)).all (λx=>x.1.isSome)
  && decide (([e,f]:List Expr).length+ ([]:List Keyword).length+ (if([]:List Keyword).isEmpty then 0 else 1)<30))=true
 line:(apos.endLine==cpos.line)=true
 trees:backTo cpos (starEach [e,f] X.env)=[(false,eval e X.env),(false,eval f X.env)]
noncomputable def IsD(H:Hp)(a:Addr):Prop:=(∃kvs,Rd H a (.dK kvs))\/∃kvs,Rd H a (.dT kvs)
theorem zue{X:Cx}{pins:List (Addr×Obj)}{σ:St}{H:Hp}{s:Shared}{a:Addr}(I:Inv X pins σ H s)(d:IsD H a) :
 s.TypeIs (.ref a) "dict"/\(∀b,Value.ref a=.ref b->∃ob,s.heap.get? b=some ob/\ob.dict=none)/\(a==sysModules)=false:=by
 rcases d with⟨kvs,e⟩|⟨kvs,e⟩
 .obtain⟨_,hd,vs,_,dd⟩:=dk_rd I.hok e
  refine⟨dd.typeIs,λb q=>?_,hd⟩
  cases q
  obtain⟨ob,_,_,h1,h2,_⟩:=dd
  exact⟨ob,h1,h2.2.1⟩
 .obtain⟨_,hd,xs,_,dd⟩:=dt_rd I.hok e
  refine⟨dd.typeIs,λb q=>?_,hd⟩
  cases q
  obtain⟨ob,_,_,h1,h2,_⟩:=dd
  exact⟨ob,h1,h2.2.1⟩
section
variable{X:Cx}{pins:List (Addr×Obj)}{σ:St}{H:Hp}{s:Shared}{a:Addr}{y d:V}{u r:Value}{o:Option V}{A:Around}{E:Value->Shared->Prop}
theorem zuf{Q:Value->Shared->Prop}(hu:A.units+1<cLine)(I:Inv X pins σ H s)(g:DGet H a y o)(ry:RelV y u)(rd:RelV d r)(h:∀w' s',Inv X pins σ H s'->RelV (o.getD d) w'->Q w' s') :
 wpAny (model X.prog X.w) A (call (.builtin "dict.get") [.ref a,u,r]) Q E s:=by
 rcases g with⟨kvs,k,e,ey,l⟩|⟨kvs,k,b,e,ey,eb,l⟩
 .subst ey
  obtain⟨z,hd,vs,rel,dd⟩:=dk_rd I.hok e
  refine call_meetsIn PySem.F.slot_dict_get dd.typeIs PySem.F.entry_dict_get (PySem.F.args_dict_get_3 _ _ _) (meets_dict_get_default (zaq X.prog X.w) a (kV_is ry) hd r) ⟨_,dd.mapOf,h _ _ (I.tok _) ?_⟩
  rw[l]
  exact(rel.val k).getD rd
 .subst ey
  cases(show u=Value.ref b from ry)
  obtain⟨z,hd,xs,rel,dd⟩:=dt_rd I.hok e
  refine call_meetsIn PySem.F.slot_dict_get dd.typeIs PySem.F.entry_dict_get (PySem.F.args_dict_get_3 _ _ _) (meetsH_dict_get_default (tupleKind (zaq X.prog X.w)) a b hd r) ⟨tupleKind_room_in1 hu,k,xs,zh7 I.hok eb,dd,h _ _ (I.tok _) ?_⟩
  rw[l]
  exact(rel.val k).getD rd
end
noncomputable def zug(td ty tx:TE):TE:=λσ H Q=>td σ H λx H1=>∃a,x=.ref a/\IsD H1 a/\ty σ H1 λy H2=>tx σ H2 λz H3=>∃o,DGet H3 a y o/\Q (o.getD z) H3
section
variable{X:Cx}{o e f:Expr}{apos cpos:Pos}{td ty tx:TE}
theorem znn(hu:X.A.units+1<cLine)(ho:PE X o td)(he:PE X e ty)(hf:PE X f tx)(m:M2 X o "get" apos e f cpos):PE X (.Call (.Attribute o "get" apos) [e,f] [] cpos) (zug td ty tx):=by
 intro pins s σ H Q I h
 refine wpAny_Call_method m.base m.few m.line PySem.F.plainAttrs_dict PySem.F.slot_dict_get PySem.F.type_dict_get (thn (ho pins s σ H _ I h) λu s1 z9=>z9.el λx H1 I1 rx hq0=>?_)
 obtain⟨a,ex,d,q1⟩:=hq0
 subst ex
 obtain rfl:u=Value.ref a:=rx
 obtain⟨t1,t2,_⟩:=zue I1 d
 refine⟨t1,t2,?_⟩
 rw[m.trees]
 refine Calls.callWith_builtin rfl (Calls.evalArgs_plain (Calls.spliced_cons (thn (he pins s1 σ H1 _ I1 q1) λiv s2 z9=>z9.el λy H2 I2 ry q2=>
  Calls.spliced_cons (thn (hf pins s2 σ H2 _ I2 q2) λfv s3 z9=>z9.el λz H3 I3 rz ⟨ov,g,q3⟩=>Calls.spliced_nil ?_))))
 exact zuf hu I3 g ry rz λw' s4 I4 rw'=>⟨_,H3,I4,rw',q3⟩
end
noncomputable def turnG(e tg iter:Expr)(ifs:List Expr)(it acc:Value)(env:Env)(emit:Sem Unit):Sem Fin:=do
 standAt iter.pos
 match <-pyNext it with
 |none=>pure (.done .next)
 |some v=>
  letOwnedTupleGo tg it v
  assign tg env v
  let ok <-ze9 ifs env
  if ok then emit
  again (.compLoop e 0 it acc env)
theorem zkv{prog:Program}{w:World}{A:Around}{R:Result->Shared->Prop}{s:Shared}{e target iter:Expr}{ifs:List Expr}{it acc:Value}{env:Env}{emit:Sem Unit}(he:compTurn e 0 it acc env=turnG e target iter ifs it acc env emit)
 (hd:(model prog w).den (.compLoop e 0 it acc env)=(compTurn e 0 it acc env).onRaise (λx=>do noteFrame x env;theTreesLotGoes x)) (hA:A.under (.compLoop e 0 it acc env)=A) (I:Nat->Shared->Prop)
 (turn:∀n s,I n s->wpAny (model prog w) A (pyNext it) (λr s₁=>match r with
   |none=>R (.ok .next) s₁
   |some v=>wpAny (model prog w) A (letOwnedTupleGo target it v) (λ_ s₀=>wpAny (model prog w) A (assign target env v) (λ_ s₂=>
    wpAny (model prog w) A (ze9 ifs env) (λok s₃=>
     if ok=true then wpAny (model prog w) A emit (λ_ s₅=>∃m,m<n/\I m s₅) noX s₃
     else ∃m,m<n/\I m s₃) noX s₂) noX s₀) noX s₁) noX s)
 (n:Nat) (h:I n s):codeAny (model prog w) A (.compLoop e 0 it acc env) R s:=by
 refine codeAny_loop rfl I (λn s hI=>?_) n h
 rw[hd,hA]
 refine wpAny_noted (zgf ?_)
 rw[he]
 unfold turnG
 refine vac (vc6 (vac (vbz (turn n s hI) (λr s₁ h₁=>?_) λ_ _ z=>z)))
 cases r with
 |none=>exact vas h₁
 |some v=>
  refine vac (vbz h₁ (λ_ s₀ h₀=>?_) λ_ _ z=>z)
  refine vac (vbz h₀ (λ_ s₂ h₂=>vac (vbz h₂ (λok s₃ h₃=>?_) λ_ _ z=>z)) λ_ _ z=>z)
  cases ok with
  |true=>
   simp only[vbe]at h₃ ⊢
   exact vac (vbz h₃ (λ_ s₅ h₅=>vas ⟨rfl,h₅⟩) λ_ _ z=>z)
  |false=>
   simp only[vam,vbi]at h₃ ⊢
   exact vas ⟨rfl,h₃⟩
theorem zjs{prog:Program}{w:World}{A:Around}{R:Result->Shared->Prop}{s:Shared}{e target iter:Expr}{ifs:List Expr}{rest:List Comprehension}{it acc:Value}{env:Env}(hcl:clausesOf e=⟨target,iter,ifs,0⟩::rest)
 (hd:(model prog w).den (.compStart e 0 it acc env)=(compStart e 0 it acc env).onRaise (λx=>do noteFrame x env;standAt theWindowsPlace)) (hA:A.under (.compStart e 0 it acc env)=A)
 (h0:codeAny (model prog w) A (.compLoop e 0 it acc env) R s)
 (h:wpAny (model prog w) A (pyIter it) (λj s'=>codeAny (model prog w) A (.compLoop e 0 j acc env) R s') (notedBy (model prog w) A env λx s'=>R (.error x) s') s) :
 codeAny (model prog w) A (.compStart e 0 it acc env) R s:=by
 refine codeAny_of_tree ?_
 rw[hd,hA]
 refine wpAny_notedAt ?_
 unfold compStart
 rw[hcl]
 show wpAny _ _ (ask >>= _) _ _ s
 refine vac (wpAny_askSetting (ve5 ?_))
 split
 .first
   |exact vac (vas (vas (And.intro rfl h0)))
   |exact vas (And.intro rfl h0)
 .first
   |exact vac (vdl (vac (vc6 (vac (vbz h (λj s' h'=>vas ⟨rfl,h'⟩) λ_ _ z=>z)))))
   |(refine vac (vdl ?_);show wpAny _ _ (standAt iter.pos >>= _) _ _ s;exact vac (vc6 (vac (vbz h (λj s' h'=>vas ⟨rfl,h'⟩) λ_ _ z=>z))))
noncomputable abbrev TM:=St->Hp->(St->Hp->Prop)->Prop
noncomputable def PM(X:Cx)(emit:Sem Unit)(t:TM):Prop:=∀(pins:List (Addr×Obj)) (s:Shared) (σ:St) (H:Hp) (Q:St->Hp->Prop),Inv X pins σ H s->t σ H Q->wpAny (model X.prog X.w) X.A emit (λ_ s'=>∃σ' H',Inv X pins σ' H' s'/\Q σ' H') X.xe s
structure CKind(P:Program)(w:World)(e tg iter:Expr)(ifs:List Expr)(emit:Value->Env->Sem Unit)(newAcc:Sem Value)(ob:Obj)(u0:HO):Prop where
 cl:∃rest,clausesOf e=⟨tg,iter,ifs,0⟩::rest
 turn:∀it acc env,compTurn e 0 it acc env=turnG e tg iter ifs it acc env (emit acc env)
 dl:∀it acc env,(model P w).den (.compLoop e 0 it acc env)=(compTurn e 0 it acc env).onRaise (λx=>do noteFrame x env;theTreesLotGoes x)
 ds:∀it acc env,(model P w).den (.compStart e 0 it acc env)=(compStart e 0 it acc env).onRaise (λx=>do noteFrame x env;standAt theWindowsPlace)
 al:∀(A:Around) it acc env,A.under (.compLoop e 0 it acc env)=A
 as:∀(A:Around) it acc env,A.under (.compStart e 0 it acc env)=A
 new:∀(A:Around)(s:Shared)(Q:Value->Shared->Prop)(E:Value->Shared->Prop),Q (.ref s.heap.objs.size) {s with heap:=s.heap.push ob}->wpAny (model P w) A newAcc Q E s
 ok:∀(H:Hp)(h:Heap),sysModules<h.objs.size->ObjOk P w H (h.push ob) h.objs.size u0
noncomputable def CWalk(J:It)(f:St)(g:TG)(tc:TT)(tm:TM)(u0:HO)(D:Addr)(H1:Hp)(Q:Hp->Prop):Prop:=
 ∃W:Nat->Nat->St->Hp->Prop,(∃m,W 0 m f (upd H1 D u0))/\∀i m σ' H',W i m σ' H'->
  ((J.stop i H'/\Q H')\/(J.go i H'/\∀x H2,J.yld i H' x H2->g x σ' H2 λσ2 H3=>tc σ2 H3 λb H4=>
    if b=true then tm σ2 H4 λσ5 H5=>∃m',m'<m/\W (i+1) m' σ5 H5
    else ∃m',m'<m/\W (i+1) m' σ2 H4))
noncomputable def tCG(K:vga)(f:St->St)(wi:TI)(g:TG)(tc:TT)(tm:Addr->TM)(u0:HO):TE:=λσ H Q=>wi σ H λJ H1=>∀D,H1 D=none->K.lookup D=none->CWalk J (f σ) g tc (tm D) u0 D H1 λH'=>Q (.ref D) H'
section
variable{X:Cx}{ow fr:List Str}{ix:List Nat}{scope:Scope}{e tg iter:Expr}{ifs:List Expr}{pos:Pos}{wi:TI}{g:TG}{tc:TT}{tm:Addr->TM}{emit:Value->Env->Sem Unit}{newAcc:Sem Value}{ob:Obj}{u0:HO}
theorem zd5{pins:List (Addr×Obj)}{s:Shared}{σ:St}{Q:VK}{RR:Value->Addr->Result->Shared->Prop}(CK:CKind X.prog X.w e tg iter ifs emit newAcc ob u0)(S:CompScope X ow fr ix scope)(hc:X.calm=true)
 (hg:∀C s₀ H₀ ex,PG (X.comp (ow++fr) scope C s₀ H₀ ex) tg g) (ht:∀C s₀ H₀ ex,PTs (X.comp (ow++fr) scope C s₀ H₀ ex) ifs tc) (he:∀C s₀ H₀ ex D,PM (X.comp (ow++fr) scope C s₀ H₀ ex) (emit (.ref D) (X.comp (ow++fr) scope C s₀ H₀ ex).env) (tm D))
 {itv:Value} {E:Value->Shared->Prop}
 (h:PIE X pins σ tg (λJ H1=>∀D,H1 D=none->X.K.lookup D=none->CWalk J (cσ ow fr ix σ) g tc (tm D) u0 D H1 λH'=>Q (.ref D) H') itv s)
 (fin:∀D C H' s' m,FpOk X pins H' C->s'.heap.Ns C m->(∀h'',Heap.SameBut C s'.heap h''->Inv X pins σ H' {s' with heap:=h''})->Q (.ref D) H'->RR (.ref D) C (.ok .next) s') :
 wpAny (model X.prog X.w) X.A newAcc (λacc s₃=>wpAny (model X.prog X.w) X.A (newFunctionEnv scope X.env.globals (za2 X.env.cells scope.names []) [] X.env.qual none .none (some X.env)) (λcenv s₄=>
  codeAny (model X.prog X.w) X.A (.compStart e 0 itv acc {cenv with scope:=relabel scope X.env}) (RR acc cenv.locals) s₄) E s₃) E s:=by
 obtain⟨it,fp,tn,J,H1,ei,I1,T,st1,f1,hq⟩:=h
 subst ei
 have hD:H1 s.heap.objs.size=none:=I1.hok.fresh (vaa _)
 have hKD:X.K.lookup s.heap.objs.size=none:=by
  cases q:X.K.lookup s.heap.objs.size with
  |none=>rfl
  |some o=>exact absurd (vaq (I1.kIn _ _ q)) (vbf _)
 obtain⟨W,⟨m0,w0⟩,turn⟩:=hq _ hD hKD
 have I3:Inv X pins σ (upd H1 s.heap.objs.size u0) {s with heap:=s.heap.push ob}:=I1.laid (t':=s.toks) (o:=u0) (λb u q=>vae _ q) (vaa _) (CK.ok _ _ I1.big)
 have hlt1:∀b∈fp,b<s.heap.objs.size:=λb hb=>by
  obtain⟨o,ho,_⟩:=T.obj _ _ st1 b hb
  exact vaq ho
 have f3:∀b∈fp,FpOk X pins (upd H1 s.heap.objs.size u0) b:=λb hb=>⟨by rw[zac (va7 (hlt1 b hb))];exact(f1 b hb).1,(f1 b hb).2⟩
 refine CK.new _ _ _ _ (zd3 (λx c e=>(I3.cell x c (zb7 (cells:=X.env.cells) scope.names [] (λx c e=>by cases e) x c e)).elim λv q=>q.lt) (λh₁ hns hk0 hnc=>?_))
 dsimp only at hns hk0 hnc ⊢
 generalize hS3:({s with heap:=s.heap.push ob}:Shared)=s3 at I3
 have hh3:s3.heap=s.heap.push ob:=by rw[<-hS3]
 rw[<-hh3]at hns hk0 hnc ⊢
 have hk:∀b o,s3.heap.get? b=some o->h₁.get? b=some o:=hk0
 have hlt3:∀b∈fp,b<s3.heap.objs.size:=λb hb=>by rw[hh3,vcf];exact vcl (hlt1 b hb)
 have J3:=zh4 S I3 f3 hlt3 (tk:=s.toks) hns hk hnc
 have st3:tn 0 h₁:=T.keep _ _ _ st1 λb hb o q=>hk b o (by rw[hh3];exact vae _ q)
 generalize hXc:X.comp (ow++fr) scope s3.heap.objs.size s3 (upd H1 s.heap.objs.size u0) fp=Y at J3
 have ex3:∀b∈fp,Y.Ok->∀{H':Hp},H' b=none->FpOk Y [] H' b:=λb hb ok H' hn=>by
  subst hXc
  exact⟨hn,(ok.exf b hb).1,ok.exfs b hb,.inl hb,(ok.exf b hb).2,λp hp=>by cases(show p∈([]:List (Addr×Obj))from hp)⟩
 have back:∀{σ':St}{H':Hp}{s':Shared},Inv Y [] σ' H' s'->∀h'',Heap.SameBut s3.heap.objs.size s'.heap h''->Inv X pins σ H' {s' with heap:=h''}:=λ{σ' H' s'} I' h'' hs=>by
  subst hXc
  have neC:∀b o,s3.heap.get? b=some o->b≠s3.heap.objs.size:=λb o q=>va7 (vaq q)
  have un:Un (frs X.stack) fp (upd H1 s.heap.objs.size u0) H' s3.heap h'':=
   ⟨λb o q n hb hx=>(hs.2 b (neC b o q)).trans (I'.base.keep b o q n hb hx),λb o q n hb hx=>by
    obtain⟨sl,z⟩:=I'.base.slot b o q n hb hx
    exact⟨sl,(hs.2 b (neC b o q)).trans z⟩,I'.base.free,λb o q hx=>by
    obtain⟨o',z⟩:=I'.base.there b o q hx
    exact⟨o',(hs.2 b (neC b o q)).trans z⟩,I'.base.tups,I'.base.frzs,I'.base.tbls⟩
  have hok:HOk X.prog X.w H' h'':=λb ob q=>by
   refine(I'.hok b ob q).stay (λc w' hcc z=>(hs.2 c ?_).trans z) (λ_ z=>z) λ_ _ z=>z
   rintro rfl
   have hfree:=I'.free
   rcases hcc with rfl|hcc
   .rw[show H' s3.heap.objs.size=none from hfree]at q;cases q
   .rw[show H' s3.heap.objs.size=none from hfree]at hcc;cases hcc
  have hos:s'.os=s3.os:=I'.os
  exact I3.call' (s':={s' with heap:=h''}) (ch:=fp) hos un hok I'.bare λb hb=>by
   obtain⟨_,a1,a2,a3,a4,a5⟩:=f1 b hb
   exact⟨a3,a1,a4,a5⟩
 have hYP:Y.prog=X.prog:=by subst hXc;rfl
 have hYw:Y.w=X.w:=by subst hXc;rfl
 have hYK:Y.K=X.K:=by subst hXc;rfl
 have hYA:Y.A=X.A:=by subst hXc;rfl
 have hYc:Y.calm=true:=by rw[<-hXc];exact hc
 have hYx:Y.xe=noX:=by subst hXc;rfl
 have hYL:Y.env.locals=s3.heap.objs.size:=by subst hXc;rfl
 have hg':PG Y tg g:=by rw[<-hXc];exact hg _ _ _ _
 have ht':PTs Y ifs tc:=by rw[<-hXc];exact ht _ _ _ _
 have he':∀D,PM Y (emit (.ref D) Y.env) (tm D):=λD=>by rw[<-hXc];exact he _ _ _ _ D
 have loop:∀s4:Shared,Inv Y [] (cσ ow fr ix σ) (upd H1 s.heap.objs.size u0) s4->tn 0 s4.heap->codeAny (model X.prog X.w) X.A (.compLoop e 0 (.ref it) (.ref s.heap.objs.size) Y.env) (RR (.ref s.heap.objs.size) s3.heap.objs.size) s4:=by
  intro s4 I4 st4
  refine zkv (CK.turn _ _ _) (CK.dl _ _ _) (CK.al _ _ _ _) (λn s'=>∃i σ' H',Inv Y [] σ' H' s'/\tn i s'.heap/\(∀b∈fp,H' b=none)/\W i n σ' H') ?_ m0 ⟨0,_,_,I4,st4,λb hb=>(f3 b hb).1,w0⟩
  rintro n s5 ⟨i,σ5,H5,I5,st5,fr5,w5⟩
  rcases turn i n σ5 H5 w5 with⟨stop,q⟩|⟨go,step⟩
  .have td:=T.done Y hYP hYw hYK hYc i [] s5 σ5 H5 noX I5 (λb hb=>ex3 b hb I5.ok (fr5 b hb)) st5 stop
   rw[hYA]at td
   refine thn td λr s6 hq0=>?_
   obtain⟨hr,I6⟩:=hq0
   subst hr
   obtain⟨m6,hn6,_⟩:=I6.loc
   rw[hYL]at hn6
   have hf6:=I6.free
   rw[hYL]at hf6
   exact fin _ _ H5 s6 m6 (I3.fpOk (vaa _) hf6) hn6 (back I6) q
  .have td:=T.item Y hYP hYw hYK hYc i [] s5 σ5 H5 noX I5 (λb hb=>ex3 b hb I5.ok (fr5 b hb)) st5 go
   rw[hYA]at td
   refine thn td λr s6 hq0=>?_
   obtain⟨u,hr,h6⟩:=hq0
   subst hr
   refine thn h6 λ_ s7 hq0=>?_
   obtain⟨x,H7,I7,r7,y7,st7,fr7⟩:=hq0
   have I7':=I7.pinned (λb hb=>ex3 b hb I7.ok (fr7 b hb)) (T.obj _ _ st7)
   have again:∀{σ8:St}{H8:Hp}{s8:Shared}{m':Nat},Inv Y ([]++zen fp s7.heap) σ8 H8 s8->m'<n->W (i+1) m' σ8 H8->∃m,m<n/\∃i σ' H',Inv Y [] σ' H' s8/\tn i s8.heap/\(∀b∈fp,H' b=none)/\W i m σ' H':=λ{σ8 H8 s8 m'} I8 hm w8=>by
    refine⟨m',hm,i+1,σ8,H8,I8.unpinned,T.keep _ _ _ st7 λb hb o q=>(I8.pin (b,o) (vat _ (vat _ (za8 hb q)))).1,λb hb=>?_,w8⟩
    obtain⟨o,q,d⟩:=T.obj _ _ st7 b hb
    exact(I8.pin (b,o) (vat _ (vat _ (za8 hb q)))).2.1
   have q7:=hg' _ s7 σ5 H7 x u _ I7' r7 (step x H7 y7)
   rw[hYP,hYw,hYA,hYx]at q7
   refine thn q7 λ_ s8 hq0=>?_
   obtain⟨σ8,H8,I8,q8⟩:=hq0
   have q8:=ht' _ s8 σ8 H8 _ I8 q8
   rw[hYP,hYw,hYA,hYx]at q8
   refine thn q8 λok s9 z9=>z9.el λH9 I9 q9=>?_
   cases ok with
   |false=>
    simp only[vam,vbi]at q9 ⊢
    obtain⟨m',hm,w9⟩:=q9
    exact again I9 hm w9
   |true=>
    simp only[vbe]at q9 ⊢
    have q10:=he' _ _ s9 σ8 H9 _ I9 q9
    rw[hYP,hYw,hYA,hYx]at q10
    exact thn q10 λ_ s10 ⟨σ10,H10,I10,m',hm,w10⟩=>again I10 hm w10
 have J3':Inv Y [] (cσ ow fr ix σ) (upd H1 s.heap.objs.size u0) {s with heap:=h₁,toks:=s.toks}:=by
  rw[<-hS3]at J3
  exact J3
 have hl:=loop _ J3' st3
 obtain⟨rest,hcl⟩:=CK.cl
 have fin':=zjs hcl (CK.ds _ _ _) (CK.as _ _ _ _) hl (T.self _ 0 _ _ _ st3 hl)
 rw[<-hXc]at fin'
 exact fin'
theorem pe_cg(CK:CKind X.prog X.w e tg iter ifs emit newAcc ob u0)(hev:eval e X.env=comprehension e scope X.env pos newAcc false (eval iter X.env))(S:CompScope X ow fr ix scope)(hc:X.calm=true)(hi:PI X tg iter wi)
 (hg:∀C s₀ H₀ ex,PG (X.comp (ow++fr) scope C s₀ H₀ ex) tg g) (ht:∀C s₀ H₀ ex,PTs (X.comp (ow++fr) scope C s₀ H₀ ex) ifs tc) (he:∀C s₀ H₀ ex D,PM (X.comp (ow++fr) scope C s₀ H₀ ex) (emit (.ref D) (X.comp (ow++fr) scope C s₀ H₀ ex).env) (tm D))
 (hs:∀x,foldedSetIterable iter X.env x=pure x):PE X e (tCG X.K (cσ ow fr ix) wi g tc tm u0):=by
 intro pins s σ H Q I h
 rw[hev]
 obtain⟨rest,hcl⟩:=CK.cl
 refine vdd (use:=none) hcl hs (za7 λy hy e=>I.ok.has _ (S.free y hy e)) S.kind S.names (thn (hi pins s σ H _ I h) λv s1 h1=>thn h1 λitv s2 h2=>?_)
 exact zd5 (RR:=λacc C=>compPost (model X.prog X.w) X.A X.xe none (EP X pins σ Q) acc C) CK S hc hg ht he h2 λD C H' s' m _ hn hI q=>⟨m,hn,λh'' hs''=>⟨.ref D,H',hI h'' hs'',rfl,q⟩⟩
theorem zno{i:Nat}{y:Str}{py spos:Pos}(CK:CKind X.prog X.w e tg iter ifs emit newAcc ob u0)(hev:∀use,evalThenUse e X.env use=(do let _ <-comprehension e scope X.env pos newAcc false (eval iter X.env) (some use)))(hN:X.N.Nodup)(hiy:X.N[i]?=some y)(hy:Loc X.env.scope y)(S:CompScope X ow fr ix scope)(hc:X.calm=true)(hi:PI X tg iter wi)
 (hg:∀C s₀ H₀ ex,PG (X.comp (ow++fr) scope C s₀ H₀ ex) tg g) (ht:∀C s₀ H₀ ex,PTs (X.comp (ow++fr) scope C s₀ H₀ ex) ifs tc) (he:∀C s₀ H₀ ex D,PM (X.comp (ow++fr) scope C s₀ H₀ ex) (emit (.ref D) (X.comp (ow++fr) scope C s₀ H₀ ex).env) (tm D))
 (hsw:swapsWith e (some (.Name y py)) spos.line X.env=pure true) (hf:X.fn y=true\/X.env.scope.names.lookup y=some .local)
 (hs:∀x,foldedSetIterable iter X.env x=pure x):PS X (.Assign [.Name y py] e spos) (tAsg (tCG X.K (cσ ow fr ix) wi g tc tm u0) (gName i)):=by
 intro pins s σ H D I h
 rw[exec_Assign_Name_used _ _ _ _ hsw]
 refine vac (vc6 (vac ?_))
 rw[hev]
 obtain⟨rest,hcl⟩:=CK.cl
 refine vac (vbz (vdd (use:=some (assign (.Name y py) X.env)) (Q:=λ_ s'=>SP X pins D .next s') hcl hs (za7 λy hy e=>I.ok.has _ (S.free y hy e)) S.kind S.names
  (thn (hi pins s σ H _ I h) λv s1 h1=>thn h1 λitv s2 h2=>?_)) (λ_ s' hq=>vas (vas hq)) λ_ _ e=>e)
 refine zd5 (Q:=λx H1=>gName i x σ H1 D.nx) (RR:=λacc C=>compPost (model X.prog X.w) X.A X.xe (some (assign (.Name y py) X.env)) (λ_ s'=>SP X pins D .next s') acc C) CK S hc hg ht he h2 λd C H' s' m hC hn hI q=>?_
 show wpAny _ X.A (assign (.Name y py) X.env (.ref d)) _ _ _
 have I':Inv X pins σ H' s':=hI s'.heap (.refl ..)
 refine wpAny_assign_Name (zdx I' hN hiy hy (v:=.ref d) rfl (λs'' I'' ⟨a,hsb,ha⟩=>?_) hf)
 obtain⟨c0,c1,c2,c3,c4,c5⟩:=hC
 have hCa:C≠a:=by
  rcases ha with rfl|ha
  .exact c1
  .exact λz=>c4 _ _ ha z.symm
 exact⟨m,hn.sameBut hsb hCa,λh'' hs''=>⟨_,H',I''.turned (t':=s''.toks) (it:=C) (λb o hb q=>(hs''.2 b hb).trans q) c0 c1 c3 c4 c5,q⟩⟩
end
theorem zfc:fillsNumberSlot (.type "tuple") "mul" = pure false:=
 PySem.fillsNumberSlot_seq (id:="tuple.__mul__") (r:=some (.builtin "tuple.__rmul__")) vd3.lookup (by decide +kernel) F.slot_tuple_rmul.lookup (by decide +kernel)
theorem zkw:seqRepeat? (.type "tuple")=pure (some (.builtin "tuple.__mul__")):=by
 unfold seqRepeat?
 rw[PySem.seqSlot_of (T:="tuple") (name:="__mul__") (id:="tuple.__mul__") vd3.lookup (by decide +kernel),PySem.seqSlot_of (T:="tuple") (name:="__rmul__") (id:="tuple.__rmul__") F.slot_tuple_rmul.lookup (by decide +kernel)]
 rfl
theorem znp(k:Int)(t:Tok)(l:Addr)(its:Array Value)(n:Nat)(dd:Option Addr)(sl:Array (Option Value)) :
 Meets (Builtin.«int.__rmul__» ⟨[.int k t,.ref l],[]⟩) (λ_ R s=>s.heap.get? l=some {cls:=.type "tuple",dict:=dd,data:=.seq its n,slots:=sl}/\R (.ok (.ret Value.notImplemented)) s):=
 .of_wp λprog w A R s h=>by
  obtain⟨hp,g,d,tk,os⟩:=s
  obtain⟨e,h⟩:=h
  wp_walk using va8 e
  exact⟨_,rfl,h⟩
theorem znq(l:Addr)(its:Array Value)(n:Nat)(dd:Option Addr)(sl:Array (Option Value))(k:Int)(t:Tok)(h1:¬(decide (k < -(2 ^ 63))||decide (k>=2 ^ 63))=true)(h2:(its.isEmpty||k==1)=true) :
 Meets (Builtin.«tuple.__mul__» ⟨[.ref l,.int k t],[]⟩) (λ_ R s=>s.heap.get? l=some {cls:=.type "tuple",dict:=dd,data:=.seq its n,slots:=sl}/\R (.ok (.ret (.ref l))) s):=
 .of_wp λprog w A R s h=>by
  obtain⟨hp,g,d,tk,os⟩:=s
  obtain⟨e,h⟩:=h
  have f1:=AutoSeq1.idx_int
  wp_walk using va8 e
  refine ve5 ?_
  rw[if_neg h1]
  wp_walk using va8 e
  exact⟨_,rfl,h⟩
theorem znr(l:Addr)(its:Array Value)(n:Nat)(dd:Option Addr)(sl:Array (Option Value))(k:Int)(t:Tok)(h1:¬(decide (k < -(2 ^ 63))||decide (k>=2 ^ 63))=true)(h2:¬(its.isEmpty||k==1)=true)(h3:(decide (k<=0)||its.isEmpty)=true) :
 Meets (Builtin.«tuple.__mul__» ⟨[.ref l,.int k t],[]⟩) (λ_ R s=>s.heap.get? l=some {cls:=.type "tuple",dict:=dd,data:=.seq its n,slots:=sl}/\R (.ok (.ret (.ref s.heap.objs.size))) {s with heap:=s.heap.push {cls:=.type "tuple",data:=.seq #[]}}):=
 .of_wp λprog w A R s h=>by
  obtain⟨hp,g,d,tk,os⟩:=s
  obtain⟨e,h⟩:=h
  have f1:=AutoSeq1.idx_int
  wp_walk using va8 e
  refine ve5 ?_
  rw[if_neg h1]
  wp_walk using va8 e
  exact⟨_,rfl,h⟩
theorem zns(l:Addr)(its:Array Value)(n:Nat)(dd:Option Addr)(sl:Array (Option Value))(k:Int)(t:Tok)(h1:¬(decide (k < -(2 ^ 63))||decide (k>=2 ^ 63))=true)(h2:¬(its.isEmpty||k==1)=true)(h3:¬(decide (k<=0)||its.isEmpty)=true)
 (h4:¬(its.size*k> (2 ^ 63-1)/8)) (h5:¬Builtin.Tuple.tupleTooMany (its.size*k)=true) (h6:((vgc k.toNat its).foldl (· ++ ·) #[]).size<=sizeLine) :
 Meets (Builtin.«tuple.__mul__» ⟨[.ref l,.int k t],[]⟩) (λ_ R s=>s.heap.get? l=some {cls:=.type "tuple",dict:=dd,data:=.seq its n,slots:=sl}/\R (.ok (.ret (.ref s.heap.objs.size))) {s with heap:=s.heap.push {cls:=.type "tuple",data:=.seq ((vgc k.toNat its).foldl (· ++ ·) #[])}}):=
 .of_wp λprog w A R s h=>by
  obtain⟨hp,g,d,tk,os⟩:=s
  obtain⟨e,h⟩:=h
  have f1:=AutoSeq1.idx_int
  wp_walk using va8 e
  refine ve5 ?_
  rw[if_neg h1]
  wp_walk using va8 e
  refine ve5 ?_
  rw[if_neg h4]
  wp_walk using va8 e
  exact⟨_,rfl,h⟩
section
variable{X:Cx}
noncomputable def rRepT(K:vga):R2:=λx y H Q=>∃a k xs,x=.ref a/\y=.int k/\SqT K H a xs/\-(2 ^ 62)<=k/\k<2 ^ 62/\xs.length*k.toNat<=sizeLine/\
 ((xs.isEmpty||k==1)=true->Q (.ref a) H)/\((xs.isEmpty||k==1)=false->∀p,H p=none->Q (.ref p) (upd H p (.tup (vgc k.toNat xs).flatten)))
theorem zd6{xs:List V}{us:List Value}(r:Vals xs us):us.toArray.isEmpty=xs.isEmpty:=by
 cases r<;>rfl
theorem zq8:OpR X (binaryOp .Mult) (rRepT X.K):=by
 intro pins s σ H x y v u Q I rx ry h
 obtain⟨a,k,xs,rfl,rfl,ha,k1,k2,hz,q1,q2⟩:=h
 cases rx
 obtain⟨t,rfl⟩:=ry
 obtain⟨its,r,p,_⟩:=I.tuple ha
 obtain⟨⟨c,dd,dt,sl⟩,e1,e2,n,e3⟩:=p
 replace e2:c=.type "tuple":=e2
 replace e3:dt=.seq its.toArray n:=e3
 subst e2 e3
 have hl:xs.length=its.length:=r.length
 have h1:¬(decide (k < -(2 ^ 63))||decide (k>=2 ^ 63))=true:=by
  simp only[vcp,vap]
  lia
 refine wpAny_binaryOp_repeat_ref (T:="tuple") (U:="int") (by decide) ⟨_,e1,rfl⟩ (λs'=>typeIs_int s' k t) zfc F.fills_int_mul F.slot_int_rmul zkw F.slot_int_index.lookup
  (vd6 F.slot_int_rmul (typeIs_int s k t) F.entry_int_rmul (F.args_int_rmul_2 _ _) (znp k t a its.toArray n dd sl) ⟨e1,rfl,⟨_,e1,rfl⟩,?_⟩)
 by_cases h2:(its.toArray.isEmpty||k==1)=true
 .refine vd6 vd3 ⟨_,e1,rfl⟩ F.entry_tuple_mul (F.args_tuple_mul_2 _ _) (znq a its.toArray n dd sl k t h1 h2) ⟨e1,?_⟩
  exact⟨.ref a,H,I,rfl,q1 (by rw[<-zd6 r];exact h2)⟩
 .have q2:=q2 (by rw[<-zd6 r];simpa using h2)
  by_cases h3:(decide (k<=0)||its.toArray.isEmpty)=true
  .have hk:k.toNat=0:=by
    have:its.toArray.isEmpty=false:=by
     cases q:its.toArray.isEmpty with
     |false=>rfl
     |true=>rw[q]at h2;exact absurd rfl h2
    rw[this,Bool.or_false,vap]at h3
    lia
   refine vd6 vd3 ⟨_,e1,rfl⟩ F.entry_tuple_mul (F.args_tuple_mul_2 _ _) (znr a its.toArray n dd sl k t h1 h2 h3) ⟨e1,?_⟩
   rw[hk]at q2
   exact⟨.ref s.heap.objs.size,_,I.laid (t':=s.toks) (o:=.tup []) (λb ob q=>vae _ q) (vaa _) ⟨vbg _,[],.nil,zba.new _ _⟩,rfl,q2 _ (I.hok.fresh (vaa _))⟩
  .have hk:0<k:=by
    simp only[vcp,vap,not_or]at h3
    lia
   have hkn:((k.toNat:Nat):Int)=k:=vdj (by lia)
   have hmul:(its.toArray.size:Int)*k=((xs.length*k.toNat:Nat):Int):=by
    rw[vad,<-hl,Int.natCast_mul,hkn]
   have hsl:(sizeLine:Nat)=16777216:=rfl
   have fl:(vgc k.toNat its.toArray).foldl (· ++ ·) #[]=(vgc k.toNat its).flatten.toArray:=by
    have:=zgb its k.toNat []
    rw[veb]at this
    exact this
   refine vd6 vd3 ⟨_,e1,rfl⟩ F.entry_tuple_mul (F.args_tuple_mul_2 _ _) (zns a its.toArray n dd sl k t h1 h2 h3 (by rw[hmul];lia) (by
    unfold Builtin.Tuple.tupleTooMany
    rw[hmul,vap]
    lia) (by rw[fl,vad,zkp,Nat.mul_comm,<-hl];exact hz)) ⟨e1,?_⟩
   rw[fl]
   exact⟨.ref s.heap.objs.size,_,I.laid (t':=s.toks) (o:=.tup (vgc k.toNat xs).flatten) (λb ob q=>vae _ q) (vaa _) ⟨by rw[zkp,Nat.mul_comm];exact hz,_,r.rep k.toNat,zba.new _ _⟩,rfl,q2 _ (I.hok.fresh (vaa _))⟩
noncomputable def zo1(K:vga):R2:=λx y H Q=>∃a b ys,x=.ref a/\y=.ref b/\SqT K H a []/\SqT K H b ys/\Q (.ref b) H
theorem znt:OpR X (binaryOp .Add) (zo1 X.K):=by
 intro pins s σ H x y v u Q I rx ry h
 obtain⟨a,b,ys,rfl,rfl,ha,hb,q⟩:=h
 cases rx
 cases ry
 obtain⟨its,r1,p1,_⟩:=I.tuple ha
 obtain⟨its2,r2,p2,_⟩:=I.tuple hb
 cases r1
 obtain⟨⟨c,dd,dt,sl⟩,e1,e2,n,e3⟩:=p1
 obtain⟨⟨c2,dd2,dt2,sl2⟩,f1,f2,n2,f3⟩:=p2
 replace e2:c=.type "tuple":=e2
 replace e3:dt=.seq ([]:List Value).toArray n:=e3
 replace f2:c2=.type "tuple":=f2
 replace f3:dt2=.seq its2.toArray n2:=f3
 subst e2 e3 f2 f3
 exact concat_meets ⟨_,e1,rfl⟩ ⟨_,f1,rfl⟩ vd1 ven vc4 vcx (vcu _ _) (tuple_addW0 a b ([]:List Value).toArray its2.toArray n n2 dd dd2 sl sl2 rfl) ⟨e1,f1,⟨.ref b,H,I,rfl,q⟩⟩
noncomputable def anyEq(ds:List PyData)(d:PyData):Bool:=ds.any λe=>PyData.eqv e d
noncomputable def rInD(K:vga)(neg:Bool):R2:=λx y H Q=>∃p xs ds d,y=.ref p/\(SqL K H p xs\/SqT K H p xs)/\Rps K (λ_=>False) H xs ds/\Rp K (λ_=>False) H x d/\ds.all SeqAt.shaped=true/\SeqAt.shaped d=true/\Q (.bl (if neg then !anyEq ds d else anyEq ds d)) H
theorem zby{h:Heap}:∀{us:List Value} {ds:List PyData} {as:List Addr} {i:Nat} {u:Value},ReadsAll h us ds as->us[i]?=some u->∃d bs,ds[i]?=some d/\Reads h u d bs
 |_,_,_,i,u,.nil,e=>by simp at e
 |_,_,_,0,u,.cons r _,e=>by simp at e;subst e;exact⟨_,_,rfl,r⟩
 |_,_,_,i+1,u,.cons _ rs,e=>by
  obtain⟨d,bs,h1,h2⟩:=zby rs (by simpa using e)
  exact⟨d,bs,by simpa using h1,h2⟩
open Classical in
noncomputable def eqOf(us:List Value)(ds:List PyData)(d:PyData)(u:Value):Bool:=decide (∃(i:Nat) (e:PyData),us[i]?=some u/\ds[i]?=some e/\PyData.eqv e d=true)
open Classical in
theorem zdq{us:List Value}{ds:List PyData}{d:PyData}{u:Value}:eqOf us ds d u=true↔∃(i:Nat) (e:PyData),us[i]?=some u/\ds[i]?=some e/\PyData.eqv e d=true:=by
 unfold eqOf
 exact decide_eq_true_iff
theorem zdr{us:List Value}{ds:List PyData}{d:PyData}(hl:us.length=ds.length):us.any (eqOf us ds d)=anyEq ds d:=by
 cases q:anyEq ds d with
 |true=>
  unfold anyEq at q
  rw[List.any_eq_true]at q
  obtain⟨e,h1,h2⟩:=q
  obtain⟨i,hi,h3⟩:=List.mem_iff_getElem.mp h1
  rw[List.any_eq_true]
  refine⟨us[i]'(by lia),vbd _,?_⟩
  rw[zdq]
  exact⟨i,e,by simp,by rw[va0 hi,h3],h2⟩
 |false=>
  unfold anyEq at q
  rw[List.any_eq_false]at q ⊢
  intro u hu z
  rw[zdq]at z
  obtain⟨i,e,h1,h2,h3⟩:=z
  exact q e (vdz h2) h3
theorem zbz{h:Heap}:∀{us:List Value} {ds:List PyData} {as:List Addr},ReadsAll h us ds as->us.length=ds.length
 |_,_,_,.nil=>rfl
 |_,_,_,.cons _ r=>by rw[vai,vai,zbz r]
theorem zfd{A:Around}{s:Shared}{us:List Value}{ds:List PyData}{as bs:List Addr}{d:PyData}{v:Value}(hu:A.units+64<cLine)(ra:ReadsAll s.heap us ds as)(rb:Reads s.heap v d bs)(s1:ds.all SeqAt.shaped=true)(s2:SeqAt.shaped d=true) :
 ∀u∈us,SeqAt.EqAt A s u v (eqOf us ds d u):=by
 intro u hm
 have sh:∀(i:Nat)(e:PyData),ds[i]?=some e->SeqAt.shaped e=true:=λi e q=>vax.mp s1 e (vdz q)
 cases q:eqOf us ds d u with
 |true=>
  rw[zdq]at q
  obtain⟨i,e,h1,h2,h3⟩:=q
  obtain⟨e',cs,h4,h5⟩:=zby ra h1
  rw[h2]at h4;cases h4
  have:=SeqAt.eqAt_reads e d A s u v cs bs h5 rb (vdm (sh i e h2)) (vdm s2) (SeqAt.room_of_shaped (sh i e h2) hu)
  rw[h3]at this;exact this
 |false=>
  obtain⟨i,hi,h1⟩:=List.mem_iff_getElem.mp hm
  have h1:us[i]?=some u:=by rw[va0 hi,h1]
  obtain⟨e,cs,h4,h5⟩:=zby ra h1
  have h3:PyData.eqv e d=false:=by
   cases z:PyData.eqv e d with
   |false=>rfl
   |true=>
    rw[zdq.mpr ⟨i,e,h1,h4,z⟩]at q
    cases q
  have:=SeqAt.eqAt_reads e d A s u v cs bs h5 rb (vdm (sh i e h4)) (vdm s2) (SeqAt.room_of_shaped (sh i e h4) hu)
  rw[h3]at this;exact this
theorem zuh(hu:X.A.in1.units+64<cLine):OpR X (compareOp .In) (rInD X.K false):=by
 intro pins s σ H x y v u Q I rx ry h
 obtain⟨p,xs,ds,d,rfl,hq,r1,r2,s1,s2,q⟩:=h
 cases ry
 obtain⟨bs,rb⟩:=r2.reads I rx
 rcases hq with hq|hq
 .obtain⟨its,r,pl,hz⟩:=I.list hq
  obtain⟨as,ra⟩:=r1.reads I r
  refine SeqAt.in_listAt (eqOf its ds d) pl.isList (λw hw=>zfd hu ra rb s1 s2 w (by simpa using hw)) ⟨.bl _,H,I,rfl,?_⟩
  rw[show its.toArray.any (eqOf its ds d)=its.any (eqOf its ds d) by simp,zdr (zbz ra)]
  exact q
 .obtain⟨its,r,pl,hz⟩:=I.tuple hq
  obtain⟨as,ra⟩:=r1.reads I r
  refine SeqAt.in_tupleAt (eqOf its ds d) pl (λw hw=>zfd hu ra rb s1 s2 w (by simpa using hw)) ⟨.bl _,H,I,rfl,?_⟩
  rw[show its.toArray.any (eqOf its ds d)=its.any (eqOf its ds d) by simp,zdr (zbz ra)]
  exact q
theorem zkx(hu:X.A.in1.units+64<cLine):OpR X (compareOp .NotIn) (rInD X.K true):=by
 intro pins s σ H x y v u Q I rx ry h
 obtain⟨p,xs,ds,d,rfl,hq,r1,r2,s1,s2,q⟩:=h
 cases ry
 obtain⟨bs,rb⟩:=r2.reads I rx
 rcases hq with hq|hq
 .obtain⟨its,r,pl,hz⟩:=I.list hq
  obtain⟨as,ra⟩:=r1.reads I r
  refine SeqAt.notIn_listAt (eqOf its ds d) pl.isList (λw hw=>zfd hu ra rb s1 s2 w (by simpa using hw)) ⟨.bl _,H,I,rfl,?_⟩
  rw[show its.toArray.any (eqOf its ds d)=its.any (eqOf its ds d) by simp,zdr (zbz ra)]
  exact q
 .obtain⟨its,r,pl,hz⟩:=I.tuple hq
  obtain⟨as,ra⟩:=r1.reads I r
  refine SeqAt.notIn_tupleAt (eqOf its ds d) pl (λw hw=>zfd hu ra rb s1 s2 w (by simpa using hw)) ⟨.bl _,H,I,rfl,?_⟩
  rw[show its.toArray.any (eqOf its ds d)=its.any (eqOf its ds d) by simp,zdr (zbz ra)]
  exact q
end
end L2
namespace HT
open PySem PySem.Spec PyProof.Rows
section
variable{prog:Program}{w:World}{A:Around}{E:Value->Shared->Prop}{s:Shared}
theorem getItem_tuple_whole{t sl:Addr}{items:Array Value}{vl vu:Value}{lo hi:Option Int}{Q:Value->Shared->Prop}(ht:IsTup s.heap t items)(hs:s.heap.IsSliceOf sl vl vu .none)(pl:IsPart vl lo)(pu:IsPart vu hi)
 (hw:sIx items.size 0 lo=0/\sIx items.size items.size hi=items.size)
 (h:Q (.ref t) s):wpAny (model prog w) A (getItem (.ref t) (.ref sl)) Q E s:=by
 obtain⟨os,hos,hcs,hds⟩:=id hs
 have hTs:s.TypeIs (.ref sl) "slice":=⟨os,hos,hcs⟩
 unfold getItem
 try with_reducible refine vcg ?_
 first|refine vac (vas ?_)|skip
 refine vac (wpAny_sequenceKey ht.typeIs (by decide) ?_)
 refine vac (vdi (name:=Str.ofString "__getitem__") ht.typeIs vbq
  (vd2 vbq ht.typeIs entry_tuple_getitem ?_ (args_tuple_getitem _ _)))
 show wpAny _ _ (Builtin.Tuple.tupleItemsOf (.ref t) >>= _) _ _ s
 refine vac (tupleItemsOf_ ht ?_)
 refine vac (ve2 hTs ?_)
 rw[if_pos (by decide)]
 refine vac (zbv hs pl pu ?_)
 have hyes:((((sIx items.size 0 lo:Nat):Int)==0&& (1:Int)==1&& (sIx items.size items.size hi-sIx items.size 0 lo)==items.size)=true):=by
  rw[hw.1,hw.2];simp
 show wpAny _ _ (if(((sIx items.size 0 lo:Nat):Int)==0&& (1:Int)==1&& (sIx items.size items.size hi-sIx items.size 0 lo)==items.size)=true then _ else _) _ _ s
 rw[if_pos hyes]
 unfold Builtin.Tuple.tupleIsExact
 refine vac (vac (ve2 ht.typeIs (vas ?_)))
 rw[if_pos (by decide)]
 refine vac (vdl ?_)
 exact vas ⟨_,rfl,vas h⟩
end
end HT
namespace L2
open PySem PySem.Spec PyProof.Rows
variable{X:Cx}
noncomputable def rSlW(K:vga):V->Option Int->Option Int->Hp->VK->Prop:=λx lo hi H Q=>∃a xs,x=.ref a/\SqT K H a xs/\
 (HT.sIx xs.length 0 lo=0/\HT.sIx xs.length xs.length hi=xs.length)/\Q (.ref a) H
theorem zq9:SlR X (rSlW X.K):=by
 intro pins s σ H x v vl vu lo hi sl Q I rx hs pl pu h
 obtain⟨a,xs,rfl,hx,hw,q⟩:=h
 cases rx
 obtain⟨its,r,ht,hz⟩:=I.tuple hx
 have hlen:its.toArray.size=xs.length:=by rw[vad];exact r.length.symm
 refine⟨"tuple",_,vbq.lookup,ht.typeIs,?_⟩
 refine HT.getItem_tuple_whole ht hs pl pu (by rw[hlen];exact hw) ?_
 exact⟨.ref a,_,I,rfl,q⟩
noncomputable def rSlA(K:vga):V->Option Int->Option Int->Hp->VK->Prop:=λx lo hi H Q=>(rSlT K x lo hi H Q\/rSlW K x lo hi H Q)\/rSlL K x lo hi H Q
theorem zui:SlR X (rSlA X.K):=(zt5.or zq9).or zqz
section
variable{X:Cx}
theorem Inv.freeze{pins:List (Addr×Obj)}{σ:St}{H:Hp}{s:Shared}{a:Addr}{kvs:List (Key×V)}(I:Inv X pins σ H s)(e:H a=some (.dK kvs)):∃ob,Inv X pins σ (upd H a (.frz ob (.dK kvs))) s:=by
 obtain⟨z,y,vs,r,ob,es,ep,e1,c⟩:=(show ObjOk X.prog X.w H s.heap a (.dK kvs)from I.hok a _ e)
 refine⟨ob,?_⟩
 exact I.write (x:=a) (e:=a) (o:=.frz ob (.dK kvs)) (h':=s.heap) (t':=s.toks) (by rw[e];trivial) (.inl rfl) (λ_ _ _ q=>q) ⟨ob,e1⟩ ⟨e1,z,y,vs,r,ob,es,ep,e1,c⟩
theorem is_kV{P:Program}{w:World}{k:Key}{u:Value}(h:(zaq P w).is k u=true):RelV (kV k) u:=by
 rcases zar h with⟨i,t,rfl,rfl⟩|⟨x,t,rfl,rfl⟩
 .exact⟨t,rfl⟩
 .exact⟨t,rfl⟩
noncomputable def Itd(a:Addr)(ob:Obj)(kvs:List (Key×V)):It where
 go:=λi H=>H a=some (.frz ob (.dK kvs))/\i<kvs.length
 yld:=λi H x H'=>H'=H/\∃k v,kvs[i]?=some (k,v)/\x=kV k
 stop:=λi H=>H a=some (.frz ob (.dK kvs))/\i=kvs.length
theorem zky{P:Program}{w:World}{K:vga}{tg:Expr}{a it:Addr}{ob:Obj}{kvs:List (Key×V)}{es:Array DictEntry}{ep:Nat}(hd:ob.data=.dict es ep)(hne:a≠it):Turn P w K tg (Itd a ob kvs) [it] it (λi h=>h.IsKeyIter it a i kvs.length ep)where
 mem:=by simp
 obj:=λi h st b hb=>by
  have e:b=it:=by simpa using hb
  subst e
  obtain⟨o,e,c,d⟩:=st
  exact⟨o,e,λv z=>by rw[d]at z;cases z⟩
 keep:=λi h h' st k=>by
  obtain⟨o,e,c,d⟩:=st
  exact⟨o,k it (by simp) o e,c,d⟩
 item:=by
  intro X hP hw hK hc i pins s σ H E I hf st hg
  subst hP hw hK
  obtain⟨e0,hi⟩:=hg
  obtain⟨e1,z,y,vs,r,o',es',ep',e2,c1,c2,c3,c4,c5⟩:=(show ObjOk X.prog X.w H s.heap a (.frz ob (.dK kvs))from I.hok a _ e0)
  rw[e1]at e2;cases e2
  rw[hd]at c2;cases c2
  obtain⟨f0,f1,f2,f3,f4,f5⟩:=hf it (by simp)
  have hl:=r.length
  have W:=Walks.dictKeys (knd:=zaq X.prog X.w) (I.ok.hd hc) it a hne vs ep
  refine W.item i s _ _ (by lia) ⟨by rw[<-hl];exact st,ob,es,e1,c1,hd,c3,c4,c5⟩ λv h' tk hv st' kk=>?_
  obtain⟨k,x,hk,his⟩:=hv
  have I1:Inv X pins σ H {s with heap:=h',toks:=tk}:=I.turned (λb o hb e=>kk b o (by simpa using hb) e) f0 f1 f3 f4 f5
  have st2:h'.IsKeyIter it a (i+1) kvs.length ep:=by rw[hl];exact st'.1
  obtain⟨o,e,c,d⟩:=id st2
  have hk2:∃v0,kvs[i]?=some (k,v0):=by
   have q:=r.keys
   have q2:(kvs.map (·.1))[i]?=(vs.map (·.1))[i]?:=by rw[q]
   rw[va5,va5,hk]at q2
   cases q3:kvs[i]? with
   |none=>rw[q3]at q2;cases q2
   |some p=>rw[q3]at q2;obtain⟨p1,p2⟩:=p;cases q2;exact⟨p2,rfl⟩
  obtain⟨v0,hk3⟩:=hk2
  exact⟨v,rfl,go_of (s:={s with heap:=h',toks:=tk}) e c d (by decide) ⟨kV k,H,I1,is_kV his,⟨rfl,k,v0,hk3,rfl⟩,st2,λb hb=>(hf b hb).1⟩⟩
 done:=by
  intro X hP hw hK hc i pins s σ H E I hf st hg
  subst hP hw hK
  obtain⟨e0,hi⟩:=hg
  obtain⟨e1,z,y,vs,r,o',es',ep',e2,c1,c2,c3,c4,c5⟩:=(show ObjOk X.prog X.w H s.heap a (.frz ob (.dK kvs))from I.hok a _ e0)
  rw[e1]at e2;cases e2
  rw[hd]at c2;cases c2
  obtain⟨f0,f1,f2,f3,f4,f5⟩:=hf it (by simp)
  have hl:=r.length
  have W:=Walks.dictKeys (knd:=zaq X.prog X.w) (I.ok.hd hc) it a hne vs ep
  refine W.done s _ _ ⟨by rw[<-hl];rw[hi]at st;exact st,ob,es,e1,c1,hd,c3,c4,c5⟩ λh' tk kk=>?_
  exact⟨rfl,I.turned (λb o hb e=>kk b o (by simpa using hb) e) f0 f1 f3 f4 f5⟩
 self:=λ_ _ _ _ _ st h=>wpAny_pyIter_keyiter st h
end
section
variable{X:Cx}
noncomputable def emitD(k v:Expr):Value->Env->Sem Unit:=λacc env=>do
 let kv <-eval k env
 let vv <-holding [kv] (eval v env)
 match acc with
 |.ref d=>do
  standAt {line:=k.pos.line,col:=k.pos.col,endLine:=v.pos.endLine,endCol:=v.pos.endCol}
  holding [kv,vv] (dictSet d kv vv)
 |_=>unsupported "internal:dictcomp"
theorem zkz{P:Program}{w:World}{k v tg iter:Expr}{ifs:List Expr}{scope:Scope}{pos:Pos}:CKind P w (.DictComp k v [⟨tg,iter,ifs,0⟩] scope pos) tg iter ifs (emitD k v) newDict {cls:=.type "dict",data:=.dict #[]} (.dK [])where
 cl:=⟨[],rfl⟩
 turn:=λ_ _ _=>rfl
 dl:=λ_ _ _=>rfl
 ds:=λ_ _ _=>rfl
 al:=λ_ _ _ _=>rfl
 as:=λ_ _ _ _=>rfl
 new:=λA s Q E q=>vck q
 ok:=λH h hb=>zfb h hb
noncomputable def tmD(tk tv:TE)(D:Addr):TM:=λσ H Q=>tk σ H λx H1=>tv σ H1 λy H2=>∃kvs k,H2 D=some (.dK kvs)/\x=kV k/\kvs.length<sizeLine/\Q σ (upd H2 D (.dK (putK kvs k y)))
theorem zk0{k v:Expr}{tk tv:TE}(hk:PE X k tk)(hv:PE X v tv)(D:Addr):PM X (emitD k v (.ref D) X.env) (tmD tk tv D):=by
 intro pins s σ H Q I h
 unfold emitD
 refine vac (thn (hk pins s σ H _ I h) λu s1 z9=>z9.el λx H1 I1 r1 q1=>?_)
 refine vac (vcg (thn (hv pins s1 σ H1 _ I1 q1) λu2 s2 z9=>z9.el λy H2 I2 r2 hq0=>?_))
 obtain⟨kvs,kk,e,ex,l,q2⟩:=hq0
 refine vac (vc6 (vcg ?_))
 subst ex
 obtain⟨z,hd,vs,rel,dd⟩:=dk_of I2.hok e
 have hz:vs.length<=sizeLine:=by rw[<-rel.length];exact z
 have hl:(putK kvs kk y).length<=sizeLine:=by have:=zbr kvs kk y;lia
 refine wpAny_dictSet_pairs (kV_is r1) dd (λh' dd' hs=>?_) hz
 have he:∃q,h'.get? D=some q:=let⟨q,_,_,hq,_⟩:=dd';⟨q,hq⟩
 exact⟨σ,_,zfa I2 (by rw[e];exact True.intro) hs he (zkt hl hd (rel.put kk r2) dd'),q2⟩
end
noncomputable def stp2{α:Type}:List α->List α
 |[]=>[]
 |[x]=>[x]
 |x::_::r=>x::stp2 r
theorem zk1:∀{ls:List Int} {us:List Value},Vals (ls.map .int) us->IntsAre us ls
 |[],_,.nil=>.nil
 |x::r,_,.cons ⟨t,e⟩ h=>by subst e;exact .cons x t (zk1 h)
end L2
namespace KO
open PySem PySem.W PyProof.Rows
variable{r:Nat->Int}
noncomputable def J(r:Nat->Int)(p:Array Nat)(i:Nat):Int:=r ((p[i]?).getD 0)
theorem zgi(p:Array Nat)(i:Nat):r (p.getD i 0)=J r p i:=by rw[vb0];rfl
theorem zb0{p q:Array Nat}{i j:Nat}(h:p[i]?=q[j]?):J r p i=J r q j:=by unfold J;rw[h]
theorem zh9{p:Array Nat}{src d:Nat}(hs:src<p.size)(hd:d<=src)(k:Nat) :
 J r (bubble p src d) k=if k=src-d then J r p src else if src-d<k/\k<=src then J r p (k-1)else J r p k:=by
 have e:=getElem?_bubble hs d hd k
 by_cases h1:k=src-d
 .rw[if_pos h1]at e ⊢;exact zb0 e
 .rw[if_neg h1]at e ⊢
  by_cases h2:src-d<k/\k<=src
  .rw[if_pos h2]at e ⊢;exact zb0 e
  .rw[if_neg h2]at e ⊢;exact zb0 e
end KO
namespace KO
open PySem PySem.W PyProof.Rows
variable{r:Nat->Int}
variable{n:Nat}
end KO
namespace TS
open PySem PySem.W PyProof.Rows KO
structure Cp(prog:Program)(w:World)(A:Around)(s:Shared)(κ:SortKind)(f:Nat->Keyed)(r:Nat->Int)(N:Nat):Prop where
 lt:∀(i j:Nat)(C:Bool->Shared->Prop),i<N->j<N->C (decide (r i<r j)) s->wpAny (model prog w) A (keyLt' κ (f i).1 (f j).1) C (λ_ _=>False) s
 inj:∀i j,i<N->j<N->r i=r j->i=j
noncomputable def St(κ:SortKind)(f:Nat->Keyed)(p:Array Nat)(pd:Array (Nat×Nat×Nat))(g:Nat):SortSt:=SortSt.mk' κ (p.map f) pd g none
structure Pm(N:Nat)(p:Array Nat):Prop where
 z:p.size=N
 b:∀x∈p,x<N
 nd:p.toList.Nodup
theorem Pm.perm{N:Nat}{p q:Array Nat}(h:Pm N p)(e:q.Perm p):Pm N q:=
 ⟨by rw[e.size_eq];exact h.z,λx hx=>h.b x (e.mem_iff.mp hx),(Array.perm_iff_toList_perm.mp e).nodup_iff.mpr h.nd⟩
theorem Pm.lt{N:Nat}{p:Array Nat}(h:Pm N p){i:Nat}(hi:i<N):p.getD i 0<N:=by
 rw[vb0,vbb (by rw[h.z];exact hi)]
 exact h.b _ (Array.getElem_mem _)
theorem Pm.ne{N:Nat}{p:Array Nat}(h:Pm N p){i j:Nat}(hi:i<j)(hj:j<N):p.getD i 0≠p.getD j 0:=by
 have zi:i<p.size:=by rw[h.z];lia
 have zj:j<p.size:=by rw[h.z];exact hj
 rw[vb0,vb0,vbb zi,vbb zj]
 exact vbn.mp h.nd i j (by simpa using zi) (by simpa using zj) hi
noncomputable def Ri(r:Nat->Int)(p:Array Nat)(a b:Nat):Prop:=∀i j,a<=i->i<=j->j<b->J r p i<=J r p j
noncomputable def Fa(r:Nat->Int)(p:Array Nat)(a b:Nat):Prop:=∀i j,a<=i->i<j->j<b->J r p j<J r p i
noncomputable def Ou(p q:Array Nat)(a b:Nat):Prop:=∀k,k<a\/b<=k->q[k]?=p[k]?
theorem Ou.refl{p:Array Nat}{a b:Nat}:Ou p p a b:=λ_ _=>rfl
theorem Ou.trans{p q u:Array Nat}{a b:Nat}(x:Ou p q a b)(y:Ou q u a b):Ou p u a b:=λk hk=>(y k hk).trans (x k hk)
theorem Ou.mono{p q:Array Nat}{a b a' b':Nat}(x:Ou p q a b)(h1:a'<=a)(h2:b<=b'):Ou p q a' b':=λk hk=>x k (by lia)
theorem Ri.out{r:Nat->Int}{p q:Array Nat}{a b c d:Nat}(h:Ri r p c d)(o:Ou p q a b)(hd:d<=a\/b<=c):Ri r q c d:=λi j h1 h2 h3=>by
 rw[zb0 (o i (by lia)),zb0 (o j (by lia))]
 exact h i j h1 h2 h3
theorem Ri.one{r:Nat->Int}{p:Array Nat}{a:Nat}:Ri r p a (a+1):=λi j h1 h2 h3=>by
 have:i=j:=by lia
 subst this
 exact vep _
theorem Ri.succ{r:Nat->Int}{p:Array Nat}{a b:Nat}(h:Ri r p a b)(hb:a<b)(e:J r p (b-1)<=J r p b):Ri r p a (b+1):=λi j h1 h2 h3=>by
 by_cases x:j<b
 .exact h i j h1 h2 x
 .have:j=b:=by lia
  subst this
  by_cases y:i=j
  .subst y;exact vep _
  .exact vb1 (h i (j-1) h1 (by lia) (by lia)) e
theorem Fa.succ{r:Nat->Int}{p:Array Nat}{a b:Nat}(h:Fa r p a b)(hb:a<b)(e:J r p b<J r p (b-1)):Fa r p a (b+1):=λi j h1 h2 h3=>by
 by_cases x:j<b
 .exact h i j h1 h2 x
 .have:j=b:=by lia
  subst this
  by_cases y:i=j-1
  .subst y;exact e
  .exact Int.lt_trans e (h i (j-1) h1 (by lia) (by lia))
theorem J_mir{r:Nat->Int}{p:Array Nat}{i j:Nat}(hj:j<=p.size)(k:Nat):J r (mirror p i j ((j-i)/2)) k=if i<=k/\k<j then J r p (i+j-1-k)else J r p k:=by
 have e:=getElem?_mirror_all (i:=i) hj k
 by_cases h1:i<=k/\k<j
 .rw[if_pos h1]at e ⊢;exact zb0 e
 .rw[if_neg h1]at e ⊢;exact zb0 e
theorem zra{p:Array Nat}{i j:Nat}(hj:j<=p.size):Ou p (mirror p i j ((j-i)/2)) i j:=λk hk=>by
 rw[getElem?_mirror_all hj,if_neg (by lia)]
theorem Fa.mir{r:Nat->Int}{p:Array Nat}{a b:Nat}(h:Fa r p a b)(hb:b<=p.size):Ri r (mirror p a b ((b-a)/2)) a b:=λi j h1 h2 h3=>by
 rw[J_mir hb,J_mir hb,if_pos ⟨h1,by lia⟩,if_pos ⟨by lia,h3⟩]
 by_cases e:i=j
 .subst e;exact vep _
 .exact vcy (h _ _ (by lia) (by lia) (by lia))
theorem zrb{p:Array Nat}{src d:Nat}(hs:src<p.size)(hd:d<=src):Ou p (bubble p src d) (src-d) (src+1):=λk hk=>by
 rw[getElem?_bubble hs d hd,if_neg (by lia),if_neg (by lia)]
theorem zuj{r:Nat->Int}{p:Array Nat}{a k l:Nat}(hk:k<p.size)(h1:a<=l)(hl:l<=k)(hs:Ri r p a k)(lo:∀i,a<=i->i<l->J r p i<=J r p k)(hi:∀i,l<=i->i<k->J r p k<J r p i):Ri r (bubble p k (k-l)) a (k+1):=by
 intro i j ha hij hj
 rw[zh9 hk (by lia),zh9 hk (by lia),show k- (k-l)=l by lia]
 repeat' split
 all_goals first
  |(exfalso;lia)
  |exact vep _
  |exact lo _ (by lia) (by lia)
  |exact vcy (hi _ (by lia) (by lia))
  |exact hs _ _ (by lia) (by lia) (by lia)
section
variable{prog:Program}{w:World}{A:Around}{E:Value->Shared->Prop}{s:Shared}{κ:SortKind}{f:Nat->Keyed}{r:Nat->Int}{N:Nat}
theorem ws_lt(c:Cp prog w A s κ f r N){x y:Nat}(hx:x<N)(hy:y<N){st:SortSt}{Q:Option Bool->SortSt->Prop}(hk:kindOf st=κ)(h:Q (some (decide (r x<r y))) st):wpS (model prog w) A E s (lt' (f x) (f y)) Q st:=by
 rw[lt'_eq]
 refine van (vet ?_)
 rw[hk]
 refine van (ve3 (wpAny_attempt (vbz (c.lt x y (λb s'=>s'=s/\b=decide (r x<r y)) hx hy ⟨rfl,rfl⟩) (λb s' hb=>?_) λ_ _ e=>e.elim)))
 obtain⟨rfl,rfl⟩:=hb
 exact⟨rfl,vao h⟩
theorem zo2{p:Array Nat}{i:Nat}(hi:i<p.size):(p.map f)[i]?=some (f (p.getD i 0)):=by
 rw[Array.getElem?_map,vb0,vbb hi];rfl
theorem ws_at(c:Cp prog w A s κ f r N){p:Array Nat}{pd:Array (Nat×Nat×Nat)}{g:Nat}(P:Pm N p){i j:Nat}(hi:i<N)(hj:j<N){Q:Option Bool->SortSt->Prop}(h:Q (some (decide (J r p i<J r p j))) (St κ f p pd g)):wpS (model prog w) A E s (ltAt' i j) Q (St κ f p pd g):=by
 rw[ltAt'_eq]
 refine van (vet ?_)
 show wpS _ _ _ _ (do let x <-elem' (p.map f) i;let y <-elem' (p.map f) j;lt' x y) Q _
 rw[elem'_eq,elem'_eq,zo2 (by rw[P.z];exact hi),zo2 (by rw[P.z];exact hj)]
 refine van (vao (van (vao (ws_lt c (P.lt hi) (P.lt hj) rfl ?_))))
 rw[zgi (r:=r),zgi (r:=r)]
 exact h
theorem zuk{p:Array Nat}{pd:Array (Nat×Nat×Nat)}{g i j:Nat}{Q:Unit->SortSt->Prop}(h:Q () (St κ f (mirror p i j ((j-i)/2)) pd g)):wpS (model prog w) A E s (reverseSlice' i j) Q (St κ f p pd g):=by
 rw[reverseSlice'_eq]
 refine vev ?_
 have e:mirror (p.map f) i j ((j-i)/2)=(mirror p i j ((j-i)/2)).map f:=kas_swaps_map f (λk=>i+k) (λk=>j-1-k) _ p
 show Q _ (SortSt.mk' κ (mirror (p.map f) i j ((j-i)/2)) pd g none)
 rw[e]
 exact h
theorem zul{p:Array Nat}{pd:Array (Nat×Nat×Nat)}{g k l:Nat}{Q:Unit->SortSt->Prop}(h:Q () (St κ f (bubble p k (k-l)) pd g)):wpS (model prog w) A E s (moveDown' k l) Q (St κ f p pd g):=by
 rw[moveDown'_eq]
 refine vev ?_
 have e:bubble (p.map f) k (k-l)=(bubble p k (k-l)).map f:=kas_swaps_map f (λi=>k-i) (λi=>k-i-1) _ p
 show Q _ (SortSt.mk' κ (bubble (p.map f) k (k-l)) pd g none)
 rw[e]
 exact h
theorem Pm.rk(c:Cp prog w A s κ f r N){p:Array Nat}(P:Pm N p){i j:Nat}(hi:i<j)(hj:j<N):J r p i≠J r p j:=λe=>by
 rw[<-zgi (r:=r),<-zgi (r:=r)]at e
 exact P.ne hi hj (c.inj _ _ (P.lt (by lia)) (P.lt hj) e)
theorem znu(c:Cp prog w A s κ f r N){p:Array Nat}{pd:Array (Nat×Nat×Nat)}{g lo m:Nat}(P:Pm N p)(h1:1<=m)(hm:lo+m<=N){Q:Option Nat->SortSt->Prop}
 (h:∀n q,1<=n->n<=m->q.Perm p->Ou p q lo (lo+m)->Ri r q lo (lo+n)->Q (some n) (St κ f q pd g)):wpS (model prog w) A E s (countRun' lo m) Q (St κ f p pd g):=by
 have zp:=P.z
 rw[countRun'_eq]
 refine van (vdb (vbw (I:=λx d st'=>st'=St κ f p pd g/\d=(none,x)/\Ri r p lo (lo+x))
  (Q:=λd st'=>st'=St κ f p pd g/\∃n,d=(none,n)/\1<=n/\n<=m/\Ri r p lo (lo+n)/\(n<m->J r p (lo+n)<J r p (lo+n-1))) ?step ?fin ⟨rfl,rfl,Ri.one⟩) ?post)
 case fin=>
  rintro d st' ⟨rfl,rfl,hs⟩
  rw[show max 1 m=m by lia]at hs ⊢
  exact⟨rfl,m,rfl,h1,vaa _,hs,λz=>absurd z (vbf _)⟩
 case step=>
  rintro x d st' hx hxm ⟨rfl,rfl,hs⟩
  dsimp only
  refine van (ws_at c P (by lia) (by lia) ?_)
  by_cases q:J r p (lo+x)<J r p (lo+x-1)
  .rw[vaz q]
   exact vao ⟨rfl,x,rfl,hx,by lia,hs,λ_=>q⟩
  .rw[vav q]
   exact vao ⟨rfl,rfl,hs.succ (by lia) (vdv.mp q)⟩
 case post=>
  rintro d st' ⟨rfl,n,rfl,n1,nm,hs,hor⟩
  dsimp only
  by_cases e:n=m
  .rw[if_pos (by simpa using e)]
   exact vao (h n p n1 nm (vds _) .refl hs)
  .rw[if_neg (by simpa using e)]
   have hd:=hor (by lia)
   by_cases e2:n>1
   .rw[if_pos e2]
    refine van (ws_at c P (by lia) (by lia) ?_)
    have a1:=hs lo (lo+n-1) (vaa _) (by lia) (by lia)
    have a2:=P.rk c (i:=lo) (j:=lo+n-1) (by lia) (by lia)
    rw[vaz (by lia)]
    exact vao (h n p n1 nm (vds _) .refl hs)
   .rw[if_neg e2]
    obtain rfl:n=1:=by lia
    refine van (ve3 (vdl ⟨rfl,?_⟩))
    have f0:Fa r p lo (lo+1):=λi j x y z=>by lia
    refine van (vdb (vbw (I:=λx d st'=>st'=St κ f p pd g/\d=(none,x,0)/\Fa r p lo (lo+x))
     (Q:=λd st'=>st'=St κ f p pd g/\∃n,d=(none,n,0)/\1<=n/\n<=m/\Fa r p lo (lo+n)) ?dstep ?dfin ⟨rfl,rfl,f0.succ (by lia) hd⟩) ?dpost)
    case dfin=>
     rintro d st' ⟨rfl,rfl,hs⟩
     rw[show max (1+1) m=m by lia]at hs ⊢
     exact⟨rfl,m,rfl,h1,vaa _,hs⟩
    case dstep=>
     rintro x d st' hx hxm ⟨rfl,rfl,hs⟩
     dsimp only
     refine van (ws_at c P (by lia) (by lia) ?_)
     by_cases q:J r p (lo+x)<J r p (lo+x-1)
     .rw[vaz q]
      exact vao ⟨rfl,rfl,hs.succ (by lia) q⟩
     .rw[vav q]
      refine van (ws_at c P (by lia) (by lia) ?_)
      have a2:=P.rk c (i:=lo+x-1) (j:=lo+x) (by lia) (by lia)
      rw[vaz (by lia)]
      exact vao ⟨rfl,x,rfl,by lia,by lia,hs⟩
    case dpost=>
     rintro d st' ⟨rfl,n,rfl,n1,nm,hs⟩
     dsimp only
     rw[if_neg (vbf 0)]
     refine van (zuk ?_)
     have hz:lo+n<=p.size:=by lia
     have P':=P.perm (mirror_perm p lo (lo+n) ((lo+n-lo)/2))
     have hr:=hs.mir hz
     have ho:Ou p (mirror p lo (lo+n) ((lo+n-lo)/2)) lo (lo+m):=(zra hz).mono (vaa _) (by lia)
     have hp:=mirror_perm p lo (lo+n) ((lo+n-lo)/2)
     generalize mirror p lo (lo+n) ((lo+n-lo)/2)=q at P' hr ho hp
     refine van (vdb (vbw (I:=λx d st'=>st'=St κ f q pd g/\d=(none,x)/\Ri r q lo (lo+x))
      (Q:=λd st'=>st'=St κ f q pd g/\∃n,d=(none,n)/\1<=n/\n<=m/\Ri r q lo (lo+n)) ?tstep ?tfin ⟨rfl,rfl,hr⟩) ?tpost)
     case tfin=>
      rintro d st' ⟨rfl,rfl,hs⟩
      rw[show max n m=m by lia]at hs ⊢
      exact⟨rfl,m,rfl,h1,vaa _,hs⟩
     case tstep=>
      rintro x d st' hx hxm ⟨rfl,rfl,hs⟩
      dsimp only
      refine van (ws_at c P' (by lia) (by lia) ?_)
      by_cases y:J r q (lo+x)<J r q (lo+x-1)
      .rw[vaz y]
       exact vao ⟨rfl,x,rfl,by lia,by lia,hs⟩
      .rw[vav y]
       exact vao ⟨rfl,rfl,hs.succ (by lia) (vdv.mp y)⟩
     case tpost=>
      rintro d st' ⟨rfl,n',rfl,n1,nm,hs⟩
      exact vao (h n' q n1 nm hp ho hs)
theorem zum(c:Cp prog w A s κ f r N){p:Array Nat}{pd:Array (Nat×Nat×Nat)}{g lo n ok:Nat}(P:Pm N p)(h1:1<=ok)(hn:ok<=n)(hm:lo+n<=N)(hs:Ri r p lo (lo+ok)){Q:Bool->SortSt->Prop}
 (h:∀q,q.Perm p->Ou p q lo (lo+n)->Ri r q lo (lo+n)->Q true (St κ f q pd g)):wpS (model prog w) A E s (binarySort' lo n ok) Q (St κ f p pd g):=by
 rw[binarySort'_eq]
 refine van (vdb (vbw (I:=λk d st'=>d=(none,())/\∃q,st'=St κ f q pd g/\q.Perm p/\Ou p q lo (lo+n)/\Ri r q lo (lo+k))
  (Q:=λd st'=>d=(none,())/\∃q,st'=St κ f q pd g/\q.Perm p/\Ou p q lo (lo+n)/\Ri r q lo (lo+n)) ?step ?fin ⟨rfl,p,rfl,vds _,.refl,by rw[show max ok 1=ok by lia];exact hs⟩) ?post)
 case post=>
  rintro d st' ⟨rfl,q,rfl,h2,h3,h4⟩
  exact vao (h q h2 h3 h4)
 case fin=>
  rintro d st' ⟨hc,q,rfl,h2,h3,h4⟩
  rw[show max (max ok 1) n=n by lia]at h4
  exact⟨hc,q,rfl,h2,h3,h4⟩
 case step=>
  rintro k d st' hk hkn ⟨rfl,q,rfl,h2,h3,h4⟩
  have P':=P.perm h2
  have zq:=P'.z
  refine van (vdb (vbw (I:=λx d st'=>st'=St κ f q pd g/\∃l h,d=(none,l,h)/\l<=h/\h<=k/\h-l<=k-x/\(∀i,lo<=i->i<lo+l->J r q i<=J r q (lo+k))/\(∀i,lo+h<=i->i<lo+k->J r q (lo+k)<J r q i))
   (Q:=λd st'=>st'=St κ f q pd g/\∃l h,d=(none,l,h)/\l<=k/\(∀i,lo<=i->i<lo+l->J r q i<=J r q (lo+k))/\(∀i,lo+l<=i->i<lo+k->J r q (lo+k)<J r q i)) ?istep ?ifin ⟨rfl,0,k,rfl,vbg _,vaa _,by lia,λi a b=>by lia,λi a b=>by lia⟩) ?ipost)
  case ifin=>
   rintro d st' ⟨rfl,l,h,rfl,a,b,e,h5,h6⟩
   obtain rfl:l=h:=by lia
   exact⟨rfl,l,l,rfl,b,h5,h6⟩
  case istep=>
   rintro x d st' _ hxk ⟨rfl,l,h,rfl,a,b,e,h5,h6⟩
   dsimp only
   by_cases ge:l>=h
   .rw[if_pos ge]
    obtain rfl:l=h:=by lia
    exact vao ⟨rfl,l,l,rfl,b,h5,h6⟩
   .rw[if_neg ge]
    refine van (ws_at c P' (by lia) (by lia) ?_)
    by_cases y:J r q (lo+k)<J r q (lo+ (l+h)/2)
    .simp only[y,vey,vbe]
     exact vao ⟨rfl,l,(l+h)/2,rfl,by lia,by lia,by lia,h5,λi z1 z2=>Int.lt_of_lt_of_le y (h4 _ _ (by lia) z1 z2)⟩
    .simp only[y,decide_false,vam,vbi]
     exact vao ⟨rfl,(l+h)/2+1,h,rfl,by lia,by lia,by lia,λi z1 z2=>vb1 (h4 i (lo+ (l+h)/2) z1 (by lia) (by lia)) (vdv.mp y),h6⟩
  case ipost=>
   rintro d st' ⟨rfl,l,h,rfl,a,h5,h6⟩
   show wpS _ _ _ _ (do moveDown' (lo+k) (lo+l);pure (ForInStep.yield (none,()))) _ _
   refine van (zul (vao ⟨rfl,_,rfl,(bubble_perm _ _ _).trans h2,h3.trans ((zrb (by lia) (by lia)).mono (by lia) (by lia)),?_⟩))
   rw[show lo+ (k+1)=lo+k+1 by lia]
   exact zuj (by lia) (by lia) (by lia) h4 h5 h6
end
end TS
namespace TS
open PySem PySem.W PyProof.Rows KO
noncomputable def gal':Bool->Keyed->Array Keyed->Nat->Nat->Nat->StateT SortSt Sem (Option Nat):=sortPriv% PySem.Builtin.gallop
noncomputable def galE(past:Nat->StateT SortSt Sem (Option Bool))(n u0 v0:Nat):StateT SortSt Sem (Option Nat):=do
 let mut u:=u0
 let mut v:=v0
 for _ in [0:n] do
  if u>=v then break
  let md:=u+ (v-u)/2
  let some mr <-past md|return none
  if mr then u:=md+1 else v:=md
 return some v
noncomputable def galB(past:Nat->StateT SortSt Sem (Option Bool))(n hn:Nat):StateT SortSt Sem (Option Nat):=do
 let mut lst:=0
 let mut off:=1
 let some yes <-past hn|return none
 if yes then
  let top:=n-hn
  for _ in [0:n] do
   if off>=top then break
   let some mr <-past (hn+off)|return none
   if !mr then break
   lst:=off
   off:=2*off+1
  galE past n (hn+lst+1) (hn+min off top)
 else
  let top:=hn+1
  for _ in [0:n] do
   if off>=top then break
   let some fd <-past (hn-off)|return none
   if fd then break
   lst:=off
   off:=2*off+1
  galE past n (hn+1-min off top) (hn-lst)
theorem zun(lf:Bool)(x:Keyed)(a:Array Keyed)(bs n hn:Nat):gal' lf x a bs n hn=galB (λi=>do
 let y <-elem' a (bs+i)
 if lf then lt' y x else return (<-lt' x y).map (!·)) n hn:=rfl
section
variable{M:Model}{A:Around}{E:Value->Shared->Prop}{s:Shared}
theorem zrc{past:Nat->StateT SortSt Sem (Option Bool)}{B:Nat->Bool}{n hn k:Nat}{st:SortSt}{Q:Option Nat->SortSt->Prop}(hp:∀(i:Nat) (Q:Option Bool->SortSt->Prop),i<n->Q (some (B i)) st->wpS M A E s (past i) Q st)
 (hk:k<=n) (h1:∀i,i<k->B i=true) (h2:∀i,k<=i->i<n->B i=false) (hh:hn<n) (h:Q (some k) st):wpS M A E s (galB past n hn) Q st:=by
 have last:∀u v,u<=k->k<=v->v<=n->wpS M A E s (galE past n u v) Q st:=λu v hu hv hvn=>by
  unfold galE
  refine van (vdb (vbw (I:=λx d st'=>st'=st/\∃u v,d=(none,u,v)/\u<=k/\k<=v/\v<=n/\v-u<=n-x)
   (Q:=λd st'=>st'=st/\∃u,d=(none,u,k)) ?step ?fin ⟨rfl,u,v,rfl,hu,hv,hvn,by lia⟩) ?post)
  case fin=>
   rintro d st' ⟨rfl,u,v,rfl,a,b,e,g⟩
   obtain rfl:v=k:=by lia
   exact⟨rfl,u,rfl⟩
  case step=>
   rintro x d st' _ hx ⟨rfl,u,v,rfl,a,b,e,g⟩
   dsimp only
   by_cases z:u>=v
   .rw[if_pos z]
    obtain rfl:v=k:=by lia
    exact vao ⟨rfl,u,rfl⟩
   .rw[if_neg z]
    refine van (hp _ _ (by lia) ?_)
    by_cases y:u+ (v-u)/2<k
    .rw[h1 _ y]
     exact vao ⟨rfl,_,v,rfl,by lia,b,e,by lia⟩
    .rw[h2 _ (by lia) (by lia)]
     exact vao ⟨rfl,u,_,rfl,a,by lia,by lia,by lia⟩
  case post=>
   rintro d st' ⟨rfl,u,rfl⟩
   exact vao h
 unfold galB
 refine van (hp _ _ hh ?_)
 by_cases y:hn<k
 .rw[h1 _ y]
  show wpS M A E s (if true=true then _ else _) Q st
  rw[if_pos rfl]
  refine van (vdb (vbw (I:=λx d st'=>st'=st/\∃l o,d=(none,l,o)/\hn+l<k/\x+1<=o)
   (Q:=λd st'=>st'=st/\∃l o,d=(none,l,o)/\hn+l<k/\(n-hn<=o\/k<=hn+o)) ?step ?fin ⟨rfl,0,1,rfl,y,vaa _⟩) ?post)
  case fin=>
   rintro d st' ⟨rfl,l,o,rfl,a,b⟩
   exact⟨rfl,l,o,rfl,a,.inl (by lia)⟩
  case step=>
   rintro x d st' _ hx ⟨rfl,l,o,rfl,a,b⟩
   dsimp only
   by_cases z:o>=n-hn
   .rw[if_pos z]
    exact vao ⟨rfl,l,o,rfl,a,.inl z⟩
   .rw[if_neg z]
    refine van (hp _ _ (by lia) ?_)
    by_cases q:hn+o<k
    .rw[h1 _ q]
     exact vao ⟨rfl,o,2*o+1,rfl,q,by lia⟩
    .rw[h2 _ (by lia) (by lia)]
     exact vao ⟨rfl,l,o,rfl,a,.inr (by lia)⟩
  case post=>
   rintro d st' ⟨rfl,l,o,rfl,a,b⟩
   exact last (hn+l+1) (hn+min o (n-hn)) (by lia) (by lia) (by lia)
 .rw[h2 _ (by lia) hh]
  show wpS M A E s (if false=true then _ else _) Q st
  rw[if_neg (by simp)]
  refine van (vdb (vbw (I:=λx d st'=>st'=st/\∃l o,d=(none,l,o)/\k+l<=hn/\x+1<=o)
   (Q:=λd st'=>st'=st/\∃l o,d=(none,l,o)/\k+l<=hn/\(hn+1<=o\/hn<k+o)) ?step2 ?fin2 ⟨rfl,0,1,rfl,by lia,vaa _⟩) ?post2)
  case fin2=>
   rintro d st' ⟨rfl,l,o,rfl,a,b⟩
   exact⟨rfl,l,o,rfl,a,.inl (by lia)⟩
  case step2=>
   rintro x d st' _ hx ⟨rfl,l,o,rfl,a,b⟩
   dsimp only
   by_cases z:o>=hn+1
   .rw[if_pos z]
    exact vao ⟨rfl,l,o,rfl,a,.inl z⟩
   .rw[if_neg z]
    refine van (hp _ _ (by lia) ?_)
    by_cases q:hn-o<k
    .rw[h1 _ q]
     exact vao ⟨rfl,l,o,rfl,a,.inr (by lia)⟩
    .rw[h2 _ (by lia) (by lia)]
     exact vao ⟨rfl,o,2*o+1,rfl,by lia,by lia⟩
  case post2=>
   rintro d st' ⟨rfl,l,o,rfl,a,b⟩
   exact last (hn+1-min o (hn+1)) (hn-l) (by lia) (by lia) (by lia)
end
end TS
namespace TS
open PySem PySem.W PyProof.Rows KO
noncomputable def ar(f:Nat->Keyed)(l:List Nat):Array Keyed:=(l.map f).toArray
noncomputable def So(r:Nat->Int)(l:List Nat):Prop:=l.Pairwise λa b=>r a<=r b
section
variable{f:Nat->Keyed}{r:Nat->Int}
theorem zaw{l:List Nat}:(ar f l).size=l.length:=by simp[ar]
theorem ar_at{l:List Nat}{i:Nat}(hi:i<l.length):(ar f l)[i]?=some (f l[i]):=by
 simp[ar,hi]
theorem zd7{l:List Nat}{x:Nat}:(ar f l).push (f x)=ar f (l++[x]):=by simp[ar]
theorem zb1{l m:List Nat}:ar f l++ar f m=ar f (l++m):=by simp[ar]
theorem zcc{l:List Nat}{i j:Nat}:(ar f l).extract i j=ar f ((l.drop i).take (j-i)):=by simp[ar,List.extract_eq_take_drop]
theorem zk2{l:List Nat}:(ar f l).reverse=ar f l.reverse:=by simp[ar]
theorem So.at_{l:List Nat}(h:So r l){i j:Nat}(hij:i<=j)(hj:j<l.length):r (l[i]'(by lia))<=r l[j]:=by
 by_cases e:i=j
 .subst e;exact vep _
 .exact vbn.mp h i j (by lia) hj (by lia)
theorem So.drop{l:List Nat}(h:So r l)(k:Nat):So r (l.drop k):=List.Pairwise.sublist (List.drop_sublist _ _) h
theorem So.take{l:List Nat}(h:So r l)(k:Nat):So r (l.take k):=List.Pairwise.sublist (List.take_sublist _ _) h
theorem zb8{l:List Nat}{k x:Nat}(h:x∈l.drop k):∃j,∃hj:j<l.length,k<=j/\l[j]=x:=by
 obtain⟨i,hi,e⟩:=vd5 h
 rw[List.getElem_drop]at e
 rw[vbk]at hi
 exact⟨k+i,by lia,by lia,e⟩
theorem zia{l:List Nat}{k n x:Nat}(h:x∈(l.drop k).take n):∃j,∃hj:j<l.length,k<=j/\j<k+n/\l[j]=x:=by
 obtain⟨i,hi,e⟩:=vd5 h
 rw[List.getElem_take,List.getElem_drop]at e
 rw[vbj,vbk]at hi
 exact⟨k+i,by lia,by lia,by lia,e⟩
structure MI(r:Nat->Int)(la lb lo:List Nat)(ia ib:Nat):Prop where
 pm:(lo++(la.drop ia++lb.drop ib)).Perm (la++lb)
 so:So r lo
 le:∀x∈lo,(∀y∈la.drop ia,r x<=r y)/\∀y∈lb.drop ib,r x<=r y
 ln:lo.length=ia+ib
theorem zbj{l:List Nat}{i k:Nat}:l.drop i=(l.drop i).take k++l.drop (i+k):=by
 rw[<-List.drop_drop,List.take_append_drop]
theorem MI.runB{la lb lo:List Nat}{ia ib k:Nat}(h:MI r la lb lo ia ib)(sb:So r lb)(hk:ib+k<=lb.length)(hl:∀j (hj:j<lb.length),ib<=j->j<ib+k->∀y∈la.drop ia,r lb[j]<=r y):MI r la lb (lo++(lb.drop ib).take k) ia (ib+k):=by
 refine⟨?_,?_,?_,?_⟩
 .refine List.Perm.trans ?_ h.pm
  rw[va1]
  refine vcq lo ?_
  have e:la.drop ia++lb.drop ib=la.drop ia++(lb.drop ib).take k++lb.drop (ib+k):=by rw[va1,<-zbj]
  rw[e,<-va1]
  exact vej vdt (vcz _)
 .refine vbh.mpr ⟨h.so,(sb.drop ib).take k,λx hx y hy=>(h.le x hx).2 y (vd0 hy)⟩
 .intro x hx
  rcases vb8.mp hx with hx|hx
  .exact⟨(h.le x hx).1,λy hy=>(h.le x hx).2 y (by rw[zbj (k:=k)];exact vat _ hy)⟩
  .obtain⟨j,hj,h1,h2,rfl⟩:=zia hx
   refine⟨λy hy=>hl j hj h1 h2 y hy,λy hy=>?_⟩
   obtain⟨i,hi,h3,rfl⟩:=zb8 hy
   exact sb.at_ (by lia) hi
 .rw[vaj,h.ln,vbj,vbk];lia
theorem MI.runA{la lb lo:List Nat}{ia ib k:Nat}(h:MI r la lb lo ia ib)(sa:So r la)(hk:ia+k<=la.length)(hl:∀j (hj:j<la.length),ia<=j->j<ia+k->∀y∈lb.drop ib,r la[j]<=r y):MI r la lb (lo++(la.drop ia).take k) (ia+k) ib:=by
 refine⟨?_,?_,?_,?_⟩
 .refine List.Perm.trans ?_ h.pm
  rw[va1]
  refine vcq lo ?_
  rw[<-va1,<-zbj]
 .refine vbh.mpr ⟨h.so,(sa.drop ia).take k,λx hx y hy=>(h.le x hx).1 y (vd0 hy)⟩
 .intro x hx
  rcases vb8.mp hx with hx|hx
  .exact⟨λy hy=>(h.le x hx).1 y (by rw[zbj (k:=k)];exact vat _ hy),(h.le x hx).2⟩
  .obtain⟨j,hj,h1,h2,rfl⟩:=zia hx
   refine⟨λy hy=>?_,λy hy=>hl j hj h1 h2 y hy⟩
   obtain⟨i,hi,h3,rfl⟩:=zb8 hy
   exact sa.at_ (by lia) hi
 .rw[vaj,h.ln,vbj,vbk];lia
theorem zk3{l:List Nat}{i:Nat}(hi:i<l.length):(l.drop i).take 1=[l[i]]:=by
 rw[vb9 hi];rfl
noncomputable def Mg(f:Nat->Keyed)(r:Nat->Int)(la lb:List Nat)(x:Array Keyed):Prop:=∃l,x=ar f l/\l.Perm (la++lb)/\So r l
theorem MI.done{la lb lo:List Nat}{ia ib:Nat}(h:MI r la lb lo ia ib)(sa:So r la)(hb:ib=lb.length):Mg f r la lb (ar f lo++(ar f la).extract ia (ar f la).size++(ar f lb).extract ib (ar f lb).size):=by
 subst hb
 have e:(la.drop ia).take (la.length-ia)=la.drop ia:=List.take_of_length_le (by rw[vbk];exact vaa _)
 refine⟨lo++la.drop ia,?_,?_,vbh.mpr ⟨h.so,sa.drop ia,λx hx y hy=>(h.le x hx).1 y hy⟩⟩
 .rw[zaw,zaw,zcc,zcc,zb1,zb1,e,vek,List.take_nil,vbp]
 .have:=h.pm
  rw[vek,vbp]at this
  exact this
theorem MI.last{la lb lo:List Nat}{ia ib:Nat}(h:MI r la lb lo ia ib)(sb:So r lb)(ha:ia+1=la.length)(hl:∀x∈lb,r x<=r (la[ia]'(by lia))):Mg f r la lb (ar f lo++(ar f lb).extract ib (ar f lb).size++(ar f la).extract ia (ar f la).size):=by
 have e:(la.drop ia).take (la.length-ia)=la.drop ia:=List.take_of_length_le (by rw[vbk];exact vaa _)
 have e2:(lb.drop ib).take (lb.length-ib)=lb.drop ib:=List.take_of_length_le (by rw[vbk];exact vaa _)
 have e3:la.drop ia=[la[ia]'(by lia)]:=by
  rw[vb9 (by lia),show ia+1=la.length from ha,vek]
 refine⟨lo++lb.drop ib++la.drop ia,?_,?_,?_⟩
 .rw[zaw,zaw,zcc,zcc,zb1,zb1,e,e2]
 .refine List.Perm.trans ?_ h.pm
  rw[va1]
  exact vcq lo vdt
 .refine vbh.mpr ⟨vbh.mpr ⟨h.so,sb.drop ib,λx hx y hy=>(h.le x hx).2 y hy⟩,zk4 e3,λx hx y hy=>?_⟩
  rcases vb8.mp hx with hx|hx
  .exact(h.le x hx).1 y hy
  .rw[e3]at hy
   rw[vbr.mp hy]
   exact hl x (List.mem_of_mem_drop hx)
where
 zk4 {l:List Nat} {x:Nat} (e:l=[x]):l.Pairwise (λa b=>r a<=r b):=by rw[e];exact List.pairwise_singleton ..
end
end TS
namespace TS
open PySem PySem.W PyProof.Rows KO
theorem thr{B:Nat->Bool}:∀n,(∀i j,i<=j->j<n->B j=true->B i=true)->∃k,k<=n/\(∀i,i<k->B i=true)/\∀i,k<=i->i<n->B i=false
 |0,_=>⟨0,vaa _,λi h=>by lia,λi _ h=>by lia⟩
 |n+1,m=>by
  cases e:B n with
  |true=>exact⟨n+1,vaa _,λi h=>m i n (by lia) (by lia) e,λi _ h=>by lia⟩
  |false=>
   obtain⟨k,a,b,c⟩:=thr (B:=B) n λi j x y z=>m i j x (by lia) z
   refine⟨k,by lia,b,λi x y=>?_⟩
   by_cases z:i=n
   .subst z;exact e
   .exact c i x (by lia)
noncomputable def setG:Nat->StateT SortSt Sem Unit:=sortPriv% PySem.Builtin.setMinGallop
section
variable{prog:Program}{w:World}{A:Around}{E:Value->Shared->Prop}{s:Shared}{κ:SortKind}{f:Nat->Keyed}{r:Nat->Int}{N:Nat}
theorem ws_el{l:List Nat}{i:Nat}{st:SortSt}{Q:Keyed->SortSt->Prop}(hi:i<l.length)(h:Q (f l[i]) st):wpS (model prog w) A E s (elem' (ar f l) i) Q st:=by
 rw[elem'_eq,ar_at hi]
 exact vao h
theorem zfe{p:Array Nat}{pd:Array (Nat×Nat×Nat)}{g g':Nat}{Q:Unit->SortSt->Prop}(h:Q () (St κ f p pd g')):wpS (model prog w) A E s (setG g') Q (St κ f p pd g):=vev (f:=λs=>SortSt.mk' (kindOf s) (arrOf s) (pendingOf s) g' (failedOf s)) h
noncomputable def Bf(r:Nat->Int)(lf:Bool)(x:Nat)(l:List Nat)(bs i:Nat):Bool:=if lf then decide (r (l.getD (bs+i) 0)<r x)else !decide (r x<r (l.getD (bs+i) 0))
theorem zbb{l:List Nat}{i:Nat}(hi:i<l.length):l.getD i 0=l[i]:=by
 rw[vb5,va0 hi];rfl
theorem zhc(c:Cp prog w A s κ f r N){l:List Nat}(bl:∀y∈l,y<N){x:Nat}(hx:x<N){lf:Bool}{bs n hn:Nat}(sl:∀i j,i<=j->j<n->r (l.getD (bs+i) 0)<=r (l.getD (bs+j) 0))(hb:bs+n<=l.length)(hh:hn<n){st:SortSt}(hk:kindOf st=κ){Q:Option Nat->SortSt->Prop}
 (h:∀k,k<=n->(∀i,i<k->Bf r lf x l bs i=true)->(∀i,k<=i->i<n->Bf r lf x l bs i=false)->Q (some k) st):wpS (model prog w) A E s (gal' lf (f x) (ar f l) bs n hn) Q st:=by
 obtain⟨k,k1,k2,k3⟩:=thr (B:=Bf r lf x l bs) n λi j a b e=>by
  have:=sl i j a b
  unfold Bf at e ⊢
  cases lf with
  |true=>
   simp only[vbe,vap]at e ⊢
   lia
  |false=>
   simp only[vam,vbi,vb3,vb4]at e ⊢
   lia
 rw[zun]
 refine zrc (B:=Bf r lf x l bs) (λi Q hi hQ=>?_) k1 k2 k3 hh (h k k1 k2 k3)
 have hi':bs+i<l.length:=by lia
 refine van (ws_el hi' ?_)
 unfold Bf at hQ
 rw[zbb hi']at hQ
 have hy:l[bs+i]<N:=bl _ (vbd _)
 cases lf with
 |true=>
  simp only[vbe]at hQ ⊢
  exact ws_lt c hy hx hk hQ
 |false=>
  simp only[vam,vbi]at hQ ⊢
  exact van (ws_lt c hx hy hk (vao hQ))
theorem zib(c:Cp prog w A s κ f r N){l:List Nat}(bl:∀y∈l,y<N)(sl:So r l){x:Nat}(hx:x<N){lf:Bool}{bs n hn:Nat}(hb:bs+n<=l.length)(hh:hn<n){st:SortSt}(hk:kindOf st=κ){Q:Option Nat->SortSt->Prop}
 (h:∀k,k<=n->(∀i,i<k->Bf r lf x l bs i=true)->(∀i,k<=i->i<n->Bf r lf x l bs i=false)->Q (some k) st):wpS (model prog w) A E s (gal' lf (f x) (ar f l) bs n hn) Q st:=
 zhc c bl hx (λi j a b=>by rw[zbb (l:=l) (i:=bs+i) (by lia),zbb (l:=l) (i:=bs+j) (by lia)];exact sl.at_ (by lia) (by lia)) hb hh hk h
end
noncomputable abbrev Arr:=Array Keyed
noncomputable abbrev SS:=StateT SortSt Sem
noncomputable abbrev LoS:=Option Arr×Arr×Nat×Nat×Nat×Nat×Nat
noncomputable def fin1(a b o:Arr)(i j:Nat):Arr:=o++a.extract i a.size++b.extract j b.size
noncomputable def fil1(a b o:Arr)(i j:Nat):Arr:=o++b.extract j b.size++a.extract i a.size
noncomputable def loC(a b o:Arr)(i j g ca cb:Nat):SS (ForInStep LoS):=do
 let x <-elem' a i
 if(i+1+1==a.size)=true then pure (.done (some (fil1 a b (o.push x) (i+1) j),o.push x,i+1,j,g,ca,cb))
 else if(decide (ca<7)&&decide (cb<7))=true then pure (.done (none,o.push x,i+1,j,g,ca,cb))else pure (.yield (none,o.push x,i+1,j,g,ca,cb))
noncomputable def loB(a b o:Arr)(i j g ca cb:Nat):SS (ForInStep LoS):=do
 let x <-elem' b j
 if(j+1==b.size)=true then pure (.done (some (fin1 a b (o.push x) i (j+1)),o.push x,i,j+1,g,ca,cb))
 else do
  let y <-elem' a i
  let z <-gal' true y b (j+1) (b.size- (j+1)) 0
  match z with
  |some k=>
   if k>0 then
    if(j+1+k==b.size)=true then pure (.done (some (fin1 a b (o.push x++b.extract (j+1) (j+1+k)) i (j+1+k)),o.push x++b.extract (j+1) (j+1+k),i,j+1+k,g,ca,k))
    else loC a b (o.push x++b.extract (j+1) (j+1+k)) i (j+1+k) g ca k
   else loC a b (o.push x) i (j+1) g ca k
  |_=>pure (.done (some (fin1 a b (o.push x) i (j+1)),o.push x,i,j+1,g,ca,cb))
noncomputable def loA(a b o:Arr)(i j g ca cb:Nat):SS (ForInStep LoS):=do
 setG g
 let y <-elem' b j
 let z <-gal' false y a i (a.size-i) 0
 match z with
 |some k=>
  if k>0 then
   if(i+k+1==a.size)=true then pure (.done (some (fil1 a b (o++a.extract i (i+k)) (i+k) j),o++a.extract i (i+k),i+k,j,g,k,cb))
   else if(i+k==a.size)=true then pure (.done (some (fin1 a b (o++a.extract i (i+k)) (i+k) j),o++a.extract i (i+k),i+k,j,g,k,cb))
   else loB a b (o++a.extract i (i+k)) (i+k) j g k cb
  else loB a b o i j g k cb
 |_=>pure (.done (some (fin1 a b o i j),o,i,j,g,ca,cb))
noncomputable def loG(a b:Arr)(t:LoS):SS (ForInStep LoS):=if t.2.2.2.2.1>1 then loA a b t.2.1 t.2.2.1 t.2.2.2.1 (t.2.2.2.2.1-1) t.2.2.2.2.2.1 t.2.2.2.2.2.2 else loA a b t.2.1 t.2.2.1 t.2.2.2.1 t.2.2.2.2.1 t.2.2.2.2.2.1 t.2.2.2.2.2.2
noncomputable abbrev LoU:=Option Arr×Arr×Nat×Nat×Nat×Nat
noncomputable def loI(a b:Arr)(g:Nat)(t:LoU):SS (ForInStep LoU):=do
 let x <-elem' b t.2.2.2.1
 let y <-elem' a t.2.2.1
 let z <-lt' x y
 match z with
 |some q=>
  if q=true then do
   let x <-elem' b t.2.2.2.1
   if(t.2.2.2.1+1==b.size)=true then pure (.done (some (fin1 a b (t.2.1.push x) t.2.2.1 (t.2.2.2.1+1)),t.2.1.push x,t.2.2.1,t.2.2.2.1+1,0,t.2.2.2.2.2+1))
   else if t.2.2.2.2.2+1>=g then pure (.done (none,t.2.1.push x,t.2.2.1,t.2.2.2.1+1,0,t.2.2.2.2.2+1))else pure (.yield (none,t.2.1.push x,t.2.2.1,t.2.2.2.1+1,0,t.2.2.2.2.2+1))
  else do
   let x <-elem' a t.2.2.1
   if(t.2.2.1+1+1==a.size)=true then pure (.done (some (fil1 a b (t.2.1.push x) (t.2.2.1+1) t.2.2.2.1),t.2.1.push x,t.2.2.1+1,t.2.2.2.1,t.2.2.2.2.1+1,0))
   else if t.2.2.2.2.1+1>=g then pure (.done (none,t.2.1.push x,t.2.2.1+1,t.2.2.2.1,t.2.2.2.2.1+1,0))else pure (.yield (none,t.2.1.push x,t.2.2.1+1,t.2.2.2.1,t.2.2.2.2.1+1,0))
 |_=>pure (.done (some (fin1 a b t.2.1 t.2.2.1 t.2.2.2.1),t.2.1,t.2.2.1,t.2.2.2.1,t.2.2.2.2.1,t.2.2.2.2.2))
noncomputable abbrev LoV:=Option Arr×Arr×Nat×Nat×Nat
noncomputable def loO(a b:Arr)(t:LoV):SS (ForInStep LoV):=do
 let u <-forIn [0:a.size+b.size] ((none,t.2.1,t.2.2.1,t.2.2.2.1,0,0):LoU) λ_ u=>loI a b t.2.2.2.2 u
 match u.1 with
 |some x=>pure (.done (some x,u.2.1,u.2.2.1,u.2.2.2.1,t.2.2.2.2))
 |none=>do
  rule "list.sort.gallop"
  let v <-forIn [0:a.size+b.size] ((none,u.2.1,u.2.2.1,u.2.2.2.1,t.2.2.2.2+1,u.2.2.2.2.1,u.2.2.2.2.2):LoS) λ_ v=>loG a b v
  match v.1 with
  |some x=>pure (.done (some x,v.2.1,v.2.2.1,v.2.2.2.1,v.2.2.2.2.1))
  |none=>do
   setG (v.2.2.2.2.1+1)
   pure (.yield (none,v.2.1,v.2.2.1,v.2.2.2.1,v.2.2.2.2.1+1))
noncomputable def mgLo(a b:Arr):SS Arr:=do
 rule "list.sort.merge-lo"
 let x <-elem' b 0
 if(1==b.size)=true then pure (fin1 a b #[x] 0 1)
 else if(0+1==a.size)=true then pure (fil1 a b #[x] 0 1)
 else do
  let z <-get
  let t <-forIn [0:a.size+b.size] ((none,#[x],0,1,gallopOf z):LoV) λ_ t=>loO a b t
  match t.1 with
  |some x=>pure x
  |none=>unsupported "internal:list.sort.merge-bound"
end TS
namespace TS
open PySem PySem.W PyProof.Rows KO
section
variable{prog:Program}{w:World}{A:Around}{E:Value->Shared->Prop}{s:Shared}{κ:SortKind}{f:Nat->Keyed}{r:Nat->Int}{N:Nat}
theorem MI.pushB{la lb lo:List Nat}{i j:Nat}(h:MI r la lb lo i j)(sa:So r la)(sb:So r lb)(hi:i<la.length)(hj:j<lb.length)(e:r lb[j]<=r la[i]):MI r la lb (lo++[lb[j]]) i (j+1):=by
 have:=h.runB (k:=1) sb (by lia) λq hq h1 h2 y hy=>by
  obtain rfl:q=j:=by lia
  obtain⟨t,ht,h3,rfl⟩:=zb8 hy
  exact vb1 e (sa.at_ h3 ht)
 rw[zk3 hj]at this
 exact this
theorem MI.pushA{la lb lo:List Nat}{i j:Nat}(h:MI r la lb lo i j)(sa:So r la)(sb:So r lb)(hi:i<la.length)(hj:j<lb.length)(e:r la[i]<=r lb[j]):MI r la lb (lo++[la[i]]) (i+1) j:=by
 have:=h.runA (k:=1) sa (by lia) λq hq h1 h2 y hy=>by
  obtain rfl:q=i:=by lia
  obtain⟨t,ht,h3,rfl⟩:=zb8 hy
  exact vb1 e (sb.at_ h3 ht)
 rw[zk3 hi]at this
 exact this
structure Tw(N:Nat)(r:Nat->Int)(la lb:List Nat):Prop where
 ba:∀x∈la,x<N
 bb:∀x∈lb,x<N
 sa:So r la
 sb:So r lb
 na:0<la.length
 nb:0<lb.length
 h0:r lb[0]<=r la[0]
 hl:∀x∈lb,∀i (hi:i<la.length),i+1=la.length->r x<r la[i]
theorem Tw.done(T:Tw N r la lb){lo:List Nat}{i j:Nat}(m:MI r la lb lo i j)(e:(j==lb.length)=true):Mg f r la lb (fin1 (ar f la) (ar f lb) (ar f lo) i j):=m.done T.sa (by simpa using e)
theorem Tw.last(T:Tw N r la lb){lo:List Nat}{i j:Nat}(m:MI r la lb lo i j)(e:(i+1==la.length)=true):Mg f r la lb (fil1 (ar f la) (ar f lb) (ar f lo) i j):=m.last T.sb (by simpa using e) λx hx=>vcy (T.hl x hx i _ (by simpa using e))
noncomputable def LoI(f:Nat->Keyed)(r:Nat->Int)(la lb:List Nat)(o:Arr)(i j m:Nat):Prop:=∃lo,o=ar f lo/\MI r la lb lo i j/\i+1<la.length/\j<lb.length/\m<=i+j
variable{la lb:List Nat}{p:Array Nat}{pd:Array (Nat×Nat×Nat)}
theorem zuo(c:Cp prog w A s κ f r N)(T:Tw N r la lb){g mg:Nat}{t:LoU}{m:Nat}(I:LoI f r la lb t.2.1 t.2.2.1 t.2.2.2.1 m){Q:ForInStep LoU->SortSt->Prop}
 (h1:∀x u,Mg f r la lb x->Q (.done (some x,u)) (St κ f p pd g)) (h2:∀o i j y z,LoI f r la lb o i j (m+1)->Q (.done (none,o,i,j,y,z)) (St κ f p pd g)/\Q (.yield (none,o,i,j,y,z)) (St κ f p pd g)) :
 wpS (model prog w) A E s (loI (ar f la) (ar f lb) mg t) Q (St κ f p pd g):=by
 obtain⟨t0,o,i,j,ca,cb⟩:=t
 obtain⟨lo,rfl,M,hi,hj,hm⟩:=I
 replace hi:i+1<la.length:=hi
 replace hj:j<lb.length:=hj
 replace hm:m<=i+j:=hm
 replace M:MI r la lb lo i j:=M
 have hi':i<la.length:=vdw hi
 unfold loI
 dsimp only
 refine van (ws_el hj (van (ws_el hi' (van (ws_lt c (T.bb _ (vbd hj)) (T.ba _ (vbd hi')) rfl ?_)))))
 by_cases q:r lb[j]<r la[i]
 .rw[vaz q]
  show wpS _ _ _ _ (if true=true then _ else _) _ _
  rw[if_pos rfl]
  refine van (ws_el hj ?_)
  rw[zd7,zaw]
  have M':=M.pushB T.sa T.sb hi' hj (vcy q)
  by_cases e:(j+1==lb.length)=true
  .rw[if_pos e];exact vao (h1 _ _ (T.done M' e))
  .rw[if_neg e]
   have e':j+1≠lb.length:=by simpa using e
   obtain⟨a,b⟩:=h2 _ i (j+1) 0 (cb+1) ⟨_,rfl,M',hi,by lia,by lia⟩
   split
   .exact vao a
   .exact vao b
 .rw[vav q]
  show wpS _ _ _ _ (if false=true then _ else _) _ _
  rw[if_neg (by simp)]
  refine van (ws_el hi' ?_)
  rw[zd7,zaw]
  have M':=M.pushA T.sa T.sb hi' hj (vdv.mp q)
  by_cases e:(i+1+1==la.length)=true
  .rw[if_pos e];exact vao (h1 _ _ (T.last M' e))
  .rw[if_neg e]
   have e':i+1+1≠la.length:=by simpa using e
   obtain⟨a,b⟩:=h2 _ (i+1) j (ca+1) 0 ⟨_,rfl,M',by lia,hj,by lia⟩
   split
   .exact vao a
   .exact vao b
theorem zo3(T:Tw N r la lb){g cg ca cb i j:Nat}{lo:List Nat}{m:Nat}(M:MI r la lb lo i j)(hi:i+1<la.length)(hj:j<lb.length)(hm:m<=i+j)(e:r la[i]<=r lb[j]){Q:ForInStep LoS->SortSt->Prop}
 (h1:∀x u,Mg f r la lb x->Q (.done (some x,u)) (St κ f p pd g)) (h2:∀o i j g' y z,LoI f r la lb o i j (m+1)->Q (.done (none,o,i,j,g',y,z)) (St κ f p pd g)/\Q (.yield (none,o,i,j,g',y,z)) (St κ f p pd g)) :
 wpS (model prog w) A E s (loC (ar f la) (ar f lb) (ar f lo) i j cg ca cb) Q (St κ f p pd g):=by
 have hi':i<la.length:=vdw hi
 unfold loC
 refine van (ws_el hi' ?_)
 rw[zd7,zaw]
 have M':=M.pushA T.sa T.sb hi' hj e
 by_cases e:(i+1+1==la.length)=true
 .rw[if_pos e];exact vao (h1 _ _ (T.last M' e))
 .rw[if_neg e]
  have e':i+1+1≠la.length:=by simpa using e
  obtain⟨a,b⟩:=h2 _ (i+1) j cg ca cb ⟨_,rfl,M',by lia,hj,by lia⟩
  split
  .exact vao a
  .exact vao b
theorem Bf_f{x:Nat}{l:List Nat}{bs i:Nat}(hi:bs+i<l.length):Bf r false x l bs i=!decide (r x<r l[bs+i]):=by unfold Bf;rw[zbb hi];rfl
theorem Bf_t{x:Nat}{l:List Nat}{bs i:Nat}(hi:bs+i<l.length):Bf r true x l bs i=decide (r l[bs+i]<r x):=by unfold Bf;rw[zbb hi];rfl
theorem zo4(c:Cp prog w A s κ f r N)(T:Tw N r la lb){g cg ca cb i j:Nat}{lo:List Nat}{m:Nat}(M:MI r la lb lo i j)(hi:i+1<la.length)(hj:j<lb.length)(hm:m<=i+j)(e:r lb[j]<=r la[i]){Q:ForInStep LoS->SortSt->Prop}
 (h1:∀x u,Mg f r la lb x->Q (.done (some x,u)) (St κ f p pd g)) (h2:∀o i j g' y z,LoI f r la lb o i j (m+1)->Q (.done (none,o,i,j,g',y,z)) (St κ f p pd g)/\Q (.yield (none,o,i,j,g',y,z)) (St κ f p pd g)) :
 wpS (model prog w) A E s (loB (ar f la) (ar f lb) (ar f lo) i j cg ca cb) Q (St κ f p pd g):=by
 have hi':i<la.length:=vdw hi
 unfold loB
 refine van (ws_el hj ?_)
 rw[zd7,zaw]
 have M':=M.pushB T.sa T.sb hi' hj e
 by_cases x1:(j+1==lb.length)=true
 .rw[if_pos x1];exact vao (h1 _ _ (T.done M' x1))
 rw[if_neg x1]
 have x1':j+1≠lb.length:=by simpa using x1
 refine van (ws_el hi' (van (zib c T.bb T.sb (T.ba _ (vbd hi')) (by lia) (by lia) rfl λk hk k1 k2=>?_)))
 dsimp only
 have M2:=M'.runB (k:=k) T.sb (by lia) λq hq a b y hy=>by
  have:=k1 (q- (j+1)) (by lia)
  rw[Bf_t (by lia)]at this
  simp only[show j+1+ (q- (j+1))=q by lia,vap]at this
  obtain⟨t,ht,h3,rfl⟩:=zb8 hy
  exact vb1 (vcy this) (T.sa.at_ h3 ht)
 have nx:∀(h:j+1+k<lb.length),r la[i]<=r lb[j+1+k]:=λh=>by
  have:=k2 k (vaa _) (by lia)
  rw[Bf_t h]at this
  simpa using this
 by_cases x2:k>0
 .rw[if_pos x2,zcc,zb1,show j+1+k- (j+1)=k by lia]
  by_cases x3:(j+1+k==lb.length)=true
  .rw[if_pos x3];exact vao (h1 _ _ (T.done M2 x3))
  .rw[if_neg x3]
   have x3':j+1+k≠lb.length:=by simpa using x3
   exact zo3 T M2 hi (by lia) (by lia) (nx (by lia)) h1 h2
 .rw[if_neg x2]
  obtain rfl:k=0:=by lia
  exact zo3 T M' hi (by lia) (by lia) (nx (by lia)) h1 h2
theorem zup(c:Cp prog w A s κ f r N)(T:Tw N r la lb){g cg ca cb i j:Nat}{lo:List Nat}{m:Nat}(M:MI r la lb lo i j)(hi:i+1<la.length)(hj:j<lb.length)(hm:m<=i+j){Q:ForInStep LoS->SortSt->Prop}
 (h1:∀x u g,Mg f r la lb x->Q (.done (some x,u)) (St κ f p pd g)) (h2:∀o i j g' y z g,LoI f r la lb o i j (m+1)->Q (.done (none,o,i,j,g',y,z)) (St κ f p pd g)/\Q (.yield (none,o,i,j,g',y,z)) (St κ f p pd g)) :
 wpS (model prog w) A E s (loA (ar f la) (ar f lb) (ar f lo) i j cg ca cb) Q (St κ f p pd g):=by
 have hi':i<la.length:=vdw hi
 unfold loA
 refine van (zfe (g':=cg) ?_)
 rw[zaw]
 refine van (ws_el hj (van (zib c T.ba T.sa (T.bb _ (vbd hj)) (by lia) (by lia) rfl λk hk k1 k2=>?_)))
 dsimp only
 have hlast:=T.hl _ (vbd hj) (la.length-1) (by lia) (by lia)
 have hk':i+k+1<=la.length:=by
  by_cases z:i+k+1<=la.length
  .exact z
  .have:=k1 (la.length-1-i) (by lia)
   rw[Bf_f (by lia)]at this
   simp only[show i+ (la.length-1-i)=la.length-1 by lia,vb3,vb4]at this
   exact absurd hlast this
 have M2:=M.runA (k:=k) T.sa (by lia) λq hq a b y hy=>by
  have:=k1 (q-i) (by lia)
  rw[Bf_f (by lia)]at this
  simp only[show i+ (q-i)=q by lia,vb3,vb4]at this
  obtain⟨t,ht,h3,rfl⟩:=zb8 hy
  exact vb1 (vdv.mp this) (T.sb.at_ h3 ht)
 have nx:r lb[j]<=r (la[i+k]'(by lia)):=by
  have:=k2 k (vaa _) (by lia)
  rw[Bf_f (by lia)]at this
  simp only[Bool.not_eq_false',vap]at this
  exact vcy this
 by_cases x2:k>0
 .rw[if_pos x2,zcc,zb1,show i+k-i=k by lia]
  by_cases x3:(i+k+1==la.length)=true
  .rw[if_pos x3];exact vao (h1 _ _ _ (T.last M2 x3))
  .rw[if_neg x3]
   have x3':i+k+1≠la.length:=by simpa using x3
   rw[if_neg (by simp;lia)]
   exact zo4 c T M2 (by lia) hj (by lia) nx (λx u=>h1 x u _) λo i j g' y z=>h2 o i j g' y z _
 .rw[if_neg x2]
  obtain rfl:k=0:=by lia
  exact zo4 c T M hi hj hm nx (λx u=>h1 x u _) λo i j g' y z=>h2 o i j g' y z _
theorem ws_lo(c:Cp prog w A s κ f r N)(T:Tw N r la lb){g:Nat}{Q:Arr->SortSt->Prop}(h:∀x g',Mg f r la lb x->Q x (St κ f p pd g')):wpS (model prog w) A E s (mgLo (ar f la) (ar f lb)) Q (St κ f p pd g):=by
 have na:=T.na
 have nb:=T.nb
 unfold mgLo
 refine van (ve3 (vdl ⟨rfl,?_⟩))
 refine van (ws_el nb ?_)
 have m0:MI r la lb [] 0 0:=⟨vcz _,List.Pairwise.nil,(λx hx=>nomatch hx),rfl⟩
 have m1:=m0.pushB T.sa T.sb na nb T.h0
 rw[veb]at m1
 have e1:#[f lb[0]]=ar f [lb[0]]:=rfl
 rw[e1,zaw,zaw]
 by_cases x1:(1==lb.length)=true
 .rw[if_pos x1];exact vao (h _ _ (T.done m1 x1))
 rw[if_neg x1]
 by_cases x2:(0+1==la.length)=true
 .rw[if_pos x2];exact vao (h _ _ (T.last m1 x2))
 rw[if_neg x2]
 have x1':1≠lb.length:=by simpa using x1
 have x2':1≠la.length:=by simpa using x2
 refine van (vet ?_)
 generalize gallopOf (St κ f p pd g)=mg
 refine van (vdb (vbw (I:=λx d st'=>∃o i j mg g',d=(none,o,i,j,mg)/\st'=St κ f p pd g'/\LoI f r la lb o i j (1+x))
  (Q:=λd st'=>∃x u g',d=(some x,u)/\st'=St κ f p pd g'/\Mg f r la lb x) ?step ?fin ⟨_,0,1,mg,g,rfl,rfl,_,rfl,m1,by lia,by lia,by lia⟩) ?post)
 case fin=>
  rintro d st' ⟨o,i,j,mg,g',rfl,rfl,lo,rfl,m,a,b,e⟩
  lia
 case post=>
  rintro d st' ⟨x,u,g',rfl,rfl,m⟩
  exact vao (h _ _ m)
 case step=>
  rintro x d st' _ hx ⟨o,i,j,mg,g',rfl,rfl,I0⟩
  unfold loO
  refine van (vdb (vbw (I:=λy d st'=>st'=St κ f p pd g'/\∃o i j ca cb,d=(none,o,i,j,ca,cb)/\LoI f r la lb o i j (1+x+y))
   (Q:=λd st'=>st'=St κ f p pd g'/\((∃x u,d=(some x,u)/\Mg f r la lb x)\/∃o i j ca cb,d=(none,o,i,j,ca,cb)/\LoI f r la lb o i j (1+x+1))) ?istep ?ifin ⟨rfl,o,i,j,0,0,rfl,I0⟩) ?ipost)
  case ifin=>
   rintro d st' ⟨rfl,o,i,j,ca,cb,rfl,lo,rfl,m,a,b,e⟩
   rw[zaw,zaw]at e
   exact⟨rfl,.inr ⟨_,i,j,ca,cb,rfl,lo,rfl,m,a,b,by lia⟩⟩
  case istep=>
   rintro y d st' _ hy ⟨rfl,o,i,j,ca,cb,rfl,I⟩
   refine zuo c T I (λx u m=>⟨rfl,.inl ⟨x,u,rfl,m⟩⟩) λo i j y' z I'=>⟨⟨rfl,.inr ⟨o,i,j,y',z,rfl,?_⟩⟩,rfl,o,i,j,y',z,rfl,I'⟩
   obtain⟨lo,e,m,a,b,e'⟩:=I'
   replace e':1+x+y+1<=i+j:=e'
   exact⟨lo,e,m,a,b,by lia⟩
  case ipost=>
   rintro d st' ⟨rfl,⟨z,u,rfl,m⟩|⟨o,i,j,ca,cb,rfl,I⟩⟩
   .exact vao ⟨z,_,g',rfl,rfl,m⟩
   .refine van (ve3 (vdl ⟨rfl,?_⟩))
    refine van (vdb (vbw (I:=λy d st'=>∃o i j mg ca cb g',st'=St κ f p pd g'/\d=(none,o,i,j,mg,ca,cb)/\LoI f r la lb o i j (1+x+1))
     (Q:=λd st'=>∃g',st'=St κ f p pd g'/\((∃x u,d=(some x,u)/\Mg f r la lb x)\/∃o i j mg ca cb,d=(none,o,i,j,mg,ca,cb)/\LoI f r la lb o i j (1+x+1))) ?gstep ?gfin ⟨o,i,j,mg+1,ca,cb,g',rfl,rfl,I⟩) ?gpost)
    case gfin=>
     rintro d st' ⟨o,i,j,mg,ca,cb,g',rfl,rfl,I⟩
     exact⟨g',rfl,.inr ⟨o,i,j,mg,ca,cb,rfl,I⟩⟩
    case gstep=>
     rintro y d st' _ hy ⟨o,i,j,mg,ca,cb,g',rfl,rfl,lo,rfl,M,a,b,e⟩
     unfold loG
     dsimp only
     split<;>exact zup c T (g:=g') M a b e (λx u g m=>⟨g,rfl,.inl ⟨x,u,rfl,m⟩⟩) λo i j g' y z g I=>by
      obtain⟨lo,e1,m,a,b,e'⟩:=I
      have I':LoI f r la lb o i j (1+x+1):=⟨lo,e1,m,a,b,by lia⟩
      exact⟨⟨g,rfl,.inr ⟨o,i,j,g',y,z,rfl,I'⟩⟩,o,i,j,g',y,z,g,rfl,rfl,I'⟩
    case gpost=>
     rintro d st' ⟨g',rfl,⟨z,u,rfl,m⟩|⟨o,i,j,mg,ca,cb,rfl,I⟩⟩
     .exact vao ⟨z,_,g',rfl,rfl,m⟩
     .dsimp only
      refine van (zfe (vao ⟨o,i,j,mg+1,_,rfl,rfl,?_⟩))
      rw[show 1+ (x+1)=1+x+1 by lia]
      exact I
end
end TS
namespace TS
open PySem PySem.W PyProof.Rows KO
noncomputable abbrev HiS:=Option Arr×Nat×Nat×Arr×Nat×Nat×Nat
noncomputable abbrev HiU:=Option Arr×Nat×Nat×Arr×Nat×Nat
noncomputable abbrev HiV:=Option Arr×Nat×Nat×Arr×Nat
noncomputable def fin2(a b o:Arr)(i j:Nat):Arr:=a.extract 0 i++b.extract 0 j++o.reverse
noncomputable def fil2(a b o:Arr)(i j:Nat):Arr:=b.extract 0 j++a.extract 0 i++o.reverse
noncomputable def hiC(a b o:Arr)(i j g ca cb:Nat):SS (ForInStep HiS):=do
 let x <-elem' a (i-1)
 if(i-1==0)=true then pure (.done (some (fin2 a b (o.push x) (i-1) j),i-1,j,o.push x,g,ca,cb))
 else if(decide (ca<7)&&decide (cb<7))=true then pure (.done (none,i-1,j,o.push x,g,ca,cb))else pure (.yield (none,i-1,j,o.push x,g,ca,cb))
noncomputable def hiB(a b o:Arr)(i j g ca cb:Nat):SS (ForInStep HiS):=do
 let x <-elem' b (j-1)
 if(j-1==1)=true then pure (.done (some (fil2 a b (o.push x) i (j-1)),i,j-1,o.push x,g,ca,cb))
 else do
  let y <-elem' a (i-1)
  let z <-gal' true y b 0 (j-1) (j-1-1)
  match z with
  |some k=>
   if j-1-k>0 then
    if(k==1)=true then pure (.done (some (fil2 a b (o.push x++(b.extract k (j-1)).reverse) i k),i,k,o.push x++(b.extract k (j-1)).reverse,g,ca,j-1-k))
    else if(k==0)=true then pure (.done (some (fin2 a b (o.push x++(b.extract k (j-1)).reverse) i k),i,k,o.push x++(b.extract k (j-1)).reverse,g,ca,j-1-k))
    else hiC a b (o.push x++(b.extract k (j-1)).reverse) i k g ca (j-1-k)
   else hiC a b (o.push x) i (j-1) g ca (j-1-k)
  |_=>pure (.done (some (fin2 a b (o.push x) i (j-1)),i,j-1,o.push x,g,ca,cb))
noncomputable def hiA(a b o:Arr)(i j g ca cb:Nat):SS (ForInStep HiS):=do
 setG g
 let y <-elem' b (j-1)
 let z <-gal' false y a 0 i (i-1)
 match z with
 |some k=>
  if i-k>0 then
   if(k==0)=true then pure (.done (some (fin2 a b (o++(a.extract k i).reverse) k j),k,j,o++(a.extract k i).reverse,g,i-k,cb))
   else hiB a b (o++(a.extract k i).reverse) k j g (i-k) cb
  else hiB a b o i j g (i-k) cb
 |_=>pure (.done (some (fin2 a b o i j),i,j,o,g,ca,cb))
noncomputable def hiG(a b:Arr)(t:HiS):SS (ForInStep HiS):=if t.2.2.2.2.1>1 then hiA a b t.2.2.2.1 t.2.1 t.2.2.1 (t.2.2.2.2.1-1) t.2.2.2.2.2.1 t.2.2.2.2.2.2 else hiA a b t.2.2.2.1 t.2.1 t.2.2.1 t.2.2.2.2.1 t.2.2.2.2.2.1 t.2.2.2.2.2.2
noncomputable def hiI(a b:Arr)(g:Nat)(t:HiU):SS (ForInStep HiU):=do
 let x <-elem' b (t.2.2.1-1)
 let y <-elem' a (t.2.1-1)
 let z <-lt' x y
 match z with
 |some q=>
  if q=true then do
   let x <-elem' a (t.2.1-1)
   if(t.2.1-1==0)=true then pure (.done (some (fin2 a b (t.2.2.2.1.push x) (t.2.1-1) t.2.2.1),t.2.1-1,t.2.2.1,t.2.2.2.1.push x,t.2.2.2.2.1+1,0))
   else if t.2.2.2.2.1+1>=g then pure (.done (none,t.2.1-1,t.2.2.1,t.2.2.2.1.push x,t.2.2.2.2.1+1,0))else pure (.yield (none,t.2.1-1,t.2.2.1,t.2.2.2.1.push x,t.2.2.2.2.1+1,0))
  else do
   let x <-elem' b (t.2.2.1-1)
   if(t.2.2.1-1==1)=true then pure (.done (some (fil2 a b (t.2.2.2.1.push x) t.2.1 (t.2.2.1-1)),t.2.1,t.2.2.1-1,t.2.2.2.1.push x,0,t.2.2.2.2.2+1))
   else if t.2.2.2.2.2+1>=g then pure (.done (none,t.2.1,t.2.2.1-1,t.2.2.2.1.push x,0,t.2.2.2.2.2+1))else pure (.yield (none,t.2.1,t.2.2.1-1,t.2.2.2.1.push x,0,t.2.2.2.2.2+1))
 |_=>pure (.done (some (fin2 a b t.2.2.2.1 t.2.1 t.2.2.1),t.2.1,t.2.2.1,t.2.2.2.1,t.2.2.2.2.1,t.2.2.2.2.2))
noncomputable def hiO(a b:Arr)(t:HiV):SS (ForInStep HiV):=do
 let u <-forIn [0:a.size+b.size] ((none,t.2.1,t.2.2.1,t.2.2.2.1,0,0):HiU) λ_ u=>hiI a b t.2.2.2.2 u
 match u.1 with
 |some x=>pure (.done (some x,u.2.1,u.2.2.1,u.2.2.2.1,t.2.2.2.2))
 |none=>do
  rule "list.sort.gallop"
  let v <-forIn [0:a.size+b.size] ((none,u.2.1,u.2.2.1,u.2.2.2.1,t.2.2.2.2+1,u.2.2.2.2.1,u.2.2.2.2.2):HiS) λ_ v=>hiG a b v
  match v.1 with
  |some x=>pure (.done (some x,v.2.1,v.2.2.1,v.2.2.2.1,v.2.2.2.2.1))
  |none=>do
   setG (v.2.2.2.2.1+1)
   pure (.yield (none,v.2.1,v.2.2.1,v.2.2.2.1,v.2.2.2.2.1+1))
noncomputable def mgHi(a b:Arr):SS Arr:=do
 rule "list.sort.merge-hi"
 let x <-elem' a (a.size-1)
 if(a.size-1==0)=true then pure (fin2 a b #[x] (a.size-1) b.size)
 else if(b.size==1)=true then pure (fil2 a b #[x] (a.size-1) b.size)
 else do
  let z <-get
  let t <-forIn [0:a.size+b.size] ((none,a.size-1,b.size,#[x],gallopOf z):HiV) λ_ t=>hiO a b t
  match t.1 with
  |some x=>pure x
  |none=>unsupported "internal:list.sort.merge-bound"
section
variable{f:Nat->Keyed}{r:Nat->Int}
structure MH(r:Nat->Int)(la lb lo:List Nat)(i j:Nat):Prop where
 pm:(la.take i++(lb.take j++lo)).Perm (la++lb)
 so:So r lo
 ge:∀x∈lo,(∀y∈la.take i,r y<=r x)/\∀y∈lb.take j,r y<=r x
 ln:i+j+lo.length=la.length+lb.length
theorem za9{l:List Nat}{k i:Nat}(h:k<=i):l.take i=l.take k++(l.drop k).take (i-k):=by
 rw[<-List.take_add,show k+ (i-k)=i by lia]
theorem zbe{l:List Nat}{k x:Nat}(h:x∈l.take k):∃j,∃hj:j<l.length,j<k/\l[j]=x:=by
 obtain⟨i,hi,e⟩:=vd5 h
 rw[List.getElem_take]at e
 rw[vbj]at hi
 exact⟨i,by lia,by lia,e⟩
variable{la lb lo:List Nat}{i j k:Nat}
theorem MH.runA(h:MH r la lb lo i j)(sa:So r la)(hk:k<=i)(hi:i<=la.length)(hl:∀q (hq:q<la.length),k<=q->q<i->∀y∈lb.take j,r y<=r la[q]):MH r la lb ((la.drop k).take (i-k)++lo) k j:=by
 refine⟨?_,?_,?_,?_⟩
 .refine List.Perm.trans ?_ h.pm
  rw[za9 hk,va1]
  refine vcq _ ?_
  rw[<-va1,<-va1]
  exact vej vdt (vcz _)
 .refine vbh.mpr ⟨(sa.drop k).take _,h.so,λx hx y hy=>(h.ge y hy).1 x (by rw[za9 hk];exact vat _ hx)⟩
 .intro x hx
  rcases vb8.mp hx with hx|hx
  .obtain⟨q,hq,h1,h2,rfl⟩:=zia hx
   refine⟨λy hy=>?_,hl q hq h1 (by lia)⟩
   obtain⟨t,ht,h3,rfl⟩:=zbe hy
   exact sa.at_ (by lia) hq
  .exact⟨λy hy=>(h.ge x hx).1 y (by rw[za9 hk];exact vci _ hy),(h.ge x hx).2⟩
 .have:=h.ln
  rw[vaj,vbj,vbk];lia
theorem MH.runB(h:MH r la lb lo i j)(sb:So r lb)(hk:k<=j)(hj:j<=lb.length)(hl:∀q (hq:q<lb.length),k<=q->q<j->∀y∈la.take i,r y<=r lb[q]):MH r la lb ((lb.drop k).take (j-k)++lo) i k:=by
 refine⟨?_,?_,?_,?_⟩
 .refine List.Perm.trans ?_ h.pm
  refine vcq _ ?_
  rw[za9 hk,va1]
 .refine vbh.mpr ⟨(sb.drop k).take _,h.so,λx hx y hy=>(h.ge y hy).2 x (by rw[za9 hk];exact vat _ hx)⟩
 .intro x hx
  rcases vb8.mp hx with hx|hx
  .obtain⟨q,hq,h1,h2,rfl⟩:=zia hx
   refine⟨hl q hq h1 (by lia),λy hy=>?_⟩
   obtain⟨t,ht,h3,rfl⟩:=zbe hy
   exact sb.at_ (by lia) hq
  .exact⟨(h.ge x hx).1,λy hy=>(h.ge x hx).2 y (by rw[za9 hk];exact vci _ hy)⟩
 .have:=h.ln
  rw[vaj,vbj,vbk];lia
theorem zk5{l:List Nat}{i:Nat}(hi:i<l.length):(l.drop i).take (i+1-i)=[l[i]]:=by rw[show i+1-i=1 by lia];exact zk3 hi
theorem zo5(hh:MH r la lb lo (i+1) (j+1))(sa:So r la)(sb:So r lb)(hi:i<la.length)(hj:j<lb.length)(e:r lb[j]<=r la[i]):MH r la lb (la[i]::lo) i (j+1):=by
 have:=hh.runA (k:=i) sa (by lia) (by lia) λq hq h1 h2 y hy=>by
  obtain rfl:q=i:=by lia
  obtain⟨t,ht,h3,rfl⟩:=zbe hy
  exact vb1 (sb.at_ (by lia) hj) e
 rw[zk5 hi]at this
 exact this
theorem zo6(hh:MH r la lb lo (i+1) (j+1))(sa:So r la)(sb:So r lb)(hi:i<la.length)(hj:j<lb.length)(e:r la[i]<=r lb[j]):MH r la lb (lb[j]::lo) (i+1) j:=by
 have:=hh.runB (k:=j) sb (by lia) (by lia) λq hq h1 h2 y hy=>by
  obtain rfl:q=j:=by lia
  obtain⟨t,ht,h3,rfl⟩:=zbe hy
  exact vb1 (sa.at_ (by lia) hi) e
 rw[zk5 hj]at this
 exact this
theorem zff{l:List Nat}{i:Nat}:(ar f l).extract 0 i=ar f (l.take i):=by rw[zcc];rfl
theorem MH.done(h:MH r la lb lo i j)(sa:So r la)(sb:So r lb)(e:i=0\/j=0):Mg f r la lb (fin2 (ar f la) (ar f lb) (ar f lo.reverse) i j):=by
 refine⟨la.take i++lb.take j++lo,?_,by rw[va1];exact h.pm,vbh.mpr ⟨?_,h.so,λx hx y hy=>?_⟩⟩
 .unfold fin2
  rw[zff,zff,zk2,zb1,zb1,List.reverse_reverse]
 .refine vbh.mpr ⟨sa.take i,sb.take j,λx hx y hy=>?_⟩
  rcases e with rfl|rfl
  .cases hx
  .cases hy
 .rcases vb8.mp hx with hx|hx
  .exact(h.ge y hy).1 x hx
  .exact(h.ge y hy).2 x hx
theorem MH.last(h:MH r la lb lo i 1)(sa:So r la)(sb:So r lb)(na:0<la.length)(nb:0<lb.length)(e:r lb[0]<=r la[0]):Mg f r la lb (fil2 (ar f la) (ar f lb) (ar f lo.reverse) i 1):=by
 refine⟨lb.take 1++la.take i++lo,?_,?_,vbh.mpr ⟨?_,h.so,λx hx y hy=>?_⟩⟩
 .unfold fil2
  rw[zff,zff,zk2,zb1,zb1,List.reverse_reverse]
 .refine List.Perm.trans ?_ h.pm
  rw[<-va1]
  exact vej vdt (vcz _)
 .refine vbh.mpr ⟨sb.take 1,sa.take i,λx hx y hy=>?_⟩
  obtain⟨q,hq,h1,rfl⟩:=zbe hx
  obtain⟨t,ht,h3,rfl⟩:=zbe hy
  obtain rfl:q=0:=by lia
  exact vb1 e (sa.at_ (vbg _) ht)
 .rcases vb8.mp hx with hx|hx
  .exact(h.ge y hy).2 x hx
  .exact(h.ge y hy).1 x hx
theorem zds{l:List Nat}{x:Nat}:(ar f l.reverse).push (f x)=ar f (x::l).reverse:=by rw[zd7,List.reverse_cons]
theorem zk6{l m:List Nat}{i j:Nat}:ar f l.reverse++((ar f m).extract i j).reverse=ar f ((m.drop i).take (j-i)++l).reverse:=by rw[zcc,zk2,zb1,List.reverse_append]
noncomputable def HiI(f:Nat->Keyed)(r:Nat->Int)(la lb:List Nat)(o:Arr)(i j m:Nat):Prop:=∃lo,o=ar f lo.reverse/\MH r la lb lo i j/\0<i/\1<j/\i<=la.length/\j<=lb.length/\m+i+j<=la.length+lb.length
end
section
variable{prog:Program}{w:World}{A:Around}{E:Value->Shared->Prop}{s:Shared}{κ:SortKind}{f:Nat->Keyed}{r:Nat->Int}{N:Nat}{la lb:List Nat}{p:Array Nat}{pd:Array (Nat×Nat×Nat)}
theorem Tw.last2(T:Tw N r la lb){lo:List Nat}{i j:Nat}(m:MH r la lb lo i j)(e:(j==1)=true):Mg f r la lb (fil2 (ar f la) (ar f lb) (ar f lo.reverse) i j):=by
 obtain rfl:j=1:=by simpa using e
 exact m.last T.sa T.sb T.na T.nb T.h0
theorem Tw.done2(T:Tw N r la lb){lo:List Nat}{i j:Nat}(m:MH r la lb lo i j)(e:(i==0)=true):Mg f r la lb (fin2 (ar f la) (ar f lb) (ar f lo.reverse) i j):=m.done T.sa T.sb (.inl (by simpa using e))
theorem zuq(c:Cp prog w A s κ f r N)(T:Tw N r la lb){g mg:Nat}{t:HiU}{m:Nat}(I:HiI f r la lb t.2.2.2.1 t.2.1 t.2.2.1 m){Q:ForInStep HiU->SortSt->Prop}
 (h1:∀x u,Mg f r la lb x->Q (.done (some x,u)) (St κ f p pd g)) (h2:∀o i j y z,HiI f r la lb o i j (m+1)->Q (.done (none,i,j,o,y,z)) (St κ f p pd g)/\Q (.yield (none,i,j,o,y,z)) (St κ f p pd g)) :
 wpS (model prog w) A E s (hiI (ar f la) (ar f lb) mg t) Q (St κ f p pd g):=by
 obtain⟨t0,i,j,o,ca,cb⟩:=t
 obtain⟨lo,rfl,M,hi,hj,ha,hb,hm⟩:=I
 replace hi:0<i:=hi
 replace hj:1<j:=hj
 replace ha:i<=la.length:=ha
 replace hb:j<=lb.length:=hb
 replace hm:m+i+j<=la.length+lb.length:=hm
 replace M:MH r la lb lo i j:=M
 obtain⟨i,rfl⟩:∃z,i=z+1:=⟨i-1,by lia⟩
 obtain⟨j,rfl⟩:∃z,j=z+1:=⟨j-1,by lia⟩
 have hi':i<la.length:=by lia
 have hj':j<lb.length:=by lia
 unfold hiI
 dsimp only
 rw[vec,vec]
 refine van (ws_el hj' (van (ws_el hi' (van (ws_lt c (T.bb _ (vbd hj')) (T.ba _ (vbd hi')) rfl ?_)))))
 by_cases q:r lb[j]<r la[i]
 .rw[vaz q]
  show wpS _ _ _ _ (if true=true then _ else _) _ _
  rw[if_pos rfl]
  refine van (ws_el hi' ?_)
  rw[zds]
  have M':=zo5 M T.sa T.sb hi' hj' (vcy q)
  by_cases e:(i==0)=true
  .rw[if_pos e];exact vao (h1 _ _ (T.done2 M' e))
  .rw[if_neg e]
   have e':i≠0:=by simpa using e
   obtain⟨a,b⟩:=h2 _ i (j+1) (ca+1) 0 ⟨_,rfl,M',by lia,hj,by lia,hb,by lia⟩
   split
   .exact vao a
   .exact vao b
 .rw[vav q]
  show wpS _ _ _ _ (if false=true then _ else _) _ _
  rw[if_neg (by simp)]
  refine van (ws_el hj' ?_)
  rw[zds]
  have M':=zo6 M T.sa T.sb hi' hj' (vdv.mp q)
  by_cases e:(j==1)=true
  .rw[if_pos e];exact vao (h1 _ _ (T.last2 M' e))
  .rw[if_neg e]
   have e':j≠1:=by simpa using e
   obtain⟨a,b⟩:=h2 _ (i+1) j 0 (cb+1) ⟨_,rfl,M',hi,by lia,ha,by lia,by lia⟩
   split
   .exact vao a
   .exact vao b
theorem zo7(T:Tw N r la lb){g cg ca cb i j:Nat}{lo:List Nat}{m:Nat}(M:MH r la lb lo i j)(hi:0<i)(hj:1<j)(ha:i<=la.length)(hb:j<=lb.length)(hm:m+i+j<=la.length+lb.length)(e:r (lb[j-1]'(by lia))<=r (la[i-1]'(by lia))){Q:ForInStep HiS->SortSt->Prop}
 (h1:∀x u,Mg f r la lb x->Q (.done (some x,u)) (St κ f p pd g)) (h2:∀o i j g' y z,HiI f r la lb o i j (m+1)->Q (.done (none,i,j,o,g',y,z)) (St κ f p pd g)/\Q (.yield (none,i,j,o,g',y,z)) (St κ f p pd g)) :
 wpS (model prog w) A E s (hiC (ar f la) (ar f lb) (ar f lo.reverse) i j cg ca cb) Q (St κ f p pd g):=by
 obtain⟨i,rfl⟩:∃z,i=z+1:=⟨i-1,by lia⟩
 obtain⟨j,rfl⟩:∃z,j=z+1:=⟨j-1,by lia⟩
 have hi':i<la.length:=by lia
 unfold hiC
 rw[vec]
 refine van (ws_el hi' ?_)
 rw[zds]
 have M':=zo5 M T.sa T.sb hi' (by lia) e
 by_cases e:(i==0)=true
 .rw[if_pos e];exact vao (h1 _ _ (T.done2 M' e))
 .rw[if_neg e]
  have e':i≠0:=by simpa using e
  obtain⟨a,b⟩:=h2 _ i (j+1) cg ca cb ⟨_,rfl,M',by lia,hj,by lia,hb,by lia⟩
  split
  .exact vao a
  .exact vao b
theorem zo8(c:Cp prog w A s κ f r N)(T:Tw N r la lb){g cg ca cb i j:Nat}{lo:List Nat}{m:Nat}(M:MH r la lb lo i j)(hi:0<i)(hj:1<j)(ha:i<=la.length)(hb:j<=lb.length)(hm:m+i+j<=la.length+lb.length)(e:r (la[i-1]'(by lia))<=r (lb[j-1]'(by lia))){Q:ForInStep HiS->SortSt->Prop}
 (h1:∀x u,Mg f r la lb x->Q (.done (some x,u)) (St κ f p pd g)) (h2:∀o i j g' y z,HiI f r la lb o i j (m+1)->Q (.done (none,i,j,o,g',y,z)) (St κ f p pd g)/\Q (.yield (none,i,j,o,g',y,z)) (St κ f p pd g)) :
 wpS (model prog w) A E s (hiB (ar f la) (ar f lb) (ar f lo.reverse) i j cg ca cb) Q (St κ f p pd g):=by
 obtain⟨i,rfl⟩:∃z,i=z+1:=⟨i-1,by lia⟩
 obtain⟨j,rfl⟩:∃z,j=z+1:=⟨j-1,by lia⟩
 have hi':i<la.length:=by lia
 have hj':j<lb.length:=by lia
 unfold hiB
 simp only[vec]at e ⊢
 refine van (ws_el hj' ?_)
 rw[zds]
 have M':=zo6 M T.sa T.sb hi' hj' e
 by_cases x1:(j==1)=true
 .rw[if_pos x1];exact vao (h1 _ _ (T.last2 M' x1))
 rw[if_neg x1]
 have x1':j≠1:=by simpa using x1
 refine van (ws_el hi' (van (zib c T.bb T.sb (T.ba _ (vbd hi')) (by lia) (by lia) rfl λk hk k1 k2=>?_)))
 dsimp only
 have M2:=M'.runB (k:=k) T.sb hk (by lia) λq hq a b y hy=>by
  have:=k2 q a b
  rw[Bf_t (by lia)]at this
  simp only[vce,vb4]at this
  obtain⟨t,ht,h3,rfl⟩:=zbe hy
  exact vb1 (T.sa.at_ (by lia) hi') (vdv.mp this)
 have nx:∀(h:0<k),r (lb[k-1]'(by lia))<=r la[i]:=λh=>by
  have:=k1 (k-1) (by lia)
  rw[Bf_t (by lia)]at this
  simp only[vce,vap]at this
  exact vcy this
 by_cases x2:j-k>0
 .rw[if_pos x2,zk6]
  by_cases x3:(k==1)=true
  .rw[if_pos x3];exact vao (h1 _ _ (T.last2 M2 x3))
  rw[if_neg x3]
  have x3':k≠1:=by simpa using x3
  by_cases x4:(k==0)=true
  .rw[if_pos x4];exact vao (h1 _ _ (M2.done T.sa T.sb (.inr (by simpa using x4))))
  rw[if_neg x4]
  have x4':k≠0:=by simpa using x4
  exact zo7 T M2 hi (by lia) ha (by lia) (by lia) (nx (by lia)) h1 h2
 .rw[if_neg x2]
  obtain rfl:k=j:=by lia
  exact zo7 T M' hi (by lia) ha (by lia) (by lia) (nx (by lia)) h1 h2
theorem zur(c:Cp prog w A s κ f r N)(T:Tw N r la lb){g cg ca cb i j:Nat}{lo:List Nat}{m:Nat}(M:MH r la lb lo i j)(hi:0<i)(hj:1<j)(ha:i<=la.length)(hb:j<=lb.length)(hm:m+i+j<=la.length+lb.length){Q:ForInStep HiS->SortSt->Prop}
 (h1:∀x u g,Mg f r la lb x->Q (.done (some x,u)) (St κ f p pd g)) (h2:∀o i j g' y z g,HiI f r la lb o i j (m+1)->Q (.done (none,i,j,o,g',y,z)) (St κ f p pd g)/\Q (.yield (none,i,j,o,g',y,z)) (St κ f p pd g)) :
 wpS (model prog w) A E s (hiA (ar f la) (ar f lb) (ar f lo.reverse) i j cg ca cb) Q (St κ f p pd g):=by
 have hj':j-1<lb.length:=by lia
 unfold hiA
 refine van (zfe (g':=cg) ?_)
 refine van (ws_el hj' (van (zib c T.ba T.sa (T.bb _ (vbd hj')) (by lia) (by lia) rfl λk hk k1 k2=>?_)))
 dsimp only
 have M2:=M.runA (k:=k) T.sa hk ha λq hq a b y hy=>by
  have:=k2 q a b
  rw[Bf_f (by lia)]at this
  simp only[vce,Bool.not_eq_false',vap]at this
  obtain⟨t,ht,h3,rfl⟩:=zbe hy
  exact vb1 (T.sb.at_ (by lia) hj') (vcy this)
 have nx:∀(h:0<k),r (la[k-1]'(by lia))<=r lb[j-1]:=λh=>by
  have:=k1 (k-1) (by lia)
  rw[Bf_f (by lia)]at this
  simp only[vce,vb3,vb4]at this
  exact vdv.mp this
 by_cases x2:i-k>0
 .rw[if_pos x2,zk6]
  by_cases x4:(k==0)=true
  .rw[if_pos x4];exact vao (h1 _ _ _ (T.done2 M2 x4))
  rw[if_neg x4]
  have x4':k≠0:=by simpa using x4
  exact zo8 c T M2 (by lia) hj (by lia) hb (by lia) (nx (by lia)) (λx u=>h1 x u _) λo i j g' y z=>h2 o i j g' y z _
 .rw[if_neg x2]
  obtain rfl:k=i:=by lia
  exact zo8 c T M hi hj ha hb hm (nx hi) (λx u=>h1 x u _) λo i j g' y z=>h2 o i j g' y z _
theorem ws_hi(c:Cp prog w A s κ f r N)(T:Tw N r la lb){g:Nat}{Q:Arr->SortSt->Prop}(h:∀x g',Mg f r la lb x->Q x (St κ f p pd g')):wpS (model prog w) A E s (mgHi (ar f la) (ar f lb)) Q (St κ f p pd g):=by
 have na:=T.na
 have nb:=T.nb
 have hn:la.length-1<la.length:=by lia
 unfold mgHi
 refine van (ve3 (vdl ⟨rfl,?_⟩))
 rw[zaw,zaw]
 refine van (ws_el hn ?_)
 have m0:MH r la lb [] (la.length-1+1) lb.length:=⟨by rw[show la.length-1+1=la.length by lia,vel,vel,vbp],List.Pairwise.nil,(λx hx=>nomatch hx),by rw[vdr];lia⟩
 have m1:=m0.runA (k:=la.length-1) T.sa (by lia) (by lia) λq hq a b y hy=>vcy (T.hl y (vd0 hy) q hq (by lia))
 rw[zk5 hn]at m1
 have e1:#[f la[la.length-1]]=ar f ([la[la.length-1]]:List Nat).reverse:=rfl
 rw[e1]
 by_cases x1:(la.length-1==0)=true
 .rw[if_pos x1];exact vao (h _ _ (T.done2 m1 x1))
 rw[if_neg x1]
 by_cases x2:(lb.length==1)=true
 .rw[if_pos x2];exact vao (h _ _ (T.last2 m1 x2))
 rw[if_neg x2]
 have x1':la.length-1≠0:=by simpa using x1
 have x2':lb.length≠1:=by simpa using x2
 refine van (vet ?_)
 generalize gallopOf (St κ f p pd g)=mg
 refine van (vdb (vbw (I:=λx d st'=>∃o i j mg g',d=(none,i,j,o,mg)/\st'=St κ f p pd g'/\HiI f r la lb o i j (1+x))
  (Q:=λd st'=>∃x u g',d=(some x,u)/\st'=St κ f p pd g'/\Mg f r la lb x) ?step ?fin ⟨_,la.length-1,lb.length,mg,g,rfl,rfl,_,rfl,m1,by lia,by lia,by lia,by lia,by lia⟩) ?post)
 case fin=>
  rintro d st' ⟨o,i,j,mg,g',rfl,rfl,lo,rfl,m,a,b,_,_,e⟩
  lia
 case post=>
  rintro d st' ⟨x,u,g',rfl,rfl,m⟩
  exact vao (h _ _ m)
 case step=>
  rintro x d st' _ hx ⟨o,i,j,mg,g',rfl,rfl,I0⟩
  unfold hiO
  refine van (vdb (vbw (I:=λy d st'=>st'=St κ f p pd g'/\∃o i j ca cb,d=(none,i,j,o,ca,cb)/\HiI f r la lb o i j (1+x+y))
   (Q:=λd st'=>st'=St κ f p pd g'/\((∃x u,d=(some x,u)/\Mg f r la lb x)\/∃o i j ca cb,d=(none,i,j,o,ca,cb)/\HiI f r la lb o i j (1+x+1))) ?istep ?ifin ⟨rfl,o,i,j,0,0,rfl,I0⟩) ?ipost)
  case ifin=>
   rintro d st' ⟨rfl,o,i,j,ca,cb,rfl,lo,rfl,m,a,b,c1,c2,e⟩
   rw[zaw,zaw]at e
   exact⟨rfl,.inr ⟨_,i,j,ca,cb,rfl,lo,rfl,m,a,b,c1,c2,by lia⟩⟩
  case istep=>
   rintro y d st' _ hy ⟨rfl,o,i,j,ca,cb,rfl,I⟩
   refine zuq c T I (λx u m=>⟨rfl,.inl ⟨x,u,rfl,m⟩⟩) λo i j y' z I'=>⟨⟨rfl,.inr ⟨o,i,j,y',z,rfl,?_⟩⟩,rfl,o,i,j,y',z,rfl,I'⟩
   obtain⟨lo,e,m,a,b,c1,c2,e'⟩:=I'
   replace e':1+x+y+1+i+j<=la.length+lb.length:=e'
   exact⟨lo,e,m,a,b,c1,c2,by lia⟩
  case ipost=>
   rintro d st' ⟨rfl,⟨z,u,rfl,m⟩|⟨o,i,j,ca,cb,rfl,I⟩⟩
   .exact vao ⟨z,_,g',rfl,rfl,m⟩
   .refine van (ve3 (vdl ⟨rfl,?_⟩))
    refine van (vdb (vbw (I:=λy d st'=>∃o i j mg ca cb g',st'=St κ f p pd g'/\d=(none,i,j,o,mg,ca,cb)/\HiI f r la lb o i j (1+x+1))
     (Q:=λd st'=>∃g',st'=St κ f p pd g'/\((∃x u,d=(some x,u)/\Mg f r la lb x)\/∃o i j mg ca cb,d=(none,i,j,o,mg,ca,cb)/\HiI f r la lb o i j (1+x+1))) ?gstep ?gfin ⟨o,i,j,mg+1,ca,cb,g',rfl,rfl,I⟩) ?gpost)
    case gfin=>
     rintro d st' ⟨o,i,j,mg,ca,cb,g',rfl,rfl,I⟩
     exact⟨g',rfl,.inr ⟨o,i,j,mg,ca,cb,rfl,I⟩⟩
    case gstep=>
     rintro y d st' _ hy ⟨o,i,j,mg,ca,cb,g',rfl,rfl,lo,rfl,M,a,b,c1,c2,e⟩
     unfold hiG
     dsimp only
     split<;>exact zur c T (g:=g') M a b c1 c2 e (λx u g m=>⟨g,rfl,.inl ⟨x,u,rfl,m⟩⟩) λo i j g' y z g I=>by
      obtain⟨lo,e1,m,a,b,c1,c2,e'⟩:=I
      have I':HiI f r la lb o i j (1+x+1):=⟨lo,e1,m,a,b,c1,c2,by lia⟩
      exact⟨⟨g,rfl,.inr ⟨o,i,j,g',y,z,rfl,I'⟩⟩,o,i,j,g',y,z,g,rfl,rfl,I'⟩
    case gpost=>
     rintro d st' ⟨g',rfl,⟨z,u,rfl,m⟩|⟨o,i,j,mg,ca,cb,rfl,I⟩⟩
     .exact vao ⟨z,_,g',rfl,rfl,m⟩
     .dsimp only
      refine van (zfe (vao ⟨o,i,j,mg+1,_,rfl,rfl,?_⟩))
      rw[show 1+ (x+1)=1+x+1 by lia]
      exact I
end
end TS
namespace TS
open PySem PySem.W PyProof.Rows KO
noncomputable def put(m:Nat){α:Type}(x:List α)(a:Array α):Array α:=x.zipIdx.foldl (λa y=>a.setIfInBounds (m+y.2) y.1) a
noncomputable def mgPut(m:Nat)(x:Arr):SS Bool:=do
 modify λs=>SortSt.mk' (kindOf s) (put m x.toList (arrOf s)) (pendingOf s) (gallopOf s) (failedOf s)
 let z <-get
 pure (failedOf z).isNone
noncomputable def mgAt(i:Nat):SS Bool:=do
 let s <-get
 match((pendingOf s)[i]?,(pendingOf s)[i+1]?)with
 |(some (sa,na,pw),some (sb,nb,_))=>do
  set (setPending s (((pendingOf s).setIfInBounds i (sa,na+nb,pw)).eraseIdxIfInBounds (i+1)))
  let y <-elem' (arrOf s) sb
  let z <-gal' false y (arrOf s) sa na 0
  match z with
  |some k=>
   if(na-k==0)=true then pure true
   else do
    let y <-elem' (arrOf s) (sa+k+ (na-k)-1)
    let z <-gal' true y (arrOf s) sb nb (nb-1)
    match z with
    |some q=>
     if(q==0)=true then pure true
     else if na-k<=q then do
      let x <-mgLo ((arrOf s).extract (sa+k) sb) ((arrOf s).extract sb (sb+q))
      mgPut (sa+k) x
     else do
      let x <-mgHi ((arrOf s).extract (sa+k) sb) ((arrOf s).extract sb (sb+q))
      mgPut (sa+k) x
    |_=>pure false
  |_=>pure false
 |_=>unsupported "internal:list.sort.pending"
theorem zrd:mergeAt'=mgAt:=by kernel_rfl
noncomputable abbrev U1:=Option Unit×Nat
noncomputable abbrev U2:=Option Unit×Unit
noncomputable def rnP(lo n:Nat):SS (ForInStep U1):=do
 modify λs=>setPending s ((pendingOf s).push (lo,n,0))
 pure (.yield (none,lo+n))
noncomputable def rnC(pw:Nat):SS (ForInStep U2):=do
 let s <-get
 match if(pendingOf s).size>1 then(pendingOf s)[(pendingOf s).size-2]? else none with
 |some (_,_,old)=>
  if old<=pw then pure (.done (none,()))
  else do
   let b <-mergeAt' ((pendingOf s).size-2)
   if(!b)=true then pure (.done (some (),()))else pure (.yield (none,()))
 |_=>pure (.done (none,()))
noncomputable def rnB(z lo n:Nat):SS (ForInStep U1):=do
 let s <-get
 match(pendingOf s).back? with
 |some (s1,n1,_)=>do
  let u <-forIn [0:z] ((none,()):U2) λ_ _=>rnC (power' z (2*s1+n1) (2*s1+n1+n1+n) z)
  match u.1 with
  |some r=>pure (.done (some r,lo))
  |none=>do
   modify λs=>setPending s ((pendingOf s).modify ((pendingOf s).size-1) λx=>match x with
    |(st,len,_)=>(st,len,power' z (2*s1+n1) (2*s1+n1+n1+n) z))
   rnP lo n
 |_=>rnP lo n
noncomputable def rnL(z m:Nat)(t:U1):SS (ForInStep U1):=if t.2>=z then pure (.done (none,t.2))else do
 let x <-countRun' t.2 (z-t.2)
 match x with
 |some n=>
  if n<m then do
   rule "list.sort.binary-insertion"
   let b <-binarySort' t.2 (min (z-t.2) m) n
   if(!b)=true then pure (.done (some (),t.2))else rnB z t.2 (min (z-t.2) m)
  else rnB z t.2 n
 |_=>pure (.done (some (),t.2))
noncomputable def rnI(p:Array (Nat×Nat×Nat)):Nat:=if Option.any (λx=>decide (x<p[p.size-2+1]?.elim 0 λx=>x.2.1)) (if p.size-2>0 then Option.map (λx=>x.2.1) p[p.size-2-1]? else none)=true then p.size-2-1 else p.size-2
noncomputable def rnF:SS (ForInStep U2):=do
 let s <-get
 if(pendingOf s).size<=1 then pure (.done (none,()))
 else do
  let b <-mergeAt' (rnI (pendingOf s))
  if(!b)=true then pure (.done (some (),()))else pure (.yield (none,()))
noncomputable def rns:SS Unit:=do
 let s <-get
 let t <-forIn [0:(arrOf s).size] ((none,0):U1) λ_ t=>rnL (arrOf s).size (minRun' (arrOf s).size (arrOf s).size 0) t
 match t.1 with
 |some r=>pure r
 |none=>do
  let u <-forIn [0:(arrOf s).size] ((none,()):U2) λ_ _=>rnF
  match u.1 with
  |some r=>pure r
  |none=>pure ()
theorem zus:sortRuns'=rns:=by kernel_rfl
end TS
namespace TS
open PySem PySem.W PyProof.Rows KO
theorem zk7{α β:Type}(f:α->β){m:Nat}:∀(x:List (α×Nat)) (a:Array α),(x.map λy=>(f y.1,y.2)).foldl (λa y=>a.setIfInBounds (m+y.2) y.1) (a.map f)=(x.foldl (λa y=>a.setIfInBounds (m+y.2) y.1) a).map f
 |[],a=>rfl
 |y::x,a=>by
  rw[vaw,vdq,vdq]
  have e:(a.map f).setIfInBounds (m+y.2) (f y.1)=(a.setIfInBounds (m+y.2) y.1).map f:=by
   rw[Array.map_setIfInBounds]
  rw[e]
  exact zk7 f x _
theorem zut{f:Nat->Keyed}{m:Nat}{l:List Nat}{p:Array Nat}:put m (ar f l).toList (p.map f)=(put m l p).map f:=by
 unfold put ar
 rw[<-zk7]
 congr 1
 rw[List.zipIdx_map]
 rfl
theorem zo9{α:Type}{m:Nat}:∀(x:List α) (off:Nat) (a:Array α) (t:Nat),m+off+x.length<=a.size->((x.zipIdx off).foldl (λa y=>a.setIfInBounds (m+y.2) y.1) a)[t]?=if m+off<=t/\t<m+off+x.length then x[t- (m+off)]? else a[t]?
 |[],off,a,t,_=>by
  rw[List.zipIdx_nil,List.foldl_nil,if_neg (λz=>by have:=z.2;simp at this;lia)]
 |y::x,off,a,t,h=>by
  rw[vai]at h ⊢
  rw[List.zipIdx_cons,vdq,zo9 x (off+1) _ t (by rw[Array.size_setIfInBounds];lia)]
  rw[Array.getElem?_setIfInBounds]
  by_cases h1:m+off=t
  .subst h1
   rw[if_neg (by lia),if_pos rfl,if_pos (show m+ (y,off).snd<a.size from by show m+off<a.size;lia),if_pos (by lia),Nat.sub_self]
   rfl
  .by_cases h2:m+off<=t/\t<m+off+ (x.length+1)
   .rw[if_pos (by lia),if_pos h2,show t- (m+off)=t- (m+ (off+1))+1 by lia,vbc]
   .rw[if_neg (by lia),if_neg h2,if_neg h1]
theorem zhd{α:Type}{m:Nat}{x:List α}{a:Array α}{t:Nat}(h:m+x.length<=a.size):(put m x a)[t]?=if m<=t/\t<m+x.length then x[t-m]? else a[t]?:=zo9 x 0 a t h
theorem znv{m:Nat}{x:List Nat}{p:Array Nat}(h:m+x.length<=p.size):(put m x p).toList=p.toList.take m++x++p.toList.drop (m+x.length):=by
 apply List.ext_getElem?
 intro t
 rw[vcr,zhd h]
 have hl:(p.toList.take m).length=m:=by rw[vbj];simp;lia
 by_cases h1:t<m
 .rw[if_neg (by lia),va1,vbv (by lia),List.getElem?_take_of_lt h1,vcr]
 .by_cases h2:t<m+x.length
  .rw[if_pos ⟨by lia,h2⟩,vbv (by rw[vaj];lia),vay (by lia),hl]
  .rw[if_neg (by lia),vay (by rw[vaj];lia),vaj,hl,List.getElem?_drop,vcr]
   congr 1;lia
theorem zhe{p:Array Nat}{i:Nat}:p.toList.getD i 0=p.getD i 0:=by
 rw[vb5,vcr,vb0]
section
variable{prog:Program}{w:World}{A:Around}{E:Value->Shared->Prop}{s:Shared}{κ:SortKind}{f:Nat->Keyed}{r:Nat->Int}{N:Nat}
theorem zre{x st:SortSt}{Q:PUnit->SortSt->Prop}(h:Q ⟨⟩ x):wpS (model prog w) A E s (set x:SS PUnit) Q st:=by
 unfold wpS
 rw[StateT.run_set]
 exact vas ⟨rfl,h⟩
theorem zdi{p:Array Nat}{i:Nat}:r (p.toList.getD i 0)=J r p i:=by rw[zhe];exact zgi p i
theorem zuu{p:Array Nat}:p.map f=ar f p.toList:=by
 unfold ar
 apply Array.toList_inj.mp
 rw[Array.toList_map]
theorem Bf_J{p:Array Nat}{lf:Bool}{x bs i:Nat}:Bf r lf x p.toList bs i=if lf then decide (J r p (bs+i)<r x)else !decide (r x<J r p (bs+i)):=by unfold Bf;rw[zdi (r:=r)]
theorem zc9{p:Array Nat}{a n i:Nat}(hi:i<n)(hz:a+n<=p.size):∃h:i< ((p.toList.drop a).take n).length,r (((p.toList.drop a).take n)[i])=J r p (a+i):=by
 have h:i< ((p.toList.drop a).take n).length:=by rw[vbj,vbk];simp;lia
 refine⟨h,?_⟩
 rw[List.getElem_take,List.getElem_drop,<-zdi (r:=r) (p:=p),zbb (by simp;lia)]
theorem zct{p:Array Nat}{a n:Nat}(hz:a+n<=p.size):((p.toList.drop a).take n).length=n:=by rw[vbj,vbk];simp;lia
theorem zk8{p:Array Nat}{a n:Nat}(h:Ri r p a (a+n))(hz:a+n<=p.size):So r ((p.toList.drop a).take n):=by
 refine vbn.mpr λi j hi hj hij=>?_
 rw[zct hz]at hi hj
 obtain⟨_,e1⟩:=zc9 (r:=r) hi hz
 obtain⟨_,e2⟩:=zc9 (r:=r) hj hz
 rw[e1,e2]
 exact h _ _ (by lia) (by lia) (by lia)
theorem zdt{p:Array Nat}{a n x:Nat}(h:x∈(p.toList.drop a).take n)(hz:a+n<=p.size):x∈p/\∃i,i<n/\r x=J r p (a+i):=by
 refine⟨by simpa using List.mem_of_mem_drop (vd0 h),?_⟩
 obtain⟨i,hi,e⟩:=vd5 h
 rw[zct hz]at hi
 obtain⟨_,e1⟩:=zc9 (r:=r) hi hz
 exact⟨i,hi,by rw[<-e,e1]⟩
theorem zuv{p:Array Nat}{sa m0 m1 sc:Nat}{x:List Nat}(P:Pm N p)(h1:sa<=m0)(hm:m0<m1)(h2:m1<=sc)(hc:sc<=N)(hx:x.Perm ((p.toList.drop m0).take (m1-m0)))(sx:So r x)
 (a1:Ri r p sa m0) (a2:Ri r p m1 sc) (b1:∀i,sa<=i->i<m0->∀j,m0<=j->j<m1->J r p i<=J r p j) (b2:∀i,m1<=i->i<sc->∀j,m0<=j->j<m1->J r p j<=J r p i) :
 (put m0 x p).Perm p/\Ou p (put m0 x p) sa sc/\Ri r (put m0 x p) sa sc:=by
 have zp:=P.z
 have lx:x.length=m1-m0:=by rw[hx.length_eq,zct (by lia)]
 have hz:m0+x.length<=p.size:=by lia
 have hJ:∀t,J r (put m0 x p) t=if m0<=t/\t<m1 then r (x.getD (t-m0) 0)else J r p t:=λt=>by
  have e:=zhd (t:=t) hz
  rw[lx,show m0+ (m1-m0)=m1 by lia]at e
  by_cases q:m0<=t/\t<m1
  .rw[if_pos q]at e ⊢
   unfold J
   rw[e,vb5]
  .rw[if_neg q]at e ⊢
   exact zb0 e
 have hmem:∀t,t<m1-m0->∃j,m0<=j/\j<m1/\r (x.getD t 0)=J r p j:=λt ht=>by
  rw[zbb (by lia)]
  obtain⟨_,i,hi,e⟩:=zdt (r:=r) (hx.mem_iff.mp (vbd (show t<x.length by lia))) (by lia)
  exact⟨m0+i,by lia,by lia,e⟩
 refine⟨?_,λt ht=>?_,λi j hi hij hj=>?_⟩
 .refine Array.perm_iff_toList_perm.mpr ?_
  rw[znv hz,lx,show m0+ (m1-m0)=m1 by lia]
  have e:p.toList=p.toList.take m0++(p.toList.drop m0).take (m1-m0)++p.toList.drop m1:=by
   rw[va1]
   have:p.toList.drop m0=(p.toList.drop m0).take (m1-m0)++p.toList.drop m1:=by
    have:=zbj (l:=p.toList) (i:=m0) (k:=m1-m0)
    rw[show m0+ (m1-m0)=m1 by lia]at this
    exact this
   rw[<-this,List.take_append_drop]
  refine List.Perm.trans ?_ (List.Perm.of_eq e.symm)
  exact vej (vcq _ hx) (vcz _)
 .rw[zhd hz,if_neg (by lia)]
 .rw[hJ,hJ]
  by_cases qi:m0<=i/\i<m1
  .rw[if_pos qi]
   by_cases qj:m0<=j/\j<m1
   .rw[if_pos qj,zbb (by lia),zbb (by lia)]
    exact sx.at_ (by lia) (by lia)
   .rw[if_neg qj]
    obtain⟨t,t1,t2,e⟩:=hmem (i-m0) (by lia)
    rw[e]
    exact b2 j (by lia) (by lia) t t1 t2
  .rw[if_neg qi]
   by_cases qj:m0<=j/\j<m1
   .rw[if_pos qj]
    obtain⟨t,t1,t2,e⟩:=hmem (j-m0) (by lia)
    rw[e]
    exact b1 i hi (by lia) t t1 t2
   .rw[if_neg qj]
    by_cases y:i<m0
    .by_cases z:j<m0
     .exact a1 i j hi hij z
     .exact vb1 (b1 i hi y m0 (vaa _) hm) (b2 j (by lia) hj m0 (vaa _) hm)
    .exact a2 i j (by lia) hij hj
theorem Ri.join{p:Array Nat}{a b c:Nat}(x:Ri r p a b)(y:Ri r p b c)(h:∀i,a<=i->i<b->b<c->J r p i<=J r p b):Ri r p a c:=λi j h1 h2 h3=>by
 by_cases q:j<b
 .exact x i j h1 h2 q
 .by_cases z:i<b
  .exact vb1 (h i h1 z (by lia)) (y b j (vaa _) (by lia) h3)
  .exact y i j (by lia) h2 h3
theorem zk9(c:Cp prog w A s κ f r N){p:Array Nat}{pd:Array (Nat×Nat×Nat)}{g i sa na pw nb pw2:Nat}(P:Pm N p)(e1:pd[i]?=some (sa,na,pw))(e2:pd[i+1]?=some (sa+na,nb,pw2))(ha:1<=na)(hb:1<=nb)(hn:sa+na+nb<=N)(s1:Ri r p sa (sa+na))(s2:Ri r p (sa+na) (sa+na+nb)){Q:Bool->SortSt->Prop}
 (h:∀q g',q.Perm p->Ou p q sa (sa+na+nb)->Ri r q sa (sa+na+nb)->Q true (St κ f q ((pd.setIfInBounds i (sa,na+nb,pw)).eraseIdxIfInBounds (i+1)) g')):wpS (model prog w) A E s (mergeAt' i) Q (St κ f p pd g):=by
 have zp:=P.z
 rw[zrd]
 unfold mgAt
 refine van (vet ?_)
 show wpS _ _ _ _ (match(pd[i]?,pd[i+1]?)with|(some (sa,na,pw),some (sb,nb,_))=>_|_=>_) _ _
 rw[e1,e2]
 dsimp only
 refine van (zre ?_)
 show wpS _ _ _ _ _ Q (St κ f p ((pd.setIfInBounds i (sa,na+nb,pw)).eraseIdxIfInBounds (i+1)) g)
 generalize (pd.setIfInBounds i (sa,na+nb,pw)).eraseIdxIfInBounds (i+1)=pd' at h ⊢
 have ea:arrOf (St κ f p pd g)=ar f p.toList:=zuu
 rw[ea]
 have lp:p.toList.length=N:=by simpa using zp
 have bl:∀y∈p.toList,y<N:=λy hy=>P.b y (by simpa using hy)
 refine van (ws_el (show sa+na<p.toList.length by lia) ?_)
 have eb:r p.toList[sa+na]=J r p (sa+na):=by rw[<-zdi (r:=r) (p:=p),zbb (by lia)]
 have xb:p.toList[sa+na]<N:=bl _ (vbd _)
 refine van (zhc c bl xb (λi j a b=>by rw[zdi (r:=r),zdi (r:=r)];exact s1 _ _ (by lia) (by lia) (by lia)) (by lia) (by lia) rfl λk hk k1 k2=>?_)
 have k1':∀i,i<k->J r p (sa+i)<=J r p (sa+na):=λi hi=>by
  have:=k1 i hi
  rw[Bf_J,eb]at this
  simp only[vam,vbi,vb3,vb4]at this
  exact vdv.mp this
 have k2':∀i,k<=i->i<na->J r p (sa+na)<J r p (sa+i):=λi hi hi2=>by
  have:=k2 i hi hi2
  rw[Bf_J,eb]at this
  simpa using this
 dsimp only
 by_cases x1:(na-k==0)=true
 .rw[if_pos x1]
  have x1':na-k=0:=by simpa using x1
  refine vao (h p g (vds _) .refl (s1.join s2 λi h1 h2 _=>?_))
  have:=k1' (i-sa) (by lia)
  rw[show sa+ (i-sa)=i by lia]at this
  exact this
 rw[if_neg x1]
 have x1':na-k≠0:=by simpa using x1
 rw[show sa+k+ (na-k)-1=sa+na-1 by lia]
 refine van (ws_el (show sa+na-1<p.toList.length by lia) ?_)
 have ec:r p.toList[sa+na-1]=J r p (sa+na-1):=by rw[<-zdi (r:=r) (p:=p),zbb (by lia)]
 have xc:p.toList[sa+na-1]<N:=bl _ (vbd _)
 refine van (zhc c bl xc (λi j a b=>by rw[zdi (r:=r),zdi (r:=r)];exact s2 _ _ (by lia) (by lia) (by lia)) (by lia) (by lia) rfl λq hq q1 q2=>?_)
 have q1':∀i,i<q->J r p (sa+na+i)<J r p (sa+na-1):=λi hi=>by
  have:=q1 i hi
  rw[Bf_J,ec]at this
  simpa using this
 have q2':∀i,q<=i->i<nb->J r p (sa+na-1)<=J r p (sa+na+i):=λi hi hi2=>by
  have:=q2 i hi hi2
  rw[Bf_J,ec]at this
  simp only[vbe,vb4]at this
  exact vdv.mp this
 dsimp only
 by_cases x2:(q==0)=true
 .rw[if_pos x2]
  have x2':q=0:=by simpa using x2
  refine vao (h p g (vds _) .refl (s1.join s2 λi h1 h2 _=>?_))
  exact vb1 (s1 i (sa+na-1) h1 (by lia) (by lia)) (by simpa using q2' 0 (by lia) (by lia))
 rw[if_neg x2]
 have x2':q≠0:=by simpa using x2
 rw[zcc,zcc,show sa+na- (sa+k)=na-k by lia,show sa+na+q- (sa+na)=q by lia]
 have za:sa+k+ (na-k)<=p.size:=by lia
 have zb:sa+na+q<=p.size:=by lia
 have ra:Ri r p (sa+k) (sa+k+ (na-k)):=λi j h1 h2 h3=>s1 i j (by lia) h2 (by lia)
 have rb:Ri r p (sa+na) (sa+na+q):=λi j h1 h2 h3=>s2 i j h1 h2 (by lia)
 have la:=zct za
 have lb:=zct zb
 have T:Tw N r ((p.toList.drop (sa+k)).take (na-k)) ((p.toList.drop (sa+na)).take q):=by
  refine⟨λx hx=>P.b x (zdt (r:=r) hx za).1,λx hx=>P.b x (zdt (r:=r) hx zb).1,zk8 ra za,zk8 rb zb,by lia,by lia,?_,λx hx i hi hi2=>?_⟩
  .obtain⟨_,u1⟩:=zc9 (r:=r) (i:=0) (show 0<na-k by lia) za
   obtain⟨_,u2⟩:=zc9 (r:=r) (i:=0) (show 0<q by lia) zb
   rw[u1,u2]
   exact vcy (k2' k (vaa _) (by lia))
  .obtain⟨_,j,hj,e⟩:=zdt (r:=r) hx zb
   rw[la]at hi2
   obtain⟨_,u1⟩:=zc9 (r:=r) (i:=i) (show i<na-k by lia) za
   rw[u1,e,show sa+k+i=sa+na-1 by lia]
   exact q1' j hj
 have fin:∀x g',Mg f r ((p.toList.drop (sa+k)).take (na-k)) ((p.toList.drop (sa+na)).take q) x->wpS (model prog w) A E s (mgPut (sa+k) x) Q (St κ f p pd' g'):=λx g' m=>by
  obtain⟨l,rfl,pl,sl⟩:=m
  unfold mgPut
  have hj:(p.toList.drop (sa+k)).take (na-k)++(p.toList.drop (sa+na)).take q=(p.toList.drop (sa+k)).take (sa+na+q- (sa+k)):=by
   rw[show sa+na+q- (sa+k)=(na-k)+q by lia,List.take_add,List.drop_drop,show sa+k+ (na-k)=sa+na by lia]
  rw[hj]at pl
  obtain⟨z1,z2,z3⟩:=zuv (r:=r) (sc:=sa+na+nb) P (show sa<=sa+k by lia) (show sa+k<sa+na+q by lia) (by lia) hn pl sl
   (λi j h1 h2 h3=>s1 i j h1 h2 (by lia)) (λi j h1 h2 h3=>s2 i j (by lia) h2 h3)
   (λi h1 h2 j h3 h4=>by
     by_cases y:j<sa+na
     .exact s1 i j h1 (by lia) y
     .have:=k1' (i-sa) (by lia)
      rw[show sa+ (i-sa)=i by lia]at this
      exact vb1 this (s2 (sa+na) j (vaa _) (by lia) (by lia)))
   (λi h1 h2 j h3 h4=>by
     by_cases y:j<sa+na
     .have:=q2' (i- (sa+na)) (by lia) (by lia)
      rw[show sa+na+ (i- (sa+na))=i by lia]at this
      exact vb1 (s1 j (sa+na-1) (by lia) (by lia) (by lia)) this
     .exact s2 j i (by lia) (by lia) h2)
  refine van (vev ?_)
  show wpS _ _ _ _ _ _ (SortSt.mk' κ (put (sa+k) (ar f l).toList (p.map f)) pd' g' none)
  rw[zut]
  refine van (vet (vao ?_))
  exact h _ g' z1 z2 z3
 split
 .exact van (ws_lo c T fin)
 .exact van (ws_hi c T fin)
end
end TS
namespace TS
open PySem PySem.W PyProof.Rows KO
noncomputable def Cov(r:Nat->Int)(p:Array Nat):Nat->List (Nat×Nat)->Nat->Prop
 |a,[],b=>a=b
 |a,x::t,b=>x.1=a/\1<=x.2/\Ri r p a (a+x.2)/\Cov r p (a+x.2) t b
noncomputable def sh(pd:Array (Nat×Nat×Nat)):List (Nat×Nat):=pd.toList.map λx=>(x.1,x.2.1)
variable{r:Nat->Int}{p q:Array Nat}
theorem Cov.le:∀{l:List (Nat×Nat)} {a b:Nat},Cov r p a l b->a+l.length<=b
 |[],_,_,h=>by cases h;exact vaa _
 |x::t,a,b,h=>by
  have:=Cov.le h.2.2.2
  have:=h.2.1
  rw[vai];lia
theorem Cov.app:∀{l m:List (Nat×Nat)} {a b:Nat},Cov r p a (l++m) b->∃c,Cov r p a l c/\Cov r p c m b
 |[],m,a,b,h=>⟨a,rfl,h⟩
 |x::t,m,a,b,h=>by
  obtain⟨c,h1,h2⟩:=Cov.app (l:=t) h.2.2.2
  exact⟨c,⟨h.1,h.2.1,h.2.2.1,h1⟩,h2⟩
theorem Cov.join:∀{l m:List (Nat×Nat)} {a b c:Nat},Cov r p a l c->Cov r p c m b->Cov r p a (l++m) b
 |[],m,a,b,c,h1,h2=>by cases h1;exact h2
 |x::t,m,a,b,c,h1,h2=>⟨h1.1,h1.2.1,h1.2.2.1,Cov.join h1.2.2.2 h2⟩
theorem Cov.out:∀{l:List (Nat×Nat)} {a b x y:Nat},Cov r p a l b->Ou p q x y->(b<=x\/y<=a)->Cov r q a l b
 |[],a,b,x,y,h,_,_=>h
 |z::t,a,b,x,y,h,o,e=>by
  have:=Cov.le h.2.2.2
  exact⟨h.1,h.2.1,h.2.2.1.out o (by lia),Cov.out h.2.2.2 o (by lia)⟩
theorem zrf{pd:Array (Nat×Nat×Nat)}{a n w:Nat}:sh (pd.push (a,n,w))=sh pd++[(a,n)]:=by
 unfold sh;rw[Array.toList_push,vca];rfl
theorem zd8{pd:Array (Nat×Nat×Nat)}:(sh pd).length=pd.size:=by unfold sh;simp
theorem zuw{pd:Array (Nat×Nat×Nat)}{i w:Nat}:sh (pd.modify i λx=>match x with
 |(st,len,_)=>(st,len,w))=sh pd:=by
 unfold sh
 apply List.ext_getElem?
 intro k
 rw[va5,va5,vcr,vcr,Array.getElem?_modify]
 split
 .cases pd[k]?<;>rfl
 .rfl
theorem zic{pd:Array (Nat×Nat×Nat)}{i:Nat}(hi:i+1<pd.size):∃x y,pd[i]?=some x/\pd[i+1]?=some y/\sh pd=(sh pd).take i++(x.1,x.2.1):: (y.1,y.2.1):: (sh pd).drop (i+2)/\
 ∀n w,sh ((pd.setIfInBounds i (x.1,n,w)).eraseIdxIfInBounds (i+1))=(sh pd).take i++(x.1,n):: (sh pd).drop (i+2):=by
 have h0:i<pd.toList.length:=by simp;lia
 have h1:i+1<pd.toList.length:=by simp;lia
 refine⟨pd[i],pd[i+1],vbb (by lia),vbb hi,?_,λn w=>?_⟩
 .have e:pd.toList=pd.toList.take i++pd[i]::pd[i+1]::pd.toList.drop (i+2):=by
   have a:=vb9 h0
   have b:=vb9 h1
   rw[show i+1+1=i+2 by lia]at b
   rw[b]at a
   have:=(List.take_append_drop i pd.toList).symm
   rw[a]at this
   simpa using this
  unfold sh
  rw[<-List.map_take,<-List.map_drop]
  have:=vd8 (List.map λx:Nat×Nat×Nat=>(x.1,x.2.1)) e
  rw[vca,vaw,vaw]at this
  exact this
 .have e:((pd.setIfInBounds i (pd[i].1,n,w)).eraseIdxIfInBounds (i+1)).toList=pd.toList.take i++(pd[i].1,n,w)::pd.toList.drop (i+2):=by
   have z:((pd.setIfInBounds i (pd[i].1,n,w)).eraseIdxIfInBounds (i+1)).toList=(pd.toList.set i (pd[i].1,n,w)).eraseIdx (i+1):=by
    unfold Array.eraseIdxIfInBounds
    rw[dif_pos (by rw[Array.size_setIfInBounds];exact hi),Array.toList_eraseIdx,Array.toList_setIfInBounds]
   rw[z,List.eraseIdx_eq_take_drop_succ]
   have a:(pd.toList.set i (pd[i].1,n,w)).take (i+1)=pd.toList.take i++[(pd[i].1,n,w)]:=by
    rw[List.take_add_one,List.take_set_of_le (vaa _)]
    congr 1
    rw[vbx h0];rfl
   have b:(pd.toList.set i (pd[i].1,n,w)).drop (i+1+1)=pd.toList.drop (i+2):=by
    rw[List.drop_set_of_lt (by lia)]
   rw[a,b,va1];rfl
  unfold sh
  rw[e,vca,vaw,<-List.map_take,<-List.map_drop]
section
variable{prog:Program}{w:World}{A:Around}{E:Value->Shared->Prop}{s:Shared}{κ:SortKind}{f:Nat->Keyed}{r:Nat->Int}{N:Nat}
noncomputable def RnI(κ:SortKind)(f:Nat->Keyed)(r:Nat->Int)(p0:Array Nat)(lo m:Nat)(st:SortSt):Prop:=∃q pd g,st=St κ f q pd g/\q.Perm p0/\Cov r q 0 (sh pd) lo/\1<=pd.size/\pd.size<=m
theorem zpa(c:Cp prog w A s κ f r N){p0 q:Array Nat}(P:Pm N p0){pd:Array (Nat×Nat×Nat)}{g i lo:Nat}(hp:q.Perm p0)(C:Cov r q 0 (sh pd) lo)(hl:lo<=N)(hi:i+1<pd.size){Q:Bool->SortSt->Prop}
 (h:∀st,RnI κ f r p0 lo (pd.size-1) st->Q true st):wpS (model prog w) A E s (mergeAt' i) Q (St κ f q pd g):=by
 obtain⟨⟨sa,na,pw⟩,⟨sb,nb,pw2⟩,e1,e2,e3,e4⟩:=zic hi
 dsimp only at e3 e4
 rw[e3]at C
 obtain⟨a,C1,C2⟩:=C.app
 obtain⟨z1,ha,s1,z2,hb,s2,C3⟩:=C2
 dsimp only at z1 ha s1 z2 hb s2 C3
 subst z1 z2
 have l1:=C1.le
 have l3:=C3.le
 refine zk9 c (P.perm hp) e1 e2 ha hb (by lia) s1 s2 λq' g' hq o u=>h _ ⟨q',_,g',rfl,hq.trans hp,?_,?_,?_⟩
 .rw[e4]
  refine(C1.out o (.inl (vaa _))).join ⟨rfl,by lia,by rw[<-vez];exact u,?_⟩
  rw[<-vez]
  exact C3.out o (.inr (vaa _))
 .rw[<-zd8,e4,vaj,vai];lia
 .rw[<-zd8,e4,vaj,vai,vbk,vbj,zd8];lia
theorem zxn(c:Cp prog w A s κ f r N){p0:Array Nat}(P:Pm N p0){pw lo m:Nat}(hl:lo<=N){st:SortSt}(I:RnI κ f r p0 lo m st){Q:ForInStep U2->SortSt->Prop}
 (h:∀st,RnI κ f r p0 lo m st->Q (.done (none,())) st/\Q (.yield (none,())) st):wpS (model prog w) A E s (rnC pw) Q st:=by
 have I0:=I
 obtain⟨q,pd,g,rfl,hp,C,h1,h2⟩:=I
 unfold rnC
 refine van (vet ?_)
 show wpS _ _ _ _ (match if pd.size>1 then pd[pd.size-2]? else none with|some (_,_,old)=>_|_=>_) _ _
 by_cases x:pd.size>1
 .rw[if_pos x,vbb (by lia)]
  obtain⟨a,b,old⟩:=pd[pd.size-2]
  dsimp only
  by_cases y:old<=pw
  .rw[if_pos y]
   exact vao (h _ I0).1
  .rw[if_neg y]
   refine van (zpa c P hp C hl (show pd.size-2+1<pd.size by lia) λst I=>vao (h st ?_).2)
   obtain⟨q,pd',g,e,a,b,c1,c2⟩:=I
   exact⟨q,pd',g,e,a,b,c1,by lia⟩
 .rw[if_neg x]
  exact vao (h _ I0).1
theorem zpb{p0 q:Array Nat}{pd:Array (Nat×Nat×Nat)}{g lo n:Nat}(hp:q.Perm p0)(C:Cov r q 0 (sh pd) lo)(h1:1<=n)(u:Ri r q lo (lo+n)){Q:ForInStep U1->SortSt->Prop}(h:∀q pd g,q.Perm p0->Cov r q 0 (sh pd) (lo+n)->1<=pd.size->Q (.yield (none,lo+n)) (St κ f q pd g)) :
 wpS (model prog w) A E s (rnP lo n) Q (St κ f q pd g):=by
 unfold rnP
 refine van (vev (vao ?_))
 exact h q (pd.push (lo,n,0)) g hp (by rw[zrf];exact C.join ⟨rfl,h1,u,rfl⟩) (by rw[Array.size_push];lia)
theorem zpc(c:Cp prog w A s κ f r N){p0 q:Array Nat}(P:Pm N p0){pd:Array (Nat×Nat×Nat)}{g lo n z:Nat}(hp:q.Perm p0)(C:Cov r q 0 (sh pd) lo)(h1:1<=n)(hl:lo+n<=N)(u:Ri r q lo (lo+n)){Q:ForInStep U1->SortSt->Prop}(h:∀q pd g,q.Perm p0->Cov r q 0 (sh pd) (lo+n)->1<=pd.size->Q (.yield (none,lo+n)) (St κ f q pd g)) :
 wpS (model prog w) A E s (rnB z lo n) Q (St κ f q pd g):=by
 unfold rnB
 refine van (vet ?_)
 show wpS _ _ _ _ (match pd.back? with|some (s1,n1,_)=>_|_=>_) _ _
 cases e:pd.back? with
 |none=>exact zpb hp C h1 u h
 |some x=>
  obtain⟨s1,n1,x3⟩:=x
  dsimp only
  have hz:1<=pd.size:=by
   rw[Array.back?_eq_getElem?]at e
   have:=(Array.getElem?_eq_some_iff.mp e).1
   lia
  generalize power' z (2*s1+n1) (2*s1+n1+n1+n) z=pw
  refine van (vdb (vbw (I:=λ_ d st'=>d=(none,())/\∃q pd g,st'=St κ f q pd g/\q.Perm p0/\Cov r q 0 (sh pd) lo/\1<=pd.size/\Ri r q lo (lo+n))
   (Q:=λd st'=>d=(none,())/\∃q pd g,st'=St κ f q pd g/\q.Perm p0/\Cov r q 0 (sh pd) lo/\1<=pd.size/\Ri r q lo (lo+n)) ?step (λ_ _ h=>h) ⟨rfl,q,pd,g,rfl,hp,C,hz,u⟩) ?post)
  case step=>
   rintro x d st' _ _ ⟨rfl,q,pd,g,rfl,hp,C,hz,u⟩
   unfold rnC
   refine van (vet ?_)
   show wpS _ _ _ _ (match if pd.size>1 then pd[pd.size-2]? else none with|some (_,_,old)=>_|_=>_) _ _
   by_cases x:pd.size>1
   .rw[if_pos x,vbb (by lia)]
    obtain⟨a,b,old⟩:=pd[pd.size-2]
    dsimp only
    by_cases y:old<=pw
    .rw[if_pos y]
     exact vao ⟨rfl,q,pd,g,rfl,hp,C,hz,u⟩
    .rw[if_neg y]
     obtain⟨⟨sa,na,pw⟩,⟨sb,nb,pw2⟩,e1,e2,e3,e4⟩:=zic (pd:=pd) (i:=pd.size-2) (by lia)
     dsimp only at e3 e4
     rw[e3]at C
     obtain⟨a,C1,C2⟩:=C.app
     obtain⟨z1,ha,t1,z2,hb,t2,C3⟩:=C2
     dsimp only at z1 ha t1 z2 hb t2 C3
     subst z1 z2
     have l1:=C1.le
     have l3:=C3.le
     refine van (zk9 c (P.perm hp) e1 e2 ha hb (by lia) t1 t2 λq' g' hq o v=>vao ⟨rfl,q',_,g',rfl,hq.trans hp,?_,?_,u.out o (.inr (by lia))⟩)
     .rw[e4]
      refine(C1.out o (.inl (vaa _))).join ⟨rfl,by lia,by rw[<-vez];exact v,?_⟩
      rw[<-vez]
      exact C3.out o (.inr (vaa _))
     .rw[<-zd8,e4,vaj,vai];lia
   .rw[if_neg x]
    exact vao ⟨rfl,q,pd,g,rfl,hp,C,hz,u⟩
  case post=>
   rintro d st' ⟨rfl,q,pd,g,rfl,hp,C,hz,u⟩
   dsimp only
   refine van (vev ?_)
   exact zpb (pd:=pd.modify (pd.size-1) _) hp (by rw[zuw];exact C) h1 u h
theorem zux{pd:Array (Nat×Nat×Nat)}(h:1<pd.size):rnI pd+1<pd.size:=by
 unfold rnI
 repeat' split
 all_goals lia
theorem zrg(c:Cp prog w A s κ f r N){p:Array Nat}(P:Pm N p)(h2:2<=N){Q:Unit->SortSt->Prop}(h:∀q pd g,q.Perm p->Ri r q 0 N->Q () (St κ f q pd g)):wpS (model prog w) A E s sortRuns' Q (St κ f p #[] 7):=by
 rw[zus]
 unfold rns
 refine van (vet ?_)
 have hz:(arrOf (St κ f p #[] 7)).size=N:=by
  show(p.map f).size=N
  rw[Array.size_map];exact P.z
 rw[hz]
 generalize minRun' N N 0=mr
 refine van (vdb (vbw (I:=λx d st'=>∃lo q pd g,d=(none,lo)/\st'=St κ f q pd g/\q.Perm p/\Cov r q 0 (sh pd) lo/\lo<=N/\x<=lo)
  (Q:=λd st'=>∃q pd g,d=(none,N)/\st'=St κ f q pd g/\q.Perm p/\Cov r q 0 (sh pd) N) ?step ?fin ⟨0,p,#[],7,rfl,rfl,vds _,rfl,vbg _,vaa _⟩) ?post)
 case fin=>
  rintro d st' ⟨lo,q,pd,g,rfl,rfl,hp,C,a,b⟩
  obtain rfl:lo=N:=by lia
  exact⟨q,pd,g,rfl,rfl,hp,C⟩
 case step=>
  rintro x d st' _ hx ⟨lo,q,pd,g,rfl,rfl,hp,C,a,b⟩
  unfold rnL
  dsimp only
  by_cases y:lo>=N
  .rw[if_pos y]
   obtain rfl:lo=N:=by lia
   exact vao ⟨q,pd,g,rfl,rfl,hp,C⟩
  .rw[if_neg y]
   refine van (znu c (P.perm hp) (by lia) (by lia) λn q' n1 nm hq o u=>?_)
   dsimp only
   have C':=C.out o (.inl (vaa _))
   have en:∀n,1<=n->lo+n<=N->∀q pd g,q.Perm p->Cov r q 0 (sh pd) (lo+n)->1<=pd.size->∃lo' q' pd' g',((none,lo+n):U1)=(none,lo')/\St κ f q pd g=St κ f q' pd' g'/\q'.Perm p/\Cov r q' 0 (sh pd') lo'/\lo'<=N/\x+1<=lo':=λn n1 nm q pd g hp C _=>⟨_,q,pd,g,rfl,rfl,hp,C,nm,by lia⟩
   by_cases z:n<mr
   .rw[if_pos z]
    refine van (ve3 (vdl ⟨rfl,?_⟩))
    refine van (zum c (P.perm (hq.trans hp)) n1 (by lia) (by lia) u λq2 hq2 o2 u2=>?_)
    rw[if_neg (by simp)]
    exact zpc c P (hq2.trans (hq.trans hp)) (C'.out o2 (.inl (vaa _))) (by lia) (by lia) u2 (en _ (by lia) (by lia))
   .rw[if_neg z]
    exact zpc c P (hq.trans hp) C' n1 (by lia) u (en _ n1 (by lia))
 case post=>
  rintro d st' ⟨q,pd,g,rfl,rfl,hp,C⟩
  dsimp only
  have l:=C.le
  rw[zd8,vce]at l
  have l1:1<=pd.size:=by
   rw[<-zd8]
   cases e:sh pd with
   |nil=>rw[e]at C;have:0=N:=C;lia
   |cons a t=>rw[vai];lia
  refine van (vdb (vbw (I:=λx d st'=>d=(none,())/\RnI κ f r p N (max 1 (N-x)) st')
   (Q:=λd st'=>d=(none,())/\RnI κ f r p N 1 st') ?fstep ?ffin ⟨rfl,q,pd,g,rfl,hp,C,l1,by lia⟩) ?fpost)
  case ffin=>
   rintro d st' ⟨rfl,I⟩
   rw[show max 1 (N-max 0 N)=1 by lia]at I
   exact⟨rfl,I⟩
  case fstep=>
   rintro x d st' _ hx ⟨rfl,q,pd,g,rfl,hp,C,l1,l2⟩
   unfold rnF
   refine van (vet ?_)
   show wpS _ _ _ _ (if pd.size<=1 then _ else _) _ _
   by_cases y:pd.size<=1
   .rw[if_pos y]
    exact vao ⟨rfl,q,pd,g,rfl,hp,C,l1,y⟩
   .rw[if_neg y]
    refine van (zpa c P hp C (vaa _) (zux (by lia)) λst I=>vao ⟨rfl,?_⟩)
    obtain⟨q,pd',g,e,a,b,c1,c2⟩:=I
    exact⟨q,pd',g,e,a,b,c1,by lia⟩
  case fpost=>
   rintro d st' ⟨rfl,q,pd,g,rfl,hp,C,l1,l2⟩
   refine vao (h q pd g hp ?_)
   have e:(sh pd).length=1:=by rw[zd8];lia
   obtain⟨x,ex⟩:=List.length_eq_one_iff.mp e
   rw[ex]at C
   obtain⟨_,_,u,v⟩:=C
   have v:0+x.2=N:=v
   rw[v]at u
   exact u
end
end TS
namespace LX
noncomputable def lexB:List Int->List Int->Bool
 |a::as,b::bs=>if a=b then lexB as bs else decide (a<b)
 |_,_=>false
theorem zhf:∀a:List Int,lexB a a=false
 |[]=>rfl
 |x::r=>by unfold lexB;rw[if_pos rfl];exact zhf r
theorem zid:∀{a b c:List Int},a.length=b.length->b.length=c.length->lexB a b=true->lexB b c=true->lexB a c=true
 |[],[],_,_,_,h,_=>by simp[lexB]at h
 |x::a,y::b,z::c,h1,h2,h3,h4=>by
  unfold lexB at h3 h4 ⊢
  by_cases e1:x=y
  .subst e1
   rw[if_pos rfl]at h3
   by_cases e2:x=z
   .subst e2
    rw[if_pos rfl]at h4 ⊢
    exact zid (by simpa using h1) (by simpa using h2) h3 h4
   .rw[if_neg e2]at h4 ⊢
    exact h4
  .rw[if_neg e1]at h3
   have l1:x<y:=by simpa using h3
   by_cases e2:y=z
   .subst e2
    rw[if_neg e1]
    exact h3
   .rw[if_neg e2]at h4
    have l2:y<z:=by simpa using h4
    rw[if_neg (by lia)]
    exact vaz (by lia)
 |[],y::_,_,h,_,_,_=>by simp at h
 |_::_,[],_,h,_,_,_=>by simp at h
 |_::_,_::_,[],_,h,_,_=>by simp at h
theorem zfg:∀{a b:List Int},a.length=b.length->a≠b->lexB a b=true\/lexB b a=true
 |[],[],_,h=>absurd rfl h
 |x::a,y::b,h1,h2=>by
  unfold lexB
  by_cases e:x=y
  .subst e
   rw[if_pos rfl,if_pos rfl]
   exact zfg (by simpa using h1) λz=>h2 (by rw[z])
  .rw[if_neg e,if_neg (λz=>e z.symm)]
   simp only[vap]
   lia
 |[],_::_,h,_=>by simp at h
 |_::_,[],h,_=>by simp at h
theorem zpd{α:Type}{p q:α->Bool}:∀{l:List α} {x:α},(∀y∈l,p y=true->q y=true)->x∈l->p x=false->q x=true->l.countP p<l.countP q
 |y::l,x,h,hx,hp,hq=>by
  rw[List.countP_cons,List.countP_cons]
  have m:l.countP p<=l.countP q:=List.countP_mono_left λz hz=>h z (vaf _ hz)
  have hy:=h y (vak ..)
  rcases va3.mp hx with e|e
  .subst e
   rw[hp,hq]
   simp
   lia
  .have:=zpd (λz hz=>h z (vaf _ hz)) e hp hq
   cases a:p y with
   |true=>rw[hy a];simp;lia
   |false=>simp;lia
noncomputable def rk(ks:List (List Int))(i:Nat):Int:=((ks.countP λk=>lexB k (ks.getD i [])):Nat)
section
variable{ks:List (List Int)}{m:Nat}
theorem rk_lt(hm:∀k∈ks,k.length=m){i j:Nat}(hi:i<ks.length)(hj:j<ks.length)(h:lexB (ks.getD i []) (ks.getD j [])=true):rk ks i<rk ks j:=by
 have mi:ks.getD i []∈ks:=by simp[hi]
 have mj:ks.getD j []∈ks:=by simp[hj]
 unfold rk
 refine Int.ofNat_lt.mpr (zpd (x:=ks.getD i []) (λy hy e=>?_) mi (zhf _) h)
 exact zid (by rw[hm _ hy,hm _ mi]) (by rw[hm _ mi,hm _ mj]) e h
theorem zla(nd:ks.Nodup){i j:Nat}(hi:i<ks.length)(hj:j<ks.length)(h:i≠j):ks.getD i []≠ks.getD j []:=λe=>by
 have e':ks[i]=ks[j]:=by simpa[hi,hj]using e
 rcases Nat.lt_or_gt_of_ne h with x|x
 .exact vbn.mp nd i j hi hj x e'
 .exact vbn.mp nd j i hj hi x e'.symm
theorem zpe(hm:∀k∈ks,k.length=m)(nd:ks.Nodup){i j:Nat}(hi:i<ks.length)(hj:j<ks.length):decide (rk ks i<rk ks j)=lexB (ks.getD i []) (ks.getD j []):=by
 have mi:ks.getD i []∈ks:=by simp[hi]
 have mj:ks.getD j []∈ks:=by simp[hj]
 cases e:lexB (ks.getD i []) (ks.getD j [])with
 |true=>exact vaz (rk_lt hm hi hj e)
 |false=>
  refine vav λz=>?_
  by_cases x:i=j
  .subst x;lia
  .rcases zfg (by rw[hm _ mi,hm _ mj]) (zla nd hi hj x)with y|y
   .rw[e]at y;cases y
   .have:=rk_lt hm hj hi y
    lia
theorem zuy(hm:∀k∈ks,k.length=m)(nd:ks.Nodup){i j:Nat}(hi:i<ks.length)(hj:j<ks.length)(h:rk ks i=rk ks j):i=j:=by
 have mi:ks.getD i []∈ks:=by simp[hi]
 have mj:ks.getD j []∈ks:=by simp[hj]
 by_cases x:i=j
 .exact x
 .rcases zfg (by rw[hm _ mi,hm _ mj]) (zla nd hi hj x)with y|y
  .have:=rk_lt hm hi hj y
   lia
  .have:=rk_lt hm hj hi y
   lia
end
end LX
namespace RF
open PySem
inductive W where
 |non|bl (b:Bool)|int (i:Int)|str (x:Str)|tup (ws:List W)|fz (ws:List W)|ref (i:Nat)
mutual
noncomputable def W.lt(n:Nat):W->Bool
 |.tup ws=>W.lts n ws
 |.fz ws=>W.lts n ws
 |.ref i=>Nat.blt i n
 |_=>true
noncomputable def W.lts(n:Nat):List W->Bool
 |[]=>true
 |w::ws=>W.lt n w&&W.lts n ws
end
inductive VO where
 |lst (ws:List W)|dk (kvs:List (L2.Key×W))|dm (kvs:List (L2.Key×W))
structure VH where
 n:Nat
 lo:Nat
 os:List VO
noncomputable def VH.get(h:VH)(i:Nat):Option VO:=if Nat.blt i h.n then h.os[h.n-1-i]? else none
noncomputable def VH.set(h:VH)(i:Nat)(o:VO):VH:=⟨h.n,if Nat.blt i h.lo then i else h.lo,h.os.set (h.n-1-i) o⟩
noncomputable def VH.new(h:VH)(o:VO):VH:=⟨h.n+1,h.lo,o::h.os⟩
inductive Res(α:Type)where
 |ok (a:α) (h:VH)|ex (x:W) (h:VH)|no
noncomputable def Res.bind{α β:Type}(r:Res α)(f:α->VH->Res β):Res β:=match r with
 |.ok a h=>f a h
 |.ex x h=>.ex x h
 |.no=>.no
noncomputable def Res.of{α:Type}(o:Option α)(h:VH):Res α:=match o with
 |some a=>.ok a h
 |none=>.no
inductive Op where
 |add|sub|mul|fdiv|mod|shl|pow
 deriving DecidableEq
inductive Cp where
 |eq|ne|lt|le|gt|ge|isn|notn|inn|nin
 deriving DecidableEq
inductive Ty where
 |int|bool|tuple|list|str|dict
 deriving DecidableEq
inductive Bi where
 |len|list|tuple|int|abs|max|min|dm0|frz|srt
 deriving DecidableEq
inductive Mt where
 |append|get
 deriving DecidableEq
inductive Kd where
 |seq|rng1|rng2|enm|zip|keys
 deriving DecidableEq
inductive Tg where
 |one (i:Nat)|many (is:List Nat)|twr (i:Nat) (is:List Nat)
 deriving DecidableEq
inductive E where
 |var (i:Nat)|cst (w:W)
 |nil|cons (a r:E)
 |tup (a:E)|lst (a:E)|dsp (a:E)
 |op (o:Op) (a b:E)|neg (a:E)
 |cmp (c:Cp) (a b:E)|chn (c d:Cp) (a b e:E)
 |not (a:E)|and (a b:E)|or (a b:E)|tru (a:E)|ite (c a b:E)
 |idx (a b:E)|slc (a:E) (bl:Bool) (lo:E) (bh:Bool) (hi:E)
 |call (f:Nat) (a:E)|bi (b:Bi) (a:E)|isi (t:Ty) (a:E)|mt (m:Mt) (o a:E)
 |lc (k:Kd) (a:E) (t:Tg) (ow:Nat) (ix:List Nat) (c e:E)
 |dc (k:Kd) (a:E) (t:Tg) (ow:Nat) (ix:List Nat) (c e v:E)
inductive S where
 |skip|seq (a b:S)|set (i:Nat) (e:E)|unp (is:List Nat) (e:E)|aug (i:Nat) (o:Op) (e:E)
 |put (o i v:E)|ite (c:E) (a b:S)|ret (e:E)|expr (e:E)|brk|cnt
 |for (k:Kd) (a:E) (t:Tg) (b:S)|whl (c:E) (b:S)|no
noncomputable abbrev En:=List (Option W)
inductive Fl where
 |nx (ρ:En)|rt (w:W)|bk (ρ:En)|ct (ρ:En)
noncomputable def mapO{α β:Type}(f:α->Option β):List α->Option (List β)
 |[]=>some []
 |a::r=>match f a with
  |some b=>(match mapO f r with
   |some bs=>some (b::bs)
   |none=>none)
  |none=>none
noncomputable def toD(h:VH):Nat->W->Option PyData
 |0,_=>none
 |n+1,w=>match w with
  |.non=>some .none
  |.bl b=>some (.bool b)
  |.int i=>some (.int i)
  |.str x=>some (.str x)
  |.tup ws=>(mapO (toD h n) ws).map .tuple
  |.fz ws=>(mapO (toD h n) ws).map .list
  |.ref i=>match h.get i with
   |some (.lst ws)=>(mapO (toD h n) ws).map .list
   |_=>none
noncomputable def eqW(h:VH)(x y:W):Option Bool:=
 match toD h 24 x,toD h 24 y with
 |some d,some e=>if SeqAt.shaped d&&SeqAt.shaped e then some (PyData.eqv d e)else none
 |_,_=>none
noncomputable def big:Nat:=16777216
noncomputable def za4(i:Int):Bool:=decide (-(2 ^ 64)<i)&&decide (i<2 ^ 64)
noncomputable def opI:Op->Int->Int->Option Int
 |.add,i,j=>some (i+j)
 |.sub,i,j=>some (i-j)
 |.mul,i,j=>if za4 i||za4 j then some (i*j)else none
 |.fdiv,i,j=>if decide (0<j)&&decide (j<1073741824)then some (i/j)else none
 |.mod,i,j=>if decide (0<j)then some (i % j)else none
 |.shl,i,j=>if decide (0<=j)&&decide (j<=1000000)&&decide (i.natAbs<2 ^ 64)then some (i*2 ^ j.toNat)else none
 |.pow,i,j=>if decide (0<=j)&&decide (j<=1000000)&&decide (i.natAbs<2 ^ 64)then some (i ^ j.toNat)else none
noncomputable def opT:Op->List W->List W->Option (List W)
 |.add,xs,ys=>if Nat.ble (xs.length+ys.length) big then some (xs++ys)else none
 |_,_,_=>none
noncomputable def opL:Op->List W->List W->Option (List W)
 |.add,xs,ys=>if Nat.ble (xs.length+ys.length) big then some (xs++ys)else none
 |_,_,_=>none
noncomputable def fits(i:Int):Bool:=decide (-(2 ^ 62)<=i)&&decide (i<2 ^ 62)
noncomputable def repW(o:Op)(xs:List W)(k:Int):Option (List W):=match o with
 |.mul=>if fits k&&Nat.ble (xs.length*k.toNat) big then some (vgc k.toNat xs).flatten else none
 |_=>none
noncomputable def opW(o:Op)(x y:W)(h:VH):Res W:=match x,y with
 |.int i,.int j=>.of ((opI o i j).map .int) h
 |.tup xs,.tup ys=>.of ((opT o xs ys).map .tup) h
 |.tup xs,.int k=>.of ((repW o xs k).map .tup) h
 |.ref i,.ref j=>match h.get i,h.get j with
  |some (.lst xs),some (.lst ys)=>(match opL o xs ys with
   |some zs=>.ok (.ref h.n) (h.new (.lst zs))
   |none=>.no)
  |_,_=>.no
 |_,_=>.no
noncomputable def ipW(o:Op)(x y:W)(h:VH):Res W:=match x,y with
 |.int i,.int j=>(match o with
  |.add=>.ok (.int (i+j)) h
  |.sub=>.ok (.int (i-j)) h
  |.mul=>.of ((opI .mul i j).map .int) h
  |.fdiv=>.of ((opI .fdiv i j).map .int) h
  |_=>.no)
 |.ref i,.ref j=>match o,h.get i,h.get j with
  |.add,some (.lst xs),some (.lst ys)=>if Nat.ble (xs.length+ys.length) big then .ok (.ref i) (h.set i (.lst (xs++ys)))else .no
  |_,_,_=>.no
 |.tup (x::xs),.tup ys=>(match o with
  |.add=>if Nat.ble ((x::xs).length+ys.length) big then .ok (.tup (x::xs++ys)) h else .no
  |_=>.no)
 |_,_=>.no
noncomputable def cmpI:Cp->Int->Int->Option Bool
 |.lt,i,j=>some (decide (i<j))
 |.le,i,j=>some (decide (i<=j))
 |.gt,i,j=>some (decide (j<i))
 |.ge,i,j=>some (decide (j<=i))
 |_,_,_=>none
noncomputable def isNon:W->Bool
 |.non=>true
 |_=>false
noncomputable def seqW(h:VH):W->Option (List W)
 |.tup ws=>some ws
 |.fz ws=>some ws
 |.ref i=>match h.get i with
  |some (.lst ws)=>some ws
  |_=>none
 |_=>none
noncomputable def intD:W->Option Int
 |.int i=>some i
 |_=>none
noncomputable def inW(h:VH)(x y:W):Option Bool:=match seqW h y,toD h 24 x with
 |some ws,some d=>(match mapO (toD h 24) ws with
  |some ds=>if ds.all SeqAt.shaped&&SeqAt.shaped d then some (L2.anyEq ds d)else none
  |none=>none)
 |_,_=>none
noncomputable def isB:W->W->Option Bool
 |.bl c,.bl b=>some (c==b)
 |_,_=>none
noncomputable def cmpW(c:Cp)(h:VH)(x y:W):Option Bool:=match c with
 |.inn=>inW h x y
 |.nin=>(inW h x y).map (!·)
 |.eq=>eqW h x y
 |.ne=>(eqW h x y).map (!·)
 |.isn=>if isNon y then some (isNon x)else isB x y
 |.notn=>if isNon y then some (!isNon x)else(isB x y).map (!·)
 |c=>match x,y with
  |.int i,.int j=>cmpI c i j
  |_,_=>none
noncomputable def truW(h:VH):W->Option Bool
 |.bl b=>some b
 |.int i=>some (i != 0)
 |.non=>some false
 |.tup ws=>some (!ws.isEmpty)
 |.ref i=>match h.get i with
  |some (.lst ws)=>some (!ws.isEmpty)
  |_=>none
 |_=>none
noncomputable def keyW:W->Option L2.Key
 |.int i=>some (.inl i)
 |.str x=>some (.inr x)
 |_=>none
noncomputable def lookK(kvs:List (L2.Key×W))(k:L2.Key):Option W:=(kvs.find? λkv=>decide (kv.1=k)).map (·.2)
noncomputable def putKW(kvs:List (L2.Key×W))(k:L2.Key)(w:W):List (L2.Key×W):=
 if(kvs.any λkv=>decide (kv.1=k))=true then kvs.map (λkv=>if kv.1=k then(kv.1,w)else kv)else kvs++[(k,w)]
noncomputable def idxW(h:VH)(x y:W):Option W:=match x,y with
 |.tup ws,.int i=>L2.atI ws i
 |.fz ws,.int i=>L2.atI ws i
 |.ref a,.int i=>(match h.get a with
  |some (.lst ws)=>L2.atI ws i
  |some (.dk kvs)=>lookK kvs (.inl i)
  |some (.dm kvs)=>lookK kvs (.inl i)
  |_=>none)
 |.ref a,.str x=>(match h.get a with
  |some (.dk kvs)=>lookK kvs (.inr x)
  |_=>none)
 |_,_=>none
noncomputable def partW(b:Bool)(w:W):Option (Option Int):=match b,w with
 |false,_=>some none
 |true,.int i=>some (some i)
 |_,_=>none
noncomputable def cutW(ws:List W)(lo hi:Option Int):List W:=(ws.drop (HT.sIx ws.length 0 lo)).take (HT.sIx ws.length ws.length hi-HT.sIx ws.length 0 lo)
noncomputable def slcW(x:W)(l u:Option Int)(h:VH):Res W:=match x with
 |.tup ws=>.ok (.tup (cutW ws l u)) h
 |.ref i=>(match h.get i with
  |some (.lst ws)=>.ok (.ref h.n) (h.new (.lst (cutW ws l u)))
  |_=>.no)
 |_=>.no
@[simp] theorem slcW_tup {ws:List W} {l u:Option Int} {h:VH}:slcW (.tup ws) l u h=.ok (.tup (cutW ws l u)) h:=rfl
noncomputable def tyIs:Ty->VH->W->Option Bool
 |t,_,.non=>some false
 |t,_,.bl _=>some (t == .int||t == .bool)
 |t,_,.int _=>some (t == .int)
 |t,_,.str _=>some (t == .str)
 |t,_,.tup _=>some (t == .tuple)
 |_,_,.fz _=>none
 |t,h,.ref i=>match h.get i with
  |some (.lst _)=>some (t == .list)
  |some (.dk _)=>some (t == .dict)
  |_=>none
noncomputable def lenW(xs:List W)(h:VH):Res W:=match xs with
 |[x]=>.of (match seqW h x with
  |some ws=>some (.int ws.length)
  |none=>none) h
 |_=>.no
noncomputable def listW(xs:List W)(h:VH):Res W:=match xs with
 |[x]=>(match seqW h x with
  |some ws=>.ok (.ref h.n) (h.new (.lst ws))
  |none=>.no)
 |_=>.no
noncomputable def zd9(xs:List W)(h:VH):Res W:=match xs with
 |[x]=>.of (match seqW h x with
  |some ws=>some (.tup ws)
  |none=>none) h
 |_=>.no
noncomputable def intW(xs:List W)(h:VH):Res W:=match xs with
 |[.int i]=>.ok (.int i) h
 |[.bl b]=>.ok (.int (if b then 1 else 0)) h
 |_=>.no
noncomputable def absW(xs:List W)(h:VH):Res W:=match xs with
 |[.int i]=>.ok (.int (if i<0 then -i else i)) h
 |_=>.no
noncomputable def iZ:W->Option Int
 |.int i=>some i
 |_=>none
noncomputable def maxI:Int->List Int->Int
 |x,[]=>x
 |x,y::r=>maxI (if y>x then y else x) r
noncomputable def maxW(xs:List W)(h:VH):Res W:=match xs with
 |[.int i,.int j]=>.ok (.int (if j>i then j else i)) h
 |[.ref i]=>(match h.get i with
  |some (.lst ws)=>(match mapO iZ ws with
   |some (x::r)=>.ok (.int (maxI x r)) h
   |_=>.no)
  |_=>.no)
 |_=>.no
noncomputable def minW(xs:List W)(h:VH):Res W:=match xs with
 |[.int i,.int j]=>.ok (.int (if j<i then j else i)) h
 |_=>.no
noncomputable def blW:W->Option Bool
 |.bl b=>some b
 |_=>none
noncomputable def dm0W(xs:List W)(h:VH):Res W:=match xs with
 |[]=>.ok (.ref h.n) (h.new (.dm []))
 |_=>.no
noncomputable def frzW(xs:List W)(h:VH):Res W:=match xs with
 |[.ref i]=>(match h.get i with
  |some (.dm kvs)=>.ok (.ref i) (h.set i (.dk kvs))
  |some (.dk _)=>.ok (.ref i) h
  |_=>.no)
 |_=>.no
noncomputable def kW:W->Option (List Int)
 |.tup ws=>mapO iZ ws
 |_=>none
noncomputable def insL(x:List Int):List (List Int)->List (List Int)
 |[]=>[x]
 |y::r=>if LX.lexB x y then x::y::r else y::insL x r
noncomputable def srtL:List (List Int)->List (List Int)
 |[]=>[]
 |x::r=>insL x (srtL r)
noncomputable def lenL:List (List Int)->Bool
 |k::k2::r=>Nat.ble 1 k.length&& (k::k2::r).all λq=>Nat.beq q.length k.length
 |_=>true
noncomputable def srtW(xs:List W)(h:VH):Res W:=match xs with
 |[.ref i]=>(match h.get i with
  |some (.lst ws)=>(match mapO kW ws with
   |some ks=>if decide ks.Nodup&&lenL ks then .ok (.ref h.n) (h.new (.lst ((srtL ks).map λk=>.tup (k.map .int))))else .no
   |none=>.no)
  |_=>.no)
 |_=>.no
noncomputable def biW(b:Bi)(xs:List W)(h:VH):Res W:=match b with
 |.abs=>absW xs h
 |.max=>maxW xs h
 |.min=>minW xs h
 |.dm0=>dm0W xs h
 |.frz=>frzW xs h
 |.srt=>srtW xs h
 |.len=>lenW xs h
 |.list=>listW xs h
 |.tuple=>zd9 xs h
 |.int=>intW xs h
noncomputable def zie(kvs more:List (L2.Key×W)):List (L2.Key×W):=more.foldl (λacc kv=>putKW acc kv.1 kv.2) kvs
noncomputable def mtW(m:Mt)(o:W)(xs:List W)(h:VH):Res W:=match m,o,xs with
 |.append,.ref i,[x]=>(match h.get i with
  |some (.lst ws)=>if Nat.blt ws.length big then .ok .non (h.set i (.lst (ws++[x])))else .no
  |_=>.no)
 |.get,.ref i,[k,d]=>(match h.get i,keyW k with
  |some (.dk kvs),some k=>.ok ((lookK kvs k).getD d) h
  |some (.dm kvs),some k=>.ok ((lookK kvs k).getD d) h
  |_,_=>.no)
 |_,_,_=>.no
noncomputable def zbw(m:Mt)(h:VH)(o:W):Bool:=match m,o with
 |.append,.ref i=>(match h.get i with
  |some (.lst _)=>true
  |_=>false)
 |.get,.ref i=>(match h.get i with
  |some (.dk _)=>true
  |some (.dm _)=>true
  |_=>false)
 |_,_=>false
noncomputable def keyV:L2.Key->W
 |.inl i=>.int i
 |.inr x=>.str x
noncomputable def nxt(k:Kd)(x:W)(i:Nat)(h:VH):Option (Option W):=match k with
 |.seq=>(seqW h x).map λws=>ws[i]?
 |.enm=>(match x with
  |.tup ws=>some ((ws[i]?).map λw=>.tup [.int i,w])
  |_=>none)
 |.keys=>(match x with
  |.ref a=>(match h.get a with
   |some (.dk kvs)=>(match kvs[i]? with
    |some kv=>some (some (keyV kv.1))
    |none=>if Nat.beq i kvs.length then some none else none)
   |_=>none)
  |_=>none)
 |.zip=>(match x with
  |.tup [u,v]=>(match seqW h u,seqW h v with
   |some ws,some zs=>some (match ws[i]?,zs[i]? with
    |some a,some b=>some (.tup [a,b])
    |_,_=>none)
   |_,_=>none)
  |_=>none)
 |.rng1=>(match x with
  |.tup [.int j]=>if fits j then some (if decide ((i:Int)<j)then some (.int (0+i))else none)else none
  |_=>none)
 |.rng2=>(match x with
  |.tup [.int a,.int b]=>if fits a&&fits b then some (if decide ((i:Int)<b-a)then some (.int (a+i))else none)else none
  |_=>none)
noncomputable def zbf:List Nat->List W->En->Option En
 |[],[],ρ=>some ρ
 |i::is,w::ws,ρ=>zbf is ws (ρ.set i (some w))
 |_,_,_=>none
noncomputable def tgW(t:Tg)(w:W)(h:VH)(ρ:En):Option En:=match t with
 |.one i=>some (ρ.set i (some w))
 |.twr j is=>(match w with
  |.tup [x,y]=>(match seqW h y with
   |some ws=>zbf is ws (ρ.set j (some x))
   |none=>none)
  |_=>none)
 |.many is=>match seqW h w with
  |some ws=>zbf is ws ρ
  |none=>none
noncomputable def fuel:Nat:=1000000
noncomputable def inner(ow:Nat)(ix:List Nat)(ρ:En):En:=vgc ow none++ix.map λj=>(ρ[j]?).join
noncomputable def lcG(nx:Nat->VH->Option (Option W))(tg:W->VH->En->Option En)(c:En->VH->Res W)(e:En->VH->Res W):Nat->Nat->En->VH->List W->Res (List W)
 |0,_,_,_,_=>.no
 |f+1,i,ρ,h,acc=>match nx i h with
  |none=>.no
  |some none=>.ok acc.reverse h
  |some (some w)=>match tg w h ρ with
   |none=>.no
   |some ρ=>(c ρ h).bind λb h=>match b with
    |.bl true=>(e ρ h).bind λy h=>lcG nx tg c e f (i+1) ρ h (y::acc)
    |.bl false=>lcG nx tg c e f (i+1) ρ h acc
    |_=>.no
noncomputable def dcG(nx:Nat->VH->Option (Option W))(tg:W->VH->En->Option En)(c:En->VH->Res W)(e v:En->VH->Res W):Nat->Nat->En->VH->List (L2.Key×W)->Res (List (L2.Key×W))
 |0,_,_,_,_=>.no
 |f+1,i,ρ,h,acc=>match nx i h with
  |none=>.no
  |some none=>.ok acc h
  |some (some w)=>match tg w h ρ with
   |none=>.no
   |some ρ=>(c ρ h).bind λb h=>match b with
    |.bl true=>(e ρ h).bind λx h=>(v ρ h).bind λy h=>(match keyW x with
     |some k=>if Nat.blt acc.length big then dcG nx tg c e v f (i+1) ρ h (putKW acc k y)else .no
     |none=>.no)
    |.bl false=>dcG nx tg c e v f (i+1) ρ h acc
    |_=>.no
noncomputable def forG(nx:Nat->VH->Option (Option W))(tg:W->VH->En->Option En)(b:En->VH->Res Fl):Nat->Nat->En->VH->Res Fl
 |0,_,_,_=>.no
 |f+1,i,ρ,h=>match nx i h with
  |none=>.no
  |some none=>.ok (.nx ρ) h
  |some (some w)=>match tg w h ρ with
   |none=>.no
   |some ρ=>(b ρ h).bind λfl h=>match fl with
    |.nx ρ=>forG nx tg b f (i+1) ρ h
    |.ct ρ=>forG nx tg b f (i+1) ρ h
    |.bk ρ=>.ok (.nx ρ) h
    |.rt w=>.ok (.rt w) h
noncomputable def whlG(c:En->VH->Res W)(b:En->VH->Res Fl):Nat->En->VH->Res Fl
 |0,_,_=>.no
 |f+1,ρ,h=>(c ρ h).bind λt h=>match t with
  |.bl false=>.ok (.nx ρ) h
  |.bl true=>(b ρ h).bind λfl h=>match fl with
   |.nx ρ=>whlG c b f ρ h
   |.ct ρ=>whlG c b f ρ h
   |.bk ρ=>.ok (.nx ρ) h
   |.rt w=>.ok (.rt w) h
  |_=>.no
noncomputable def zdj:List W->Option (List (L2.Key×W))
 |[]=>some []
 |k::v::r=>match keyW k with
  |some k=>(match zdj r with
   |some kvs=>some ((k,v)::kvs)
   |none=>none)
  |none=>none
 |_=>none
noncomputable def dkO(kvs:List (L2.Key×W)):VO:=.dk (zie [] kvs)
noncomputable def putM(ρ:En)(a:Nat)(j:Int)(w:W)(h:VH):Res Fl:=match h.get a with
 |some (.dm kvs)=>if Nat.blt kvs.length big then .ok (.nx ρ) (h.set a (.dm (putKW kvs (.inl j) w)))else .no
 |_=>.no
noncomputable abbrev Call:=Nat->List W->VH->Res W
noncomputable def ev(cl:Call):E->En->VH->Res W
 |.var i,ρ,h=>.of (ρ[i]?).join h
 |.cst w,_,h=>.ok w h
 |.nil,_,h=>.ok (.tup []) h
 |.cons a r,ρ,h=>(ev cl a ρ h).bind λx h=>(ev cl r ρ h).bind λy h=>match y with
  |.tup ys=>.ok (.tup (x::ys)) h
  |_=>.no
 |.tup a,ρ,h=>(ev cl a ρ h).bind λy h=>match y with
  |.tup ys=>if Nat.ble ys.length 1000 then .ok (.tup ys) h else .no
  |_=>.no
 |.lst a,ρ,h=>(ev cl a ρ h).bind λy h=>match y with
  |.tup ys=>if Nat.ble ys.length 1000 then .ok (.ref h.n) (h.new (.lst ys))else .no
  |_=>.no
 |.dsp a,ρ,h=>(ev cl a ρ h).bind λy h=>match y with
  |.tup ys=>(match zdj ys with
   |some kvs=>if Nat.ble kvs.length 15 then .ok (.ref h.n) (h.new (dkO kvs))else .no
   |none=>.no)
  |_=>.no
 |.op o a b,ρ,h=>(ev cl a ρ h).bind λx h=>(ev cl b ρ h).bind λy h=>opW o x y h
 |.neg a,ρ,h=>(ev cl a ρ h).bind λx h=>match x with
  |.int i=>.ok (.int (-i)) h
  |_=>.no
 |.cmp c a b,ρ,h=>(ev cl a ρ h).bind λx h=>(ev cl b ρ h).bind λy h=>.of ((cmpW c h x y).map .bl) h
 |.chn c d a b e,ρ,h=>(ev cl a ρ h).bind λx h=>(ev cl b ρ h).bind λy h=>match cmpW c h x y with
  |some true=>(ev cl e ρ h).bind λz h=>.of ((cmpW d h y z).map .bl) h
  |some false=>.ok (.bl false) h
  |none=>.no
 |.not a,ρ,h=>(ev cl a ρ h).bind λx h=>match x with
  |.bl b=>.ok (.bl (!b)) h
  |_=>.no
 |.and a b,ρ,h=>(ev cl a ρ h).bind λx h=>match x with
  |.bl true=>ev cl b ρ h
  |.bl false=>.ok (.bl false) h
  |_=>.no
 |.or a b,ρ,h=>(ev cl a ρ h).bind λx h=>match x with
  |.bl true=>.ok (.bl true) h
  |.bl false=>ev cl b ρ h
  |_=>.no
 |.tru a,ρ,h=>(ev cl a ρ h).bind λx h=>.of ((truW h x).map .bl) h
 |.ite c a b,ρ,h=>(ev cl c ρ h).bind λx h=>match x with
  |.bl true=>ev cl a ρ h
  |.bl false=>ev cl b ρ h
  |_=>.no
 |.idx a b,ρ,h=>(ev cl a ρ h).bind λx h=>(ev cl b ρ h).bind λy h=>.of (idxW h x y) h
 |.slc a bl lo bh hi,ρ,h=>(ev cl a ρ h).bind λx h=>(ev cl lo ρ h).bind λl h=>(ev cl hi ρ h).bind λu h=>match partW bl l,partW bh u with
  |some l,some u=>slcW x l u h
  |_,_=>.no
 |.call f a,ρ,h=>(ev cl a ρ h).bind λy h=>match y with
  |.tup ys=>cl f ys h
  |_=>.no
 |.bi b a,ρ,h=>(ev cl a ρ h).bind λy h=>match y with
  |.tup ys=>biW b ys h
  |_=>.no
 |.isi t a,ρ,h=>(ev cl a ρ h).bind λx h=>.of ((tyIs t h x).map .bl) h
 |.mt m o a,ρ,h=>(ev cl o ρ h).bind λx h=>if zbw m h x then(ev cl a ρ h).bind λy h=>match y with
  |.tup ys=>mtW m x ys h
  |_=>.no
  else .no
 |.lc k a t ow ix c e,ρ,h=>(ev cl a ρ h).bind λx h=>(lcG (nxt k x) (tgW t) (ev cl c) (ev cl e) fuel 0 (inner ow ix ρ) h []).bind λys h=>if Nat.ble ys.length big then .ok (.ref h.n) (h.new (.lst ys))else .no
 |.dc k a t ow ix c e v,ρ,h=>(ev cl a ρ h).bind λx h=>(dcG (nxt k x) (tgW t) (ev cl c) (ev cl e) (ev cl v) fuel 0 (inner ow ix ρ) h []).bind λkvs h=>.ok (.ref h.n) (h.new (.dm kvs))
noncomputable def exs(cl:Call):S->En->VH->Res Fl
 |.skip,ρ,h=>.ok (.nx ρ) h
 |.seq a b,ρ,h=>(exs cl a ρ h).bind λfl h=>match fl with
  |.nx ρ=>exs cl b ρ h
  |fl=>.ok fl h
 |.set i e,ρ,h=>(ev cl e ρ h).bind λw h=>.ok (.nx (ρ.set i (some w))) h
 |.unp is e,ρ,h=>(ev cl e ρ h).bind λw h=>.of ((tgW (.many is) w h ρ).map .nx) h
 |.aug i o e,ρ,h=>match(ρ[i]?).join with
  |some x=>(ev cl e ρ h).bind λy h=>(ipW o x y h).bind λz h=>.ok (.nx (ρ.set i (some z))) h
  |none=>.no
 |.put o i v,ρ,h=>(ev cl v ρ h).bind λw h=>(ev cl o ρ h).bind λx h=>(ev cl i ρ h).bind λy h=>match x,y with
  |.ref a,.int j=>(match h.get a with
   |some (.lst ws)=>(match L2.ixN ws.length j with
    |some k=>.ok (.nx ρ) (h.set a (.lst (ws.set k w)))
    |none=>.no)
   |_=>putM ρ a j w h)
  |_,_=>.no
 |.ite c a b,ρ,h=>(ev cl c ρ h).bind λx h=>match x with
  |.bl true=>exs cl a ρ h
  |.bl false=>exs cl b ρ h
  |_=>.no
 |.ret e,ρ,h=>(ev cl e ρ h).bind λw h=>.ok (.rt w) h
 |.expr e,ρ,h=>(ev cl e ρ h).bind λ_ h=>.ok (.nx ρ) h
 |.brk,ρ,h=>.ok (.bk ρ) h
 |.cnt,ρ,h=>.ok (.ct ρ) h
 |.for k a t b,ρ,h=>(ev cl a ρ h).bind λx h=>forG (nxt k x) (tgW t) (exs cl b) fuel 0 ρ h
 |.whl c b,ρ,h=>whlG (ev cl c) (exs cl b) fuel ρ h
 |.no,_,_=>.no
structure Fn where
 ps:Nat
 n:Nat
 body:S
noncomputable def leave(h:VH)(w:W)(h':VH):Res W:=
 if Nat.ble h.n h'.lo&&W.lt h.n w then .ok w h else .ok w ⟨h'.n,if Nat.ble h.lo h'.lo then h.lo else h'.lo,h'.os⟩
noncomputable def run(F:Nat->Option Fn):Nat->Call
 |0,_,_,_=>.no
 |k+1,f,ws,h=>match F f with
  |some fn=>if Nat.beq ws.length fn.ps then
   (exs (run F k) fn.body (ws.map some++vgc (fn.n-fn.ps) none) ⟨h.n,h.n,h.os⟩).bind λfl h'=>match fl with
     |.nx _=>leave h .non h'
     |.rt w=>leave h w h'
     |_=>.no
   else .no
  |none=>.no
open L2 PyProof.Rows PySem.Spec
noncomputable def Fz(K:vga)(H:Hp)(a:Addr)(xs:List V):Prop:=
 (∃o,H a=some (.frz o (.lst xs)))\/∃(o:Obj) (its:Array Value) (n:Nat),K.lookup a=some o/\o.cls=.type "list"/\o.dict=none/\o.data=.seq its n/\its.size<=sizeLine/\Vals xs its.toList
theorem Fz.sq{K:vga}{H:Hp}{a:Addr}{xs:List V}(h:Fz K H a xs):SqL K H a xs:=h.elim (λ⟨o,q⟩=>.inl (.inr ⟨o,q⟩)) .inr
mutual
inductive VRep(K:vga)(m:Nat->Addr)(n:Nat)(H:Hp):V->W->Prop
 |non:VRep K m n H .non .non
 |bl (b:Bool):VRep K m n H (.bl b) (.bl b)
 |int (i:Int):VRep K m n H (.int i) (.int i)
 |str (x:Str):VRep K m n H (.str x) (.str x)
 |tup {a:Addr} {vs:List V} {ws:List W}:SqT K H a vs->VReps K m n H vs ws->VRep K m n H (.ref a) (.tup ws)
 |fz {a:Addr} {vs:List V} {ws:List W}:Fz K H a vs->VReps K m n H vs ws->VRep K m n H (.ref a) (.fz ws)
 |ref {i:Nat}:i<n->VRep K m n H (.ref (m i)) (.ref i)
inductive VReps(K:vga)(m:Nat->Addr)(n:Nat)(H:Hp):List V->List W->Prop
 |nil:VReps K m n H [] []
 |cons {v:V} {w:W} {vs:List V} {ws:List W}:VRep K m n H v w->VReps K m n H vs ws->VReps K m n H (v::vs) (w::ws)
end
inductive KReps(K:vga)(m:Nat->Addr)(n:Nat)(H:Hp):List (Key×V)->List (Key×W)->Prop
 |nil:KReps K m n H [] []
 |cons {k:Key} {v:V} {w:W} {vs:List (Key×V)} {ws:List (Key×W)}:VRep K m n H v w->KReps K m n H vs ws->KReps K m n H ((k,v)::vs) ((k,w)::ws)
noncomputable def ORep(K:vga)(m:Nat->Addr)(n:Nat)(H:Hp)(a:Addr):VO->Prop
 |.lst ws=>∃vs,H a=some (.lst vs)/\VReps K m n H vs ws
 |.dk kvs=>∃kv,Rd H a (.dK kv)/\KReps K m n H kv kvs
 |.dm kvs=>∃kv,H a=some (.dK kv)/\KReps K m n H kv kvs
structure Rel(K:vga)(m:Nat->Addr)(h:VH)(H:Hp):Prop where
 obj:∀i,i<h.n->∃o,h.get i=some o/\ORep K m h.n H (m i) o
 inj:∀i j,i<h.n->j<h.n->m i=m j->i=j
 len:h.os.length=h.n
structure Stp(m:Nat->Addr)(n:Nat)(H:Hp)(m':Nat->Addr)(n':Nat)(H':Hp):Prop where
 le:n<=n'
 same:∀i,i<n->m' i=m i
 new:∀i,n<=i->i<n'->H (m' i)=none
 apart:∀i j,n<=i->i<n'->j<n->m' i≠m' j
 tup:∀b vs,H b=some (.tup vs)->H' b=some (.tup vs)
 frz:∀b o u,H b=some (.frz o u)->H' b=some (.frz o u)
 keep:∀b o,(∀i,i<n->m i≠b)->H b=some o->H' b=some o
section
variable{K:vga}{m m' m1 m2:Nat->Addr}{n n' n1 n2:Nat}{h h':VH}{H H' H1 H2:Hp}
theorem Stp.refl:Stp m n H m n H:=⟨vaa _,λ_ _=>rfl,λi a b=>absurd b (vb6.mpr a),λi j a b=>absurd b (vb6.mpr a),λ_ _ q=>q,λ_ _ _ q=>q,λ_ _ _ q=>q⟩
theorem Stp.trans(a:Stp m n H m1 n1 H1)(b:Stp m1 n1 H1 m2 n2 H2):Stp m n H m2 n2 H2 where
 le:=vbo a.le b.le
 same:=λi hi=>(b.same i (vag hi a.le)).trans (a.same i hi)
 new:=λi hi hi2=>by
  by_cases hc:i<n1
  .rw[b.same i hc];exact a.new i hi hc
  .have hc:=vb6.mp hc
   cases q:H (m2 i)with
   |none=>rfl
   |some o=>
    have q1:H1 (m2 i)=none:=b.new i hc hi2
    rw[a.keep _ o (λj hj z=>b.apart i j hc hi2 (vag hj a.le) ((b.same j (vag hj a.le)).trans ((a.same j hj).trans z)).symm) q]at q1
    cases q1
 apart:=λi j hi hi2 hj=>by
  by_cases hc:i<n1
  .rw[b.same i hc,b.same j (vag hj a.le)];exact a.apart i j hi hc hj
  .exact b.apart i j (vb6.mp hc) hi2 (vag hj a.le)
 tup:=λc vs q=>b.tup c vs (a.tup c vs q)
 frz:=λc o u q=>b.frz c o u (a.frz c o u q)
 keep:=λc o hc q=>b.keep c o (λi hi=>by
  by_cases hl:i<n
  .rw[a.same i hl];exact hc i hl
  .intro z
   have:=a.new i (vb6.mp hl) hi
   rw[z,q]at this;cases this) (a.keep c o hc q)
theorem Stp.sqT{a:Addr}{vs:List V}(s:Stp m n H m' n' H')(q:SqT K H a vs):SqT K H' a vs:=by
 rcases q with(q|⟨o,q⟩)|q
 .exact .inl (.inl (s.tup _ _ q))
 .exact .inl (.inr ⟨o,s.frz _ _ _ q⟩)
 .exact .inr q
theorem Stp.fz{a:Addr}{vs:List V}(s:Stp m n H m' n' H')(q:Fz K H a vs):Fz K H' a vs:=by
 rcases q with⟨o,q⟩|q
 .exact .inl ⟨o,s.frz _ _ _ q⟩
 .exact .inr q
mutual
theorem VRep.stp(s:Stp m n H m' n' H'):∀{v:V} {w:W},VRep K m n H v w->VRep K m' n' H' v w
 |_,_,.non=>.non
 |_,_,.bl b=>.bl b
 |_,_,.int b=>.int b
 |_,_,.str b=>.str b
 |_,_,.tup q r=>.tup (s.sqT q) (VReps.stp s r)
 |_,_,.fz q r=>.fz (s.fz q) (VReps.stp s r)
 |_,_,.ref (i:=i) q=>by rw[<-s.same i q];exact .ref (vag q s.le)
theorem VReps.stp(s:Stp m n H m' n' H'):∀{vs:List V} {ws:List W},VReps K m n H vs ws->VReps K m' n' H' vs ws
 |_,_,.nil=>.nil
 |_,_,.cons q r=>.cons (VRep.stp s q) (VReps.stp s r)
end
theorem KReps.stp(s:Stp m n H m' n' H'):∀{vs:List (Key×V)} {ws:List (Key×W)},KReps K m n H vs ws->KReps K m' n' H' vs ws
 |_,_,.nil=>.nil
 |_,_,.cons q r=>.cons (q.stp s) (KReps.stp s r)
theorem VReps.length:∀{vs:List V} {ws:List W},VReps K m n H vs ws->vs.length=ws.length
 |_,_,.nil=>rfl
 |_,_,.cons _ r=>by rw[vai,vai,VReps.length r]
theorem VReps.get:∀{vs:List V} {ws:List W} {i:Nat} {w:W},VReps K m n H vs ws->ws[i]?=some w->∃v,vs[i]?=some v/\VRep K m n H v w
 |_,_,_,_,.nil,e=>by simp at e
 |_,_,0,_,.cons q _,e=>by simp at e;subst e;exact⟨_,rfl,q⟩
 |_,_,i+1,w,.cons _ r,e=>by
  obtain⟨v,h1,h2⟩:=VReps.get (i:=i) (w:=w) r (by simpa using e)
  exact⟨v,by simpa using h1,h2⟩
theorem VReps.append:∀{vs us:List V} {ws zs:List W},VReps K m n H vs ws->VReps K m n H us zs->VReps K m n H (vs++us) (ws++zs)
 |_,_,_,_,.nil,r=>r
 |_,_,_,_,.cons q r,t=>.cons q (VReps.append r t)
theorem VReps.drop:∀(k:Nat) {vs:List V} {ws:List W},VReps K m n H vs ws->VReps K m n H (vs.drop k) (ws.drop k)
 |0,_,_,r=>r
 |_+1,_,_,.nil=>.nil
 |k+1,_,_,.cons _ r=>VReps.drop k r
theorem VReps.take:∀(k:Nat) {vs:List V} {ws:List W},VReps K m n H vs ws->VReps K m n H (vs.take k) (ws.take k)
 |0,_,_,r=>.nil
 |_+1,_,_,.nil=>.nil
 |k+1,_,_,.cons q r=>.cons q (VReps.take k r)
theorem VReps.set{v:V}{w:W}(q:VRep K m n H v w):∀(k:Nat) {vs:List V} {ws:List W},VReps K m n H vs ws->VReps K m n H (vs.set k v) (ws.set k w)
 |_,_,_,.nil=>.nil
 |0,_,_,.cons _ r=>.cons q r
 |k+1,_,_,.cons p r=>.cons p (VReps.set q k r)
theorem ORep.stp{a:Addr}{o:VO}(s:Stp m n H m' n' H')(e:H' a=H a)(q:ORep K m n H a o):ORep K m' n' H' a o:=by
 cases o with
 |lst ws=>obtain⟨vs,h1,h2⟩:=q;exact⟨vs,e.trans h1,h2.stp s⟩
 |dk ws=>obtain⟨vs,h1,h2⟩:=q;exact⟨vs,h1.imp (λz=>e.trans z) λ⟨o,z⟩=>⟨o,e.trans z⟩,h2.stp s⟩
 |dm ws=>obtain⟨vs,h1,h2⟩:=q;exact⟨vs,e.trans h1,h2.stp s⟩
theorem ORep.some{a:Addr}{o:VO}(q:ORep K m n H a o):∃u,H a=some u:=by
 cases o with
 |lst ws=>obtain⟨vs,h1,h2⟩:=q;exact⟨_,h1⟩
 |dk ws=>
  obtain⟨vs,h1,h2⟩:=q
  rcases h1 with h1|⟨o,h1⟩<;>exact⟨_,h1⟩
 |dm ws=>obtain⟨vs,h1,h2⟩:=q;exact⟨_,h1⟩
theorem zaj{i j:Nat}:Nat.blt i j=true↔i<j:=by
 unfold Nat.blt;rw[veg];exact Iff.rfl
theorem zag{i:Nat}{o:VO}(q:h.get i=some o):i<h.n:=by
 unfold VH.get at q
 split at q
 .rename_i z;exact zaj.mp z
 .cases q
theorem Rel.at_(r:Rel K m h H){i:Nat}{o:VO}(q:h.get i=some o):ORep K m h.n H (m i) o:=by
 obtain⟨o',h1,h2⟩:=r.obj i (zag q)
 rw[q]at h1;cases h1;exact h2
theorem Rel.lst(r:Rel K m h H){i:Nat}{ws:List W}(q:h.get i=some (.lst ws)):∃vs,H (m i)=some (.lst vs)/\VReps K m h.n H vs ws:=r.at_ q
theorem Rel.dk(r:Rel K m h H){i:Nat}{ws:List (Key×W)}(q:h.get i=some (.dk ws)):∃vs,Rd H (m i) (.dK vs)/\KReps K m h.n H vs ws:=r.at_ q
theorem Rel.dm(r:Rel K m h H){i:Nat}{ws:List (Key×W)}(q:h.get i=some (.dm ws)):∃vs,H (m i)=some (.dK vs)/\KReps K m h.n H vs ws:=r.at_ q
theorem zak{i:Nat}{o:VO}(hi:i<h.n):(h.new o).get i=h.get i:=by
 unfold VH.get VH.new
 have h1:Nat.blt i (h.n+1)=true:=zaj.mpr (vcl hi)
 have h2:Nat.blt i h.n=true:=zaj.mpr hi
 simp only[h1,h2,vbe]
 have:h.n+1-1-i=(h.n-1-i)+1:=by lia
 rw[this];rfl
theorem zat{o:VO}:(h.new o).get h.n=some o:=by
 unfold VH.get VH.new
 have h1:Nat.blt h.n (h.n+1)=true:=zaj.mpr (va4 _)
 simp only[h1,vbe]
 have:h.n+1-1-h.n=0:=by lia
 rw[this];rfl
theorem Rel.alloc(r:Rel K m h H){p:Addr}{o:VO}{u:HO}(hp:H p=none)(hu:∀t,u≠.tup t)
 (ho:Stp m h.n H (λi=>if i=h.n then p else m i) (h.n+1) (upd H p u)->ORep K (λi=>if i=h.n then p else m i) (h.n+1) (upd H p u) p o) :
 Stp m h.n H (λi=>if i=h.n then p else m i) (h.n+1) (upd H p u)/\Rel K (λi=>if i=h.n then p else m i) (h.new o) (upd H p u):=by
 have tr:∀i,i<h.n->m i≠p:=λi hi z=>by
  obtain⟨o',_,h2⟩:=r.obj i hi
  obtain⟨u',h3⟩:=h2.some
  rw[z,hp]at h3;cases h3
 have st:Stp m h.n H (λi=>if i=h.n then p else m i) (h.n+1) (upd H p u):=by
  refine⟨vdk _,λi hi=>by simp only[if_neg (va7 hi)],λi hi hi2=>?_,λi j hi hi2 hj=>?_,λb vs q=>?_,λb o u q=>?_,λb o _ q=>?_⟩
  .have:i=h.n:=by lia
   subst this;simp only[vbe];exact hp
  .have:i=h.n:=by lia
   subst this;simp only[vbe,if_neg (va7 hj)];exact(tr j hj).symm
  .rw[zac (zad q hp)];exact q
  .rw[zac (zad q hp)];exact q
  .rw[zac (zad q hp)];exact q
 refine⟨st,⟨λi hi=>?_,λi j hi hj z=>?_,?_⟩⟩
 .have hi:i<h.n+1:=hi
  by_cases e:i=h.n
  .subst e;exact⟨o,zat,by simp only[vbe];exact ho st⟩
  .have hl:i<h.n:=by lia
   obtain⟨o',h1,h2⟩:=r.obj i hl
   refine⟨o',(zak hl).trans h1,?_⟩
   simp only[if_neg e]
   exact ORep.stp st (zac (tr i hl)) h2
 .have hi:i<h.n+1:=hi
  have hj:j<h.n+1:=hj
  by_cases e:i=h.n
  .by_cases e2:j=h.n
   .lia
   .simp only[if_pos e,if_neg e2]at z
    exact absurd z.symm (tr j (by lia))
  .by_cases e2:j=h.n
   .simp only[if_neg e,if_pos e2]at z
    exact absurd z (tr i (by lia))
   .simp only[if_neg e,if_neg e2]at z
    exact r.inj i j (by lia) (by lia) z
 .show(o::h.os).length=h.n+1
  rw[vai,r.len]
theorem zgj(r:Rel K m h H){i:Nat}{o:VO}(hi:i<h.n):(h.set i o).get i=some o:=by
 unfold VH.get VH.set
 have h1:Nat.blt i h.n=true:=zaj.mpr hi
 simp only[h1,vbe]
 rw[vbx]
 rw[r.len];lia
theorem zbk{i j:Nat}{o:VO}(hi:i<h.n)(hj:j≠i):(h.set i o).get j=h.get j:=by
 unfold VH.get VH.set
 by_cases h1:j<h.n
 .have h2:Nat.blt j h.n=true:=zaj.mpr h1
  simp only[h2,vbe]
  rw[vcw]
  lia
 .have h2:Nat.blt j h.n=false:=by
   cases q:Nat.blt j h.n with
   |false=>rfl
   |true=>exact absurd (zaj.mp q) h1
  simp only[h2,vam,vbi]
theorem Rel.write(r:Rel K m h H){i:Nat}{o:VO}{u u0:HO}(hi:i<h.n)(h0:H (m i)=some u0)(hn:∀t,u0≠.tup t)(hf:∀o t,u0≠.frz o t)
 (ho:Stp m h.n H m h.n (upd H (m i) u)->ORep K m h.n (upd H (m i) u) (m i) o) :
 Stp m h.n H m h.n (upd H (m i) u)/\Rel K m (h.set i o) (upd H (m i) u):=by
 have st:Stp m h.n H m h.n (upd H (m i) u):=by
  refine⟨vaa _,λ_ _=>rfl,λj a b=>absurd b (vb6.mpr a),λj k a b=>absurd b (vb6.mpr a),λb vs q=>?_,λb o t q=>?_,λb o nb q=>?_⟩
  .rw[zac (ne_of q h0 (λz=>hn vs z.symm))];exact q
  .rw[zac (ne_of q h0 (λz=>hf o t z.symm))];exact q
  .rw[zac (nb i hi).symm];exact q
 refine⟨st,⟨λj hj=>?_,λa b ha hb=>r.inj a b ha hb,?_⟩⟩
 .have hj:j<h.n:=hj
  by_cases e:j=i
  .subst e;exact⟨o,zgj r hj,ho st⟩
  .obtain⟨o',h1,h2⟩:=r.obj j hj
   exact⟨o',(zbk hi e).trans h1,ORep.stp st (zac λz=>e (r.inj j i hj hi z)) h2⟩
 .show(h.os.set _ o).length=h.n
  rw[vdp,r.len]
theorem Rel.more(r:Rel K m h H){p:Addr}{u:HO}(hp:H p=none):Stp m h.n H m h.n (upd H p u)/\Rel K m h (upd H p u):=by
 have st:Stp m h.n H m h.n (upd H p u):=by
  refine⟨vaa _,λ_ _=>rfl,λj a b=>absurd b (vb6.mpr a),λj k a b=>absurd b (vb6.mpr a),λb vs q=>?_,λb o t q=>?_,λb o nb q=>?_⟩
  .rw[zac (zad q hp)];exact q
  .rw[zac (zad q hp)];exact q
  .rw[zac (zad q hp)];exact q
 refine⟨st,⟨λj hj=>?_,r.inj,r.len⟩⟩
 obtain⟨o',h1,h2⟩:=r.obj j hj
 obtain⟨u',h3⟩:=h2.some
 exact⟨o',h1,ORep.stp st (zac (zad h3 hp)) h2⟩
end
theorem zrh{α β:Type}{r:Res α}{f:α->VH->Res β}{b:β}{h':VH}(q:r.bind f=.ok b h'):∃a h1,r=.ok a h1/\f a h1=.ok b h':=by
 cases r with
 |ok a h=>exact⟨a,h,rfl,q⟩
 |ex x h=>cases q
 |no=>cases q
theorem zaa{α β:Type}{r:Res α}{f:α->VH->Res β}{w:β}{h':VH}{P:Prop}(e:r.bind f=.ok w h')(k:∀x h1,r=.ok x h1->f x h1=.ok w h'->P):P:=by
 obtain⟨x,h1,a,b⟩:=zrh e
 exact k x h1 a b
theorem of_ok{α:Type}{o:Option α}{h h':VH}{a:α}(q:Res.of o h=.ok a h'):o=some a/\h'=h:=by
 cases o with
 |none=>cases q
 |some b=>cases q;exact⟨rfl,rfl⟩
structure Fr(K:vga)(m:Nat->Addr)(n:Nat)(H:Hp)(σ:L2.St)(ρ:En):Prop where
 len:σ.length=ρ.length
 val:∀(i:Nat)(w:W),ρ[i]?=some (some w)->∃v,σ[i]?=some (some v)/\VRep K m n H v w
noncomputable abbrev FE:=En->VH->Res W
noncomputable abbrev FS:=En->VH->Res Fl
noncomputable def lft(K:vga)(f:FE):TE:=λσ H Q=>∃ρ h m w h',Fr K m h.n H σ ρ/\Rel K m h H/\f ρ h=.ok w h'/\
 ∀v H' m',Stp m h.n H m' h'.n H'->Rel K m' h' H'->VRep K m' h'.n H' v w->Q v H'
noncomputable def lftT(K:vga)(f:FE):TT:=λσ H Q=>∃ρ h m b h',Fr K m h.n H σ ρ/\Rel K m h H/\f ρ h=.ok (.bl b) h'/\
 ∀H' m',Stp m h.n H m' h'.n H'->Rel K m' h' H'->Q b H'
noncomputable def lftA(K:vga)(f:FE):TA:=λσ H Q=>∃ρ h m ws h',Fr K m h.n H σ ρ/\Rel K m h H/\f ρ h=.ok (.tup ws) h'/\
 ∀vs H' m',Stp m h.n H m' h'.n H'->Rel K m' h' H'->VReps K m' h'.n H' vs ws->Q vs H'
section
variable{K:vga}{m:Nat->Addr}{σ:L2.St}{H:Hp}{P:Prop}{fa:FE}{ρ:En}{h h':VH}
theorem lft.el{Q:VK}(q:lft K fa σ H Q)(k:∀ρ h m w h',Fr K m h.n H σ ρ->Rel K m h H->fa ρ h=.ok w h'->(∀v H' m',Stp m h.n H m' h'.n H'->Rel K m' h' H'->VRep K m' h'.n H' v w->Q v H')->P):P:=by
 obtain⟨ρ,h,m,w,h',f,r,e,k'⟩:=q
 exact k ρ h m w h' f r e k'
theorem lft.mk{Q:VK}{w:W}(f:Fr K m h.n H σ ρ)(r:Rel K m h H)(e:fa ρ h=.ok w h')(k:∀v H' m',Stp m h.n H m' h'.n H'->Rel K m' h' H'->VRep K m' h'.n H' v w->Q v H'):lft K fa σ H Q:=⟨ρ,h,m,w,h',f,r,e,k⟩
theorem lftT.el{Q:Bool->Hp->Prop}(q:lftT K fa σ H Q)(k:∀ρ h m b h',Fr K m h.n H σ ρ->Rel K m h H->fa ρ h=.ok (.bl b) h'->(∀H' m',Stp m h.n H m' h'.n H'->Rel K m' h' H'->Q b H')->P):P:=by
 obtain⟨ρ,h,m,w,h',f,r,e,k'⟩:=q
 exact k ρ h m w h' f r e k'
theorem lftT.mk{Q:Bool->Hp->Prop}{b:Bool}(f:Fr K m h.n H σ ρ)(r:Rel K m h H)(e:fa ρ h=.ok (.bl b) h')(k:∀H' m',Stp m h.n H m' h'.n H'->Rel K m' h' H'->Q b H'):lftT K fa σ H Q:=⟨ρ,h,m,b,h',f,r,e,k⟩
theorem lftA.el{Q:List V->Hp->Prop}(q:lftA K fa σ H Q)(k:∀ρ h m ws h',Fr K m h.n H σ ρ->Rel K m h H->fa ρ h=.ok (.tup ws) h'->(∀vs H' m',Stp m h.n H m' h'.n H'->Rel K m' h' H'->VReps K m' h'.n H' vs ws->Q vs H')->P):P:=by
 obtain⟨ρ,h,m,w,h',f,r,e,k'⟩:=q
 exact k ρ h m w h' f r e k'
theorem lftA.mk{Q:List V->Hp->Prop}{ws:List W}(f:Fr K m h.n H σ ρ)(r:Rel K m h H)(e:fa ρ h=.ok (.tup ws) h')(k:∀vs H' m',Stp m h.n H m' h'.n H'->Rel K m' h' H'->VReps K m' h'.n H' vs ws->Q vs H'):lftA K fa σ H Q:=⟨ρ,h,m,ws,h',f,r,e,k⟩
end
noncomputable abbrev SE(X:Cx)(e:Expr)(f:FE):Prop:=PE X e (lft X.K f)
noncomputable abbrev ST(X:Cx)(e:Expr)(f:FE):Prop:=PT X e (lftT X.K f)
noncomputable abbrev SW(X:Cx)(e:Expr)(f:FE):Prop:=PW X e (lftT X.K f)
noncomputable abbrev SA(X:Cx)(es:List Expr)(f:FE):Prop:=PA X es (lftA X.K f)
theorem _root_.L2.PE.imp{X:Cx}{e:Expr}{t t':TE}(h:PE X e t)(k:∀σ H Q,t' σ H Q->t σ H Q):PE X e t':=λpins s σ H Q I q=>h pins s σ H Q I (k σ H Q q)
theorem _root_.L2.PT.imp{X:Cx}{e:Expr}{t t':TT}(h:PT X e t)(k:∀σ H Q,t' σ H Q->t σ H Q):PT X e t':=λpins s σ H Q I q=>h pins s σ H Q I (k σ H Q q)
theorem _root_.L2.PW.imp{X:Cx}{e:Expr}{t t':TT}(h:PW X e t)(k:∀σ H Q,t' σ H Q->t σ H Q):PW X e t':=λwh pins s σ H Q I q=>h wh pins s σ H Q I (k σ H Q q)
theorem _root_.L2.PA.imp{X:Cx}{es:List Expr}{t t':TA}(h:PA X es t)(k:∀σ H Q,t' σ H Q->t σ H Q):PA X es t':=λp pins s σ H Q I q=>h p pins s σ H Q I (k σ H Q q)
theorem _root_.L2.PS.imp{X:Cx}{st:Stmt}{t t':TS}(h:PS X st t)(k:∀D σ H,t' D σ H->t D σ H):PS X st t':=λpins s σ H D I q=>h pins s σ H D I (k D σ H q)
theorem _root_.L2.PSs.imp{X:Cx}{st:List Stmt}{t t':TS}(h:PSs X st t)(k:∀D σ H,t' D σ H->t D σ H):PSs X st t':=λpins s σ H D I q=>h pins s σ H D I (k D σ H q)
section
variable{K:vga}{m m':Nat->Addr}{n n':Nat}{h h':VH}{H H':Hp}{σ:L2.St}{ρ:En}
theorem Fr.stp(f:Fr K m n H σ ρ)(s:Stp m n H m' n' H'):Fr K m' n' H' σ ρ:=⟨f.len,λi w e=>let⟨v,h1,h2⟩:=f.val i w e;⟨v,h1,h2.stp s⟩⟩
theorem Fr.set(f:Fr K m n H σ ρ){v:V}{w:W}(q:VRep K m n H v w)(i:Nat):Fr K m n H (σ.set i (some v)) (ρ.set i (some w)):=by
 refine⟨by rw[vdp,vdp];exact f.len,λj w' e=>?_⟩
 by_cases hj:i=j
 .subst hj
  by_cases hl:i<ρ.length
  .rw[vbx hl]at e
   cases e
   exact⟨v,by rw[vbx (by rw[f.len];exact hl)],q⟩
  .rw[vdu (by rw[vdp];lia)]at e;cases e
 .rw[vcw hj]at e
  obtain⟨v',h1,h2⟩:=f.val j w' e
  exact⟨v',by rw[vcw hj];exact h1,h2⟩
noncomputable def Wants(K:vga)(m:Nat->Addr)(n:Nat)(H:Hp)(w:W)(h':VH)(Q:VK):Prop:=∀v H' m',Stp m n H m' h'.n H'->Rel K m' h' H'->VRep K m' h'.n H' v w->Q v H'
theorem Wants.here{w:W}{Q:VK}(k:Wants K m h.n H w h Q)(r:Rel K m h H){v:V}(q:VRep K m h.n H v w):Q v H:=k v H m .refl r q
theorem Wants.list{ws:List W}{vs:List V}{Q:VK}(k:Wants K m h.n H (.ref h.n) (h.new (.lst ws)) Q)(r:Rel K m h H)(q:VReps K m h.n H vs ws){p:Addr}(hp:H p=none):Q (.ref p) (upd H p (.lst vs)):=by
 obtain⟨st,r'⟩:=r.alloc (o:=.lst ws) (u:=.lst vs) hp (λ_ z=>nomatch z) (λst=>⟨vs,zaf,q.stp st⟩)
 refine k _ _ _ st r' ?_
 have:VRep K (λi=>if i=h.n then p else m i) (h.n+1) (upd H p (.lst vs)) (.ref ((λi=>if i=h.n then p else m i) h.n)) (.ref h.n):=.ref (va4 _)
 simp only[vbe]at this
 exact this
theorem Wants.tuple{ws:List W}{vs:List V}{Q:VK}(k:Wants K m h.n H (.tup ws) h Q)(r:Rel K m h H)(q:VReps K m h.n H vs ws){p:Addr}(hp:H p=none):Q (.ref p) (upd H p (.tup vs)):=by
 obtain⟨st,r'⟩:=r.more (u:=.tup vs) hp
 exact k _ _ _ st r' (.tup (SqT.of zaf) (q.stp st))
theorem zpf{fa:FE}{g:W->VH->Res W}{G:V->Hp->VK->Prop}
 (hG:∀(m:Nat->Addr)(h:VH)(H:Hp)(v:V)(x w:W)(h':VH)(Q:VK),Rel K m h H->VRep K m h.n H v x->g x h=.ok w h'->Wants K m h.n H w h' Q->G v H Q) {Q:VK}
 (q:lft K (λρ h=>(fa ρ h).bind λx h=>g x h) σ H Q):lft K fa σ H λv H1=>G v H1 Q:=by
 refine q.el λρ h m w h' f r e k=>?_
 refine zaa e λx h1 e1 e2=>?_
 exact(.mk f r e1 λv H1 m1 s1 r1 q1=>hG m1 h1 H1 v x w h' Q r1 q1 e2 λv' H' m' s' r' q'=>k v' H' m' (s1.trans s') r' q')
theorem zfh{fa fb:FE}{g:W->W->VH->Res W}{G:V->V->Hp->VK->Prop}
 (hG:∀(m:Nat->Addr)(h:VH)(H:Hp)(v u:V)(x y w:W)(h':VH)(Q:VK),Rel K m h H->VRep K m h.n H v x->VRep K m h.n H u y->g x y h=.ok w h'->Wants K m h.n H w h' Q->G v u H Q) {Q:VK}
 (q:lft K (λρ h=>(fa ρ h).bind λx h=>(fb ρ h).bind λy h=>g x y h) σ H Q):lft K fa σ H λv H1=>lft K fb σ H1 λu H2=>G v u H2 Q:=by
 refine q.el λρ h m w h' f r e k=>?_
 refine zaa e λx h1 e1 e2=>?_
 refine zaa e2 λy h2 e3 e4=>?_
 refine(.mk f r e1 λv H1 m1 s1 r1 q1=>(.mk (f.stp s1) r1 e3 λu H2 m2 s2 r2 q2=>?_))
 exact hG m2 h2 H2 v u x y w h' Q r2 (q1.stp s2) q2 e4 λv' H' m' s' r' q'=>k v' H' m' ((s1.trans s2).trans s') r' q'
theorem zda{fa:FE}{g:List W->VH->Res W}{G:List V->Hp->VK->Prop}
 (hG:∀(m:Nat->Addr)(h:VH)(H:Hp)(vs:List V)(xs:List W)(w:W)(h':VH)(Q:VK),Rel K m h H->VReps K m h.n H vs xs->g xs h=.ok w h'->Wants K m h.n H w h' Q->G vs H Q) {Q:VK}
 (q:lft K (λρ h=>(fa ρ h).bind λy h=>match y with|.tup ys=>g ys h|_=>.no) σ H Q):lftA K fa σ H λvs H1=>G vs H1 Q:=by
 refine q.el λρ h m w h' f r e k=>?_
 refine zaa e λx h1 e1 e2=>?_
 cases x with
 |tup ys=>exact(.mk f r e1 λvs H1 m1 s1 r1 q1=>hG m1 h1 H1 vs ys w h' Q r1 q1 e2 λv' H' m' s' r' q'=>k v' H' m' (s1.trans s') r' q')
 |_=>cases e2
theorem zif{f:FE}{Q:Bool->Hp->Prop}(q:lftT K f σ H Q):lft K f σ H λx H'=>∃k,x=.bl k/\Q k H':=by
 refine q.el λρ h m b h' f r e k=>?_
 exact(.mk f r e λv H' m' s' r' q'=>by cases q';exact⟨b,rfl,k H' m' s' r'⟩)
end
section
variable{X:Cx}{a b c e:Expr}{es:List Expr}{fa fb fc:FE}{pos:Pos}
theorem zuz{i:Nat}{x:Str}{pos:Pos}(hN:X.N[i]?=some x)(hv:Vis X.env.scope x)(hd:(x==("__debug__" : Str))=false)(hcd:(x==("__classdict__" : Str))=false):SE X (.Name x pos) (λρ h=>.of (ρ[i]?).join h):=
 (zs7 hN hv hd hcd).imp λσ H Q z9=>z9.el λρ h m w h' f r e k=>by
   obtain⟨e1,e2⟩:=of_ok e
   subst e2
   have e3:ρ[i]?=some (some w):=by
    cases q:ρ[i]? with
    |none=>rw[q]at e1;cases e1
    |some o=>rw[q]at e1;rw[<-e1];rfl
   obtain⟨v,h1,h2⟩:=f.val i w e3
   exact⟨v,h1,k v H m .refl r h2⟩
theorem zgk{w:W}{v:V}(h:PE X e (tC v))(hv:∀m n H,VRep X.K m n H v w):SE X e (λ_ h=>.ok w h):=
 h.imp λσ H Q z9=>z9.el λρ h m w h' f r e k=>by cases e;exact k v H m .refl r (hv m h.n H)
theorem zu0{i j pos}:SE X (.Constant (.int i) j pos) (λ_ h=>.ok (.int i) h):=zgk zs8 λ_ _ _=>.int i
theorem se_bl{i j pos}:SE X (.Constant (.bool i) j pos) (λ_ h=>.ok (.bl i) h):=zgk pe_bl λ_ _ _=>.bl i
theorem zu1{j pos}:SE X (.Constant .none j pos) (λ_ h=>.ok .non h):=zgk zs9 λ_ _ _=>.non
theorem zu2{i j pos}:SE X (.Constant (.str i) j pos) (λ_ h=>.ok (.str i) h):=zgk zta λ_ _ _=>.str i
theorem zlb:SA X [] (λ_ h=>.ok (.tup []) h):=zhz.imp λσ H Q z9=>z9.el λρ h m ws h' f r e k=>by cases e;exact k [] H m .refl r .nil
theorem zfi(ha:SE X e fa)(hr:SA X es fb)(hs:starEach (e::es) X.env=(false,eval e X.env)::starEach es X.env) :
 SA X (e::es) (λρ h=>(fa ρ h).bind λx h=>(fb ρ h).bind λy h=>match y with|.tup ys=>.ok (.tup (x::ys)) h|_=>.no):=
 (zdy ha hr hs).imp λσ H Q z9=>z9.el λρ h m ws h' f r e k=>by
   refine zaa e λx h1 e1 e2=>?_
   refine zaa e2 λy h2 e3 e4=>?_
   cases y with
   |tup ys=>
    cases e4
    exact(.mk f r e1 λv H1 m1 s1 r1 q1=>(.mk (f.stp s1) r1 e3 λvs H2 m2 s2 r2 q2=>k _ H2 m2 (s1.trans s2) r2 (.cons (q1.stp s2) q2)))
   |_=>cases e4
theorem zpg{k:Nat}(h:Nat.ble k 1000=true):k<=sizeLine:=vdf (zge (va2 h))
theorem zu3{x1:Nat}(ha:SA X es fa):SE X (.Tuple es x1 pos) (λρ h=>(fa ρ h).bind λy h=>match y with|.tup ys=>(if Nat.ble ys.length 1000 then .ok (.tup ys) h else .no)|_=>.no):=
 (zt2 ha).imp λσ H Q q=>zda (g:=λys h=>if Nat.ble ys.length 1000 then .ok (.tup ys) h else .no) (G:=λxs H1 Q=>xs.length<=sizeLine/\∀p,H1 p=none->Q (.ref p) (upd H1 p (.tup xs)))
   (λm h H vs xs w h' Q r q e k=>by
     split at e
     .rename_i hl
      cases e
      exact⟨by rw[q.length];exact zpg hl,λp hp=>Wants.tuple k r q hp⟩
     .cases e) q
theorem zu4(ha:SA X es fa):SE X (.List es pos) (λρ h=>(fa ρ h).bind λy h=>match y with|.tup ys=>(if Nat.ble ys.length 1000 then .ok (.ref h.n) (h.new (.lst ys))else .no)|_=>.no):=
 (zt3 ha).imp λσ H Q q=>zda (g:=λys h=>if Nat.ble ys.length 1000 then .ok (.ref h.n) (h.new (.lst ys))else .no) (G:=λxs H1 Q=>xs.length<=sizeLine/\∀p,H1 p=none->Q (.ref p) (upd H1 p (.lst xs)))
   (λm h H vs xs w h' Q r q e k=>by
     split at e
     .rename_i hl
      cases e
      exact⟨by rw[q.length];exact zpg hl,λp hp=>Wants.list k r q hp⟩
     .cases e) q
noncomputable def OpV(K:vga)(r:R2)(g:W->W->VH->Res W):Prop:=∀(m:Nat->Addr) (h:VH) (H:Hp) (v u:V) (x y w:W) (h':VH) (Q:VK),Rel K m h H->VRep K m h.n H v x->VRep K m h.n H u y->g x y h=.ok w h'->Wants K m h.n H w h' Q->r v u H Q
theorem se_op{O:Operator}{r:R2}{g:W->W->VH->Res W}(ho:OpR X (binaryOp O) r)(hg:OpV X.K r g)(ha:SE X a fa)(hb:SE X b fb):SE X (.BinOp a O b pos) (λρ h=>(fa ρ h).bind λx h=>(fb ρ h).bind λy h=>g x y h):=
 (pe_op ho ha hb).imp λσ H Q q=>zfh (G:=r) hg q
noncomputable def opOf:Operator->Option Op
 |.Add=>some .add|.Sub=>some .sub|.Mult=>some .mul|.FloorDiv=>some .fdiv|.Mod=>some .mod|.LShift=>some .shl|.Pow=>some .pow
 |_=>none
noncomputable def cI:Op->Int->Int->Prop
 |.mul=>CMul|.fdiv=>CDiv|.mod=>λ_ j=>0<j|.shl=>CPow|.pow=>CPow
 |_=>λ_ _=>True
noncomputable def gI:Op->Int->Int->Int
 |.add=>(· + ·)|.sub=>(· - ·)|.mul=>(· * ·)|.fdiv=>(· / ·)|.mod=>(· % ·)|.shl=>λi j=>i*2 ^ j.toNat|.pow=>λi j=>i ^ j.toNat
noncomputable def rX(K:vga):Op->R2
 |.add=>λx y H Q=>rCatT K x y H Q\/zo1 K x y H Q\/rCat x y H Q
 |.mul=>λx y H Q=>rRepT K x y H Q
 |_=>λ_ _ _ _=>False
noncomputable def rB(K:vga)(o:Op):R2:=λx y H Q=>rI (cI o) (λi j=>.int (gI o i j)) x y H Q\/rX K o x y H Q
theorem zci{f:Value->Value->Sem Value}{r r':R2}(h:OpR X f r)(k:∀x y H Q,r' x y H Q->r x y H Q):OpR X f r':=λpins s σ H x y v u Q I rx ry q=>h pins s σ H x y v u Q I rx ry (k _ _ _ _ q)
theorem op_ok{O:Operator}{o:Op}(e:opOf O=some o):OpR X (binaryOp O) (rB X.K o):=by
 have tr:∀{g:Int->Int->V}{x y H Q},rI (λ_ _=>True) g x y H Q->rI0 g x y H Q:=λ⟨i,j,h1,h2,_,h3⟩=>⟨i,j,h1,h2,h3⟩
 cases O<;>cases e
 .exact zci (ztt.or (zqx.or (znt.or zt9))) λx y H Q q=>q.elim (λz=>.inl (tr z)) .inr
 .exact zci ztu λx y H Q q=>q.elim (λz=>tr z) λz=>z.elim
 .exact zci (ztv.or zq8) λx y H Q q=>q
 .exact zci ztw λx y H Q q=>q.elim id λz=>z.elim
 .exact zci ztx λx y H Q q=>q.elim id λz=>z.elim
 .exact zci zty λx y H Q q=>q.elim id λz=>z.elim
 .exact zci zqo λx y H Q q=>q.elim id λz=>z.elim
theorem zea{i:Int}(h:za4 i=true):-(2 ^ 64)<i/\i<2 ^ 64:=by
 unfold za4 at h
 rw[vab]at h
 exact⟨va6 h.1,va6 h.2⟩
theorem zlc{o:Op}{i j z:Int}(e:opI o i j=some z):cI o i j/\z=gI o i j:=by
 cases o<;>simp only[opI]at e
 .cases e;exact⟨trivial,rfl⟩
 .cases e;exact⟨trivial,rfl⟩
 .split at e
  .rename_i hc
   cases e
   rw[vcp]at hc
   exact⟨hc.elim (λq=>.inl (zea q)) (λq=>.inr (zea q)),rfl⟩
  .cases e
 .split at e
  .rename_i hc
   cases e
   rw[vab]at hc
   exact⟨⟨va6 hc.1,va6 hc.2⟩,rfl⟩
  .cases e
 .split at e
  .rename_i hc
   cases e
   exact⟨(va6 hc:0<j),rfl⟩
  .cases e
 .split at e
  .rename_i hc
   cases e
   rw[vab,vab]at hc
   exact⟨⟨va6 hc.1.1,va6 hc.1.2,va6 hc.2⟩,rfl⟩
  .cases e
 .split at e
  .rename_i hc
   cases e
   rw[vab,vab]at hc
   exact⟨⟨va6 hc.1.1,va6 hc.1.2,va6 hc.2⟩,rfl⟩
  .cases e
theorem zcj{i:Int}(h:fits i=true):-(2 ^ 62)<=i/\i<2 ^ 62:=by
 unfold fits at h
 rw[vab]at h
 exact⟨va6 h.1,va6 h.2⟩
theorem zri{o:Op}{xs zs:List W}{k:Int}(e:repW o xs k=some zs):o=.mul/\(-(2 ^ 62)<=k/\k<2 ^ 62)/\xs.length*k.toNat<=sizeLine/\zs=(vgc k.toNat xs).flatten:=by
 unfold repW at e
 split at e
 .split at e
  .rename_i hc
   cases e
   rw[vab]at hc
   exact⟨rfl,zcj hc.1,va2 hc.2,rfl⟩
  .cases e
 .cases e
theorem VReps.rep{K:vga}{m:Nat->Addr}{n:Nat}{H:Hp}{vs:List V}{ws:List W}(q:VReps K m n H vs ws):∀k:Nat,VReps K m n H (vgc k vs).flatten (vgc k ws).flatten
 |0=>.nil
 |k+1=>by
  rw[vcc,vcc,vc0,vc0]
  exact q.append (VReps.rep q k)
theorem zhg{K:vga}{m:Nat->Addr}{n:Nat}{H:Hp}{vs:List V}{ws:List W}(q:VReps K m n H vs ws):vs.isEmpty=ws.isEmpty:=by cases q<;>rfl
theorem znw{ws:List W}{k:Int}(h:(ws.isEmpty||k==1)=true):(vgc k.toNat ws).flatten=ws:=by
 rw[vcp]at h
 rcases h with h|h
 .have:ws=[]:=by simpa using h
  subst this
  induction k.toNat with
  |zero=>rfl
  |succ j ih=>rw[vcc,vc0,ih];rfl
 .have:k=1:=by simpa using h
  subst this
  show(vgc 1 ws).flatten=ws
  simp
theorem zu5{K:vga}(o:Op):OpV K (rB K o) (opW o):=by
 intro m h H v u x y w h' Q r qv qu e k
 unfold opW at e
 split at e
 .rename_i i j
  obtain⟨e,rfl⟩:=of_ok e
  cases qv;cases qu
  cases q:opI o i j with
  |none=>rw[q]at e;cases e
  |some z=>
   rw[q]at e;cases e
   obtain⟨h1,rfl⟩:=zlc q
   exact .inl ⟨i,j,rfl,rfl,h1,Wants.here k r (.int _)⟩
 .rename_i xs ys
  obtain⟨e,rfl⟩:=of_ok e
  cases q:opT o xs ys with
  |none=>rw[q]at e;cases e
  |some zs=>
   rw[q]at e;cases e
   cases o<;>simp only[opT]at q
   split at q
   .rename_i hc
    cases q
    cases qv with
    |tup qa ra=>
     cases qu with
     |tup qb rb=>
      rename_i a va b vb
      have hl:=va2 hc
      cases xs with
      |nil=>
       cases ra
       exact .inr (.inr (.inl ⟨a,b,vb,rfl,rfl,qa,qb,Wants.here k r (.tup qb rb)⟩))
      |cons x0 xs0=>
       refine .inr (.inl ⟨a,b,va,vb,rfl,rfl,qa,qb,λz=>?_,by rw[ra.length,rb.length];exact hl,λz=>?_,λ_ p hp=>Wants.tuple k r (ra.append rb) hp⟩)
       .subst z;cases ra
       .subst z;cases rb
        rw[vbp]at k
        exact Wants.here k r (.tup qa ra)
   .cases q
   all_goals cases q
 .rename_i xs kk
  obtain⟨e,rfl⟩:=of_ok e
  cases q:repW o xs kk with
  |none=>rw[q]at e;cases e
  |some zs=>
   rw[q]at e;cases e
   obtain⟨rfl,⟨k1,k2⟩,hz,rfl⟩:=zri q
   cases qu
   cases qv with
   |tup qa ra=>
    rename_i a va
    refine .inr ⟨a,kk,va,rfl,rfl,qa,k1,k2,by rw[ra.length];exact hz,λz=>?_,λz p hp=>Wants.tuple k r (ra.rep _) hp⟩
    rw[zhg ra]at z
    rw[znw z]at k
    exact Wants.here k r (.tup qa ra)
 .rename_i i j
  split at e
  .rename_i xs ys hx hy
   split at e
   .rename_i zs q
    cases e
    cases o<;>simp only[opL]at q
    split at q
    .rename_i hc
     cases q
     obtain⟨va,pa,ra⟩:=r.lst hx
     obtain⟨vb,pb,rb⟩:=r.lst hy
     cases qv;cases qu
     exact .inr (.inr (.inr ⟨m i,m j,va,vb,rfl,rfl,pa,pb,by rw[ra.length,rb.length];exact va2 hc,λp hp=>Wants.list k r (ra.append rb) hp⟩))
    .cases q
    all_goals cases q
   .cases e
  .cases e
 .cases e
end
section
variable{K:vga}{m:Nat->Addr}{h:VH}{H:Hp}
theorem zgl{f:W->Option PyData}(ih:∀(w:W) (d:PyData) (v:V),f w=some d->VRep K m h.n H v w->Rp K (λ_=>False) H v d):∀{ws:List W} {ds:List PyData} {vs:List V},mapO f ws=some ds->VReps K m h.n H vs ws->Rps K (λ_=>False) H vs ds
 |[],ds,_,e,.nil=>by cases e;exact .nil
 |w::ws,ds,_,e,.cons q r=>by
  unfold mapO at e
  split at e
  .rename_i d hd
   split at e
   .rename_i bs hb
    cases e
    exact .cons (ih w d _ hd q) (zgl ih hb r)
   .cases e
  .cases e
theorem rp_of(r:Rel K m h H):∀(n:Nat) (w:W) (d:PyData) (v:V),toD h n w=some d->VRep K m h.n H v w->Rp K (λ_=>False) H v d
 |0,_,_,_,e,_=>by cases e
 |n+1,w,d,v,e,q=>by
  cases q with
  |non=>cases e;exact .non
  |bl b=>cases e;exact .bl b
  |int b=>cases e;exact .int b
  |str b=>cases e;exact .str b
  | @tup a vs ws sq rs=>
   simp only[toD]at e
   cases z:mapO (toD h n) ws with
   |none=>rw[z]at e;cases e
   |some ds=>rw[z]at e;cases e;exact .tup sq (λz=>z) (zgl (rp_of r n) z rs)
  | @fz a vs ws sq rs=>
   simp only[toD]at e
   cases z:mapO (toD h n) ws with
   |none=>rw[z]at e;cases e
   |some ds=>rw[z]at e;cases e;exact .lst sq.sq (λz=>z) (zgl (rp_of r n) z rs)
  | @ref i hi=>
   simp only[toD]at e
   cases g:h.get i with
   |none=>rw[g]at e;cases e
   |some o=>
    rw[g]at e
    cases o with
    |dk _=>cases e
    |dm _=>cases e
    |lst ws=>
     obtain⟨vs,h1,h2⟩:=r.lst g
     simp only at e
     cases z:mapO (toD h n) ws with
     |none=>rw[z]at e;cases e
     |some ds=>rw[z]at e;cases e;exact .lst (SqL.of h1) (λz=>z) (zgl (rp_of r n) z h2)
theorem zph(r:Rel K m h H){x y:W}{v u:V}{b:Bool}(e:eqW h x y=some b)(qv:VRep K m h.n H v x)(qu:VRep K m h.n H u y) :
 ∃d e',Rp K (λ_=>False) H v d/\Rp K (λ_=>False) H u e'/\SeqAt.shaped d=true/\SeqAt.shaped e'=true/\b=PyData.eqv d e':=by
 unfold eqW at e
 split at e
 .rename_i d e' h1 h2
  split at e
  .rename_i hc
   cases e
   rw[vab]at hc
   exact⟨d,e',rp_of r _ _ _ _ h1 qv,rp_of r _ _ _ _ h2 qu,hc.1,hc.2,rfl⟩
  .cases e
 .cases e
end
theorem zdb{K:vga}{m:Nat->Addr}{h:VH}{H:Hp}{v:V}{w:W}{ws:List W}(r:Rel K m h H)(q:VRep K m h.n H v w)(e:seqW h w=some ws):∃p vs,v=.ref p/\(SqL K H p vs\/SqT K H p vs)/\VReps K m h.n H vs ws:=by
 cases q<;>try cases e
 .exact⟨_,_,rfl,.inr ‹_›,‹_›⟩
 .rename_i q _;exact⟨_,_,rfl,.inl q.sq,‹_›⟩
 .rename_i i hi
  simp only[seqW]at e
  cases g:h.get i with
  |none=>rw[g]at e;cases e
  |some o=>
   rw[g]at e
   cases o with
   |dk _=>cases e
   |dm _=>cases e
   |lst ws=>
    cases e
    obtain⟨vs,h1,h2⟩:=r.lst g
    exact⟨_,vs,rfl,.inl (SqL.of h1),h2⟩
theorem zpi{K:vga}{m:Nat->Addr}{h:VH}{H:Hp}(r:Rel K m h H){x y:W}{v u:V}{b:Bool}(e:inW h x y=some b)(qv:VRep K m h.n H v x)(qu:VRep K m h.n H u y) :
 (∃p vs ds d,u=.ref p/\(SqL K H p vs\/SqT K H p vs)/\Rps K (λ_=>False) H vs ds/\Rp K (λ_=>False) H v d/\ds.all SeqAt.shaped=true/\SeqAt.shaped d=true/\b=anyEq ds d):=by
 unfold inW at e
 split at e
 .rename_i ws d h1 h2
  split at e
  .rename_i ds h3
   split at e
   .rename_i hc
    cases e
    rw[vab]at hc
    obtain⟨p,vs,rfl,h4,h5⟩:=zdb r qu h1
    exact⟨p,vs,ds,d,rfl,h4,zgl (rp_of r 24) h3 h5,rp_of r _ _ _ _ h2 qv,hc.1,hc.2,rfl⟩
   .cases e
  .cases e
 .cases e
noncomputable def cpOf:CmpOp->Option Cp
 |.Eq=>some .eq|.NotEq=>some .ne|.Lt=>some .lt|.LtE=>some .le|.Gt=>some .gt|.GtE=>some .ge|.Is=>some .isn|.IsNot=>some .notn|.In=>some .inn|.NotIn=>some .nin
noncomputable def rC(K:vga):Cp->R2
 |.eq=>rEqD K
 |.ne=>rNeD K
 |.lt=>rI0 λi j=>.bl (decide (i<j))
 |.le=>rI0 λi j=>.bl (decide (i<=j))
 |.gt=>rI0 λi j=>.bl (decide (j<i))
 |.ge=>rI0 λi j=>.bl (decide (j<=i))
 |.isn=>λx y H Q=>(y=.non/\Q (.bl (decide (x=.non))) H)\/∃c b,x=.bl c/\y=.bl b/\Q (.bl (c==b)) H
 |.notn=>λx y H Q=>(y=.non/\Q (.bl (!decide (x=.non))) H)\/∃c b,x=.bl c/\y=.bl b/\Q (.bl (!(c==b))) H
 |.inn=>λx y H Q=>rInD K false x y H Q
 |.nin=>λx y H Q=>rInD K true x y H Q
noncomputable def zcd:Expr->Bool
 |.Set ..=>false
 |_=>true
theorem zhh{op:CmpOp}{b:Expr}(h:zcd b=true):behindInMarks op b=false:=by
 cases b<;>first|rfl|cases h
section
variable{X:Cx}{a b c e:Expr}{es:List Expr}{fa fb fc:FE}{pos:Pos}
theorem zu6:OpR X (compareOp .Is) (λx y H Q=>∃c b,x=.bl c/\y=.bl b/\Q (.bl (c==b)) H):=by
 intro pins s σ H x y v u Q I rx ry h
 obtain⟨c,b,rfl,rfl,q⟩:=h
 cases rx;cases ry
 exact wpAny_is_plain rfl (zhy I q (by cases c<;>cases b<;>rfl))
theorem zld:OpR X (compareOp .IsNot) (λx y H Q=>∃c b,x=.bl c/\y=.bl b/\Q (.bl (!(c==b))) H):=by
 intro pins s σ H x y v u Q I rx ry h
 obtain⟨c,b,rfl,rfl,q⟩:=h
 cases rx;cases ry
 exact wpAny_isNot_plain rfl (zhy I q (by cases c<;>cases b<;>rfl))
theorem zet(hu:X.A.units+65<cLine){O:CmpOp}{c:Cp}(e:cpOf O=some c):OpR X (compareOp O) (rC X.K c):=by
 cases O<;>cases e
 .exact zua (by lia)
 .exact zub (by lia)
 .exact op_lt
 .exact op_le
 .exact op_gt
 .exact op_ge
 .exact zt0.or zu6
 .exact zqq.or zld
 .exact zuh (by show X.A.units+1+64<cLine;lia)
 .exact zkx (by show X.A.units+1+64<cLine;lia)
theorem zdu{K:vga}{m:Nat->Addr}{n:Nat}{H:Hp}{v:V}{w:W}(q:VRep K m n H v w):isNon w=decide (v=.non):=by
 cases q<;>simp[isNon]
theorem zfj{K:vga}(c:Cp):OpV K (rC K c) (λx y h=>.of ((cmpW c h x y).map .bl) h):=by
 intro m h H v u x y w h' Q r qv qu e k
 obtain⟨e,rfl⟩:=of_ok e
 cases z:cmpW c h' x y with
 |none=>rw[z]at e;cases e
 |some b=>
  rw[z]at e;cases e
  have fin:Q (.bl b) H:=Wants.here k r (.bl b)
  unfold cmpW at z
  split at z
  .obtain⟨p,vs,ds,d,h1,h2,h3,h4,h5,h6,rfl⟩:=zpi r z qv qu
   exact⟨p,vs,ds,d,h1,h2,h3,h4,h5,h6,fin⟩
  .cases z2:inW h' x y with
   |none=>rw[z2]at z;cases z
   |some b2=>
    rw[z2]at z;cases z
    obtain⟨p,vs,ds,d,h1,h2,h3,h4,h5,h6,rfl⟩:=zpi r z2 qv qu
    exact⟨p,vs,ds,d,h1,h2,h3,h4,h5,h6,fin⟩
  .obtain⟨d,e',h1,h2,h3,h4,rfl⟩:=zph r z qv qu
   exact⟨d,e',h1,h2,h3,h4,fin⟩
  .cases z2:eqW h' x y with
   |none=>rw[z2]at z;cases z
   |some b2=>
    rw[z2]at z;cases z
    obtain⟨d,e',h1,h2,h3,h4,rfl⟩:=zph r z2 qv qu
    exact⟨d,e',h1,h2,h3,h4,fin⟩
  .split at z
   .rename_i hn
    cases z
    have:=zdu qu
    rw[hn]at this
    refine .inl ⟨va6 this.symm,?_⟩
    rw[<-zdu qv];exact fin
   .unfold isB at z
    split at z
    .rename_i c b
     cases z
     cases qv;cases qu
     exact .inr ⟨_,_,rfl,rfl,fin⟩
    .cases z
  .split at z
   .rename_i hn
    cases z
    have:=zdu qu
    rw[hn]at this
    refine .inl ⟨va6 this.symm,?_⟩
    rw[<-zdu qv];exact fin
   .cases z2:isB x y with
    |none=>rw[z2]at z;cases z
    |some b2=>
     rw[z2]at z;cases z
     unfold isB at z2
     split at z2
     .rename_i c b
      cases z2
      cases qv;cases qu
      exact .inr ⟨_,_,rfl,rfl,fin⟩
     .cases z2
  .split at z
   .rename_i i j
    cases qv;cases qu
    cases c<;>simp only[cmpI]at z<;>cases z<;>exact⟨i,j,rfl,rfl,fin⟩
   .cases z
theorem zu7(hu:X.A.units+65<cLine){O:CmpOp}{c:Cp}(e:cpOf O=some c)(hs:zcd b=true)(ha:SE X a fa)(hb:SE X b fb) :
 SE X (.Compare a [O] [b] pos) (λρ h=>(fa ρ h).bind λx h=>(fb ρ h).bind λy h=>.of ((cmpW c h x y).map .bl) h):=
 (zqr (zet hu e) ha hb (zhh hs)).imp λσ H Q q=>zfh (G:=rC X.K c) (zfj c) q
theorem zu8(hu:X.A.units+65<cLine){O:CmpOp}{c:Cp}(e:cpOf O=some c)(hs:zcd b=true)(ha:SE X a fa)(hb:SE X b fb) :
 ST X (.Compare a [O] [b] pos) (λρ h=>(fa ρ h).bind λx h=>(fb ρ h).bind λy h=>.of ((cmpW c h x y).map .bl) h):=
 (zqs (zet hu e) ha hb (zhh hs)).imp λσ H Q q=>zfh (G:=rC X.K c) (zfj c) (zif q)
theorem lm2{O O':CmpOp}{a b:Expr}(h:zcd b=true):lastMarks [O,O'] [a,b]=false:=zhh h
theorem zgm{K:vga}{c1 c2:Cp}{σ:L2.St}{H:Hp}{Q:VK}
 (q:lft K (λρ h=>(fa ρ h).bind λx h=>(fb ρ h).bind λy h=>match cmpW c1 h x y with
   |some true=>(fc ρ h).bind λz h=>.of ((cmpW c2 h y z).map .bl) h
   |some false=>.ok (.bl false) h
   |none=>.no) σ H Q):zkd (rC K c1) (rC K c2) (lft K fa) (lft K fb) (lft K fc) σ H Q:=by
 refine q.el λρ h m w h' f r e k=>?_
 refine zaa e λx h1 e1 e2=>?_
 refine zaa e2 λy h2 e3 e4=>?_
 refine(.mk f r e1 λv H1 m1 s1 r1 q1=>(.mk (f.stp s1) r1 e3 λu H2 m2 s2 r2 q2=>?_))
 have f2:=(f.stp s1).stp s2
 have k2:Wants K m2 h2.n H2 w h' Q:=λv' H' m' s' r' q'=>k v' H' m' ((s1.trans s2).trans s') r' q'
 cases z:cmpW c1 h2 x y with
 |none=>rw[z]at e4;cases e4
 |some b=>
  rw[z]at e4
  refine zfj c1 m2 h2 H2 v u x y (.bl b) h2 _ r2 (q1.stp s2) q2 (by show Res.of ((cmpW c1 h2 x y).map W.bl) h2=_;rw[z];rfl) λv3 H3 m3 s3 r3 q3=>?_
  cases q3
  refine⟨b,rfl,?_⟩
  cases b with
  |true=>
   refine zaa e4 λz' h4 e5 e6=>?_
   rw[if_pos rfl]
   refine⟨ρ,h2,m3,z',h4,f2.stp s3,r3,e5,λv4 H4 m4 s4 r4 q4=>?_⟩
   exact zfj c2 m4 h4 H4 u v4 y z' w h' Q r4 ((q2.stp s3).stp s4) q4 e6 λv' H' m' s' r' q'=>k2 v' H' m' ((s3.trans s4).trans s') r' q'
  |false=>
   cases e4
   simp only[vam,vbi]
   exact k2 _ H3 m3 s3 r3 (.bl false)
theorem zu9(hu:X.A.units+65<cLine){O O':CmpOp}{c1 c2:Cp}(e:cpOf O=some c1)(e':cpOf O'=some c2)(hs:zcd c=true)(ha:SE X a fa)(hb:SE X b fb)(hc:SE X c fc) :
 SE X (.Compare a [O,O'] [b,c] pos) (λρ h=>(fa ρ h).bind λx h=>(fb ρ h).bind λy h=>match cmpW c1 h x y with
  |some true=>(fc ρ h).bind λz h=>.of ((cmpW c2 h y z).map .bl) h
  |some false=>.ok (.bl false) h
  |none=>.no):=(zna (zet hu e) (zet hu e') ha hb hc (lm2 hs)).imp λσ H Q q=>zgm q
theorem zva(hu:X.A.units+65<cLine){O O':CmpOp}{c1 c2:Cp}(e:cpOf O=some c1)(e':cpOf O'=some c2)(hs:zcd c=true)(ha:SE X a fa)(hb:SE X b fb)(hc:SE X c fc) :
 ST X (.Compare a [O,O'] [b,c] pos) (λρ h=>(fa ρ h).bind λx h=>(fb ρ h).bind λy h=>match cmpW c1 h x y with
  |some true=>(fc ρ h).bind λz h=>.of ((cmpW c2 h y z).map .bl) h
  |some false=>.ok (.bl false) h
  |none=>.no):=(znb (zet hu e) (zet hu e') ha hb hc (lm2 hs)).imp λσ H Q q=>zgm (zif q)
noncomputable abbrev gNot(fa:FE):FE:=λρ h=>(fa ρ h).bind λx h=>match x with|.bl b=>.ok (.bl (!b)) h|_=>.no
noncomputable abbrev gAnd(fa fb:FE):FE:=λρ h=>(fa ρ h).bind λx h=>match x with|.bl true=>fb ρ h|.bl false=>.ok (.bl false) h|_=>.no
noncomputable abbrev gOr(fa fb:FE):FE:=λρ h=>(fa ρ h).bind λx h=>match x with|.bl true=>.ok (.bl true) h|.bl false=>fb ρ h|_=>.no
noncomputable abbrev gIte(fa fb fc:FE):FE:=λρ h=>(fa ρ h).bind λx h=>match x with|.bl true=>fb ρ h|.bl false=>fc ρ h|_=>.no
variable{rest:List Expr}
theorem zvb(ha:ST X a fa):ST X (.UnaryOp .Not a pos) (gNot fa):=(ztd ha).imp λσ H Q z9=>z9.el λρ h m b h' f r e k=>by
 refine zaa e λx h1 e1 e2=>?_
 cases x<;>try cases e2
 rename_i b
 exact(.mk f r e1 λH' m' s' r'=>k H' m' s' r')
theorem zvc(ha:SE X a fa):SE X (.UnaryOp .Not a pos) (gNot fa):=(ztg ha).imp λσ H Q z9=>z9.el λρ h m b h' f r e k=>by
 refine zaa e λx h1 e1 e2=>?_
 cases x<;>try cases e2
 rename_i b
 exact(.mk f r e1 λv H' m' s' r' q=>by cases q;exact⟨b,rfl,k _ H' m' s' r' (.bl _)⟩)
theorem zpj{op:BoolOp}(ha:ST X a fa):SW X (.BoolOp op [a] pos) fa:=by
 cases op
 .exact zqi ha
 .exact ztb ha
theorem zvd(ha:ST X a fa)(hb:SW X (.BoolOp .And (b::rest) pos) fb):SW X (.BoolOp .And (a::b::rest) pos) (gAnd fa fb):=(ztc ha hb).imp λσ H Q z9=>z9.el λρ h m b h' f r e k=>by
 refine zaa e λx h1 e1 e2=>?_
 cases x<;>try cases e2
 rename_i c
 refine(.mk f r e1 λH1 m1 s1 r1=>?_)
 cases c with
 |true=>rw[if_pos rfl];exact(.mk (f.stp s1) r1 e2 λH' m' s' r'=>k H' m' (s1.trans s') r')
 |false=>cases e2;simp only[vam,vbi];exact k H1 m1 s1 r1
theorem sw_or(ha:ST X a fa)(hb:SW X (.BoolOp .Or (b::rest) pos) fb):SW X (.BoolOp .Or (a::b::rest) pos) (gOr fa fb):=(pw_or ha hb).imp λσ H Q z9=>z9.el λρ h m b h' f r e k=>by
 refine zaa e λx h1 e1 e2=>?_
 cases x<;>try cases e2
 rename_i c
 refine(.mk f r e1 λH1 m1 s1 r1=>?_)
 cases c with
 |true=>cases e2;rw[if_pos rfl];exact k H1 m1 s1 r1
 |false=>simp only[vam,vbi];exact(.mk (f.stp s1) r1 e2 λH' m' s' r'=>k H' m' (s1.trans s') r')
theorem zpk{op:BoolOp}(ha:SE X a fa):SE X (.BoolOp op [a] pos) fa:=zte ha
theorem zve(ha:SE X a fa)(hb:SE X (.BoolOp .And (b::rest) pos) fb):SE X (.BoolOp .And (a::b::rest) pos) (gAnd fa fb):=(ztf ha hb).imp λσ H Q z9=>z9.el λρ h m w h' f r e k=>by
 refine zaa e λx h1 e1 e2=>?_
 cases x<;>try cases e2
 rename_i c
 refine(.mk f r e1 λv H1 m1 s1 r1 q1=>?_)
 cases q1
 refine⟨c,rfl,?_⟩
 cases c with
 |true=>rw[if_pos rfl];exact(.mk (f.stp s1) r1 e2 λv H' m' s' r' q'=>k v H' m' (s1.trans s') r' q')
 |false=>cases e2;simp only[vam,vbi];exact k _ H1 m1 s1 r1 (.bl false)
theorem se_or(ha:SE X a fa)(hb:SE X (.BoolOp .Or (b::rest) pos) fb):SE X (.BoolOp .Or (a::b::rest) pos) (gOr fa fb):=(pe_or ha hb).imp λσ H Q z9=>z9.el λρ h m w h' f r e k=>by
 refine zaa e λx h1 e1 e2=>?_
 cases x<;>try cases e2
 rename_i c
 refine(.mk f r e1 λv H1 m1 s1 r1 q1=>?_)
 cases q1
 refine⟨c,rfl,?_⟩
 cases c with
 |true=>cases e2;rw[if_pos rfl];exact k _ H1 m1 s1 r1 (.bl true)
 |false=>simp only[vam,vbi];exact(.mk (f.stp s1) r1 e2 λv H' m' s' r' q'=>k v H' m' (s1.trans s') r' q')
theorem zvf(hc:ST X c fc)(ha:SE X a fa)(hb:SE X b fb):SE X (.IfExp c a b pos) (gIte fc fa fb):=(zm3 hc ha hb).imp λσ H Q z9=>z9.el λρ h m w h' f r e k=>by
 refine zaa e λx h1 e1 e2=>?_
 cases x<;>try cases e2
 rename_i c
 refine(.mk f r e1 λH1 m1 s1 r1=>?_)
 cases c with
 |true=>rw[if_pos rfl];exact(.mk (f.stp s1) r1 e2 λv H' m' s' r' q'=>k v H' m' (s1.trans s') r' q')
 |false=>simp only[vam,vbi];exact(.mk (f.stp s1) r1 e2 λv H' m' s' r' q'=>k v H' m' (s1.trans s') r' q')
theorem zdk{K:vga}{m:Nat->Addr}{n:Nat}{H:Hp}{vs:List V}{ws:List W}(q:VReps K m n H vs ws):vs.isEmpty=ws.isEmpty:=by cases q<;>rfl
theorem zrj{K:vga}{m:Nat->Addr}{h:VH}{H:Hp}{v:V}{w:W}{b:Bool}(r:Rel K m h H)(q:VRep K m h.n H v w)(e:truW h w=some b):TruV K v H b:=by
 cases q with
 |non=>cases e;rfl
 |bl x=>cases e;rfl
 |int i=>cases e;rfl
 |str x=>cases e
 |fz _ _=>cases e
 |tup sq rs=>cases e;exact .inr (.inl ⟨_,sq,by rw[zdk rs]⟩)
 | @ref i hi=>
  simp only[truW]at e
  cases g:h.get i with
  |none=>rw[g]at e;cases e
  |some o=>
   rw[g]at e
   cases o with
   |dk _=>cases e
   |dm _=>cases e
   |lst ws=>
    cases e
    obtain⟨vs,h1,h2⟩:=r.lst g
    exact .inl ⟨vs,SqL.of h1,by rw[zdk h2]⟩
theorem zle(ha:SE X a fa)(he:∀whole,isTrue a X.env whole=(do let v <-whole;standAt a.pos;holding [v] (truthy v))) :
 ST X a (λρ h=>(fa ρ h).bind λx h=>.of ((truW h x).map .bl) h):=(znc ha he).imp λσ H Q z9=>z9.el λρ h m b h' f r e k=>by
 refine zaa e λx h1 e1 e2=>?_
 obtain⟨e2,rfl⟩:=of_ok e2
 cases z:truW h' x with
 |none=>rw[z]at e2;cases e2
 |some c=>
  rw[z]at e2;cases e2
  exact(.mk f r e1 λv H' m' s' r' q=>⟨b,zrj r' q z,k H' m' s' r'⟩)
theorem zvg(ha:SE X a fa):SE X (.UnaryOp .USub a pos) (λρ h=>(fa ρ h).bind λx h=>match x with|.int i=>.ok (.int (-i)) h|_=>.no):=
 (pe_un ztz ha).imp λσ H Q q=>zpf (g:=λx h=>match x with|.int i=>.ok (.int (-i)) h|_=>.no) (G:=rU λi=>.int (-i)) (λm h H v x w h' Q r q e k=>by
   cases q<;>try cases e
   rename_i i
   exact⟨i,rfl,Wants.here k r (.int _)⟩) q
end
section
variable{K:vga}{m m0:Nat->Addr}{n n0:Nat}{h:VH}{H H0:Hp}
theorem Rel.adopt(r:Rel K m h H){p:Addr}{o:VO}{u u0:HO}(hp:∀i,i<h.n->m i≠p)(hu:H p=some u0)(ht:∀t,u0≠.tup t)(hf:∀o t,u0≠.frz o t)(s:Stp m0 n0 H0 m h.n H)(h0:H0 p=none)
 (ho:Stp m h.n H (λi=>if i=h.n then p else m i) (h.n+1) (upd H p u)\/True->(∀{v:V}{w:W},VRep K m h.n H v w->VRep K (λi=>if i=h.n then p else m i) (h.n+1) (upd H p u) v w)->ORep K (λi=>if i=h.n then p else m i) (h.n+1) (upd H p u) p o) :
 Stp m0 n0 H0 (λi=>if i=h.n then p else m i) (h.n+1) (upd H p u)/\Rel K (λi=>if i=h.n then p else m i) (h.new o) (upd H p u):=by
 have kt:∀b vs,H b=some (.tup vs)->upd H p u b=some (.tup vs):=λb vs q=>by rw[zac (ne_of q hu λz=>ht vs z.symm)];exact q
 have kf:∀b o t,H b=some (.frz o t)->upd H p u b=some (.frz o t):=λb o t q=>by rw[zac (ne_of q hu λz=>hf o t z.symm)];exact q
 have mv:∀{v:V}{w:W},VRep K m h.n H v w->VRep K (λi=>if i=h.n then p else m i) (h.n+1) (upd H p u) v w:=by
  intro v w q
  have st:Stp m h.n (λb=>if b=p then none else H b) (λi=>if i=h.n then p else m i) (h.n+1) (upd H p u):=by
   refine⟨vdk _,λi hi=>by simp only[if_neg (va7 hi)],λi hi hi2=>?_,λi j hi hi2 hj=>?_,λb vs q=>?_,λb o t q=>?_,λb o _ q=>?_⟩
   .have:i=h.n:=by lia
    subst this;simp only[vbe]
   .have:i=h.n:=by lia
    subst this;simp only[vbe,if_neg (va7 hj)];exact(hp j hj).symm
   .split at q
    .cases q
    .exact kt b vs q
   .split at q
    .cases q
    .exact kf b o t q
   .split at q
    .cases q
    .rename_i z;rw[zac z];exact q
  refine VRep.stp st ?_
  have back:∀{a vs},SqT K H a vs->SqT K (λb=>if b=p then none else H b) a vs:=by
   intro a vs q
   rcases q with(q|⟨o,q⟩)|q
   .exact .inl (.inl (by simp only[if_neg (ne_of q hu λz=>ht vs z.symm)];exact q))
   .exact .inl (.inr ⟨o,by simp only[if_neg (ne_of q hu λz=>hf o _ z.symm)];exact q⟩)
   .exact .inr q
  have backf:∀{a vs},Fz K H a vs->Fz K (λb=>if b=p then none else H b) a vs:=by
   intro a vs q
   rcases q with⟨o,q⟩|q
   .exact .inl ⟨o,by simp only[if_neg (ne_of q hu λz=>hf o _ z.symm)];exact q⟩
   .exact .inr q
  exact(VRep.rec (K:=K) (m:=m) (n:=h.n) (H:=H) (motive_1:=λv w _=>VRep K m h.n (λb=>if b=p then none else H b) v w) (motive_2:=λvs ws _=>VReps K m h.n (λb=>if b=p then none else H b) vs ws)
   .non .bl .int .str (λsq _ ih=>.tup (back sq) ih) (λsq _ ih=>.fz (backf sq) ih) (λhi=>.ref hi) .nil (λ_ _ i1 i2=>.cons i1 i2) q)
 refine⟨⟨vdx s.le,λi hi=>?_,λi hi hi2=>?_,λi j hi hi2 hj=>?_,λb vs q=>kt b vs (s.tup b vs q),λb o t q=>kf b o t (s.frz b o t q),λb o nb q=>?_⟩,⟨λi hi=>?_,λi j hi hj z=>?_,?_⟩⟩
 .have:=s.le
  simp only[if_neg (show i≠h.n by lia)];exact s.same i hi
 .by_cases e:i=h.n
  .subst e;simp only[vbe];exact h0
  .simp only[if_neg e];exact s.new i hi (by lia)
 .have:=s.le
  simp only[if_neg (show j≠h.n by lia)]
  by_cases e:i=h.n
  .subst e;simp only[vbe];exact(hp j (by lia)).symm
  .simp only[if_neg e];exact s.apart i j hi (by lia) hj
 .rw[zac (zad q h0)];exact s.keep b o nb q
 .have hi:i<h.n+1:=hi
  by_cases e:i=h.n
  .subst e;exact⟨o,zat,by simp only[vbe];exact ho (.inr trivial) mv⟩
  .have hl:i<h.n:=by lia
   obtain⟨o',h1,h2⟩:=r.obj i hl
   refine⟨o',(zak hl).trans h1,?_⟩
   simp only[if_neg e]
   have eq:upd H p u (m i)=H (m i):=zac (hp i hl)
   cases o' with
   |lst ws=>
    obtain⟨vs,q1,q2⟩:=h2
    exact⟨vs,eq.trans q1,VReps.rec (K:=K) (m:=m) (n:=h.n) (H:=H) (motive_1:=λv w _=>VRep K m h.n H v w) (motive_2:=λvs ws _=>VReps K (λi=>if i=h.n then p else m i) (h.n+1) (upd H p u) vs ws)
     .non .bl .int .str (λsq q _=>.tup sq q) (λsq q _=>.fz sq q) (λhi=>.ref hi) .nil (λq _ _ i2=>.cons (mv q) i2) q2⟩
   |dk ws=>
    obtain⟨vs,q1,q2⟩:=h2
    have go:∀{vs:List (Key×V)}{ws:List (Key×W)},KReps K m h.n H vs ws->KReps K (λi=>if i=h.n then p else m i) (h.n+1) (upd H p u) vs ws:=by
     intro vs ws q2
     induction q2 with
     |nil=>exact .nil
     |cons q _ ih=>exact .cons (mv q) ih
    exact⟨vs,q1.imp (λz=>eq.trans z) λ⟨o,z⟩=>⟨o,eq.trans z⟩,go q2⟩
   |dm ws=>
    obtain⟨vs,q1,q2⟩:=h2
    have go:∀{vs:List (Key×V)}{ws:List (Key×W)},KReps K m h.n H vs ws->KReps K (λi=>if i=h.n then p else m i) (h.n+1) (upd H p u) vs ws:=by
     intro vs ws q2
     induction q2 with
     |nil=>exact .nil
     |cons q _ ih=>exact .cons (mv q) ih
    exact⟨vs,eq.trans q1,go q2⟩
 .have hi:i<h.n+1:=hi
  have hj:j<h.n+1:=hj
  by_cases e:i=h.n
  .by_cases e2:j=h.n
   .lia
   .simp only[if_pos e,if_neg e2]at z
    exact absurd z.symm (hp j (by lia))
  .by_cases e2:j=h.n
   .simp only[if_neg e,if_pos e2]at z
    exact absurd z (hp i (by lia))
   .simp only[if_neg e,if_neg e2]at z
    exact r.inj i j (by lia) (by lia) z
 .show(o::h.os).length=h.n+1
  rw[vai,r.len]
theorem VReps.map{m':Nat->Addr}{n':Nat}{H':Hp}(mv:∀{v:V} {w:W},VRep K m n H v w->VRep K m' n' H' v w):∀{vs:List V} {ws:List W},VReps K m n H vs ws->VReps K m' n' H' vs ws
 |_,_,.nil=>.nil
 |_,_,.cons q r=>.cons (mv q) (VReps.map mv r)
theorem KReps.map{m':Nat->Addr}{n':Nat}{H':Hp}(mv:∀{v:V} {w:W},VRep K m n H v w->VRep K m' n' H' v w):∀{vs:List (Key×V)} {ws:List (Key×W)},KReps K m n H vs ws->KReps K m' n' H' vs ws
 |_,_,.nil=>.nil
 |_,_,.cons q r=>.cons (mv q) (KReps.map mv r)
theorem KReps.look(k:Key):∀{vs:List (Key×V)} {ws:List (Key×W)},KReps K m n H vs ws->(valV vs k=none/\lookK ws k=none)\/∃v w,valV vs k=some v/\lookK ws k=some w/\VRep K m n H v w
 |_,_,.nil=>.inl ⟨rfl,rfl⟩
 |_,_,.cons (k:=k') (v:=v) (w:=w) q r=>by
  by_cases e:k'=k
  .refine .inr ⟨v,w,zdp (p:=(k',v)) e,?_,q⟩
   unfold lookK;rw[vco];simp[e]
  .rcases KReps.look k r with⟨a,b⟩|⟨v',w',a,b,c⟩
   .refine .inl ⟨(zcr (p:=(k',v)) e).trans a,?_⟩
    unfold lookK at b ⊢;rw[vco];simp only[vav e];exact b
   .refine .inr ⟨v',w',(zcr (p:=(k',v)) e).trans a,?_,c⟩
    unfold lookK at b ⊢;rw[vco];simp only[vav e];exact b
theorem KReps.any(k:Key):∀{vs:List (Key×V)} {ws:List (Key×W)},KReps K m n H vs ws->(vs.any λkv=>decide (kv.1=k))=(ws.any λkv=>decide (kv.1=k))
 |_,_,.nil=>rfl
 |_,_,.cons q r=>by rw[veo,veo,KReps.any k r]
theorem KReps.repl{v:V}{w:W}(q:VRep K m n H v w)(k:Key):∀{vs:List (Key×V)} {ws:List (Key×W)},KReps K m n H vs ws->KReps K m n H (vs.map λkv=>if kv.1=k then(kv.1,v)else kv) (ws.map λkv=>if kv.1=k then(kv.1,w)else kv)
 |_,_,.nil=>.nil
 |_,_,.cons (k:=k') p r=>by
  rw[vaw,vaw]
  by_cases e:k'=k
  .simp only[if_pos e];exact .cons q (KReps.repl q k r)
  .simp only[if_neg e];exact .cons p (KReps.repl q k r)
theorem KReps.snoc{v:V}{w:W}(q:VRep K m n H v w)(k:Key):∀{vs:List (Key×V)} {ws:List (Key×W)},KReps K m n H vs ws->KReps K m n H (vs++[(k,v)]) (ws++[(k,w)])
 |_,_,.nil=>.cons q .nil
 |_,_,.cons p r=>.cons p (KReps.snoc q k r)
theorem KReps.put{v:V}{w:W}(q:VRep K m n H v w)(k:Key){vs:List (Key×V)}{ws:List (Key×W)}(r:KReps K m n H vs ws):KReps K m n H (putK vs k v) (putKW ws k w):=by
 unfold putK putKW
 rw[r.any k]
 split
 .exact r.repl q k
 .exact r.snoc q k
theorem KReps.merge{vs:List (Key×V)}{ws:List (Key×W)}(q:KReps K m n H vs ws):∀{va:List (Key×V)} {wa:List (Key×W)},KReps K m n H va wa->KReps K m n H (zdh va vs) (zie wa ws):=by
 induction q with
 |nil=>exact λa=>a
 |cons q r ih=>exact λa=>ih (a.put q _)
theorem KReps.length:∀{vs:List (Key×V)} {ws:List (Key×W)},KReps K m n H vs ws->vs.length=ws.length
 |_,_,.nil=>rfl
 |_,_,.cons _ r=>by rw[vai,vai,KReps.length r]
theorem zdc{v:V}{w:W}{k:Key}(q:VRep K m n H v w)(e:keyW w=some k):v=kV k:=by
 cases q<;>cases e<;>rfl
theorem zfk{vs:List V}{ws:List W}{i:Int}{w:W}(q:VReps K m n H vs ws)(e:atI ws i=some w):∃v,atI vs i=some v/\VRep K m n H v w:=by
 unfold atI at e ⊢
 rw[q.length]
 cases z:ixN ws.length i with
 |none=>rw[z]at e;cases e
 |some j=>
  rw[z]at e
  exact q.get e
end
noncomputable def rIdx(K:vga):R2:=λx y H Q=>rIxL K x y H Q\/rIxT K x y H Q\/(∃a v,x=.ref a/\DGet H a y (some v)/\Q v H)
section
variable{X:Cx}{a b c e o:Expr}{es:List Expr}{fa fb fc fo:FE}{pos:Pos}
theorem zrk(hu:X.A.units+1<cLine):IxR X (λx y H Q=>∃a v,x=.ref a/\DGet H a y (some v)/\Q v H):=by
 intro value slice pins s σ H x y v u Q I rx ry q hs
 obtain⟨a,v',rfl,g,q⟩:=q
 obtain rfl:v=Value.ref a:=rx
 exact tail_any (zhb I g) PySem.F.slot_dict_getitem.lookup (zks hu I g ry λw' s3 I3 rw'=>⟨v',H,I3,rw',q⟩) hs
theorem ix_ok(hu:X.A.units+2<cLine):IxR X (rIdx X.K):=zqy.or (zt6.or (zrk (by lia)))
theorem zrl{K:vga}:OpV K (rIdx K) (λx y h=>.of (idxW h x y) h):=by
 intro m h H v u x y w h' Q r qv qu e0 k
 obtain⟨e,e1⟩:=of_ok e0
 clear e0
 subst e1
 unfold idxW at e
 split at e
 .cases qv with
  |tup sq rs=>
   cases qu
   obtain⟨v',h1,h2⟩:=zfk rs e
   exact .inr (.inl ⟨_,_,_,v',rfl,rfl,sq,h1,Wants.here k r h2⟩)
 .cases qv with
  |fz sq rs=>
   cases qu
   obtain⟨v',h1,h2⟩:=zfk rs e
   exact .inl ⟨_,_,_,v',rfl,rfl,sq.sq,h1,Wants.here k r h2⟩
 .rename_i i j
  cases qv;cases qu
  cases g:h'.get i with
  |none=>rw[g]at e;cases e
  |some ob=>
   rw[g]at e
   cases ob with
   |lst ws=>
    obtain⟨vs,p1,p2⟩:=r.lst g
    obtain⟨v',h1,h2⟩:=zfk p2 e
    exact .inl ⟨_,_,_,v',rfl,rfl,SqL.of p1,h1,Wants.here k r h2⟩
   |dk ws=>
    have e:lookK ws (.inl j)=some w:=e
    obtain⟨vs,p1,p2⟩:=r.dk g
    rcases p2.look (.inl j)with⟨_,z⟩|⟨v',w',z1,z2,z3⟩
    .rw[z]at e;cases e
    .rw[z2]at e;cases e
     exact .inr (.inr ⟨_,v',rfl,by rw[<-z1];exact .inl ⟨vs,.inl j,p1,rfl,rfl⟩,Wants.here k r z3⟩)
   |dm ws=>
    have e:lookK ws (.inl j)=some w:=e
    obtain⟨vs,p1,p2⟩:=r.dm g
    rcases p2.look (.inl j)with⟨_,z⟩|⟨v',w',z1,z2,z3⟩
    .rw[z]at e;cases e
    .rw[z2]at e;cases e
     exact .inr (.inr ⟨_,v',rfl,by rw[<-z1];exact .inl ⟨vs,.inl j,.inl p1,rfl,rfl⟩,Wants.here k r z3⟩)
 .rename_i i j
  cases qv;cases qu
  cases g:h'.get i with
  |none=>rw[g]at e;cases e
  |some ob=>
   rw[g]at e
   cases ob with
   |lst ws=>cases e
   |dk ws=>
    have e:lookK ws (.inr j)=some w:=e
    obtain⟨vs,p1,p2⟩:=r.dk g
    rcases p2.look (.inr j)with⟨_,z⟩|⟨v',w',z1,z2,z3⟩
    .rw[z]at e;cases e
    .rw[z2]at e;cases e
     exact .inr (.inr ⟨_,v',rfl,by rw[<-z1];exact .inl ⟨vs,.inr j,p1,rfl,rfl⟩,Wants.here k r z3⟩)
   |dm _=>cases e
 .cases e
theorem zvh(hu:X.A.units+2<cLine)(ha:SE X a fa)(hb:SE X b fb)(hs:zg9 b):SE X (.Subscript a b pos) (λρ h=>(fa ρ h).bind λx h=>(fb ρ h).bind λy h=>.of (idxW h x y) h):=
 (pe_ix (ix_ok hu) ha hb hs).imp λσ H Q q=>zfh (G:=rIdx X.K) zrl q
noncomputable def lftO(K:vga)(b:Bool)(f:FE):TO:=λσ H Q=>∃ρ h m w o h',Fr K m h.n H σ ρ/\Rel K m h H/\f ρ h=.ok w h'/\partW b w=some o/\∀H' m',Stp m h.n H m' h'.n H'->Rel K m' h' H'->Q o H'
theorem lftO.el{K:vga}{σ:L2.St}{H:Hp}{P:Prop}{b:Bool}{fa:FE}{Q:Option Int->Hp->Prop}(q:lftO K b fa σ H Q)(k:∀ρ h m w o h',Fr K m h.n H σ ρ->Rel K m h H->fa ρ h=.ok w h'->partW b w=some o->(∀H' m',Stp m h.n H m' h'.n H'->Rel K m' h' H'->Q o H')->P):P:=by
 obtain⟨ρ,h,m,w,o,h',f,r,e,ep,k'⟩:=q
 exact k ρ h m w o h' f r e ep k'
theorem lftO.mk{K:vga}{σ:L2.St}{H:Hp}{m:Nat->Addr}{ρ:En}{h h':VH}{w:W}{o:Option Int}{b:Bool}{fa:FE}{Q:Option Int->Hp->Prop}(f:Fr K m h.n H σ ρ)(r:Rel K m h H)(e:fa ρ h=.ok w h')(ep:partW b w=some o)(k:∀H' m',Stp m h.n H m' h'.n H'->Rel K m' h' H'->Q o H'):lftO K b fa σ H Q:=⟨ρ,h,m,w,o,h',f,r,e,ep,k⟩
theorem zrm{w:W}:PO X none (lftO X.K false (λ_ h=>.ok w h)):=λpins s σ H Q I z9=>z9.el λρ h m w o h' f r e ep k=>by
 cases e
 have:o=none:=by
  unfold partW at ep
  cases ep;rfl
 subst this
 exact zqv pins s σ H Q I (k H m .refl r)
theorem zrn(ha:SE X e fa):PO X (some e) (lftO X.K true fa):=λpins s σ H Q I z9=>z9.el λρ h m w o h' f r e ep k=>by
 refine zqw ha pins s σ H Q I (.mk f r e λv H' m' s' r' q=>?_)
 cases q<;>cases ep
 exact⟨_,rfl,k H' m' s' r'⟩
theorem zig{K:vga}{m:Nat->Addr}{n:Nat}{H:Hp}{vs:List V}{ws:List W}(q:VReps K m n H vs ws)(lo hi:Option Int):VReps K m n H (cutV vs lo hi) (cutW ws lo hi):=by
 unfold cutV cutW
 rw[q.length]
 exact(q.drop _).take _
theorem zjt{ws:List W}{lo hi:Option Int}(h:HT.sIx ws.length 0 lo=0/\HT.sIx ws.length ws.length hi=ws.length):cutW ws lo hi=ws:=by
 unfold cutW
 rw[h.1,h.2]
 simp
theorem zvi{lo hi:Option Expr}{fl fh:FE}{p2:Pos}{bl bh:Bool}(ha:SE X a fa)(hl:PO X lo (lftO X.K bl fl))(hh:PO X hi (lftO X.K bh fh)) :
 SE X (.Subscript a (.Slice lo hi none p2) pos) (λρ h=>(fa ρ h).bind λx h=>(fl ρ h).bind λl h=>(fh ρ h).bind λu h=>match partW bl l,partW bh u with
 |some l,some u=>slcW x l u h
 |_,_=>.no):=
 (zng zui ha hl hh).imp λσ H Q z9=>z9.el λρ h m w h' f r e k=>by
   refine zaa e λx h1 e1 e2=>?_
   refine zaa e2 λl h2 e3 e4=>?_
   refine zaa e4 λu h3 e5 e6=>?_
   split at e6
   .rename_i l' u' pl pu
    refine(.mk f r e1 λv H1 m1 s1 r1 q1=>(.mk (f.stp s1) r1 e3 pl λH2 m2 s2 r2=>(.mk ((f.stp s1).stp s2) r2 e5 pu λH3 m3 s3 r3=>?_)))
    have q3:=(q1.stp s2).stp s3
    have kk:Wants X.K m3 h3.n H3 w h' Q:=λv' H' m' s' r' q'=>k v' H' m' (((s1.trans s2).trans s3).trans s') r' q'
    unfold slcW at e6
    split at e6
    .rename_i ws
     cases e6
     cases q3 with
     | @tup a vs _ sq rs=>
      by_cases hw:HT.sIx vs.length 0 l'=0/\HT.sIx vs.length vs.length u'=vs.length
      .refine .inl (.inr ⟨_,_,rfl,sq,hw,?_⟩)
       have hw':=hw
       rw[rs.length]at hw'
       rw[zjt hw']at kk
       exact Wants.here kk r3 (.tup sq rs)
      .exact .inl (.inl ⟨_,_,rfl,sq,hw,λp hp=>Wants.tuple kk r3 (zig rs l' u') hp⟩)
    .rename_i i
     cases q3
     cases g:h3.get i with
     |none=>rw[g]at e6;cases e6
     |some ob=>
      rw[g]at e6
      cases ob with
      |lst ws=>
       cases e6
       obtain⟨vs,p1,p2⟩:=r3.lst g
       exact .inr ⟨_,_,rfl,SqL.of p1,λp hp=>Wants.list kk r3 (zig p2 l' u') hp⟩
      |dk ws=>cases e6
      |dm _=>cases e6
    .cases e6
   .cases e6
end
noncomputable def zax:Expr->Bool
 |.Starred ..=>false
 |_=>true
theorem zae{e:Expr}{es:List Expr}{env:Env}(h:zax e=true):starEach (e::es) env=(false,eval e env)::starEach es env:=by
 cases e<;>first|rfl|cases h
theorem zcu{pos:Pos}{env:Env}:∀{es:List Expr},es.all zax=true->(backTo pos (starEach es env)).any (·.1)=false
 |[],_=>rfl
 |e::es,h=>by
  rw[vch,vab]at h
  rw[zae h.1]
  show(false|| (backTo pos (starEach es env)).any (·.1))=false
  rw[zcu h.2];rfl
noncomputable abbrev aNil:FE:=λ_ h=>.ok (.tup []) h
noncomputable abbrev aCons(fa fb:FE):FE:=λρ h=>(fa ρ h).bind λx h=>(fb ρ h).bind λy h=>match y with|.tup ys=>.ok (.tup (x::ys)) h|_=>.no
section
variable{X:Cx}{a b c e o:Expr}{es:List Expr}{fa fb fc fo:FE}{pos p:Pos}{x:Str}
noncomputable abbrev gArg(fa:FE)(g:List W->VH->Res W):FE:=λρ h=>(fa ρ h).bind λy h=>match y with|.tup ys=>g ys h|_=>.no
noncomputable def CallV(K:vga)(r:List V->Hp->VK->Prop)(g:List W->VH->Res W):Prop:=∀(m:Nat->Addr) (h:VH) (H:Hp) (vs:List V) (xs:List W) (w:W) (h':VH) (Q:VK),Rel K m h H->VReps K m h.n H vs xs->g xs h=.ok w h'->Wants K m h.n H w h' Q->r vs H Q
theorem zcv{id:String}{r:List V->Hp->VK->Prop}{g:List W->VH->Res W}(hc:CallR X (.builtin id) r)(hv:CallV X.K r g)(hg:Gl X x)(hm:X.mg x=none)(hb:bootBuiltins x=some (.builtin id))(ha:SA X (e::es) fa)(hs:(e::es).all zax=true)
 (hn:x≠"__name__") (hdb:(x==("__debug__" : Str))=false):SE X (.Call (.Name x p) (e::es) [] pos) (gArg fa g):=by
 rw[vch,vab]at hs
 exact(zh2 hc hg hm hb ha hn hdb (zae hs.1) (zcu hs.2)).imp λσ H Q q=>zda hv q
theorem zeb{T:String}{r:List V->Hp->VK->Prop}{g:List W->VH->Res W}(hc:CallR X (.type T) r)(hv:CallV X.K r g)(hg:Gl X x)(hm:X.mg x=none)(hb:bootBuiltins x=some (.type T))(ha:SA X (e::es) fa)(hs:(e::es).all zax=true)
 (hn:x≠"__name__") (hdb:(x==("__debug__" : Str))=false):SE X (.Call (.Name x p) (e::es) [] pos) (gArg fa g):=by
 rw[vch,vab]at hs
 exact(zkl hc hg hm hb ha hn hdb (zae hs.1) (zcu hs.2)).imp λσ H Q q=>zda hv q
theorem reps1{K:vga}{m:Nat->Addr}{n:Nat}{H:Hp}{vs:List V}{w:W}(q:VReps K m n H vs [w]):∃v,vs=[v]/\VRep K m n H v w:=by
 cases q with|cons q r=>cases r;exact⟨_,rfl,q⟩
theorem zvj{K:vga}:CallV K (λxs H Q=>∃p ys,xs=[.ref p]/\(SqL K H p ys\/SqT K H p ys)/\Q (.int ys.length) H) lenW:=by
 intro m h H vs xs w h' Q r q e k
 unfold lenW at e
 split at e<;>try cases e
 rename_i x
 obtain⟨v,rfl,q1⟩:=reps1 q
 obtain⟨e,rfl⟩:=of_ok e
 cases z:seqW h' x with
 |none=>
  rw[z]at e;cases e
 |some ws=>
  rw[z]at e;cases e
  obtain⟨p,us,rfl,h1,h2⟩:=zdb r q1 z
  exact⟨p,us,rfl,h1,by rw[h2.length];exact Wants.here k r (.int _)⟩
theorem zro{K:vga}:CallV K (λxs H Q=>∃p ys,xs=[.ref p]/\(SqL K H p ys\/SqT K H p ys)/\∀l,H l=none->Q (.ref l) (upd H l (.lst ys))) listW:=by
 intro m h H vs xs w h' Q r q e k
 unfold listW at e
 split at e<;>try cases e
 rename_i x
 obtain⟨v,rfl,q1⟩:=reps1 q
 cases z:seqW h x with
 |none=>rw[z]at e;cases e
 |some ws=>
  rw[z]at e;cases e
  obtain⟨p,us,rfl,h1,h2⟩:=zdb r q1 z
  exact⟨p,us,rfl,h1,λl hl=>Wants.list k r h2 hl⟩
theorem znx{K:vga}:CallV K (λxs H Q=>∃p ys,xs=[.ref p]/\((SqL K H p ys/\∀l,H l=none->Q (.ref l) (upd H l (.tup ys)))\/(SqT K H p ys/\Q (.ref p) H))) zd9:=by
 intro m h H vs xs w h' Q r q e k
 unfold zd9 at e
 split at e<;>try cases e
 rename_i x
 obtain⟨v,rfl,q1⟩:=reps1 q
 obtain⟨e,rfl⟩:=of_ok e
 cases z:seqW h' x with
 |none=>
  rw[z]at e;cases e
 |some ws=>
  rw[z]at e;cases e
  obtain⟨p,us,rfl,h1,h2⟩:=zdb r q1 z
  rcases h1 with h1|h1
  .exact⟨p,us,rfl,.inl ⟨h1,λl hl=>Wants.tuple k r h2 hl⟩⟩
  .exact⟨p,us,rfl,.inr ⟨h1,Wants.here k r (.tup h1 h2)⟩⟩
theorem zvk{K:vga}:CallV K (λxs H Q=>(∃i,xs=[.int i]/\Q (.int i) H)\/∃k,xs=[.bl k]/\Q (.int (if k then 1 else 0)) H) intW:=by
 intro m h H vs xs w h' Q r q e k
 unfold intW at e
 split at e<;>try cases e
 .obtain⟨v,rfl,q1⟩:=reps1 q
  cases q1
  exact .inl ⟨_,rfl,Wants.here k r (.int _)⟩
 .obtain⟨v,rfl,q1⟩:=reps1 q
  cases q1
  exact .inr ⟨_,rfl,Wants.here k r (.int _)⟩
theorem zvl{K:vga}:CallV K (λxs H Q=>∃i,xs=[.int i]/\Q (.int (if i<0 then -i else i)) H) absW:=by
 intro m h H vs xs w h' Q r q e k
 unfold absW at e
 split at e<;>try cases e
 obtain⟨v,rfl,q1⟩:=reps1 q
 cases q1
 exact⟨_,rfl,Wants.here k r (.int _)⟩
theorem reps2{K:vga}{m:Nat->Addr}{n:Nat}{H:Hp}{vs:List V}{w z:W}(q:VReps K m n H vs [w,z]):∃v u,vs=[v,u]/\VRep K m n H v w/\VRep K m n H u z:=by
 cases q with|cons q r=>obtain⟨u,rfl,h⟩:=reps1 r;exact⟨_,_,rfl,q,h⟩
theorem zpl{K:vga}{m:Nat->Addr}{n:Nat}{H:Hp}:∀{vs:List V} {ws:List W} {is:List Int},VReps K m n H vs ws->mapO iZ ws=some is->vs=is.map .int
 |_,_,_,.nil,e=>by cases e;rfl
 |_,_,_,.cons (w:=w) (ws:=ws) q r,e=>by
  unfold mapO at e
  cases z:iZ w with
  |none=>rw[z]at e;cases e
  |some b=>
   rw[z]at e
   cases z2:mapO iZ ws with
   |none=>rw[z2]at e;cases e
   |some cs=>
    rw[z2]at e;cases e
    unfold iZ at z
    split at z<;>cases z
    cases q
    rw[zpl r z2];rfl
theorem zlf:∀(r:List Int) (x:Int),x<=maxI x r/\∀y∈r,y<=maxI x r
 |[],x=>⟨vep _,λ_ h=>nomatch h⟩
 |y::r,x=>by
  have h:=zlf r (if y>x then y else x)
  by_cases q:y>x
  .rw[if_pos q]at h
   have e:maxI x (y::r)=maxI y r:=by
    show maxI (if y>x then y else x) r=_
    rw[if_pos q]
   rw[e]
   refine⟨by have:=h.1;lia,λz hz=>?_⟩
   rcases va3.mp hz with rfl|hz
   .exact h.1
   .exact h.2 z hz
  .rw[if_neg q]at h
   have e:maxI x (y::r)=maxI x r:=by
    show maxI (if y>x then y else x) r=_
    rw[if_neg q]
   rw[e]
   refine⟨h.1,λz hz=>?_⟩
   rcases va3.mp hz with rfl|hz
   .have:=h.1;lia
   .exact h.2 z hz
theorem zih:∀(r:List Int) (x:Int),maxI x r∈x::r
 |[],x=>vak
 |y::r,x=>by
  have h:=zih r (if y>x then y else x)
  by_cases q:y>x
  .rw[if_pos q]at h
   have e:maxI x (y::r)=maxI y r:=by
    show maxI (if y>x then y else x) r=_
    rw[if_pos q]
   rw[e]
   exact vaf _ h
  .rw[if_neg q]at h
   have e:maxI x (y::r)=maxI x r:=by
    show maxI (if y>x then y else x) r=_
    rw[if_neg q]
   rw[e]
   rcases va3.mp h with h|h
   .rw[h];exact vak
   .exact vaf _ (vaf _ h)
theorem zvm{K:vga}:CallV K (λxs H Q=>(∃i j,xs=[.int i,.int j]/\Q (.int (if j>i then j else i)) H)\/∃(p:Addr) (ns:List Int),xs=[.ref p]/\SqL K H p (ns.map .int)/\0<ns.length/\∀M,M∈ns->(∀a∈ns,a<=M)->Q (.int M) H) maxW:=by
 intro m h H vs xs w h' Q r q e k
 unfold maxW at e
 split at e<;>try cases e
 .obtain⟨v,u,rfl,q1,q2⟩:=reps2 q
  cases q1;cases q2
  exact .inl ⟨_,_,rfl,Wants.here k r (.int _)⟩
 .rename_i i
  split at e<;>try cases e
  rename_i ws g
  split at e<;>try cases e
  rename_i x rs z
  obtain⟨v,rfl,q1⟩:=reps1 q
  cases q1
  obtain⟨us,p1,p2⟩:=r.lst g
  refine .inr ⟨_,x::rs,rfl,?_,Nat.succ_pos _,λM h1 h2=>?_⟩
  .rw[<-zpl p2 z]
   exact .inl (.inl p1)
  .have l1:=zlf rs x
   have hM:M=maxI x rs:=by
    have a1:M<=maxI x rs:=by
     rcases va3.mp h1 with rfl|h1
     .exact l1.1
     .exact l1.2 M h1
    have a2:=h2 _ (zih rs x)
    lia
   rw[hM]
   exact Wants.here k r (.int _)
theorem zvn{K:vga}:CallV K (λxs H Q=>∃i j,xs=[.int i,.int j]/\Q (.int (if j<i then j else i)) H) minW:=by
 intro m h H vs xs w h' Q r q e k
 unfold minW at e
 split at e<;>try cases e
 obtain⟨v,u,rfl,q1,q2⟩:=reps2 q
 cases q1;cases q2
 exact⟨_,_,rfl,Wants.here k r (.int _)⟩
noncomputable def tyN:Ty->String
 |.int=>"int" |.bool=>"bool" |.tuple=>"tuple" |.list=>"list" |.str=>"str" |.dict=>"dict"
noncomputable def rIsi(K:vga)(n:String):List V->Hp->VK->Prop:=λxs H Q=>∃x b,xs=[x,.ty n]/\((∃t,TyOf K H x t/\PySem.W.kitOne K t (.type n)=some b)\/(∃a vs,x=.ref a/\SqT K H a vs/\PySem.W.kitOne K (.type "tuple") (.type n)=some b)\/∃a kvs,x=.ref a/\Rd H a (.dK kvs)/\PySem.W.kitOne K (.type "dict") (.type n)=some b)/\Q (.bl b) H
theorem zny(n:String):CallR X (.builtin "isinstance") (rIsi X.K n):=by
 intro pins s σ H xs us Q I r h
 obtain⟨x,b,rfl,hi,q⟩:=h
 obtain⟨u,u2,rfl,rx,rc⟩:=vals2 r
 obtain rfl:u2=Value.type n:=rc
 rcases hi with⟨t,ty,e⟩|⟨a,vs,rfl,sq,e⟩|⟨a,kvs,rfl,rd,e⟩
 .exact zki I rx ty e λtk=>⟨.bl b,H,I.tok _,rfl,q⟩
 .obtain rfl:u=Value.ref a:=rx
  obtain⟨its,_,p,_⟩:=I.tuple sq
  obtain⟨o,h1,h2,_⟩:=p
  exact vbs PySem.W.kitx_tuple I.kIn ⟨o,h1,h2⟩ e (λz=>nomatch z) λtk=>⟨.bl b,H,I.tok _,rfl,q⟩
 .obtain rfl:u=Value.ref a:=rx
  obtain⟨_,_,_,_,o,_,_,h1,h2,_⟩:=dk_rd I.hok rd
  exact vbs PySem.W.kitx_dict I.kIn ⟨o,h1,h2.1⟩ e (λz=>nomatch z) λtk=>⟨.bl b,H,I.tok _,rfl,q⟩
theorem zvo{K:vga}(t:Ty){m:Nat->Addr}{h:VH}{H:Hp}{v:V}{x:W}{b:Bool}(r:Rel K m h H)(q:VRep K m h.n H v x)(e:tyIs t h x=some b) :
 (∃t',TyOf K H v t'/\PySem.W.kitOne K t' (.type (tyN t))=some b)\/(∃a vs,v=.ref a/\SqT K H a vs/\PySem.W.kitOne K (.type "tuple") (.type (tyN t))=some b)\/∃a kvs,v=.ref a/\Rd H a (.dK kvs)/\PySem.W.kitOne K (.type "dict") (.type (tyN t))=some b:=by
 cases q with
 |non=>cases e;refine .inl ⟨_,.non,?_⟩;cases t<;>rfl
 |bl x=>cases e;refine .inl ⟨_,.bl x,?_⟩;cases t<;>rfl
 |int x=>cases e;refine .inl ⟨_,.int x,?_⟩;cases t<;>rfl
 |str x=>cases e;refine .inl ⟨_,.str x,?_⟩;cases t<;>rfl
 |tup sq rs=>cases e;refine .inr (.inl ⟨_,_,rfl,sq,?_⟩);cases t<;>rfl
 |fz _ _=>cases e
 | @ref i hi=>
  simp only[tyIs]at e
  cases g:h.get i with
  |none=>rw[g]at e;cases e
  |some o=>
   rw[g]at e
   cases o with
   |lst ws=>
    cases e
    obtain⟨vs,h1,h2⟩:=r.lst g
    refine .inl ⟨_,.lst h1,?_⟩;cases t<;>rfl
   |dk ws=>
    cases e
    obtain⟨vs,h1,h2⟩:=r.dk g
    refine .inr (.inr ⟨_,_,rfl,h1,?_⟩);cases t<;>rfl
   |dm _=>cases e
theorem zvp(t:Ty){T:Str}{p2:Pos}(ha:SE X e fa)(hs:zax e=true)(hg:Gl X "isinstance")(hm:X.mg "isinstance" = none)(hgT:Gl X T)(hmT:X.mg T=none)(hbT:bootBuiltins T=some (.type (tyN t)))(hn:T≠"__name__")(hd:(T==("__debug__" : Str))=false) :
 SE X (.Call (.Name "isinstance" p) [e,.Name T p2] [] pos) (λρ h=>(fa ρ h).bind λx h=>.of ((tyIs t h x).map .bl) h):=by
 have hT:PE X (.Name T p2) (tC (.ty (tyN t))):=zqh hgT hmT hbT rfl hn hd
 refine(zh2 (zny (tyN t)) hg hm PyProof.Rows.boot_isinstance (zdy ha (zdy hT zhz) (zae hs)) (by decide) (by decide) (zae hs) rfl).imp λσ H Q q=>?_
 refine zpf (g:=λx h=>.of ((tyIs t h x).map .bl) h) (G:=λv H1 Q=>rIsi X.K (tyN t) [v,.ty (tyN t)] H1 Q) (λm h H v x w h' Q r q e k=>?_) q
 obtain⟨e,rfl⟩:=of_ok e
 cases z:tyIs t h' x with
 |none=>rw[z]at e;cases e
 |some b=>
  rw[z]at e;cases e
  exact⟨v,b,rfl,zvo t r q z,Wants.here k r (.bl b)⟩
noncomputable def zfl:Expr->Bool
 |.Name .. |.Subscript ..=>true
 |_=>false
theorem zlg{o:Expr}{m:Str}{env:Env}(h:zfl o=true):attributeBase o m env (eval o env)=eval o env:=by
 cases o<;>first|rfl|cases h
noncomputable abbrev gMt(m:Mt)(fo fa:FE):FE:=λρ h=>(fo ρ h).bind λx h=>if zbw m h x then(fa ρ h).bind λy h=>match y with|.tup ys=>mtW m x ys h|_=>.no else .no
theorem zlh{apos:Pos}(ho:SE X o fo)(he:SE X e fa)(hb:zfl o=true)(hs:zax e=true)(hl:(apos.endLine==pos.line)=true) :
 SE X (.Call (.Attribute o "append" apos) [e] [] pos) (gMt .append fo (aCons fa aNil)):=by
 refine(pe_bm (X:=X) PySem.F.plainAttrs_list PySem.F.slot_list_append PySem.F.type_list_append zgc ho (zdy he zhz (zae hs)) (zlg hb) ?_ hl (zae hs) rfl).imp λσ H Q z9=>z9.el λρ h m w h' f r e k=>?_
 .rw[zae hs];rfl
 .refine zaa e λx h1 e1 e2=>?_
  split at e2
  .rename_i hk
   refine zaa e2 λy h2 e3 e4=>?_
   refine zaa e3 λz h3 e5 e6=>?_
   cases e6
   refine(.mk f r e1 λv H1 m1 s1 r1 q1=>?_)
   cases x<;>try cases hk
   rename_i i
   simp only[zbw]at hk
   cases g:h1.get i with
   |none=>rw[g]at hk;cases hk
   |some ob=>
    rw[g]at hk
    cases ob with
    |dk _=>cases hk
    |dm _=>cases hk
    |lst ws0=>
     cases q1
     obtain⟨vs0,p1,_⟩:=r1.lst g
     refine⟨.inl ⟨rfl,vs0,SqL.of p1⟩,ρ,h1,m1,z,h2,f.stp s1,r1,e5,λv2 H2 m2 s2 r2 q2=>?_⟩
     simp only[mtW]at e4
     cases g2:h2.get i with
     |none=>rw[g2]at e4;cases e4
     |some ob=>
      rw[g2]at e4
      cases ob with
      |dk _=>cases e4
      |dm _=>cases e4
      |lst ws=>
       simp only at e4
       split at e4
       .rename_i hz
        cases e4
        obtain⟨vs,p2,p3⟩:=r2.lst g2
        have hmi:m1 i=m2 i:=(s2.same i (zag g)).symm
        refine⟨m1 i,vs,v2,rfl,rfl,by rw[hmi];exact p2,by rw[p3.length];exact zaj.mp hz,?_⟩
        obtain⟨st,r'⟩:=r2.write (i:=i) (o:=.lst (ws++[z])) (u:=.lst (vs++[v2])) (zag g2) p2 (λ_ z=>nomatch z) (λ_ _ z=>nomatch z) λst=>⟨vs++[v2],zaf,(p3.stp st).append (.cons (q2.stp st) .nil)⟩
        rw[hmi]
        exact k .non _ m2 ((s1.trans s2).trans st) r' .non
       .cases e4
  .cases e2
theorem zvq{apos:Pos}(hu:X.A.units+1<cLine)(ho:SE X o fo)(ha:SE X a fa)(hbb:SE X b fb)(hb:zfl o=true)(hs:zax a=true)(hs2:zax b=true)(hl:(apos.endLine==pos.line)=true) :
 SE X (.Call (.Attribute o "get" apos) [a,b] [] pos) (gMt .get fo (aCons fa (aCons fb aNil))):=by
 have tr:backTo pos (starEach [a,b] X.env)=[(false,eval a X.env),(false,eval b X.env)]:=by
  rw[zae hs,zae hs2];rfl
 refine(znn hu ho ha hbb ⟨zlg hb,by rw[tr];rfl,hl,tr⟩).imp λσ H Q z9=>z9.el λρ h m w h' f r e k=>?_
 refine zaa e λx h1 e1 e2=>?_
 split at e2
 .rename_i hk
  refine zaa e2 λy h2 e3 e4=>?_
  refine zaa e3 λz h3 e5 e6=>?_
  refine zaa e6 λy2 h4 e7 e8=>?_
  refine zaa e7 λz2 h5 e9 e10=>?_
  cases e10
  cases e8
  refine(.mk f r e1 λv H1 m1 s1 r1 q1=>?_)
  cases x<;>try cases hk
  rename_i i
  simp only[zbw]at hk
  cases g:h1.get i with
  |none=>rw[g]at hk;cases hk
  |some ob=>
   rw[g]at hk
   cases ob with
   |lst _=>cases hk
   |dk ws0=>
    cases q1
    obtain⟨vs0,p1,_⟩:=r1.dk g
    refine⟨m1 i,rfl,.inl ⟨vs0,p1⟩,ρ,h1,m1,z,h3,f.stp s1,r1,e5,λv2 H2 m2 s2 r2 q2=>(.mk ((f.stp s1).stp s2) r2 e9 λv3 H3 m3 s3 r3 q3=>?_)⟩
    simp only[mtW]at e4
    split at e4
    .rename_i kvs kk g2 hkk
     cases e4
     obtain⟨vs,p2,p3⟩:=r3.dk g2
     have hmi:m1 i=m3 i:=((s3.same i (vag (zag g) s2.le)).trans (s2.same i (zag g))).symm
     have hv:=zdc (q2.stp s3) hkk
     subst hv
     refine⟨valV vs kk,by rw[hmi];exact .inl ⟨vs,kk,p2,rfl,rfl⟩,?_⟩
     have s13:=(s1.trans s2).trans s3
     rcases p3.look kk with⟨z1,z2⟩|⟨v',w',z1,z2,z3⟩
     .rw[z1];rw[z2]at k;exact k _ H3 m3 s13 r3 q3
     .rw[z1];rw[z2]at k;exact k _ H3 m3 s13 r3 z3
    .rename_i kvs kk g2 hkk
     cases e4
     obtain⟨vs,p2,p3⟩:=r3.dm g2
     have hmi:m1 i=m3 i:=((s3.same i (vag (zag g) s2.le)).trans (s2.same i (zag g))).symm
     have hv:=zdc (q2.stp s3) hkk
     subst hv
     refine⟨valV vs kk,by rw[hmi];exact .inl ⟨vs,kk,.inl p2,rfl,rfl⟩,?_⟩
     have s13:=(s1.trans s2).trans s3
     rcases p3.look kk with⟨z1,z2⟩|⟨v',w',z1,z2,z3⟩
     .rw[z1];rw[z2]at k;exact k _ H3 m3 s13 r3 q3
     .rw[z1];rw[z2]at k;exact k _ H3 m3 s13 r3 z3
    .cases e4
   |dm ws0=>
    cases q1
    obtain⟨vs0,p1,_⟩:=r1.dm g
    refine⟨m1 i,rfl,.inl ⟨vs0,.inl p1⟩,ρ,h1,m1,z,h3,f.stp s1,r1,e5,λv2 H2 m2 s2 r2 q2=>(.mk ((f.stp s1).stp s2) r2 e9 λv3 H3 m3 s3 r3 q3=>?_)⟩
    simp only[mtW]at e4
    split at e4
    .rename_i kvs kk g2 hkk
     cases e4
     obtain⟨vs,p2,p3⟩:=r3.dk g2
     have hmi:m1 i=m3 i:=((s3.same i (vag (zag g) s2.le)).trans (s2.same i (zag g))).symm
     have hv:=zdc (q2.stp s3) hkk
     subst hv
     refine⟨valV vs kk,by rw[hmi];exact .inl ⟨vs,kk,p2,rfl,rfl⟩,?_⟩
     have s13:=(s1.trans s2).trans s3
     rcases p3.look kk with⟨z1,z2⟩|⟨v',w',z1,z2,z3⟩
     .rw[z1];rw[z2]at k;exact k _ H3 m3 s13 r3 q3
     .rw[z1];rw[z2]at k;exact k _ H3 m3 s13 r3 z3
    .rename_i kvs kk g2 hkk
     cases e4
     obtain⟨vs,p2,p3⟩:=r3.dm g2
     have hmi:m1 i=m3 i:=((s3.same i (vag (zag g) s2.le)).trans (s2.same i (zag g))).symm
     have hv:=zdc (q2.stp s3) hkk
     subst hv
     refine⟨valV vs kk,by rw[hmi];exact .inl ⟨vs,kk,.inl p2,rfl,rfl⟩,?_⟩
     have s13:=(s1.trans s2).trans s3
     rcases p3.look kk with⟨z1,z2⟩|⟨v',w',z1,z2,z3⟩
     .rw[z1];rw[z2]at k;exact k _ H3 m3 s13 r3 q3
     .rw[z1];rw[z2]at k;exact k _ H3 m3 s13 r3 z3
    .cases e4
 .cases e2
end
section
variable{K:vga}{m m' m1:Nat->Addr}{n n' n1:Nat}{h h':VH}{H H' H1:Hp}
mutual
theorem VRep.mono(hn:n<=n')(hm:∀i,i<n->m' i=m i)(kt:∀b vs,H b=some (.tup vs)->H' b=some (.tup vs))(kf:∀b o u,H b=some (.frz o u)->H' b=some (.frz o u)):∀{v:V} {w:W},VRep K m n H v w->VRep K m' n' H' v w
 |_,_,.non=>.non
 |_,_,.bl b=>.bl b
 |_,_,.int b=>.int b
 |_,_,.str b=>.str b
 |_,_,.tup q r=>.tup (by
  rcases q with(q|⟨o,q⟩)|q
  .exact .inl (.inl (kt _ _ q))
  .exact .inl (.inr ⟨o,kf _ _ _ q⟩)
  .exact .inr q) (VReps.mono hn hm kt kf r)
 |_,_,.fz q r=>.fz (by
  rcases q with⟨o,q⟩|q
  .exact .inl ⟨o,kf _ _ _ q⟩
  .exact .inr q) (VReps.mono hn hm kt kf r)
 |_,_,.ref (i:=i) q=>by rw[<-hm i q];exact .ref (vag q hn)
theorem VReps.mono(hn:n<=n')(hm:∀i,i<n->m' i=m i)(kt:∀b vs,H b=some (.tup vs)->H' b=some (.tup vs))(kf:∀b o u,H b=some (.frz o u)->H' b=some (.frz o u)):∀{vs:List V} {ws:List W},VReps K m n H vs ws->VReps K m' n' H' vs ws
 |_,_,.nil=>.nil
 |_,_,.cons q r=>.cons (VRep.mono hn hm kt kf q) (VReps.mono hn hm kt kf r)
end
theorem Rel.side(r:Rel K m h H){D:Addr}{u u0:HO}(hu:H D=some u0)(ht:∀t,u0≠.tup t)(hf:∀o t,u0≠.frz o t)(ho:∀i,i<h.n->m i≠D)(s:Stp m1 n1 H1 m h.n H)(h0:H1 D=none) :
 Stp m1 n1 H1 m h.n (upd H D u)/\Rel K m h (upd H D u)/\∀{v:V}{w:W},VRep K m h.n H v w->VRep K m h.n (upd H D u) v w:=by
 have kt:∀b vs,H b=some (.tup vs)->upd H D u b=some (.tup vs):=λb vs q=>by rw[zac (ne_of q hu λz=>ht vs z.symm)];exact q
 have kf:∀b o t,H b=some (.frz o t)->upd H D u b=some (.frz o t):=λb o t q=>by rw[zac (ne_of q hu λz=>hf o t z.symm)];exact q
 have mv:∀{v:V}{w:W},VRep K m h.n H v w->VRep K m h.n (upd H D u) v w:=λq=>q.mono (vaa _) (λ_ _=>rfl) kt kf
 refine⟨⟨s.le,s.same,s.new,s.apart,λb vs q=>kt b vs (s.tup b vs q),λb o t q=>kf b o t (s.frz b o t q),λb o nb q=>by rw[zac (zad q h0)];exact s.keep b o nb q⟩,⟨λi hi=>?_,r.inj,r.len⟩,mv⟩
 obtain⟨o,h1,h2⟩:=r.obj i hi
 have eq:upd H D u (m i)=H (m i):=zac (ho i hi)
 refine⟨o,h1,?_⟩
 cases o with
 |lst ws=>obtain⟨vs,q1,q2⟩:=h2;exact⟨vs,eq.trans q1,q2.map mv⟩
 |dk ws=>obtain⟨vs,q1,q2⟩:=h2;exact⟨vs,q1.imp (λz=>eq.trans z) λ⟨o,z⟩=>⟨o,eq.trans z⟩,q2.map mv⟩
 |dm ws=>obtain⟨vs,q1,q2⟩:=h2;exact⟨vs,eq.trans q1,q2.map mv⟩
theorem Rel.out(r:Rel K m h H){p:Addr}(hp:H p=none):∀i,i<h.n->m i≠p:=λi hi z=>by
 obtain⟨o',_,h2⟩:=r.obj i hi
 obtain⟨u',h3⟩:=h2.some
 rw[z,hp]at h3;cases h3
theorem Stp.out(s:Stp m n H m' n' H'){p:Addr}{u:HO}(hp:∀i,i<n->m i≠p)(hu:H p=some u):∀i,i<n'->m' i≠p:=λi hi z=>by
 by_cases hl:i<n
 .exact hp i hl ((s.same i hl).symm.trans z)
 .have:=s.new i (vb6.mp hl) hi
  rw[z,hu]at this;cases this
end
inductive PReps(K:vga)(m:Nat->Addr)(n:Nat)(H:Hp):List (V×V)->List W->Prop
 |nil:PReps K m n H [] []
 |cons {k v:V} {a b:W} {ps:List (V×V)} {ws:List W}:VRep K m n H k a->VRep K m n H v b->PReps K m n H ps ws->PReps K m n H ((k,v)::ps) (a::b::ws)
noncomputable def lftP(K:vga)(f:FE)(σ:L2.St)(H:Hp)(Q:List (V×V)->Hp->Prop):Prop:=∃ρ h m ws h',Fr K m h.n H σ ρ/\Rel K m h H/\f ρ h=.ok (.tup ws) h'/\
 ∀ps H' m',Stp m h.n H m' h'.n H'->Rel K m' h' H'->PReps K m' h'.n H' ps ws->Q ps H'
theorem lftP.el{K:vga}{σ:L2.St}{H:Hp}{P:Prop}{fa:FE}{Q:List (V×V)->Hp->Prop}(q:lftP K fa σ H Q)(k:∀ρ h m ws h',Fr K m h.n H σ ρ->Rel K m h H->fa ρ h=.ok (.tup ws) h'->(∀ps H' m',Stp m h.n H m' h'.n H'->Rel K m' h' H'->PReps K m' h'.n H' ps ws->Q ps H')->P):P:=by
 obtain⟨ρ,h,m,w,h',f,r,e,k'⟩:=q
 exact k ρ h m w h' f r e k'
theorem lftP.mk{K:vga}{σ:L2.St}{H:Hp}{m:Nat->Addr}{ρ:En}{h h':VH}{ws:List W}{fa:FE}{Q:List (V×V)->Hp->Prop}(f:Fr K m h.n H σ ρ)(r:Rel K m h H)(e:fa ρ h=.ok (.tup ws) h')(k:∀ps H' m',Stp m h.n H m' h'.n H'->Rel K m' h' H'->PReps K m' h'.n H' ps ws->Q ps H'):lftP K fa σ H Q:=⟨ρ,h,m,ws,h',f,r,e,k⟩
noncomputable def SPs(X:Cx)(pos:Pos)(keys:List (Option Expr))(values:List Expr)(f:FE):Prop:=∃trs,PPs X pos keys values trs/\∀σ H Q,lftP X.K f σ H Q->zh8 trs σ H Q
section
variable{X:Cx}{a b c e o:Expr}{es:List Expr}{fa fb fc fo fr:FE}{pos p:Pos}{x:Str}
theorem zrp:SPs X pos [] [] aNil:=⟨[],zq6,λσ H Q z9=>z9.el λρ h m ws h' f r e k=>by cases e;exact k [] H m .refl r .nil⟩
theorem znz{ks:List (Option Expr)}{vs:List Expr}(ha:SE X a fa)(hb:SE X b fb)(hr:SPs X pos ks vs fr):SPs X pos (some a::ks) (b::vs) (aCons fa (aCons fb fr)):=by
 obtain⟨trs,h1,h2⟩:=hr
 refine⟨_,znm ha hb h1,λσ H Q z9=>z9.el λρ h m ws h' f r e k=>?_⟩
 refine zaa e λx h3 e1 e2=>?_
 refine zaa e2 λy h4 e3 e4=>?_
 refine zaa e3 λx2 h5 e5 e6=>?_
 refine zaa e6 λy2 h6 e7 e8=>?_
 cases y2<;>try cases e8
 cases e4
 rename_i ys
 exact(.mk f r e1 λv H1 m1 s1 r1 q1=>(.mk (f.stp s1) r1 e5 λv2 H2 m2 s2 r2 q2=>h2 σ H2 _ (.mk ((f.stp s1).stp s2) r2 e7 λps H3 m3 s3 r3 q3=>
  k _ H3 m3 ((s1.trans s2).trans s3) r3 (.cons ((q1.stp s2).stp s3) (q2.stp s3) q3))))
theorem zii{K:vga}{m:Nat->Addr}{n:Nat}{H:Hp}:∀{ps:List (V×V)} {ws:List W} {kws:List (Key×W)},PReps K m n H ps ws->zdj ws=some kws->∃kvs:List (Key×V),ps=kvs.map (λkv=>(kV kv.1,kv.2))/\KReps K m n H kvs kws
 |_,_,_,.nil,e=>by cases e;exact⟨[],rfl,.nil⟩
 |_,_,_,.cons (a:=a) (v:=v) q1 q2 r,e=>by
  simp only[zdj]at e
  split at e
  .rename_i k hk
   split at e
   .rename_i kvs hp
    cases e
    obtain⟨kv,rfl,r'⟩:=zii r hp
    refine⟨(k,v)::kv,?_,.cons q2 r'⟩
    rw[vaw,zdc q1 hk]
   .cases e
  .cases e
noncomputable abbrev gDsp(f:FE):FE:=λρ h=>(f ρ h).bind λy h=>match y with
 |.tup ys=>(match zdj ys with
  |some kvs=>if Nat.ble kvs.length 15 then .ok (.ref h.n) (h.new (dkO kvs))else .no
  |none=>.no)
 |_=>.no
theorem zvr(hu:X.A.units+2<cLine){keys:List (Option Expr)}{values:List Expr}(hp:SPs X pos keys values fa)(hall:keys.all (·.isSome)=true)(hl:keys.length=values.length)(h0:keys≠[])(h15:keys.length<=15):SE X (.Dict keys values pos) (gDsp fa):=by
 obtain⟨trs,h1,h2⟩:=hp
 refine(zq7 h1 hall hl h0 h15).imp λσ H Q z9 p hp=>z9.el λρ h m w h' f r e k=>?_
 refine zaa e λy h3 e1 e2=>?_
 cases y<;>try cases e2
 rename_i ys
 obtain⟨st0,r0⟩:=r.more (u:=.dK []) hp
 refine h2 σ _ _ (.mk (f.stp st0) r0 e1 λps H2 m2 s2 r2 q2=>?_)
 have hout:=s2.out (r.out hp) zaf
 have hD:H2 p=some (.dK []):=s2.keep p _ (r.out hp) zaf
 refine⟨hD,?_⟩
 have e2:(match zdj ys with
  |some kvs=>if Nat.ble kvs.length 15 then Res.ok (W.ref h3.n) (h3.new (dkO kvs))else .no
  |none=>.no)=.ok w h':=e2
 cases hk:zdj ys with
 |none=>
  rw[hk]at e2;cases e2
 |some kws=>
  rw[hk]at e2
  have e2:(if Nat.ble kws.length 15 then Res.ok (W.ref h3.n) (h3.new (dkO kws))else .no)=.ok w h':=e2
  by_cases hz:Nat.ble kws.length 15=true
  .rw[if_pos hz]at e2
   cases e2
   obtain⟨kvs,e3,q3⟩:=zii q2 hk
   refine⟨kvs,e3,by rw[q3.length];exact va2 hz,?_⟩
   obtain⟨st,r'⟩:=r2.adopt (o:=dkO kws) (u:=.dK (zdh [] kvs)) hout hD (λ_ z=>nomatch z) (λ_ _ z=>nomatch z) (st0.trans s2) hp λ_ mv=>⟨_,.inl zaf,(q3.merge .nil).map mv⟩
   refine k _ _ _ st r' ?_
   have:VRep X.K (λi=>if i=h3.n then p else m2 i) (h3.n+1) (upd H2 p (.dK (zdh [] kvs))) (.ref ((λi=>if i=h3.n then p else m2 i) h3.n)) (.ref h3.n):=.ref (va4 _)
   simp only[vbe]at this
   exact this
  .rw[if_neg hz]at e2;cases e2
noncomputable def spV(K:vga)(np:Nat)(g:List W->VH->Res W):Sp:=λvs H Q _=>vs.length=np/\∃h m ws w h',Rel K m h H/\VReps K m h.n H vs ws/\g ws h=.ok w h'/\Wants K m h.n H w h' Q
theorem zrq{k:Nat}{f:Addr}{fd:FuncData}{ps:List Str}{g:List W->VH->Res W}(F:FnOk X.prog X.w X.K X.mg X.base CX0 k f fd ps (spV X.K ps.length g))(hr:Room k X.A)(hg:Gl X x)(hm:X.mg x=some (.ref f))(hk:PySem.W.keepIn X.K (.ref f)=true)
 (hb:Binds X.K fd ps []) (ha:SA X (e::es) fa) (hs:(e::es).all zax=true) (hdb:(x==("__debug__" : Str))=false) (hn:∀ws h w h',g ws h=.ok w h'->ws.length=ps.length):SE X (.Call (.Name x p) (e::es) [] pos) (gArg fa g):=by
 rw[vch,vab]at hs
 refine(zkj F hr hg hm hk hb .nil pass0 ha hdb (zae hs.1) (zcu hs.2)).imp λσ H Q q=>zda (G:=λvs H1 Q=>spV X.K ps.length g (vs++[]) H1 Q E0) (λm h H vs xs w h' Q r q e k=>?_) q
 rw[vbp]
 exact⟨by rw[q.length];exact hn _ _ _ _ e,h,m,xs,w,h',r,q,e,k⟩
theorem zn0{k:Nat}{f:Addr}{fd:FuncData}{ps:List Str}{g:List W->VH->Res W}(F:FnOk X.prog X.w X.K X.mg X.base CX0 k f fd ps (spV X.K ps.length g))(hr:Room k X.A)(hg:Gl X x)(hm:X.mg x=some (.ref f))(hk:PySem.W.keepIn X.K (.ref f)=true)
 (hb:Binds X.K fd ps []) (hdb:(x==("__debug__" : Str))=false) (hn:∀ws h w h',g ws h=.ok w h'->ws.length=ps.length):SE X (.Call (.Name x p) [] [] pos) (gArg aNil g):=by
 refine(zne F hr hg hm hk hb .nil pass0 hdb).imp λσ H Q z9=>z9.el λρ h m w h' f r e k=>?_
 exact⟨hn _ _ _ _ e,h,m,[],w,h',r,.nil,e,k⟩
theorem zn1{k:Nat}{f:Addr}{fd:FuncData}{ps:List Str}{g:List W->VH->Res W}(F:FnOk X.prog X.w X.K X.mg X.base CX0 k f fd ps (spV X.K ps.length g))(hr:Room k X.A)(hg:Gl X x)(hm:X.mg x=some (.ref f))(hk:PySem.W.keepIn X.K (.ref f)=true)
 (hb:Binds X.K fd ps [.none]) (ha:SA X (e::es) fa) (hs:(e::es).all zax=true) (hdb:(x==("__debug__" : Str))=false) (hn:∀ws h w h',g ws h=.ok w h'->ws.length=ps.length):SE X (.Call (.Name x p) (e::es) [] pos) (gArg fa λws h=>g (ws++[.non]) h):=by
 rw[vch,vab]at hs
 refine(zkj F hr hg hm hk hb (dvs:=[V.non]) (.cons rfl .nil) pass0 ha hdb (zae hs.1) (zcu hs.2)).imp λσ H Q q=>zda (G:=λvs H1 Q=>spV X.K ps.length g (vs++[V.non]) H1 Q E0) (λm h H vs xs w h' Q r q e k=>?_) q
 have q':VReps X.K m h.n H (vs++[V.non]) (xs++[W.non]):=q.append (.cons .non .nil)
 exact⟨by rw[q'.length];exact hn _ _ _ _ e,h,m,xs++[W.non],w,h',r,q',e,k⟩
noncomputable def ItOk(K:vga)(nx:Nat->VH->Option (Option W))(J:It)(P:(Nat->Addr)->Nat->Hp->Prop):Prop:=
 (∀m n H m' n' H',n<=n'->(∀i,i<n->m' i=m i)->(∀b vs,H b=some (.tup vs)->H' b=some (.tup vs))->(∀b o u,H b=some (.frz o u)->H' b=some (.frz o u))->P m n H->P m' n' H')/\
 ∀m h H,Rel K m h H->P m h.n H->∀i,(∀w,nx i h=some (some w)->J.go i H/\∀y H3,J.yld i H y H3->Stp m h.n H m h.n H3/\Rel K m h H3/\VRep K m h.n H3 y w)/\(nx i h=some none->J.stop i H)
noncomputable def lftI(K:vga)(kd:Kd)(f:FE):TI:=λσ H R=>∃ρ h m x h',Fr K m h.n H σ ρ/\Rel K m h H/\f ρ h=.ok x h'/\(∃o,nxt kd x 0 h'=some o)/\
 ∀J P H' m',Stp m h.n H m' h'.n H'->Rel K m' h' H'->ItOk K (nxt kd x) J P->P m' h'.n H'->R J H'
theorem lftI.el{K:vga}{σ:L2.St}{H:Hp}{P:Prop}{kd:Kd}{fa:FE}{R}(q:lftI K kd fa σ H R)(k:∀ρ h m x h',Fr K m h.n H σ ρ->Rel K m h H->fa ρ h=.ok x h'->∀o,nxt kd x 0 h'=some o->(∀J P H' m',Stp m h.n H m' h'.n H'->Rel K m' h' H'->ItOk K (nxt kd x) J P->P m' h'.n H'->R J H')->P):P:=by
 obtain⟨ρ,h,m,w,h',f,r,e,⟨o,eo⟩,k'⟩:=q
 exact k ρ h m w h' f r e o eo k'
theorem lftI.mk{K:vga}{σ:L2.St}{H:Hp}{m:Nat->Addr}{ρ:En}{h h':VH}{x:W}{kd:Kd}{fa:FE}{R}(f:Fr K m h.n H σ ρ)(r:Rel K m h H)(e:fa ρ h=.ok x h')(eo:∃o,nxt kd x 0 h'=some o)(k:∀J P H' m',Stp m h.n H m' h'.n H'->Rel K m' h' H'->ItOk K (nxt kd x) J P->P m' h'.n H'->R J H'):lftI K kd fa σ H R:=⟨ρ,h,m,x,h',f,r,e,eo,k⟩
theorem zij{K:vga}{H H':Hp}{a:Addr}{vs:List V}(kt:∀b vs,H b=some (.tup vs)->H' b=some (.tup vs))(kf:∀b o u,H b=some (.frz o u)->H' b=some (.frz o u))(q:SqT K H a vs):SqT K H' a vs:=by
 rcases q with(q|⟨o,q⟩)|q
 .exact .inl (.inl (kt _ _ q))
 .exact .inl (.inr ⟨o,kf _ _ _ q⟩)
 .exact .inr q
theorem zrr{K:vga}{H H':Hp}{a:Addr}{vs:List V}(kf:∀b o u,H b=some (.frz o u)->H' b=some (.frz o u))(q:Fz K H a vs):Fz K H' a vs:=by
 rcases q with⟨o,q⟩|q
 .exact .inl ⟨o,kf _ _ _ q⟩
 .exact .inr q
theorem zeu{ws:List W}{h:VH}{x:W}{i:Nat}{o:Option W}(e:seqW h x=some ws)(q:nxt .seq x i h=some o):ws[i]?=o:=by
 simp only[nxt,e]at q
 cases q;rfl
theorem zvs{K:vga}{a:Addr}{vs:List V}{ws:List W}:ItOk K (nxt .seq (.tup ws)) (Itt K a) (λm n H=>SqT K H a vs/\VReps K m n H vs ws):=by
 refine⟨λm n H m' n' H' hn hm kt kf ⟨q1,q2⟩=>⟨zij kt kf q1,q2.mono hn hm kt kf⟩,λm h H r ⟨q1,q2⟩ i=>⟨λw e=>?_,λe=>?_⟩⟩
 .have e:=zeu (ws:=ws) rfl e
  obtain⟨v,h1,h2⟩:=q2.get e
  refine⟨⟨vs,v,q1,h1⟩,λy H3 ⟨e3,y3⟩=>?_⟩
  subst e3
  have:=y3 vs q1
  rw[h1]at this;cases this
  exact⟨.refl,r,h2⟩
 .have e:=zeu (ws:=ws) rfl e
  exact⟨vs,q1,by rw[q2.length];exact vcb.mp e⟩
theorem it_fz{K:vga}{a:Addr}{vs:List V}{ws:List W}:ItOk K (nxt .seq (.fz ws)) (Itl K a) (λm n H=>Fz K H a vs/\VReps K m n H vs ws):=by
 refine⟨λm n H m' n' H' hn hm kt kf ⟨q1,q2⟩=>⟨zrr kf q1,q2.mono hn hm kt kf⟩,λm h H r ⟨q1,q2⟩ i=>⟨λw e=>?_,λe=>?_⟩⟩
 .have e:=zeu (ws:=ws) rfl e
  obtain⟨v,h1,h2⟩:=q2.get e
  refine⟨⟨vs,v,q1.sq,h1⟩,λy H3 ⟨e3,y3⟩=>?_⟩
  subst e3
  have:=y3 vs q1.sq
  rw[h1]at this;cases this
  exact⟨.refl,r,h2⟩
 .have e:=zeu (ws:=ws) rfl e
  exact⟨vs,q1.sq,by rw[q2.length];exact vcb.mp e⟩
theorem zvt{K:vga}{a:Addr}{l:Nat}:ItOk K (nxt .seq (.ref l)) (Itl K a) (λm n H=>l<n/\a=m l):=by
 refine⟨λm n H m' n' H' hn hm kt kf ⟨q1,q2⟩=>⟨vag q1 hn,by rw[hm l q1];exact q2⟩,λm h H r ⟨q1,q2⟩ i=>?_⟩
 subst q2
 cases g:h.get l with
 |none=>exact⟨λw e=>by simp[nxt,seqW,g]at e,λe=>by simp[nxt,seqW,g]at e⟩
 |some o=>
  cases o with
  |dk _=>exact⟨λw e=>by simp[nxt,seqW,g]at e,λe=>by simp[nxt,seqW,g]at e⟩
  |dm _=>exact⟨λw e=>by simp[nxt,seqW,g]at e,λe=>by simp[nxt,seqW,g]at e⟩
  |lst ws=>
   have hs:seqW h (.ref l)=some ws:=by simp[seqW,g]
   obtain⟨vs,p1,p2⟩:=r.lst g
   refine⟨λw e=>?_,λe=>?_⟩
   .have e:=zeu hs e
    obtain⟨v,h1,h2⟩:=p2.get e
    refine⟨⟨vs,v,SqL.of p1,h1⟩,λy H3 ⟨e3,y3⟩=>?_⟩
    subst e3
    have:=y3 vs (SqL.of p1)
    rw[h1]at this;cases this
    exact⟨.refl,r,h2⟩
   .have e:=zeu hs e
    exact⟨vs,SqL.of p1,by rw[p2.length];exact vcb.mp e⟩
theorem zpm{K:vga}{kd:Kd}{x:W}{lo:Int}{k:Nat}(hx:∀i h,nxt kd x i h=some (if i<k then some (.int (lo+i))else none)):ItOk K (nxt kd x) (Itr lo k) (λ_ _ _=>True):=by
 refine⟨λ_ _ _ _ _ _ _ _ _ _ _=>trivial,λm h H r _ i=>⟨λw e=>?_,λe=>?_⟩⟩
 .rw[hx]at e
  split at e
  .rename_i hi
   cases e
   refine⟨hi,λy H3 ⟨e3,y3⟩=>?_⟩
   subst e3 y3
   exact⟨.refl,r,.int _⟩
  .cases e
 .rw[hx]at e
  split at e
  .cases e
  .rename_i hi
   exact vb6.mp hi
theorem zli{tg:Expr}(ha:SE X e fa):PI X tg e (lftI X.K .seq fa):=λpins s σ H R I z9=>z9.el λρ h m x h' f r ee o en k=>by
 have hs:∃ws,seqW h' x=some ws:=by
  cases z:seqW h' x with
  |none=>simp[nxt,z]at en
  |some ws=>exact⟨ws,rfl⟩
 obtain⟨ws,hs⟩:=hs
 cases x<;>try cases hs
 .exact ztr ha pins s σ H R I (.mk f r ee λv H' m' s' r' q=>by
   cases q with
   |tup sq rs=>exact⟨_,rfl,⟨_,sq⟩,k _ _ H' m' s' r' zvs ⟨sq,rs⟩⟩)
 .exact zj9 ha pins s σ H R I (.mk f r ee λv H' m' s' r' q=>by
   cases q with
   |fz sq rs=>exact⟨_,rfl,⟨_,sq.sq⟩,k _ _ H' m' s' r' it_fz ⟨sq,rs⟩⟩)
 .rename_i l
  exact zj9 ha pins s σ H R I (.mk f r ee λv H' m' s' r' q=>by
   obtain⟨p,vs,e1,e2,e3⟩:=zdb r' q hs
   cases q with
   |ref hi=>
    cases g:h'.get l with
    |none=>simp[seqW,g]at hs
    |some ob=>
     cases ob with
     |dk _=>simp[seqW,g]at hs
     |dm _=>simp[seqW,g]at hs
     |lst ws'=>
      obtain⟨vs',p1,_⟩:=r'.lst g
      exact⟨_,rfl,⟨_,SqL.of p1⟩,k _ _ H' m' s' r' zvt ⟨hi,rfl⟩⟩)
theorem zrs{tg:Expr}(ha:SA X [e] fa)(hs:zax e=true)(hg:Gl X "range")(hm:X.mg "range" = none):PI X tg (.Call (.Name "range" p) [e] [] pos) (lftI X.K .rng1 fa):=λpins s σ H R I z9=>z9.el λρ h m x h' f r ee o en k=>by
 simp only[nxt]at en
 split at en
 .rename_i j
  split at en
  .rename_i hf
   refine zka hg hm ha (zae hs) pins s σ H R I (.mk f r ee λvs H' m' s' r' q=>?_)
   obtain⟨v,rfl,q1⟩:=reps1 q
   cases q1
   refine⟨_,rfl,(zcj hf).1,(zcj hf).2,k _ _ H' m' s' r' (zpm λi h=>?_) trivial⟩
   simp only[nxt,hf,vbe]
   split<;>split<;>first|rfl|(exfalso;simp at *;lia)
  .cases en
 .cases en
theorem zrt{tg:Expr}(ha:SA X [a,b] fa)(hs:zax a=true)(hs2:zax b=true)(hg:Gl X "range")(hm:X.mg "range" = none):PI X tg (.Call (.Name "range" p) [a,b] [] pos) (lftI X.K .rng2 fa):=λpins s σ H R I z9=>z9.el λρ h m x h' f r ee o en k=>by
 simp only[nxt]at en
 split at en
 .rename_i i j
  split at en
  .rename_i hf
   refine zkb hg hm ha (by rw[zae hs,zae hs2];rfl) (zae hs2) pins s σ H R I (.mk f r ee λvs H' m' s' r' q=>?_)
   obtain⟨v,u,rfl,q1,q2⟩:=reps2 q
   cases q1;cases q2
   have hf2:=hf
   rw[vab]at hf2
   refine⟨_,_,rfl,⟨(zcj hf2.1).1,(zcj hf2.1).2,(zcj hf2.2).1,(zcj hf2.2).2⟩,k _ _ H' m' s' r' (zpm λi h=>?_) trivial⟩
   simp only[nxt,hf,vbe]
   split<;>split<;>first|rfl|(exfalso;simp at *;lia)
  .cases en
 .cases en
noncomputable def zvu(tl:TE):TI:=λσ H R=>tl σ H λx H1=>∃a kvs,x=.ref a/\((∃ob,H1 a=some (.frz ob (.dK kvs))/\R (Itd a ob kvs) H1)\/(H1 a=some (.dK kvs)/\∀ob,R (Itd a ob kvs) (upd H1 a (.frz ob (.dK kvs)))))
theorem zn2{tg l:Expr}{tl:TE}(hl:PE X l tl):PI X tg l (zvu tl):=by
 intro pins s σ H R I h
 refine thn (hl pins s σ H _ I h) λv s1 hq0=>?_
 obtain⟨x,H1,I1,r1,q1⟩:=hq0
 obtain⟨a,kvs,e,q⟩:=q1
 subst e
 cases r1
 have key:∀(H2:Hp)(ob:Obj),Inv X pins σ H2 s1->H2 a=some (.frz ob (.dK kvs))->R (Itd a ob kvs) H2->wpAny (model X.prog X.w) X.A (pyIter (.ref a)) (λitv s2=>PIE X pins σ tg R itv s2) X.xe s1:=by
  intro H2 ob I2 e0 q2
  obtain⟨e1,z,y,vs,r,o',es,ep,e2,c1,c2,c3,c4,c5⟩:=(show ObjOk X.prog X.w H2 s1.heap a (.frz ob (.dK kvs))from I2.hok a _ e0)
  rw[e1]at e2;cases e2
  refine wpAny_pyIter_dict (knd:=zaq X.prog X.w) y ⟨ob,es,e1,c1,c2,c3,c4,c5⟩ ?_
  have hlen:=r.length
  refine⟨s1.heap.objs.size,[s1.heap.objs.size],_,_,H2,rfl,I2.kept (t':=s1.toks) λb o e=>vae _ e,zky (kvs:=kvs) c2 (va7 (vaq e1)),⟨_,va9 _ rfl,rfl,by rw[hlen];rfl⟩,λb hb=>?_,q2⟩
  have e:b=s1.heap.objs.size:=by simpa using hb
  subst e
  exact I2.fpOk (vaa _) (I2.hok.fresh (vaa _))
 rcases q with⟨ob,e0,q⟩|⟨e0,q⟩
 .exact key H1 ob I1 e0 q
 .obtain⟨ob,I2⟩:=I1.freeze e0
  exact key _ ob I2 zaf (q ob)
theorem KReps.key{K:vga}{m:Nat->Addr}{n:Nat}{H:Hp}:∀{vs:List (Key×V)} {ws:List (Key×W)} (i:Nat),KReps K m n H vs ws->(vs[i]?).map (·.1)=(ws[i]?).map (·.1)
 |_,_,_,.nil=>rfl
 |_,_,0,.cons _ _=>rfl
 |_,_,i+1,.cons _ r=>by simpa using KReps.key i r
theorem zn3{K:vga}{m:Nat->Addr}{n:Nat}{H:Hp}(k:Key):VRep K m n H (kV k) (keyV k):=by
 cases k
 .exact .int _
 .exact .str _
theorem zlj{K:vga}{a:Addr}{l:Nat}{ob:Obj}{kv:List (Key×V)}:ItOk K (nxt .keys (.ref l)) (Itd a ob kv) (λm n H=>l<n/\a=m l/\H a=some (.frz ob (.dK kv))):=by
 refine⟨λm n H m' n' H' hn hm kt kf ⟨q1,q2,q3⟩=>⟨vag q1 hn,by rw[hm l q1];exact q2,kf _ _ _ q3⟩,λm h H r ⟨q1,q2,q3⟩ i=>?_⟩
 subst q2
 cases g:h.get l with
 |none=>exact⟨λw e=>by simp[nxt,g]at e,λe=>by simp[nxt,g]at e⟩
 |some o=>
  cases o with
  |lst _=>exact⟨λw e=>by simp[nxt,g]at e,λe=>by simp[nxt,g]at e⟩
  |dm _=>exact⟨λw e=>by simp[nxt,g]at e,λe=>by simp[nxt,g]at e⟩
  |dk ws=>
   obtain⟨vs,p1,p2⟩:=r.dk g
   have hv:vs=kv:=by
    rcases p1 with p1|⟨o,p1⟩
    .rw[q3]at p1;cases p1
    .rw[q3]at p1;cases p1;rfl
   subst hv
   have hk:=p2.key i
   refine⟨λw e=>?_,λe=>?_⟩
   .simp only[nxt,g]at e
    cases z:ws[i]? with
    |none=>
     rw[z]at e
     simp only at e
     split at e<;>cases e
    |some p=>
     rw[z]at e hk
     simp only[vbt,Option.some.injEq]at e hk
     subst e
     cases z2:vs[i]? with
     |none=>rw[z2]at hk;cases hk
     |some q=>
      rw[z2]at hk
      simp only[vbt,Option.some.injEq]at hk
      refine⟨⟨q3,(vba.mp z2).1⟩,λy H3 ⟨e3,k3,v3,e4,e5⟩=>?_⟩
      subst e3 e5
      rw[z2]at e4
      cases e4
      rw[<-hk]
      exact⟨.refl,r,zn3 _⟩
   .simp only[nxt,g]at e
    cases z:ws[i]? with
    |some p=>rw[z]at e;cases e
    |none=>
     rw[z]at e
     simp only at e
     split at e
     .rename_i hb
      exact⟨q3,by rw[p2.length];exact vcs hb⟩
     .cases e
theorem Rel.frozen{K:vga}{m:Nat->Addr}{h:VH}{H:Hp}(r:Rel K m h H){i:Nat}{o:VO}{u u0:HO}(hi:h.get i=some o)(h0:H (m i)=some u0)(hn:∀t,u0≠.tup t)(hf:∀o t,u0≠.frz o t)
 (ho:Stp m h.n H m h.n (upd H (m i) u)->ORep K m h.n (upd H (m i) u) (m i) o) :
 Stp m h.n H m h.n (upd H (m i) u)/\Rel K m h (upd H (m i) u):=by
 have st:Stp m h.n H m h.n (upd H (m i) u):=by
  refine⟨vaa _,λ_ _=>rfl,λj a b=>absurd b (vb6.mpr a),λj k a b=>absurd b (vb6.mpr a),λb vs q=>?_,λb o t q=>?_,λb o nb q=>?_⟩
  .rw[zac (ne_of q h0 (λz=>hn vs z.symm))];exact q
  .rw[zac (ne_of q h0 (λz=>hf o t z.symm))];exact q
  .rw[zac (nb i (zag hi)).symm];exact q
 refine⟨st,⟨λj hj=>?_,r.inj,r.len⟩⟩
 by_cases e:j=i
 .subst e;exact⟨o,hi,ho st⟩
 .obtain⟨o',h1,h2⟩:=r.obj j hj
  exact⟨o',h1,ORep.stp st (zac λz=>e (r.inj j i hj (zag hi) z)) h2⟩
theorem zru{tg:Expr}(ha:SE X e fa):PI X tg e (lftI X.K .keys fa):=λpins s σ H R I z9=>z9.el λρ h m x h' f r ee o en k=>by
 have hs:∃l kvs,x=.ref l/\h'.get l=some (.dk kvs):=by
  simp only[nxt]at en
  split at en
  .rename_i l
   split at en
   .exact⟨_,_,rfl,by assumption⟩
   .cases en
  .cases en
 obtain⟨l,kvs,rfl,g⟩:=hs
 refine zn2 ha pins s σ H R I (.mk f r ee λv H' m' s' r' q=>?_)
 cases q with
 |ref hi=>
  obtain⟨vs,p1,p2⟩:=r'.dk g
  refine⟨m' l,vs,rfl,?_⟩
  rcases p1 with p1|⟨ob,p1⟩
  .refine .inr ⟨p1,λob=>?_⟩
   obtain⟨st,r2⟩:=r'.frozen (u:=.frz ob (.dK vs)) g p1 (λ_ z=>nomatch z) (λ_ _ z=>nomatch z) λst=>⟨vs,.inr ⟨ob,zaf⟩,p2.stp st⟩
   exact k _ _ _ m' (s'.trans st) r2 zlj ⟨hi,rfl,zaf⟩
  .exact .inl ⟨ob,p1,k _ _ H' m' s' r' zlj ⟨hi,rfl,p1⟩⟩
theorem zn4{elts:List Expr}{kx:Nat}{tp:Pos}{l:Expr}{ta:TA}(hg:Gl X "enumerate")(hm:X.mg "enumerate" = none)(hv:bootBuiltins "enumerate" = some (.type "enumerate"))(ha:PA X [l] ta)(hs:starEach [l] X.env=[(false,eval l X.env)]) :
 PI X (.Tuple elts kx tp) (.Call (.Name "enumerate" p) [l] [] pos) (λσ H R=>ta σ H λvs H1=>∃a,vs=[.ref a]/\(∃xs,SqT X.K H1 a xs)/\R (IteT X.K a) H1):=by
 intro pins s σ H R I h
 refine Call_ (zem I hg hm hv (vc3 (thn (ha pos pins s σ H _ I h) λus s1 ⟨vs,H1,I1,r1,q1⟩=>?_) hs rfl))
 obtain⟨a,e,⟨xs,hq⟩,q⟩:=q1
 subst e
 obtain⟨u,rfl,ru⟩:=vals1 r1
 cases ru
 obtain⟨its,rv,pl,hz⟩:=I1.tuple hq
 have pl:s1.heap.IsTuple a its.toArray:=pl
 have hlt:a<s1.heap.objs.size:=by obtain⟨o,q,_⟩:=pl;exact vaq q
 refine zjq pl λh' he hit hsz kk=>wpAny_pyIter_enum he ?_
 have hf:∀b,s1.heap.objs.size<=b->FpOk X pins H1 b:=λb hb=>I1.fpOk hb (I1.hok.fresh hb)
 refine⟨s1.heap.objs.size+1,[s1.heap.objs.size+1,s1.heap.objs.size],_,_,H1,rfl,I1.kept (t':=s1.toks) kk,zjr a _ _ (ve1 (va4 _)) (va7 (vcl hlt)) (va7 hlt),⟨⟨_,he⟩,hit⟩,λb hb=>hf b ?_,q⟩
 rcases va3.mp hb with rfl|hb
 .exact vdk _
 .have e':b=s1.heap.objs.size:=by simpa using hb
  rw[e'];exact vaa _
theorem zpn{ws:List W}{h:VH}{i:Nat}{o:Option W}(q:nxt .enm (.tup ws) i h=some o):o=(ws[i]?).map λw=>.tup [.int i,w]:=by
 cases q;rfl
theorem zrv{K:vga}{a:Addr}{vs:List V}{ws:List W}:ItOk K (nxt .enm (.tup ws)) (IteT K a) (λm n H=>SqT K H a vs/\VReps K m n H vs ws):=by
 refine⟨λm n H m' n' H' hn hm kt kf ⟨q1,q2⟩=>⟨zij kt kf q1,q2.mono hn hm kt kf⟩,λm h H r ⟨q1,q2⟩ i=>⟨λw e=>?_,λe=>?_⟩⟩
 .have e:=zpn (ws:=ws) e
  cases z:ws[i]? with
  |none=>rw[z]at e;cases e
  |some w0=>
   rw[z]at e;cases e
   obtain⟨v,h1,h2⟩:=q2.get z
   refine⟨⟨vs,v,q1,h1⟩,λy H3 ⟨T,v3,e1,e2,e3,y3⟩=>?_⟩
   subst e1 e3
   have:=y3 vs q1
   rw[h1]at this;cases this
   obtain⟨st,r'⟩:=r.more (u:=.tup [.int i,v]) e2
   exact⟨st,r',.tup (SqT.of zaf) (.cons (.int _) (.cons (h2.stp st) .nil))⟩
 .have e:=zpn (ws:=ws) e
  cases z:ws[i]? with
  |some w0=>rw[z]at e;cases e
  |none=>exact⟨vs,q1,by rw[q2.length];exact vcb.mp z⟩
theorem zlk:bootBuiltins "enumerate" = some (.type "enumerate"):=by decide +kernel
theorem zk4(ha:SE X e fa)(hs:zax e=true):PA X [e] (λσ H Q=>lft X.K fa σ H λv H1=>Q [v] H1):=λp pins s σ H Q I q=>by
 refine zdy ha zhz (zae hs) p pins s σ H Q I ?_
 refine q.el λρ h m w h' f r ee k=>?_
 exact(.mk f r ee λv H' m' s' r' q'=>k v H' m' s' r' q')
theorem zvv{elts:List Expr}{kx:Nat}{tp:Pos}(ha:SE X e fa)(hs0:zax e=true)(hg:Gl X "enumerate")(hm:X.mg "enumerate" = none):PI X (.Tuple elts kx tp) (.Call (.Name "enumerate" p) [e] [] pos) (lftI X.K .enm fa):=λpins s σ H R I z9=>z9.el λρ h m x h' f r ee o en k=>by
 cases x with
 |tup ws=>exact zn4 hg hm zlk (zk4 ha hs0) (zae hs0) pins s σ H R I ⟨ρ,h,m,_,h',f,r,ee,λv H' m' s' r' q=>by
  cases q with
  |tup sq rs=>exact⟨_,rfl,⟨_,sq⟩,k _ _ H' m' s' r' zrv ⟨sq,rs⟩⟩⟩
 |_=>cases en
end
section
variable{X:Cx}{a b c e o:Expr}{es:List Expr}{fa fb fc fo fr:FE}{pos p:Pos}{x:Str}
noncomputable def lftG(K:vga)(t:Tg):TG:=λv σ H Q=>∃ρ h m w ρ',Fr K m h.n H σ ρ/\Rel K m h H/\VRep K m h.n H v w/\tgW t w h ρ=some ρ'/\∀σ',Fr K m h.n H σ' ρ'->Q σ' H
theorem lftG.el{K:vga}{v:V}{σ:L2.St}{H:Hp}{P:Prop}{tg:Tg}{Q}(q:lftG K tg v σ H Q)(k:∀ρ h m w ρ',Fr K m h.n H σ ρ->Rel K m h H->VRep K m h.n H v w->tgW tg w h ρ=some ρ'->(∀σ',Fr K m h.n H σ' ρ'->Q σ' H)->P):P:=by
 obtain⟨ρ,h,m,w,h',f,r,e,eo,k'⟩:=q
 exact k ρ h m w h' f r e eo k'
theorem lftG.mk{K:vga}{v:V}{σ:L2.St}{H:Hp}{m:Nat->Addr}{ρ ρ':En}{h:VH}{w:W}{tg:Tg}{Q}(f:Fr K m h.n H σ ρ)(r:Rel K m h H)(e:VRep K m h.n H v w)(eo:tgW tg w h ρ=some ρ')(k:∀σ',Fr K m h.n H σ' ρ'->Q σ' H):lftG K tg v σ H Q:=⟨ρ,h,m,w,ρ',f,r,e,eo,k⟩
theorem zvw{i:Nat}(hN:X.N.Nodup)(hi:X.N[i]?=some x)(hx:Loc X.env.scope x)(hf:X.fn x=true\/X.env.scope.names.lookup x=some .local):PG X (.Name x pos) (lftG X.K (.one i)):=λpins s σ H v u Q I ru z9=>z9.el λρ h m w ρ' f r q e k=>by
 cases e
 exact zj7 hN hi hx hf pins s σ H v u Q I ru (k _ (f.set q i))
noncomputable def NmOk(X:Cx)(e:Expr)(i:Nat):Prop:=∃x p,e=.Name x p/\X.N[i]?=some x/\Loc X.env.scope x/\(X.fn x=true\/X.env.scope.names.lookup x=some .local)
noncomputable def lftGs(K:vga)(is:List Nat):TGs:=λvs σ H Q=>∃ρ m n ws ρ',Fr K m n H σ ρ/\VReps K m n H vs ws/\zbf is ws ρ=some ρ'/\∀σ',Fr K m n H σ' ρ'->Q σ' H
theorem zpo(hN:X.N.Nodup):∀{es:List Expr} {is:List Nat},Paired (NmOk X) es is->PGs X es (lftGs X.K is)/\(assignEach es X.env).length=es.length/\(assignEach es X.env).findIdx? (·.1)=none
 |_,_,.nil=>by
  refine⟨λpins s σ H vs us Q I ru ⟨ρ,m,n,ws,ρ',f,q,e,k⟩=>?_,rfl,rfl⟩
  cases ws with
  |nil=>cases e;cases q;exact zqn pins s σ H [] us Q I ru ⟨rfl,k _ f⟩
  |cons _ _=>cases e
 |e::es,i::is,.cons ⟨x,p,he,hi,hx,hf⟩ t=>by
  subst he
  obtain⟨h1,h2,h3⟩:=zpo hN t
  refine⟨λpins s σ H vs us Q I ru ⟨ρ,m,n,ws,ρ',f,q,e,k⟩=>?_,?_,?_⟩
  .cases q with
   |nil=>cases e
   |cons q qs=>
    exact zm7 (zj7 hN hi hx hf) h1 rfl pins s σ H _ us Q I ru ⟨_,_,rfl,ρ.set i (some _),m,n,_,ρ',f.set q i,qs,e,k⟩
  .show(assignEach es X.env).length+1=es.length+1
   rw[h2]
  .show List.findIdx? _ ((false,_)::assignEach es X.env)=none
   rw[List.findIdx?_cons,h3];rfl
theorem zev:∀{is:List Nat} {ws:List W} {ρ ρ':En},zbf is ws ρ=some ρ'->ws.length=is.length
 |[],[],_,_,_=>rfl
 |[],_::_,_,_,e=>by cases e
 |_::_,[],_,_,e=>by cases e
 |_::_,_::_,_,_,e=>by
  rw[vai,vai,zev (by simpa only[zbf]using e)]
theorem zvx{t:TGs}{n k:Nat}(hc:X.calm=true)(h:PGs X es t)(hn:(assignEach es X.env).length=n)(hst:(assignEach es X.env).findIdx? (·.1)=none) :
 PG X (.Tuple es k pos) (λv σ H Q=>∃a xs,v=.ref a/\SqL X.K H a xs/\xs.length=n/\t xs σ H Q):=by
 intro pins s σ H v u Q I r hw
 obtain⟨a,xs,rfl,hq,hl,hw⟩:=hw
 cases r
 obtain⟨its,rv,ht,hz⟩:=I.list hq
 rw[assign_Tuple]
 refine vac (vc6 ?_)
 unfold unpack
 have hsz:(assignEach es X.env).length=its.toArray.size:=by rw[hn,<-hl,rv.length,vad]
 rw[hst,hsz]
 refine vac (vcg (PySem.W.kun_itemsOf (I.ok.hd hc) ht.isList λh' hx=>?_))
 have I1:Inv X pins σ H {s with heap:=h'}:=I.kept (t':=s.toks) λb o e=>hx b o (va7 (vaq e)) e
 exact h pins _ σ H xs _ Q I1 (by simpa using rv) hw
theorem zll{is:List Nat}{k:Nat}(hc:X.calm=true)(hN:X.N.Nodup)(hs:Paired (NmOk X) es is):PG X (.Tuple es k pos) (lftG X.K (.many is)):=λpins s σ H v u Q I ru z9=>z9.el λρ h m w ρ' f r q e k=>by
 obtain⟨h1,h2,h3⟩:=zpo hN hs
 simp only[tgW]at e
 cases z:seqW h w with
 |none=>rw[z]at e;cases e
 |some ws=>
  rw[z]at e
  have e:zbf is ws ρ=some ρ':=e
  obtain⟨p,vs,rfl,hq,qs⟩:=zdb r q z
  have hl:vs.length=es.length:=by rw[qs.length,zev e,hs.length]
  rcases hq with hq|hq
  .exact zvx hc h1 h2 h3 pins s σ H _ u Q I ru ⟨p,vs,rfl,hq,hl,ρ,m,h.n,ws,ρ',f,qs,e,k⟩
  .exact ztk hc h1 h2 h3 pins s σ H _ u Q I ru ⟨p,vs,rfl,hq,hl,ρ,m,h.n,ws,ρ',f,qs,e,k⟩
theorem zik{K:vga}{m:Nat->Addr}{n:Nat}{H:Hp}{σ:L2.St}{ρ:En}{ow fr:List Str}{ix:List Nat}(f:Fr K m n H σ ρ):Fr K m n H (cσ ow fr ix σ) (inner ow.length ix ρ):=by
 unfold cσ inner
 refine⟨by simp,λi w e=>?_⟩
 by_cases hi:i<ow.length
 .rw[vbv (by simpa using hi)]at e
  rw[vdh]at e
  split at e<;>cases e
 .rw[vay (by simpa using vb6.mp hi)]at e
  rw[vay (by simpa using vb6.mp hi)]
  simp only[vcn,vah]at e ⊢
  rw[va5]at e ⊢
  cases z:ix[i-ow.length]? with
  |none=>rw[z]at e;cases e
  |some j=>
   rw[z]at e
   simp only[vbt,Option.some.injEq]at e ⊢
   have e3:ρ[j]?=some (some w):=by
    cases q:ρ[j]? with
    |none=>rw[q]at e;cases e
    |some o=>rw[q]at e;rw[<-e];rfl
   obtain⟨v,h1,h2⟩:=f.val j w e3
   exact⟨v,by rw[h1];rfl,h2⟩
theorem zhi{nx:Nat->VH->Option (Option W)}{tg:W->VH->En->Option En}{c e:FE}:∀{f i:Nat} {ρ:En} {h:VH} {acc ys:List W} {h':VH},lcG nx tg c e f i ρ h acc=.ok ys h'->acc.length<=ys.length
 |0,_,_,_,_,_,_,q=>by cases q
 |f+1,i,ρ,h,acc,ys,h',q=>by
  simp only[lcG]at q
  split at q
  .cases q
  .cases q;simp
  .split at q
   .cases q
   .refine zaa q λb h1 e1 e2=>?_
    split at e2
    .refine zaa e2 λy h2 e3 e4=>?_
     have:=zhi e4
     rw[vai]at this
     lia
    .exact zhi e2
    .cases e2
theorem zvy{nx:Nat->VH->Option (Option W)}{tg:W->VH->En->Option En}{c e:FE}{f i:Nat}{ρ:En}{h:VH}{acc ys:List W}{h':VH}(q:lcG nx tg c e (f+1) i ρ h acc=.ok ys h'):∃o,nx i h=some o:=by
 simp only[lcG]at q
 split at q
 .cases q
 .exact⟨_,by assumption⟩
 .exact⟨_,by assumption⟩
theorem zil{H:Hp}{a:Addr}{o:HO}(h:H a=some o):upd H a o=H:=by
 funext b
 unfold upd
 split
 .rename_i e;rw[e,h]
 .rfl
noncomputable abbrev gLc(kd:Kd)(fa:FE)(t:Tg)(ow:Nat)(ix:List Nat)(fc fe:FE):FE:=λρ h=>(fa ρ h).bind λx h=>(lcG (nxt kd x) (tgW t) fc fe fuel 0 (inner ow ix ρ) h []).bind λys h=>if Nat.ble ys.length big then .ok (.ref h.n) (h.new (.lst ys))else .no
theorem lc_ok{K:vga}{kd:Kd}{t:Tg}{ow fr:List Str}{ix:List Nat}{fe:FE}{σ:L2.St}{H:Hp}{Q:VK}(q:lft K (gLc kd fa t ow.length ix fc fe) σ H Q):tLC K (cσ ow fr ix) (lftI K kd fa) (lftG K t) (lftT K fc) (lft K fe) σ H Q:=by
 refine q.el λρ h m w h' f r e k=>?_
 refine zaa e λx h1 e1 e2=>?_
 refine zaa e2 λys h2 e3 e4=>?_
 split at e4
 case isFalse=>cases e4
 rename_i hz
 cases e4
 have hz:=va2 hz
 refine(.mk f r e1 ?_ λJ P H1 m1 s1 r1 J1 p1 D hD hK=>?_)
 .exact zvy (f:=999999) e3
 obtain⟨st0,r0⟩:=r1.more (u:=.lst []) hD
 have p0:=J1.1 m1 h1.n H1 m1 h1.n (upd H1 D (.lst [])) (vaa _) (λ_ _=>rfl) (λb vs q=>st0.tup b vs q) (λb o u q=>st0.frz b o u q) p1
 refine⟨λi fl σ' H' vs=>∃ρ' h3 m3 acc,lcG (nxt kd x) (tgW t) fc fe fl i ρ' h3 acc=.ok ys h2/\Fr K m3 h3.n H' σ' ρ'/\Rel K m3 h3 H'/\H' D=some (.lst vs)/\VReps K m3 h3.n H' vs acc.reverse/\(∀i,i<h3.n->m3 i≠D)/\Stp m1 h1.n H1 m3 h3.n H'/\P m3 h3.n H',
  ⟨fuel,inner ow.length ix ρ,h1,m1,[],e3,zik ((f.stp s1).stp st0),r0,zaf,.nil,r1.out hD,st0,p0⟩,?_⟩
 rintro i fl σ' H' vs ⟨ρ',h3,m3,acc,e5,f3,r3,d3,q3,o3,s3,p3⟩
 refine⟨d3,?_⟩
 cases fl with
 |zero=>cases e5
 |succ fl=>
  simp only[lcG]at e5
  obtain⟨j1,j2⟩:=J1.2 m3 h3 H' r3 p3 i
  split at e5
  .cases e5
  .rename_i hn
   cases e5
   refine .inl ⟨j2 hn,?_⟩
   obtain⟨st,r'⟩:=r3.adopt (o:=.lst acc.reverse) (u:=.lst vs) o3 d3 (λ_ z=>nomatch z) (λ_ _ z=>nomatch z) (s1.trans s3) (by
    cases z:H D with
    |none=>rfl
    |some o=>
     have:=s1.keep D o (λi hi z2=>(r1.out hD) i (vag hi s1.le) ((s1.same i hi).trans z2)) z
     rw[hD]at this;cases this) λ_ mv=>⟨_,zaf,q3.map mv⟩
   rw[zil d3]at st r'
   refine k _ _ _ st r' ?_
   have:VRep K (λi=>if i=h2.n then D else m3 i) (h2.n+1) H' (.ref ((λi=>if i=h2.n then D else m3 i) h2.n)) (.ref h2.n):=.ref (va4 _)
   simp only[vbe]at this
   exact this
  .rename_i w hn
   obtain⟨j3,j4⟩:=j1 w hn
   refine .inr ⟨j3,λy H4 hy=>?_⟩
   obtain⟨s4,r4,q4⟩:=j4 y H4 hy
   split at e5
   .cases e5
   .rename_i ρ5 ht
    refine⟨ρ',h3,m3,w,ρ5,f3.stp s4,r4,q4,ht,λσ5 f5=>?_⟩
    refine zaa e5 λbv h6 e6 e7=>?_
    have d4:H4 D=some (.lst vs):=s4.keep D _ o3 d3
    have s14:=s3.trans s4
    have p4:=J1.1 m3 h3.n H' m3 h3.n H4 (vaa _) (λ_ _=>rfl) (λb vs q=>s4.tup b vs q) (λb o u q=>s4.frz b o u q) p3
    cases bv<;>try cases e7
    rename_i bb
    refine⟨ρ5,h3,m3,bb,h6,f5,r4,e6,λH6 m6 s6 r6=>?_⟩
    have o6:=s6.out o3 d4
    have d6:H6 D=some (.lst vs):=s6.keep D _ o3 d4
    have p6:=J1.1 m3 h3.n H4 m6 h6.n H6 s6.le s6.same (λb vs q=>s6.tup b vs q) (λb o u q=>s6.frz b o u q) p4
    cases bb with
    |false=>
     simp only[vam,vbi]
     exact⟨fl,va4 _,ρ5,h6,m6,acc,e7,f5.stp s6,r6,d6,(q3.stp s4).stp s6,o6,s14.trans s6,p6⟩
    |true=>
     simp only[vbe]
     refine zaa e7 λy7 h7 e8 e9=>?_
     refine⟨ρ5,h6,m6,y7,h7,f5.stp s6,r6,e8,λv7 H7 m7 s7 r7 q7=>?_⟩
     have o7:=s7.out o6 d6
     have d7:H7 D=some (.lst vs):=s7.keep D _ o6 d6
     have p7:=J1.1 m6 h6.n H6 m7 h7.n H7 s7.le s7.same (λb vs q=>s7.tup b vs q) (λb o u q=>s7.frz b o u q) p6
     have q37:=((q3.stp s4).stp s6).stp s7
     have hlen:=zhi e9
     rw[vai]at hlen
     refine⟨d7,?_,fl,va4 _,ρ5,h7,m7,y7::acc,e9,?_⟩
     .rw[q37.length,List.length_reverse]
      have:big=sizeLine:=rfl
      lia
     .obtain⟨st8,r8,mv⟩:=r7.side (u:=.lst (vs++[v7])) d7 (λ_ z=>nomatch z) (λ_ _ z=>nomatch z) o7 ((s14.trans s6).trans s7) hD
      have kt:∀b us,H7 b=some (.tup us)->upd H7 D (.lst (vs++[v7])) b=some (.tup us):=λb us q=>by rw[zac (ne_of q d7 λz=>nomatch z)];exact q
      have kf:∀b o u,H7 b=some (.frz o u)->upd H7 D (.lst (vs++[v7])) b=some (.frz o u):=λb o u q=>by rw[zac (ne_of q d7 λz=>nomatch z)];exact q
      refine⟨⟨(f5.stp s6).len,λi w e=>let⟨v,h1,h2⟩:=((f5.stp s6).stp s7).val i w e;⟨v,h1,mv h2⟩⟩,r8,zaf,?_,o7,st8,J1.1 m7 h7.n H7 m7 h7.n _ (vaa _) (λ_ _=>rfl) kt kf p7⟩
      rw[List.reverse_cons]
      exact(q37.map mv).append (.cons (mv q7) .nil)
theorem zvz{nx:Nat->VH->Option (Option W)}{tg:W->VH->En->Option En}{c e v:FE}{f i:Nat}{ρ:En}{h:VH}{acc ys:List (Key×W)}{h':VH}(q:dcG nx tg c e v (f+1) i ρ h acc=.ok ys h'):∃o,nx i h=some o:=by
 simp only[dcG]at q
 split at q
 .cases q
 .exact⟨_,by assumption⟩
 .exact⟨_,by assumption⟩
noncomputable abbrev gDc(kd:Kd)(fa:FE)(t:Tg)(ow:Nat)(ix:List Nat)(fc fe fv:FE):FE:=λρ h=>(fa ρ h).bind λx h=>(dcG (nxt kd x) (tgW t) fc fe fv fuel 0 (inner ow ix ρ) h []).bind λkvs h=>.ok (.ref h.n) (h.new (.dm kvs))
theorem dc_ok{K:vga}{kd:Kd}{t:Tg}{ow fr:List Str}{ix:List Nat}{fe fv:FE}{σ:L2.St}{H:Hp}{Q:VK}(q:lft K (gDc kd fa t ow.length ix fc fe fv) σ H Q):tCG K (cσ ow fr ix) (lftI K kd fa) (lftG K t) (lftT K fc) (tmD (lft K fe) (lft K fv)) (.dK []) σ H Q:=by
 refine q.el λρ h m w h' f r e k=>?_
 refine zaa e λx h1 e1 e2=>?_
 refine zaa e2 λys h2 e3 e4=>?_
 cases e4
 refine(.mk f r e1 ?_ λJ P H1 m1 s1 r1 J1 p1 D hD hK=>?_)
 .exact zvz (f:=999999) e3
 obtain⟨st0,r0⟩:=r1.more (u:=.dK []) hD
 have p0:=J1.1 m1 h1.n H1 m1 h1.n (upd H1 D (.dK [])) (vaa _) (λ_ _=>rfl) (λb vs q=>st0.tup b vs q) (λb o u q=>st0.frz b o u q) p1
 refine⟨λi fl σ' H'=>∃ρ' h3 m3 acc vs,dcG (nxt kd x) (tgW t) fc fe fv fl i ρ' h3 acc=.ok ys h2/\Fr K m3 h3.n H' σ' ρ'/\Rel K m3 h3 H'/\H' D=some (.dK vs)/\KReps K m3 h3.n H' vs acc/\(∀i,i<h3.n->m3 i≠D)/\Stp m1 h1.n H1 m3 h3.n H'/\P m3 h3.n H',
  ⟨fuel,inner ow.length ix ρ,h1,m1,[],[],e3,zik ((f.stp s1).stp st0),r0,zaf,.nil,r1.out hD,st0,p0⟩,?_⟩
 rintro i fl σ' H' ⟨ρ',h3,m3,acc,vs,e5,f3,r3,d3,q3,o3,s3,p3⟩
 cases fl with
 |zero=>cases e5
 |succ fl=>
  simp only[dcG]at e5
  obtain⟨j1,j2⟩:=J1.2 m3 h3 H' r3 p3 i
  split at e5
  .cases e5
  .rename_i hn
   cases e5
   refine .inl ⟨j2 hn,?_⟩
   obtain⟨st,r'⟩:=r3.adopt (o:=.dm ys) (u:=.dK vs) o3 d3 (λ_ z=>nomatch z) (λ_ _ z=>nomatch z) (s1.trans s3) (by
    cases z:H D with
    |none=>rfl
    |some o=>
     have:=s1.keep D o (λi hi z2=>(r1.out hD) i (vag hi s1.le) ((s1.same i hi).trans z2)) z
     rw[hD]at this;cases this) λ_ mv=>⟨_,zaf,q3.map mv⟩
   rw[zil d3]at st r'
   refine k _ _ _ st r' ?_
   have:VRep K (λi=>if i=h2.n then D else m3 i) (h2.n+1) H' (.ref ((λi=>if i=h2.n then D else m3 i) h2.n)) (.ref h2.n):=.ref (va4 _)
   simp only[vbe]at this
   exact this
  .rename_i w hn
   obtain⟨j3,j4⟩:=j1 w hn
   refine .inr ⟨j3,λy H4 hy=>?_⟩
   obtain⟨s4,r4,q4⟩:=j4 y H4 hy
   split at e5
   .cases e5
   .rename_i ρ5 ht
    refine⟨ρ',h3,m3,w,ρ5,f3.stp s4,r4,q4,ht,λσ5 f5=>?_⟩
    refine zaa e5 λbv h6 e6 e7=>?_
    have d4:H4 D=some (.dK vs):=s4.keep D _ o3 d3
    have s14:=s3.trans s4
    have p4:=J1.1 m3 h3.n H' m3 h3.n H4 (vaa _) (λ_ _=>rfl) (λb vs q=>s4.tup b vs q) (λb o u q=>s4.frz b o u q) p3
    cases bv<;>try cases e7
    rename_i bb
    refine⟨ρ5,h3,m3,bb,h6,f5,r4,e6,λH6 m6 s6 r6=>?_⟩
    have o6:=s6.out o3 d4
    have d6:H6 D=some (.dK vs):=s6.keep D _ o3 d4
    have p6:=J1.1 m3 h3.n H4 m6 h6.n H6 s6.le s6.same (λb vs q=>s6.tup b vs q) (λb o u q=>s6.frz b o u q) p4
    cases bb with
    |false=>
     simp only[vam,vbi]
     exact⟨fl,va4 _,ρ5,h6,m6,acc,vs,e7,f5.stp s6,r6,d6,(q3.stp s4).stp s6,o6,s14.trans s6,p6⟩
    |true=>
     simp only[vbe]
     refine zaa e7 λy7 h7 e8 e9=>?_
     refine zaa e9 λy8 h8 e10 e11=>?_
     refine⟨ρ5,h6,m6,y7,h7,f5.stp s6,r6,e8,λv7 H7 m7 s7 r7 q7=>⟨ρ5,h7,m7,y8,h8,(f5.stp s6).stp s7,r7,e10,λv8 H8 m8 s8 r8 q8=>?_⟩⟩
     have o7:=s7.out o6 d6
     have d7:H7 D=some (.dK vs):=s7.keep D _ o6 d6
     have o8:=s8.out o7 d7
     have d8:H8 D=some (.dK vs):=s8.keep D _ o7 d7
     have s78:=s7.trans s8
     have p8:=J1.1 m6 h6.n H6 m8 h8.n H8 s78.le s78.same (λb vs q=>s78.tup b vs q) (λb o u q=>s78.frz b o u q) p6
     have q38:=((q3.stp s4).stp s6).stp s78
     split at e11
     .rename_i kk hk
      split at e11
      .rename_i hz
       refine⟨vs,kk,d8,zdc (q7.stp s8) hk,?_,fl,va4 _,ρ5,h8,m8,putKW acc kk y8,putK vs kk v8,e11,?_⟩
       .rw[q38.length]
        exact zaj.mp hz
       .obtain⟨st8,r9,mv⟩:=r8.side (u:=.dK (putK vs kk v8)) d8 (λ_ z=>nomatch z) (λ_ _ z=>nomatch z) o8 ((s14.trans s6).trans s78) hD
        have kt:∀b us,H8 b=some (.tup us)->upd H8 D (.dK (putK vs kk v8)) b=some (.tup us):=λb us q=>by rw[zac (ne_of q d8 λz=>nomatch z)];exact q
        have kf:∀b o u,H8 b=some (.frz o u)->upd H8 D (.dK (putK vs kk v8)) b=some (.frz o u):=λb o u q=>by rw[zac (ne_of q d8 λz=>nomatch z)];exact q
        exact⟨⟨(f5.stp s6).len,λi w e=>let⟨v,h1,h2⟩:=((f5.stp s6).stp s78).val i w e;⟨v,h1,mv h2⟩⟩,r9,zaf,(q38.put q8 kk).map mv,o8,st8,J1.1 m8 h8.n H8 m8 h8.n _ (vaa _) (λ_ _=>rfl) kt kf p8⟩
      .cases e11
     .cases e11
end
noncomputable def Grow(h h':VH):Prop:=h.n<=h'.n/\h'.lo<=h.lo/\∀i,i<h.n->i<h'.lo->h'.get i=h.get i
theorem Grow.refl{h:VH}:Grow h h:=⟨vaa _,vaa _,λ_ _ _=>rfl⟩
theorem Grow.trans{h h1 h2:VH}(a:Grow h h1)(b:Grow h1 h2):Grow h h2:=⟨vbo a.1 b.1,vbo b.2.1 a.2.1,λi hi hl=>(b.2.2 i (vag hi a.1) hl).trans (a.2.2 i hi (vag hl b.2.1))⟩
theorem Grow.new{h:VH}{o:VO}:Grow h (h.new o):=⟨vdk _,vaa _,λi hi _=>zak hi⟩
theorem Grow.set{h:VH}{i:Nat}{o:VO}(hi:i<h.n):Grow h (h.set i o):=by
 refine⟨vaa _,?_,λj hj hl=>zbk hi ?_⟩
 .show(if Nat.blt i h.lo then i else h.lo)<=h.lo
  split
  .rename_i q;exact vdf (zaj.mp q)
  .exact vaa _
 .have hl:j< (if Nat.blt i h.lo then i else h.lo):=hl
  split at hl
  .lia
  .rename_i q
   intro z
   rw[z]at hl
   exact q (zaj.mpr hl)
noncomputable def Gr{α:Type}(r:Res α)(h:VH):Prop:=∀a h',r=.ok a h'->Grow h h'
section
variable{α β:Type}{h:VH}
theorem Gr.ok{a:α}:Gr (Res.ok a h) h:=λ_ _ e=>by cases e;exact .refl
theorem Gr.no:Gr (Res.no:Res α) h:=λ_ _ e=>by cases e
theorem Gr.of{o:Option α}:Gr (Res.of o h) h:=λ_ _ e=>by cases o with|none=>cases e|some a=>cases e;exact .refl
theorem Gr.new{a:α}{o:VO}:Gr (Res.ok a (h.new o)) h:=λ_ _ e=>by cases e;exact .new
theorem Gr.set{a:α}{o o':VO}{i:Nat}(g:h.get i=some o'):Gr (Res.ok a (h.set i o)) h:=λ_ _ e=>by cases e;exact .set (zag g)
theorem Gr.bind{r:Res α}{f:α->VH->Res β}(a:Gr r h)(b:∀x h1,Gr (f x h1) h1):Gr (r.bind f) h:=λy h' e=>by
 cases r with
 |ok x h1=>exact(a x h1 rfl).trans (b x h1 y h' e)
 |ex _ _=>cases e
 |no=>cases e
end
theorem gr_op{o:Op}{x y:W}{h:VH}:Gr (opW o x y h) h:=by
 unfold opW
 split
 .exact .of
 .exact .of
 .exact .of
 .split
  .split
   .exact .new
   .exact .no
  .exact .no
 .exact .no
theorem gr_ip{o:Op}{x y:W}{h:VH}:Gr (ipW o x y h) h:=by
 unfold ipW
 split
 .split
  .exact .ok
  .exact .ok
  .exact .of
  .exact .of
  .exact .no
 .split
  .split
   .rename_i g _ _;exact .set g
   .exact .no
  .exact .no
 .split
  .split
   .exact .ok
   .exact .no
  .exact .no
 .exact .no
theorem zv0{x:W}{l u:Option Int}{h:VH}:Gr (slcW x l u h) h:=by
 unfold slcW
 split
 .exact .ok
 .split
  .exact .new
  .exact .no
 .exact .no
theorem gr_bi{b:Bi}{xs:List W}{h:VH}:Gr (biW b xs h) h:=by
 cases b<;>simp only[biW]
 .unfold lenW;split<;>first|exact .of|exact .no
 .unfold listW
  split
  .split
   .exact .new
   .exact .no
  .exact .no
 .unfold zd9;split<;>first|exact .of|exact .no
 .unfold intW;split<;>first|exact .ok|exact .no
 .unfold absW;split<;>first|exact .ok|exact .no
 .unfold maxW
  split
  .exact .ok
  .split
   .split
    .exact .ok
    .exact .no
   .exact .no
  .exact .no
 .unfold minW;split<;>first|exact .ok|exact .no
 .unfold dm0W
  split
  .exact .new
  .exact .no
 .unfold frzW
  split
  .split
   .rename_i g;exact .set g
   .exact .ok
   .exact .no
  .exact .no
 .unfold srtW
  split
  .split
   .split
    .split
     .exact .new
     .exact .no
    .exact .no
   .exact .no
  .exact .no
theorem gr_mt{m:Mt}{o:W}{xs:List W}{h:VH}:Gr (mtW m o xs h) h:=by
 unfold mtW
 split
 .split
  .split
   .rename_i g _;exact .set g
   .exact .no
  .exact .no
 .split
  .exact .ok
  .exact .ok
  .exact .no
 .exact .no
theorem gr_lc{nx:Nat->VH->Option (Option W)}{tg:W->VH->En->Option En}{c e:En->VH->Res W}(hc:∀ρ h,Gr (c ρ h) h)(he:∀ρ h,Gr (e ρ h) h):∀(f i:Nat) (ρ:En) (h:VH) (acc:List W),Gr (lcG nx tg c e f i ρ h acc) h
 |0,_,_,_,_=>.no
 |f+1,i,ρ,h,acc=>by
  simp only[lcG]
  split
  .exact .no
  .exact .ok
  .split
   .exact .no
   .refine .bind (hc _ _) λb h1=>?_
    split
    .exact .bind (he _ _) λy h2=>gr_lc hc he f _ _ _ _
    .exact gr_lc hc he f _ _ _ _
    .exact .no
theorem gr_dc{nx:Nat->VH->Option (Option W)}{tg:W->VH->En->Option En}{c e v:En->VH->Res W}(hc:∀ρ h,Gr (c ρ h) h)(he:∀ρ h,Gr (e ρ h) h)(hv:∀ρ h,Gr (v ρ h) h):∀(f i:Nat) (ρ:En) (h:VH) (acc:List (L2.Key×W)),Gr (dcG nx tg c e v f i ρ h acc) h
 |0,_,_,_,_=>.no
 |f+1,i,ρ,h,acc=>by
  simp only[dcG]
  split
  .exact .no
  .exact .ok
  .split
   .exact .no
   .refine .bind (hc _ _) λb h1=>?_
    split
    .refine .bind (he _ _) λy h2=>.bind (hv _ _) λz h3=>?_
     split
     .split
      .exact gr_dc hc he hv f _ _ _ _
      .exact .no
     .exact .no
    .exact gr_dc hc he hv f _ _ _ _
    .exact .no
theorem zlm{nx:Nat->VH->Option (Option W)}{tg:W->VH->En->Option En}{b:En->VH->Res Fl}(hb:∀ρ h,Gr (b ρ h) h):∀(f i:Nat) (ρ:En) (h:VH),Gr (forG nx tg b f i ρ h) h
 |0,_,_,_=>.no
 |f+1,i,ρ,h=>by
  simp only[forG]
  split
  .exact .no
  .exact .ok
  .split
   .exact .no
   .refine .bind (hb _ _) λfl h1=>?_
    split
    .exact zlm hb f _ _ _
    .exact zlm hb f _ _ _
    .exact .ok
    .exact .ok
theorem zln{c:En->VH->Res W}{b:En->VH->Res Fl}(hc:∀ρ h,Gr (c ρ h) h)(hb:∀ρ h,Gr (b ρ h) h):∀(f:Nat) (ρ:En) (h:VH),Gr (whlG c b f ρ h) h
 |0,_,_=>.no
 |f+1,ρ,h=>by
  simp only[whlG]
  refine .bind (hc _ _) λt h1=>?_
  split
  .exact .ok
  .refine .bind (hb _ _) λfl h2=>?_
   split
   .exact zln hc hb f _ _
   .exact zln hc hb f _ _
   .exact .ok
   .exact .ok
  .exact .no
section
variable{cl:Call}
theorem gr_ev(hcl:∀f ws h,Gr (cl f ws h) h):∀(e:E) (ρ:En) (h:VH),Gr (ev cl e ρ h) h:=by
 intro e
 induction e with
 |var i=>intro ρ h;exact .of
 |cst w=>intro ρ h;exact .ok
 |nil=>intro ρ h;exact .ok
 |cons a r i1 i2=>intro ρ h;simp only[ev];refine .bind (i1 _ _) λx h1=>.bind (i2 _ _) λy h2=>?_;split<;>first|exact .ok|exact .no
 |tup a i1=>intro ρ h;simp only[ev];refine .bind (i1 _ _) λx h1=>?_;split<;>first|(split<;>first|exact .ok|exact .no)|exact .no
 |lst a i1=>intro ρ h;simp only[ev];refine .bind (i1 _ _) λx h1=>?_;split<;>first|(split<;>first|exact .new|exact .no)|exact .no
 |dsp a i1=>
  intro ρ h;simp only[ev];refine .bind (i1 _ _) λx h1=>?_
  split
  .split
   .split
    .exact .new
    .exact .no
   .exact .no
  .exact .no
 |op o a b i1 i2=>intro ρ h;simp only[ev];exact .bind (i1 _ _) λx h1=>.bind (i2 _ _) λy h2=>gr_op
 |neg a i1=>intro ρ h;simp only[ev];refine .bind (i1 _ _) λx h1=>?_;split<;>first|exact .ok|exact .no
 |cmp c a b i1 i2=>intro ρ h;simp only[ev];exact .bind (i1 _ _) λx h1=>.bind (i2 _ _) λy h2=>.of
 |chn c d a b e i1 i2 i3=>
  intro ρ h;simp only[ev];refine .bind (i1 _ _) λx h1=>.bind (i2 _ _) λy h2=>?_
  split
  .exact .bind (i3 _ _) λz h3=>.of
  .exact .ok
  .exact .no
 |not a i1=>intro ρ h;simp only[ev];refine .bind (i1 _ _) λx h1=>?_;split<;>first|exact .ok|exact .no
 |and a b i1 i2=>intro ρ h;simp only[ev];refine .bind (i1 _ _) λx h1=>?_;split<;>first|exact i2 _ _|exact .ok|exact .no
 |or a b i1 i2=>intro ρ h;simp only[ev];refine .bind (i1 _ _) λx h1=>?_;split<;>first|exact i2 _ _|exact .ok|exact .no
 |tru a i1=>intro ρ h;simp only[ev];exact .bind (i1 _ _) λx h1=>.of
 |ite c a b i1 i2 i3=>
  intro ρ h;simp only[ev];refine .bind (i1 _ _) λx h1=>?_
  split
  .exact i2 _ _
  .exact i3 _ _
  .exact .no
 |idx a b i1 i2=>intro ρ h;simp only[ev];exact .bind (i1 _ _) λx h1=>.bind (i2 _ _) λy h2=>.of
 |slc a bl lo bh hi i1 i2 i3=>
  intro ρ h;simp only[ev];refine .bind (i1 _ _) λx h1=>.bind (i2 _ _) λy h2=>.bind (i3 _ _) λz h3=>?_
  split
  .exact zv0
  .exact .no
 |call f a i1=>intro ρ h;simp only[ev];refine .bind (i1 _ _) λx h1=>?_;split<;>first|exact hcl _ _ _|exact .no
 |bi b a i1=>intro ρ h;simp only[ev];refine .bind (i1 _ _) λx h1=>?_;split<;>first|exact gr_bi|exact .no
 |isi t a i1=>intro ρ h;simp only[ev];exact .bind (i1 _ _) λx h1=>.of
 |mt m o a i1 i2=>
  intro ρ h;simp only[ev];refine .bind (i1 _ _) λx h1=>?_
  split
  .refine .bind (i2 _ _) λy h2=>?_
   split<;>first|exact gr_mt|exact .no
  .exact .no
 |lc k a t ow ix c e i1 i2 i3=>
  intro ρ h;simp only[ev]
  refine .bind (i1 _ _) λx h1=>.bind (gr_lc i2 i3 _ _ _ _ _) λys h2=>?_
  split
  .exact .new
  .exact .no
 |dc k a t ow ix c e v i1 i2 i3 i4=>
  intro ρ h;simp only[ev]
  exact .bind (i1 _ _) λx h1=>.bind (gr_dc i2 i3 i4 _ _ _ _ _) λys h2=>.new
theorem zim(hcl:∀f ws h,Gr (cl f ws h) h):∀(s:S) (ρ:En) (h:VH),Gr (exs cl s ρ h) h:=by
 have ge:=gr_ev hcl
 intro s
 induction s with
 |skip=>intro ρ h;exact .ok
 |seq a b i1 i2=>intro ρ h;simp only[exs];refine .bind (i1 _ _) λfl h1=>?_;split<;>first|exact i2 _ _|exact .ok
 |set i e=>intro ρ h;simp only[exs];exact .bind (ge _ _ _) λw h1=>.ok
 |unp is e=>intro ρ h;simp only[exs];exact .bind (ge _ _ _) λw h1=>.of
 |aug i o e=>
  intro ρ h;simp only[exs]
  split
  .exact .bind (ge _ _ _) λy h1=>.bind gr_ip λz h2=>.ok
  .exact .no
 |put o i v=>
  intro ρ h;simp only[exs]
  refine .bind (ge _ _ _) λw h1=>.bind (ge _ _ _) λx h2=>.bind (ge _ _ _) λy h3=>?_
  split
  .split
   .split
    .rename_i g _ _ _;exact .set g
    .exact .no
   .unfold putM
    split
    .split
     .rename_i g _;exact .set g
     .exact .no
    .exact .no
  .exact .no
 |ite c a b i1 i2=>
  intro ρ h;simp only[exs];refine .bind (ge _ _ _) λx h1=>?_
  split
  .exact i1 _ _
  .exact i2 _ _
  .exact .no
 |ret e=>intro ρ h;simp only[exs];exact .bind (ge _ _ _) λw h1=>.ok
 |expr e=>intro ρ h;simp only[exs];exact .bind (ge _ _ _) λw h1=>.ok
 |brk=>intro ρ h;exact .ok
 |cnt=>intro ρ h;exact .ok
 | «for» k a t b i1=>intro ρ h;simp only[exs];exact .bind (ge _ _ _) λx h1=>zlm i1 _ _ _ _
 |whl c b i1=>intro ρ h;simp only[exs];exact zln (ge c) i1 _ _ _
 |no=>intro ρ h;exact .no
end
theorem zin(F:Nat->Option Fn):∀(k f:Nat) (ws:List W) (h:VH),Gr (run F k f ws h) h
 |0,_,_,_=>.no
 |k+1,f,ws,h=>by
  intro a h' e
  simp only[run]at e
  split at e
  .rename_i fn hf
   split at e
   .rename_i hl
    generalize hr:exs (run F k) fn.body (ws.map some++vgc (fn.n-fn.ps) none) ⟨h.n,h.n,h.os⟩=r at e
    have g:=zim (zin F k) fn.body (ws.map some++vgc (fn.n-fn.ps) none) ⟨h.n,h.n,h.os⟩
    rw[hr]at g
    have lv:∀w h1,Grow ⟨h.n,h.n,h.os⟩ h1->leave h w h1=.ok a h'->Grow h h':=by
     intro w h1 g1 e1
     unfold leave at e1
     split at e1
     .cases e1;exact .refl
     .cases e1
      refine⟨g1.1,?_,λi hi hlo=>?_⟩
      .show(if Nat.ble h.lo h1.lo then h.lo else h1.lo)<=h.lo
       split
       .exact vaa _
       .rename_i q
        exact Nat.le_of_not_le λz=>q (veg.mpr z)
      .have hlo:i< (if Nat.ble h.lo h1.lo then h.lo else h1.lo):=hlo
       have hh:i<h1.lo:=by
        split at hlo
        .rename_i q;exact vag hlo (va2 q)
        .exact hlo
       exact g1.2.2 i hi hh
    cases r with
    |no=>cases e
    |ex _ _=>cases e
    |ok fl h1=>
     have g1:=g fl h1 rfl
     simp only[Res.bind]at e
     split at e
     .exact lv _ _ g1 e
     .exact lv _ _ g1 e
     .cases e
   .cases e
  .cases e
end RF
namespace HT
open PySem PySem.Spec PyProof.Rows
theorem icat_tup{prog:Program}{w:World}{A:Around}{E:Value->Shared->Prop}{s:Shared}{t b:Addr}{vs ws:List Value}{Q:Value->Shared->Prop}(ht:IsTup s.heap t vs.toArray)(hb:IsTup s.heap b ws.toArray)(hv:vs≠[])
 (h1:ws=[]->Q (.ref t) s) (h2:ws≠[]->Q (.ref s.heap.objs.size) {s with heap:=s.heap.push {cls:=.type "tuple",data:=.seq (vs++ws).toArray}})
 (hsz:vs.length+ws.length<=sizeLine):wpAny (model prog w) A (inplaceOp .Add (.ref t) (.ref b)) Q E s:=by
 obtain⟨⟨cls,dd,data,sl⟩,ho,hc,n,hd⟩:=id ht
 obtain⟨⟨cls2,dd2,data2,sl2⟩,ho2,hc2,n2,hd2⟩:=id hb
 simp only at hc hd hc2 hd2
 subst hc hd hc2 hd2
 have e:vs.toArray++ws.toArray=(vs++ws).toArray:=by simp
 have hno:typeLookup (.type "tuple") (dunderI "add")=pure none:=by rfl
 by_cases hw:ws=[]
 .exact wpAny_inplaceOp_concat ⟨_,ho,rfl⟩ ⟨_,ho2,rfl⟩ hno vd1 ven (vd6 vc4 ⟨_,ho,rfl⟩ vcx (vcu _ _)
   (tuple_addW1 t b vs.toArray ws.toArray n n2 dd dd2 sl sl2 (by simpa using hv) (by simp[hw])) ⟨ho,ho2,h1 hw⟩)
 .refine wpAny_inplaceOp_concat ⟨_,ho,rfl⟩ ⟨_,ho2,rfl⟩ hno vd1 ven (vd6 vc4 ⟨_,ho,rfl⟩ vcx (vcu _ _)
   (tuple_addW2 t b vs.toArray ws.toArray n n2 dd dd2 sl sl2 (by simpa using hv) (by simpa using hw) (by rw[vad,vad];exact hsz)) ⟨ho,ho2,?_⟩)
  rw[e]
  exact h2 hw
end HT
namespace L2
open PySem PySem.Spec PyProof.Rows
variable{X:Cx}
theorem zrw:PIp X .Add (rCatT X.K):=by
 intro pins s σ H x y v u Q I rx ry h
 obtain⟨a,b,xs,ys,rfl,rfl,ha,hb,hx,hz,q1,q2⟩:=h
 cases rx
 cases ry
 obtain⟨its,r1,p1,_⟩:=I.tuple ha
 obtain⟨its2,r2,p2,_⟩:=I.tuple hb
 refine HT.icat_tup p1 p2 (λz=>hx (r1.nil_iff.mp z)) (λz=>⟨.ref a,H,I,rfl,q1 (r2.nil_iff.mp z)⟩) (λz=>?_) (by rw[<-r1.length,<-r2.length];exact hz)
 refine⟨.ref s.heap.objs.size,_,I.laid (t':=s.toks) (o:=.tup (xs++ys)) (λb ob q=>vae _ q) (vaa _) ?_,rfl,q2 (λw=>z (r2.nil_iff.mpr w)) _ (I.hok.fresh (vaa _))⟩
 exact⟨by rw[vaj];exact hz,_,r1.append r2,zba.new _ _⟩
end L2
namespace RF
open PySem PySem.Spec PyProof.Rows L2
noncomputable def FlOk(K:vga)(m:Nat->Addr)(n:Nat)(H:Hp)(D:Ends):Fl->Prop
 |.nx ρ=>∀σ,Fr K m n H σ ρ->D.nx σ H
 |.bk ρ=>∀σ,Fr K m n H σ ρ->D.bk σ H
 |.ct ρ=>∀σ,Fr K m n H σ ρ->D.ct σ H
 |.rt w=>∀v,VRep K m n H v w->D.rt v H
noncomputable def lftS(K:vga)(f:FS):TS:=λD σ H=>∃ρ h m fl h',Fr K m h.n H σ ρ/\Rel K m h H/\f ρ h=.ok fl h'/\∀H' m',Stp m h.n H m' h'.n H'->Rel K m' h' H'->FlOk K m' h'.n H' D fl
theorem lftS.el{K:vga}{D:Ends}{σ:L2.St}{H:Hp}{P:Prop}{fa:FS}(q:lftS K fa D σ H)(k:∀ρ h m fl h',Fr K m h.n H σ ρ->Rel K m h H->fa ρ h=.ok fl h'->(∀H' m',Stp m h.n H m' h'.n H'->Rel K m' h' H'->FlOk K m' h'.n H' D fl)->P):P:=by
 obtain⟨ρ,h,m,w,h',f,r,e,k'⟩:=q
 exact k ρ h m w h' f r e k'
theorem lftS.mk{K:vga}{D:Ends}{σ:L2.St}{H:Hp}{m:Nat->Addr}{ρ:En}{h h':VH}{fl:Fl}{fa:FS}(f:Fr K m h.n H σ ρ)(r:Rel K m h H)(e:fa ρ h=.ok fl h')(k:∀H' m',Stp m h.n H m' h'.n H'->Rel K m' h' H'->FlOk K m' h'.n H' D fl):lftS K fa D σ H:=⟨ρ,h,m,fl,h',f,r,e,k⟩
noncomputable abbrev SS(X:Cx)(st:Stmt)(f:FS):Prop:=PS X st (lftS X.K f)
noncomputable abbrev SSs(X:Cx)(st:List Stmt)(f:FS):Prop:=PSs X st (lftS X.K f)
section
variable{X:Cx}{a b c e o:Expr}{es:List Expr}{fa fb fc fo fr:FE}{pos p:Pos}{x:Str}{st:Stmt}{sts:List Stmt}{ga gb:FS}
noncomputable abbrev gSkip:FS:=λρ h=>.ok (.nx ρ) h
noncomputable abbrev gSeq(ga gb:FS):FS:=λρ h=>(ga ρ h).bind λfl h=>match fl with|.nx ρ=>gb ρ h|fl=>.ok fl h
theorem zrx:SSs X [] gSkip:=zqj.imp λD σ H z9=>z9.el λρ h m fl h' f r e k=>by cases e;exact k H m .refl r σ f
theorem zry:SS X (.Pass pos) gSkip:=zqk.imp λD σ H z9=>z9.el λρ h m fl h' f r e k=>by cases e;exact k H m .refl r σ f
theorem zv1:SS X (.Break pos) (λρ h=>.ok (.bk ρ) h):=zm5.imp λD σ H z9=>z9.el λρ h m fl h' f r e k=>by cases e;exact k H m .refl r σ f
theorem zv2:SS X (.Continue pos) (λρ h=>.ok (.ct ρ) h):=zg8.imp λD σ H z9=>z9.el λρ h m fl h' f r e k=>by cases e;exact k H m .refl r σ f
theorem zn5(h1:SS X st ga)(h2:SSs X sts gb):SSs X (st::sts) (gSeq ga gb):=(zm4 h1 h2).imp λD σ H z9=>z9.el λρ h m fl h' f r e k=>by
 refine zaa e λfl1 h1 e1 e2=>?_
 refine(.mk f r e1 λH1 m1 s1 r1=>?_)
 cases fl1 with
 |nx ρ1=>exact λσ1 f1=>⟨ρ1,h1,m1,fl,h',f1,r1,e2,λH' m' s' r'=>k H' m' (s1.trans s') r'⟩
 |bk ρ1=>cases e2;exact k H1 m1 s1 r1
 |ct ρ1=>cases e2;exact k H1 m1 s1 r1
 |rt w=>cases e2;exact k H1 m1 s1 r1
theorem ss_no:SS X st (λ_ _=>.no):=zm6.imp λD σ H z9=>z9.el λρ h m fl h' f r e k=>by cases e
noncomputable def zio:Expr->Bool
 |.ListComp .. |.SetComp .. |.DictComp ..=>false
 |_=>true
theorem ziq{e:Expr}{t:Option Expr}{l:Nat}{env:Env}(h:zio e=true):swapsWith e t l env=pure false:=by
 cases e<;>first|rfl|cases h
theorem zrz(he:SE X e fa)(hs:zio e=true):SS X (.Expr e pos) (λρ h=>(fa ρ h).bind λ_ h=>.ok (.nx ρ) h):=(zql he (ziq hs)).imp λD σ H z9=>z9.el λρ h m fl h' f r e k=>by
 refine zaa e λw h1 e1 e2=>?_
 cases e2
 exact(.mk f r e1 λv H1 m1 s1 r1 q1=>k H1 m1 s1 r1 σ (f.stp s1))
theorem zv3(he:SE X e fa):SS X (.Return (some e) pos) (λρ h=>(fa ρ h).bind λw h=>.ok (.rt w) h):=(zti he).imp λD σ H z9=>z9.el λρ h m fl h' f r e k=>by
 refine zaa e λw h1 e1 e2=>?_
 cases e2
 exact(.mk f r e1 λv H1 m1 s1 r1 q1=>k H1 m1 s1 r1 v q1)
theorem zr0:SS X (.Return none pos) (λρ h=>(Res.ok W.non h).bind λw h=>.ok (.rt w) h):=zqm.imp λD σ H z9=>z9.el λρ h m fl h' f r e k=>by
 cases e
 exact k H m .refl r .non .non
noncomputable abbrev gSet(i:Nat)(fa:FE):FS:=λρ h=>(fa ρ h).bind λw h=>.ok (.nx (ρ.set i (some w))) h
theorem zlo{K:vga}{i:Nat}{D:Ends}{σ:L2.St}{H:Hp}(q:lftS K (gSet i fa) D σ H):lft K fa σ H λv H1=>gName i v σ H1 D.nx:=by
 refine q.el λρ h m fl h' f r e k=>?_
 refine zaa e λw h1 e1 e2=>?_
 cases e2
 exact(.mk f r e1 λv H1 m1 s1 r1 q1=>k H1 m1 s1 r1 _ ((f.stp s1).set q1 i))
theorem zlp{i:Nat}{pos':Pos}(hN:X.N.Nodup)(hi:X.N[i]?=some x)(hx:Loc X.env.scope x)(hf:X.fn x=true\/X.env.scope.names.lookup x=some .local)(he:SE X e fa)
 (hs:swapsWith e (some (.Name x pos')) pos.line X.env=pure false):SS X (.Assign [.Name x pos'] e pos) (gSet i fa):=(ztm hN hi hx he hs hf).imp λD σ H q=>zlo q
theorem zn6{i:Nat}{pos' lp:Pos}{ow fr:List Str}{ix:List Nat}{scope:Scope}{tg iter elt:Expr}{ifs:List Expr}{kd:Kd}{t:Tg}{fe:FE}(hN:X.N.Nodup)(hi:X.N[i]?=some x)(hx:Loc X.env.scope x)(hf:X.fn x=true\/X.env.scope.names.lookup x=some .local)
 (S:CompScope X ow fr ix scope) (hc:X.calm=true) (hI:PI X tg iter (lftI X.K kd fa)) (hg:∀C s₀ H₀ ex,PG (X.comp (ow++fr) scope C s₀ H₀ ex) tg (lftG X.K t)) (ht:∀C s₀ H₀ ex,PTs (X.comp (ow++fr) scope C s₀ H₀ ex) ifs (lftT X.K fc))
 (he:∀C s₀ H₀ ex,PE (X.comp (ow++fr) scope C s₀ H₀ ex) elt (lft X.K fe)) (hsw:swapsWith (.ListComp elt [⟨tg,iter,ifs,0⟩] scope lp) (some (.Name x pos')) pos.line X.env=pure true) (hs:∀x,foldedSetIterable iter X.env x=pure x) :
 SS X (.Assign [.Name x pos'] (.ListComp elt [⟨tg,iter,ifs,0⟩] scope lp) pos) (gSet i (gLc kd fa t ow.length ix fc fe)):=
 (znk hN hi hx S hc hI hg ht he hsw hf hs).imp λD σ H q=>lc_ok (zlo q)
theorem se_lc{lp:Pos}{ow fr:List Str}{ix:List Nat}{scope:Scope}{tg iter elt:Expr}{ifs:List Expr}{kd:Kd}{t:Tg}{fe:FE}
 (S:CompScope X ow fr ix scope) (hc:X.calm=true) (hI:PI X tg iter (lftI X.K kd fa)) (hg:∀C s₀ H₀ ex,PG (X.comp (ow++fr) scope C s₀ H₀ ex) tg (lftG X.K t)) (ht:∀C s₀ H₀ ex,PTs (X.comp (ow++fr) scope C s₀ H₀ ex) ifs (lftT X.K fc))
 (he:∀C s₀ H₀ ex,PE (X.comp (ow++fr) scope C s₀ H₀ ex) elt (lft X.K fe)) (hs:∀x,foldedSetIterable iter X.env x=pure x) :
 SE X (.ListComp elt [⟨tg,iter,ifs,0⟩] scope lp) (gLc kd fa t ow.length ix fc fe):=(pe_lc S hc hI hg ht he hs).imp λσ H Q q=>lc_ok q
theorem se_dc{lp:Pos}{ow fr:List Str}{ix:List Nat}{scope:Scope}{tg iter ek evv:Expr}{ifs:List Expr}{kd:Kd}{t:Tg}{fe fv:FE}
 (S:CompScope X ow fr ix scope) (hc:X.calm=true) (hI:PI X tg iter (lftI X.K kd fa)) (hg:∀C s₀ H₀ ex,PG (X.comp (ow++fr) scope C s₀ H₀ ex) tg (lftG X.K t)) (ht:∀C s₀ H₀ ex,PTs (X.comp (ow++fr) scope C s₀ H₀ ex) ifs (lftT X.K fc))
 (he:∀C s₀ H₀ ex,PE (X.comp (ow++fr) scope C s₀ H₀ ex) ek (lft X.K fe)) (hv:∀C s₀ H₀ ex,PE (X.comp (ow++fr) scope C s₀ H₀ ex) evv (lft X.K fv)) (hs:∀x,foldedSetIterable iter X.env x=pure x) :
 SE X (.DictComp ek evv [⟨tg,iter,ifs,0⟩] scope lp) (gDc kd fa t ow.length ix fc fe fv):=
 (pe_cg zkz rfl S hc hI hg ht (λC s₀ H₀ ex D=>zk0 (he C s₀ H₀ ex) (hv C s₀ H₀ ex) D) hs).imp λσ H Q q=>dc_ok q
theorem zn7{i:Nat}{pos' lp:Pos}{ow fr:List Str}{ix:List Nat}{scope:Scope}{tg iter ek evv:Expr}{ifs:List Expr}{kd:Kd}{t:Tg}{fe fv:FE}(hN:X.N.Nodup)(hi:X.N[i]?=some x)(hx:Loc X.env.scope x)(hf:X.fn x=true\/X.env.scope.names.lookup x=some .local)
 (S:CompScope X ow fr ix scope) (hc:X.calm=true) (hI:PI X tg iter (lftI X.K kd fa)) (hg:∀C s₀ H₀ ex,PG (X.comp (ow++fr) scope C s₀ H₀ ex) tg (lftG X.K t)) (ht:∀C s₀ H₀ ex,PTs (X.comp (ow++fr) scope C s₀ H₀ ex) ifs (lftT X.K fc))
 (he:∀C s₀ H₀ ex,PE (X.comp (ow++fr) scope C s₀ H₀ ex) ek (lft X.K fe)) (hv:∀C s₀ H₀ ex,PE (X.comp (ow++fr) scope C s₀ H₀ ex) evv (lft X.K fv)) (hsw:swapsWith (.DictComp ek evv [⟨tg,iter,ifs,0⟩] scope lp) (some (.Name x pos')) pos.line X.env=pure true) (hs:∀x,foldedSetIterable iter X.env x=pure x) :
 SS X (.Assign [.Name x pos'] (.DictComp ek evv [⟨tg,iter,ifs,0⟩] scope lp) pos) (gSet i (gDc kd fa t ow.length ix fc fe fv)):=
 (zno zkz (λ_=>rfl) hN hi hx S hc hI hg ht (λC s₀ H₀ ex D=>zk0 (he C s₀ H₀ ex) (hv C s₀ H₀ ex) D) hsw hf hs).imp λD σ H q=>dc_ok (zlo q)
noncomputable def noTup:Expr->Bool
 |.Tuple ..=>false
 |_=>true
theorem zlq{es:List Expr}{k:Nat}{e:Expr}{l:Nat}{p:Pos}{env:Env}:swapsWithSole [.Tuple es k p] e l env=pure false:=by
 cases e<;>rfl
theorem zju{es:List Expr}{k:Nat}{p:Pos}{e:Expr}{env:Env}(h:noTup e=true):swappedStores [.Tuple es k p] e env=pure none:=by
 cases e<;>first|rfl|cases h
theorem zv4{is:List Nat}{k:Nat}(hc:X.calm=true)(hN:X.N.Nodup)(hs:Paired (NmOk X) es is)(he:SE X e fa)(ht:noTup e=true) :
 SS X (.Assign [.Tuple es k p] e pos) (λρ h=>(fa ρ h).bind λw h=>.of ((tgW (.many is) w h ρ).map .nx) h):=(zoz he (zll hc hN hs) zlq (zju ht) rfl).imp λD σ H z9=>z9.el λρ h m fl h' f r e k=>by
 refine zaa e λw h1 e1 e2=>?_
 obtain⟨e2,e3⟩:=of_ok e2
 subst e3
 cases z:tgW (.many is) w h' ρ with
 |none=>rw[z]at e2;cases e2
 |some ρ'=>
  rw[z]at e2;cases e2
  exact(.mk f r e1 λv H1 m1 s1 r1 q1=>(.mk (f.stp s1) r1 q1 z λσ' f'=>k H1 m1 s1 r1 σ' f'))
noncomputable def zec:Expr->Bool
 |.Slice ..=>false
 |_=>true
theorem zjv{o i:Expr}{p:Pos}{env:Env}(h:zec i=true)(v:Value):assign (.Subscript o i p) env v=(do
 let ov <-holding [v] (eval o env)
 let iv <-holding [v,ov] (eval i env)
 standAt p
 holding [v,ov,iv] (setItem ov iv v)
 release [v,ov,iv] []):=by
 cases i<;>first|rfl|cases h
noncomputable abbrev gPut(fo fi fv:FE):FS:=λρ h=>(fv ρ h).bind λw h=>(fo ρ h).bind λx h=>(fi ρ h).bind λy h=>match x,y with
 |.ref a,.int j=>(match h.get a with
  |some (.lst ws)=>(match L2.ixN ws.length j with
   |some k=>.ok (.nx ρ) (h.set a (.lst (ws.set k w)))
   |none=>.no)
  |_=>putM ρ a j w h)
 |_,_=>.no
theorem zlr{o i e:Expr}{l:Nat}{p:Pos}{env:Env}:swapsWithSole [.Subscript o i p] e l env=pure false:=by
 cases e<;>rfl
theorem zhj{o i e:Expr}{p:Pos}{env:Env}:swappedStores [.Subscript o i p] e env=pure none:=by
 cases e<;>rfl
theorem zr1{X:Cx}{t t':V->V->V->Hp->(Hp->Prop)->Prop}(h:PSet X t)(h':PSet X t'):PSet X (λo i v H Q=>t o i v H Q\/t' o i v H Q):=by
 intro pins s σ H o i v ov iv u Q I ro ri rv q
 rcases q with q|q
 .exact h pins s σ H o i v ov iv u Q I ro ri rv q
 .exact h' pins s σ H o i v ov iv u Q I ro ri rv q
noncomputable def rSetM:V->V->V->Hp->(Hp->Prop)->Prop:=λo i v H Q=>∃a kvs j,o=.ref a/\i=.int j/\H a=some (.dK kvs)/\kvs.length<sizeLine/\Q (upd H a (.dK (putK kvs (.inl j) v)))
theorem zv5(hu:X.A.units+2<cLine):PSet X rSetM:=by
 intro pins s σ H o i v ov iv u Q I ro ri rv h
 obtain⟨a,kvs,j,rfl,rfl,e,hl,q⟩:=h
 cases ro
 exact zku (vdw hu) I (DPut.k (k:=.inl j) e hl) ri rv λs' I'=>⟨_,I',q⟩
theorem zv6(hu:X.A.units+2<cLine)(ho:SE X o fo)(hi:SE X a fa)(hv:SE X e fb)(hs:zec a=true):SS X (.Assign [.Subscript o a p] e pos) (gPut fo fa fb):=
 (zoz hv (ztl ho hi (zr1 zni (zv5 hu)) (zjv hs)) zlr zhj rfl).imp λD σ H z9=>z9.el λρ h m fl h' f r e k=>by
   refine zaa e λw h1 e1 e2=>?_
   refine zaa e2 λx h2 e3 e4=>?_
   refine zaa e4 λy h3 e5 e6=>?_
   refine(.mk f r e1 λv H1 m1 s1 r1 q1=>(.mk (f.stp s1) r1 e3 λvo H2 m2 s2 r2 q2=>(.mk ((f.stp s1).stp s2) r2 e5 λvi H3 m3 s3 r3 q3=>?_)))
   split at e6
   .rename_i l j
    split at e6
    .rename_i ws g
     split at e6
     .rename_i kk hk
      cases e6
      cases q3
      have q2':=q2.stp s3
      cases q2'
      obtain⟨vs,p1,p2⟩:=r3.lst g
      refine .inl ⟨m3 l,vs,j,kk,rfl,rfl,p1,by rw[p2.length];exact hk,?_⟩
      have qv:=((q1.stp s2).stp s3)
      obtain⟨st,r'⟩:=r3.write (i:=l) (o:=.lst (ws.set kk w)) (u:=.lst (vs.set kk v)) (zag g) p1 (λ_ z=>nomatch z) (λ_ _ z=>nomatch z) λst=>⟨_,zaf,VReps.set (qv.stp st) kk (p2.stp st)⟩
      exact k _ m3 (((s1.trans s2).trans s3).trans st) r' σ ((((f.stp s1).stp s2).stp s3).stp st)
     .cases e6
    .unfold putM at e6
     split at e6
     .rename_i kvs g
      split at e6
      .rename_i hb
       cases e6
       cases q3
       have q2':=q2.stp s3
       cases q2'
       obtain⟨vs,p1,p2⟩:=r3.dm g
       have hlt:vs.length<sizeLine:=by rw[p2.length,vex];exact zaj.mp hb
       refine .inr ⟨m3 l,vs,j,rfl,rfl,p1,hlt,?_⟩
       have qv:=((q1.stp s2).stp s3)
       obtain⟨st,r'⟩:=r3.write (i:=l) (o:=.dm (putKW kvs (.inl j) w)) (u:=.dK (putK vs (.inl j) v)) (zag g) p1 (λ_ z=>nomatch z) (λ_ _ z=>nomatch z) λst=>⟨_,zaf,KReps.put (qv.stp st) _ (p2.stp st)⟩
       exact k _ m3 (((s1.trans s2).trans s3).trans st) r' σ ((((f.stp s1).stp s2).stp s3).stp st)
      .cases e6
     .cases e6
   .cases e6
theorem zhk{M:Model}{A:Around}{E:Value->Shared->Prop}{s:Shared}{a b:Value}{T id:String}{Q:Value->Shared->Prop}(ha:s.TypeIs a T)(hb:s.TypeIs b T)
 (hI:typeLookup (.type T) (dunderI "add")=pure (some (.builtin id))) (hq:isSeqSlot (some (.builtin id))=true) (hfill:fillsNumberSlot (.type T) "add" = pure false) (hc:wpAny M A (call (.builtin id) [a,b]) Q E s):wpAny M A (inplaceOp .Add a b) Q E s:=by
 unfold inplaceOp
 refine vcg ?_
 have h1:fillsInplaceSlot (.type T) "add" (Operator.Add == .Add)=pure false:=by
  unfold fillsInplaceSlot
  show(typeLookup (.type T) (dunderI "add") >>= λfi=>pure (fi.isSome && !isSeqSlot fi))=_
  rw[hI,veq,hq];rfl
 have h2:seqSlot? (.type T) (dunderI "add")=pure (some (.builtin id)):=by
  unfold seqSlot?
  rw[hI,veq,hq];rfl
 refine vac (ve2 ha (vac (wpAny_of_eq h1 ?_)))
 show wpAny M A (if false=true then _ else _) Q E s
 rw[if_neg vdn]
 refine vac (binaryOp1_none (nm:="add") ha hb hfill ?_)
 refine vac (wpAny_of_eq h2 ?_)
 exact vac (vdl hc)
noncomputable def rIcat:R2:=λx y H Q=>∃l b xs zs,x=.ref l/\y=.ref b/\H l=some (.lst xs)/\H b=some (.lst zs)/\xs.length+zs.length<=sizeLine/\Q (.ref l) (upd H l (.lst (xs++zs)))
theorem zv7:PIp X .Add rIcat:=by
 intro pins s σ H x y v u Q I rx ry h
 obtain⟨l,b,xs,zs,rfl,rfl,hH,hB,hz,q⟩:=h
 cases rx
 cases ry
 obtain⟨z,its,n,r,hl,e⟩:=I.lstM hH
 obtain⟨z2,its2,n2,r2,hl2,e2⟩:=I.lstM hB
 have hsz:its.toArray.size+its2.toArray.size<=sizeLine:=by rw[vad,vad];lia
 have hlong:¬(!its.toArray.isEmpty&&Builtin.List.listTooLong (its.toArray.size+its2.toArray.size))=true:=by
  rw[zh3 hsz,Bool.and_false]
  exact vdn
 refine zhk (T:="list") (id:="list.__iadd__") ⟨_,e,rfl⟩ ⟨_,e2,rfl⟩ PySem.F.slot_list_iadd.lookup (by decide +kernel) noFill_list_add ?_
 refine vd6 PySem.F.slot_list_iadd ⟨_,e,rfl⟩ PySem.F.entry_list_iadd (PySem.F.args_list_iadd_2 _ _)
  (AutoSeq1.list___iadd___list_list_0 l its.toArray n b its2.toArray n2 hlong (by rw[vad];lia) (by lia)) ⟨e,e2,?_⟩
 refine⟨.ref l,_,I.lset (its':=its++its2) hH e (by simp) (r.append r2) ?_,rfl,q⟩
 rw[vaj]
 lia
noncomputable def ipOf:Operator->Option Op
 |.Add=>some .add|.Sub=>some .sub|.Mult=>some .mul|.FloorDiv=>some .fdiv
 |_=>none
noncomputable def rIp(K:vga):Op->R2
 |.mul=>rI CMul λi j=>.int (i*j)
 |.fdiv=>rI CDiv λi j=>.int (i/j)
 |.add=>λx y H Q=>ipI (λi j=>i+j) x y H Q\/rIcat x y H Q\/rCatT K x y H Q
 |.sub=>ipI λi j=>i-j
 |_=>λ_ _ _ _=>False
theorem ip_ok{O:Operator}{o:Op}(e:ipOf O=some o):PIp X O (rIp X.K o):=by
 cases O<;>cases e
 .intro pins s σ H x y v u Q I rx ry q
  rcases q with q|q|q
  .exact zto pins s σ H x y v u Q I rx ry q
  .exact zv7 pins s σ H x y v u Q I rx ry q
  .exact zrw pins s σ H x y v u Q I rx ry q
 .exact ztp
 .exact zqp
 .exact zm9
theorem zv8{K:vga}{O:Operator}{o:Op}(e:ipOf O=some o):OpV K (rIp K o) (ipW o):=by
 intro m h H v u x y w h' Q r qv qu e2 k
 unfold ipW at e2
 split at e2
 .rename_i i j
  cases qv;cases qu
  split at e2
  .cases e2;exact .inl ⟨i,j,rfl,rfl,Wants.here k r (.int _)⟩
  .cases e2;exact⟨i,j,rfl,rfl,Wants.here k r (.int _)⟩
  .obtain⟨e2,rfl⟩:=of_ok e2
   cases z:opI .mul i j with
   |none=>rw[z]at e2;cases e2
   |some t=>
    rw[z]at e2;cases e2
    obtain⟨c1,rfl⟩:=zlc z
    exact⟨i,j,rfl,rfl,c1,Wants.here k r (.int _)⟩
  .obtain⟨e2,rfl⟩:=of_ok e2
   cases z:opI .fdiv i j with
   |none=>rw[z]at e2;cases e2
   |some t=>
    rw[z]at e2;cases e2
    obtain⟨c1,rfl⟩:=zlc z
    exact⟨i,j,rfl,rfl,c1,Wants.here k r (.int _)⟩
  .cases e2
 .rename_i i j
  split at e2
  .rename_i xs ys g1 g2
   split at e2
   .rename_i hz
    cases e2
    cases qv;cases qu
    obtain⟨vs,p1,p2⟩:=r.lst g1
    obtain⟨us,p3,p4⟩:=r.lst g2
    refine .inr (.inl ⟨m i,m j,vs,us,rfl,rfl,p1,p3,by rw[p2.length,p4.length];exact va2 hz,?_⟩)
    obtain⟨st,r'⟩:=r.write (i:=i) (o:=.lst (xs++ys)) (u:=.lst (vs++us)) (zag g1) p1 (λ_ z=>nomatch z) (λ_ _ z=>nomatch z) λst=>⟨_,zaf,(p2.stp st).append (p4.stp st)⟩
    exact k _ _ m st r' (.ref (show i<h.n from zag g1))
   .cases e2
  .cases e2
 .rename_i x xs ys
  split at e2
  .split at e2
   .rename_i hz
    cases e2
    cases qv with
    |tup qa ra=>
     cases qu with
     |tup qb rb=>
      rename_i a va b vb
      refine .inr (.inr ⟨a,b,va,vb,rfl,rfl,qa,qb,λz=>?_,by rw[ra.length,rb.length];exact va2 hz,λz=>?_,λ_ p hp=>Wants.tuple k r (ra.append rb) hp⟩)
      .subst z;cases ra
      .subst z;cases rb
       rw[vbp]at k
       exact Wants.here k r (.tup qa ra)
   .cases e2
  .cases e2
 .cases e2
noncomputable abbrev gAug(i:Nat)(o:Op)(fa:FE):FS:=λρ h=>match(ρ[i]?).join with
 |some x=>(fa ρ h).bind λy h=>(ipW o x y h).bind λz h=>.ok (.nx (ρ.set i (some z))) h
 |none=>.no
theorem zv9{i:Nat}{pos':Pos}{O:Operator}{o:Op}(eo:ipOf O=some o)(hN:X.N.Nodup)(hi:X.N[i]?=some x)(hx:Loc X.env.scope x)(hf:X.fn x=true\/X.env.scope.names.lookup x=some .local)(he:SE X e fa) :
 SS X (.AugAssign (.Name x pos') O e pos) (gAug i o fa):=(ztn hN hi hx he (ip_ok eo) hf).imp λD σ H z9=>z9.el λρ h m fl h' f r e k=>by
 have e:gAug i o fa ρ h=.ok fl h':=e
 simp only[gAug]at e
 cases z:(ρ[i]?).join with
 |none=>rw[z]at e;cases e
 |some x=>
  rw[z]at e
  simp only at e
  refine zaa e λy h1 e1 e2=>?_
  refine zaa e2 λw h2 e3 e4=>?_
  cases e4
  have e5:ρ[i]?=some (some x):=by
   cases q:ρ[i]? with
   |none=>rw[q]at z;cases z
   |some o=>rw[q]at z;rw[<-z];rfl
  obtain⟨v,p1,p2⟩:=f.val i x e5
  refine⟨v,p1,ρ,h,m,y,h1,f,r,e1,λu H1 m1 s1 r1 q1=>zv8 eo m1 h1 H1 v u x y w h' _ r1 (p2.stp s1) q1 e3 λv' H' m' s' r' q'=>?_⟩
  exact k H' m' (s1.trans s') r' _ (((f.stp s1).stp s').set q' i)
noncomputable abbrev gIf(fc:FE)(ga gb:FS):FS:=λρ h=>(fc ρ h).bind λx h=>match x with|.bl true=>ga ρ h|.bl false=>gb ρ h|_=>.no
variable{sa sb:List Stmt}
theorem zwa(hc:ST X c fc)(ha:SSs X sa ga)(hb:SSs X sb gb):SS X (.If c sa sb pos) (gIf fc ga gb):=(ps_if hc ha hb).imp λD σ H z9=>z9.el λρ h m fl h' f r e k=>by
 refine zaa e λx h1 e1 e2=>?_
 cases x<;>try cases e2
 rename_i c
 refine(.mk f r e1 λH1 m1 s1 r1=>?_)
 cases c with
 |true=>rw[if_pos rfl];exact(.mk (f.stp s1) r1 e2 λH' m' s' r'=>k H' m' (s1.trans s') r')
 |false=>simp only[vam,vbi];exact(.mk (f.stp s1) r1 e2 λH' m' s' r'=>k H' m' (s1.trans s') r')
theorem zr2{nx:Nat->VH->Option (Option W)}{tg:W->VH->En->Option En}{g:FS}{f i:Nat}{ρ:En}{h:VH}{fl:Fl}{h':VH}(q:forG nx tg g (f+1) i ρ h=.ok fl h'):∃o,nx i h=some o:=by
 simp only[forG]at q
 split at q
 .cases q
 .exact⟨_,by assumption⟩
 .exact⟨_,by assumption⟩
noncomputable abbrev gFor(kd:Kd)(fa:FE)(t:Tg)(g:FS):FS:=λρ h=>(fa ρ h).bind λx h=>forG (nxt kd x) (tgW t) g fuel 0 ρ h
theorem zwb{K:vga}{kd:Kd}{t:Tg}{D:Ends}{σ:L2.St}{H:Hp}(q:lftS K (gFor kd fa t ga) D σ H):tFor (lftI K kd fa) (lftG K t) (lftS K ga) D σ H:=by
 refine q.el λρ h m fl h' f r e k=>?_
 refine zaa e λx h1 e1 e2=>?_
 refine(.mk f r e1 (zr2 (f:=999999) e2) λJ P H1 m1 s1 r1 J1 p1=>?_)
 refine⟨λi fu σ' H'=>∃ρ' h3 m3,forG (nxt kd x) (tgW t) ga fu i ρ' h3=.ok fl h'/\Fr K m3 h3.n H' σ' ρ'/\Rel K m3 h3 H'/\Stp m1 h1.n H1 m3 h3.n H'/\P m3 h3.n H',⟨fuel,ρ,h1,m1,e2,f.stp s1,r1,.refl,p1⟩,?_⟩
 rintro i fu σ' H' ⟨ρ',h3,m3,e3,f3,r3,s3,p3⟩
 cases fu with
 |zero=>cases e3
 |succ fu=>
  simp only[forG]at e3
  obtain⟨j1,j2⟩:=J1.2 m3 h3 H' r3 p3 i
  split at e3
  .cases e3
  .rename_i hn
   cases e3
   exact .inl ⟨j2 hn,k H' m3 (s1.trans s3) r3 σ' f3⟩
  .rename_i w hn
   obtain⟨j3,j4⟩:=j1 w hn
   split at e3
   .cases e3
   .rename_i ρ4 ht
    refine zaa e3 λfl5 h5 e5 e6=>?_
    refine .inr ⟨j3,λσ6 H6=>∃ρ6 m6,forG (nxt kd x) (tgW t) ga fu (i+1) ρ6 h5=.ok fl h'/\Fr K m6 h5.n H6 σ6 ρ6/\Rel K m6 h5 H6/\Stp m1 h1.n H1 m6 h5.n H6/\P m6 h5.n H6,λσ6 H6 ⟨ρ6,m6,a1,a2,a3,a4,a5⟩=>⟨fu,va4 _,ρ6,h5,m6,a1,a2,a3,a4,a5⟩,λy H4 hy=>?_⟩
    obtain⟨s4,r4,q4⟩:=j4 y H4 hy
    refine⟨ρ',h3,m3,w,ρ4,f3.stp s4,r4,q4,ht,λσ5 f5=>⟨ρ4,h3,m3,fl5,h5,f5,r4,e5,λH6 m6 s6 r6=>?_⟩⟩
    have p4:=J1.1 m3 h3.n H' m3 h3.n H4 (vaa _) (λ_ _=>rfl) (λb vs q=>s4.tup b vs q) (λb o u q=>s4.frz b o u q) p3
    have p6:=J1.1 m3 h3.n H4 m6 h5.n H6 s6.le s6.same (λb vs q=>s6.tup b vs q) (λb o u q=>s6.frz b o u q) p4
    have s16:=(s3.trans s4).trans s6
    cases fl5 with
    |nx ρ6=>exact λσ6 f6=>⟨ρ6,m6,e6,f6,r6,s16,p6⟩
    |ct ρ6=>exact λσ6 f6=>⟨ρ6,m6,e6,f6,r6,s16,p6⟩
    |bk ρ6=>cases e6;exact λσ6 f6=>k H6 m6 (s1.trans s16) r6 σ6 f6
    |rt w6=>cases e6;exact λv6 q6=>k H6 m6 (s1.trans s16) r6 v6 q6
theorem zwc{kd:Kd}{t:Tg}{tg iter:Expr}(hp:PassesOwn (model X.prog X.w) X.A X.env X.xe)(hc:X.calm=true)(hI:PI X tg iter (lftI X.K kd fa))(hg:PG X tg (lftG X.K t))(hb:SSs X sa ga)(hs:∀x,foldedSetIterable iter X.env x=pure x) :
 SS X (.For tg iter sa [] pos) (gFor kd fa t ga):=(zts hp hc hI hg hb hs).imp λD σ H q=>zwb q
theorem zwd(hp:PassesOwn (model X.prog X.w) X.A X.env X.xe)(hc:ST X c fc)(hb:SSs X sa ga):SS X (.While c sa [] pos) (λρ h=>whlG fc ga fuel ρ h):=(zm8 hp hc hb).imp λD σ H z9=>z9.el λρ h m fl h' f r e k=>by
 refine⟨λfu σ' H'=>∃ρ' h3 m3,whlG fc ga fu ρ' h3=.ok fl h'/\Fr X.K m3 h3.n H' σ' ρ'/\Rel X.K m3 h3 H'/\Stp m h.n H m3 h3.n H',⟨fuel,ρ,h,m,e,f,r,.refl⟩,?_⟩
 rintro fu σ' H' ⟨ρ',h3,m3,e3,f3,r3,s3⟩
 cases fu with
 |zero=>cases e3
 |succ fu=>
  simp only[whlG]at e3
  refine zaa e3 λx h4 e4 e5=>?_
  cases x<;>try cases e5
  rename_i b
  refine⟨ρ',h3,m3,b,h4,f3,r3,e4,λH4 m4 s4 r4=>?_⟩
  cases b with
  |false=>cases e5;simp only[vam,vbi];exact k H4 m4 (s3.trans s4) r4 σ' (f3.stp s4)
  |true=>
   simp only[vbe]
   refine zaa e5 λfl5 h5 e6 e7=>?_
   refine⟨λσ6 H6=>∃ρ6 m6,whlG fc ga fu ρ6 h5=.ok fl h'/\Fr X.K m6 h5.n H6 σ6 ρ6/\Rel X.K m6 h5 H6/\Stp m h.n H m6 h5.n H6,λσ6 H6 ⟨ρ6,m6,a1,a2,a3,a4⟩=>⟨fu,va4 _,ρ6,h5,m6,a1,a2,a3,a4⟩,?_⟩
   refine⟨ρ',h4,m4,fl5,h5,f3.stp s4,r4,e6,λH6 m6 s6 r6=>?_⟩
   have s16:=(s3.trans s4).trans s6
   cases fl5 with
   |nx ρ6=>exact λσ6 f6=>⟨ρ6,m6,e7,f6,r6,s16⟩
   |ct ρ6=>exact λσ6 f6=>⟨ρ6,m6,e7,f6,r6,s16⟩
   |bk ρ6=>cases e7;exact λσ6 f6=>k H6 m6 s16 r6 σ6 f6
   |rt w6=>cases e7;exact λv6 q6=>k H6 m6 s16 r6 v6 q6
end
theorem zcw{n:Str}:∀{ps:List Str} {us:List Value},us.length=ps.length->n∈ps->((ps.zip us).lookup n).isSome=true
 |[],_,_,h=>by cases h
 |p::ps,[],hl,_=>by cases hl
 |p::ps,u::us,hl,h=>by
  rw[vby,vau]
  by_cases e:(n==p)=true
  .rw[e];rfl
  .have e':(n==p)=false:=by simpa using e
   rw[e']
   refine zcw (by simpa using hl) ?_
   rcases va3.mp h with z|z
   .rw[z]at e';simp at e'
   .exact z
theorem zn8{n:Str}{u:Value}{p:Str}{ps:List Str}{us:List Value}(h:n≠p):((p,u)::ps.zip us).lookup n=(ps.zip us).lookup n:=by
 rw[vau]
 have e':(n==p)=false:=by simpa using h
 rw[e']
theorem zir{α β:Type}{f g:α->Option β}:∀{l:List α},(∀a∈l,f a=g a)->l.filterMap f=l.filterMap g
 |[],_=>rfl
 |a::r,h=>by
  rw[vc1,vc1,h a vak,zir λb hb=>h b (vaf _ hb)]
theorem zfm:∀{ps:List Str} {us:List Value},us.length=ps.length->ps.Nodup->ps.filterMap (λn=>((ps.zip us).lookup n).map (n,·))=ps.zip us
 |[],_,_,_=>rfl
 |p::ps,[],hl,_=>by cases hl
 |p::ps,u::us,hl,hn=>by
  obtain⟨h1,h2⟩:=vdo.mp hn
  rw[vby,vc1]
  have e:((p,u)::ps.zip us).lookup p=some u:=by rw[vau];simp
  rw[e]
  simp only[vbt]
  congr 1
  have ih:=zfm (ps:=ps) (us:=us) (by simpa using hl) h2
  refine Eq.trans ?_ ih
  exact zir λn hn'=>by
   have hne:n≠p:=λz=>h1 (by rw[<-z];exact hn')
   rw[zn8 hne]
theorem zew{x qual:Str}{args:List Arg}{body:List Stmt}{sc:Scope}{kV doc pm:Value}{an:Option Addr}{cdv ct:Value}{us:List Value}{df:List Expr}(hl:us.length=(args.map (·.arg)).length)(hn:(args.map (·.arg)).Nodup) :
 bindArgs (PySem.W.fnOf x qual ⟨[],args,none,[],[],none,df⟩ body sc .none kV doc pm an cdv ct) ⟨us,[]⟩=pure ((args.map (·.arg)).zip us):=by
 have hs:seqItems? Value.none=pure none:=rfl
 have hm:((args.map (·.arg)).filter λn=>(((args.map (·.arg)).zip us).lookup n).isNone)=[]:=by
  rw[List.filter_eq_nil_iff]
  intro n hn'
  have:=zcw hl hn'
  cases q:((args.map (·.arg)).zip us).lookup n with
  |none=>rw[q]at this;cases this
  |some v=>simp
 unfold bindArgs
 simp only[PySem.W.fnOf,vd7,veb,vbp,hs,veq]
 have hg:¬(us.length> (args.map (·.arg)).length):=by lia
 have h0:(#[]:Array Value).toList=[]:=rfl
 simp only[Option.getD_none,h0,vei,veq,List.drop_nil,vdr,Nat.sub_zero,vel,hm,List.isEmpty_nil,Bool.not_true,vek,List.zip_nil_right,List.zip_nil_left,vav hg,veh,vam,vbi,zfm hl hn]
theorem zgn{z:Str}:∀{qs:List Str} {us:List Value},us.length=qs.length->(qs++[z]).zip us=qs.zip us
 |[],[],_=>rfl
 |[],_::_,h=>by cases h
 |_::_,[],h=>by cases h
 |q::qs,u::us,h=>by
  rw[vcv,vby,vby,zgn (by simpa using h)]
theorem zfn{z:Str}{v:Value}:∀{qs:List Str} {us:List Value},us.length=qs.length->(qs++[z]).zip (us++[v])=qs.zip us++[(z,v)]
 |[],[],_=>rfl
 |[],_::_,h=>by cases h
 |_::_,[],h=>by cases h
 |q::qs,u::us,h=>by
  rw[vcv,vcv,vby,vby,zfn (by simpa using h),vcv]
theorem zls{z:Str}:∀{qs:List Str} {us:List Value},z∉qs->(qs.zip us).lookup z=none
 |[],_,_=>rfl
 |_::_,[],_=>rfl
 |q::qs,u::us,h=>by
  rw[vby,vau]
  have e':(z==q)=false:=by simpa using(λe=>h (by rw[e];exact vak))
  rw[e']
  exact zls λe=>h (vaf _ e)
section
variable{x qual:Str}{args:List Arg}{df:List Expr}{body:List Stmt}{sc:Scope}{kV doc pm:Value}{an:Option Addr}{cdv ct:Value}{t:Addr}{o:Obj}{n:Nat}{s:Shared}{us:List Value}{qs:List Str}{z:Str}
theorem zpp(qs:List Str)(z:Str):List.drop ([Value.none].length- (qs++[z]).length) [Value.none]=[Value.none]:=by
 rw[vaj,vc7,vc7,show 1- (qs.length+1)=0 by lia];rfl
theorem len_d(qs:List Str)(z:Str):(qs++[z]).length - [Value.none].length=qs.length:=by simp
theorem zjw(ha:args.map (·.arg)=qs++[z])(hn:(qs++[z]).Nodup)(ho:s.heap.get? t=some o)(hd:o.data=.seq #[.none] n)(hl:us.length=(qs++[z]).length) :
 BindsTo s (PySem.W.fnOf x qual ⟨[],args,none,[],[],none,df⟩ body sc (.ref t) kV doc pm an cdv ct) ⟨us,[]⟩ ((qs++[z]).zip us):=by
 apply BindsTo.of_defaults (items:=#[.none]) (n:=n) rfl ho hd
 .unfold bindArgs
  simp only[PySem.W.fnOf,vd7,veb,vbp,vei,veq,ha]
  rfl
 .have hm:(qs.filter λn=>(((qs++[z]).zip us).lookup n).isNone)=[]:=by
   rw[List.filter_eq_nil_iff]
   intro n hn'
   have:=zcw (n:=n) hl (vci _ hn')
   cases q:((qs++[z]).zip us).lookup n with
   |none=>rw[q]at this;cases this
   |some v=>simp
  have hz:(((qs++[z]).zip us).lookup z).isNone=false:=by
   have:=zcw (n:=z) hl (vat _ (vbr.mpr rfl))
   cases q:((qs++[z]).zip us).lookup z with
   |none=>rw[q]at this;cases this
   |some v=>rfl
  have hg:¬(us.length> (qs++[z]).length):=by lia
  simp only[vem,zpp,len_d,List.take_left',List.take_left,List.drop_left,List.drop_left',hm,vav hg,veh,vam,vbi,List.isEmpty_nil,Bool.not_true,vby,List.zip_nil_right,List.forIn_cons,vei,hz,veq,zfm hl hn]
theorem zjx(ha:args.map (·.arg)=qs++[z])(hn:(qs++[z]).Nodup)(ho:s.heap.get? t=some o)(hd:o.data=.seq #[.none] n)(hl:us.length=qs.length) :
 BindsTo s (PySem.W.fnOf x qual ⟨[],args,none,[],[],none,df⟩ body sc (.ref t) kV doc pm an cdv ct) ⟨us,[]⟩ ((qs++[z]).zip (us++[.none])):=by
 apply BindsTo.of_defaults (items:=#[.none]) (n:=n) rfl ho hd
 .unfold bindArgs
  simp only[PySem.W.fnOf,vd7,veb,vbp,vei,veq,ha]
  rfl
 .have hm:(qs.filter λn=>((qs.zip us).lookup n).isNone)=[]:=by
   rw[List.filter_eq_nil_iff]
   intro n hn'
   have:=zcw (n:=n) hl hn'
   cases q:(qs.zip us).lookup n with
   |none=>rw[q]at this;cases this
   |some v=>simp
  have hzq:z∉qs:=λh=>(List.nodup_append.mp hn).2.2 z h z (vbr.mpr rfl) rfl
  have hz:((qs.zip us).lookup z).isNone=true:=by rw[zls hzq];rfl
  have hg:¬(us.length> (qs++[z]).length):=by rw[vaj];lia
  have hl2:(us++[Value.none]).length=(qs++[z]).length:=by rw[vaj,vaj,hl];rfl
  have ha2:=zfm hl2 hn
  rw[zfn hl]at ha2
  simp only[vem,zpp,len_d,zgn hl,zfn hl,List.take_left',List.take_left,List.drop_left,List.drop_left',hm,vav hg,veh,vam,vbi,List.isEmpty_nil,Bool.not_true,vby,List.zip_nil_right,List.forIn_cons,vei,hz,vbe,veq,ha2]
end
structure FunD(K:vga)(x qual:Str)(st:Stmt)(f:Addr)(fd:FuncData):Prop where
 ex:∃(oc:Value) (od:Option Addr) (dV kV doc pm:Value) (an:Option Addr) (cdv ct:Value) (osl:Array (Option Value)),fd=PySem.W.fnOf x qual (zq3 st) (zd1 st) (zam st) dV kV doc pm an cdv ct/\K.lookup f=some ⟨oc,od,.func fd,osl⟩/\PySem.W.codeIn K cdv qual=true
 kp:PySem.W.keepIn K (.ref f)=true
theorem FunD.ok{P:Program}{w:World}{K:vga}{mg:Str->Option Value}{base:Heap}{x qual:Str}{st:Stmt}{f:Addr}{fd:FuncData}{N ps:List Str}{k:Nat}{sp:Sp}(F:FunD K x qual st f fd)(S:FnScope N ps (zam st))(len:∀vs H Q E,sp vs H Q E->vs.length=ps.length)
 (hbody:∀(cdv:Value)(A:Around)(outer:List Env)(s:Shared)(H:Hp)(vs:List V)(Q:VK)(E:XK),Room k (A.deeper (envOfC qual (zam st) s.heap.objs.size f cdv))->sp vs H Q E->∃t,PSs (cxOf CX0 P w K mg base N qual (zam st) f cdv A outer s H E).nox (zd1 st) t/\t {nx:=λ_ H'=>Q .non H',rt:=Q} (start N vs) H):FnOk P w K mg base CX0 (k+1) f fd ps sp:=
 let⟨_,_,_,_,_,_,_,cdv,_,_,e,lk,hcd⟩:=F.ex
 by subst e;exact fn_of lk hcd S len λA outer s H vs Q E hr hsp=>let⟨t,h,q⟩:=hbody cdv A outer s H vs Q E hr hsp;⟨t,h.nox,q⟩
section
variable{K:vga}{m m':Nat->Addr}{n n':Nat}{h h':VH}{H H':Hp}
mutual
theorem VRep.refsLt:∀{v:V} {w:W},VRep K m n H v w->W.lt n w=true
 |_,_,.non=>rfl
 |_,_,.bl _=>rfl
 |_,_,.int _=>rfl
 |_,_,.str _=>rfl
 |_,_,.tup _ r=>VReps.refsLt r
 |_,_,.fz _ r=>VReps.refsLt r
 |_,_,.ref q=>zaj.mpr q
theorem VReps.refsLt:∀{vs:List V} {ws:List W},VReps K m n H vs ws->W.lts n ws=true
 |_,_,.nil=>rfl
 |_,_,.cons q r=>by
  show(W.lt n _&&W.lts n _)=true
  rw[VRep.refsLt q,VReps.refsLt r];rfl
end
mutual
theorem VRep.cut:∀{v:V} {w:W},VRep K m n' H v w->W.lt n w=true->VRep K m n H v w
 |_,_,.non,_=>.non
 |_,_,.bl b,_=>.bl b
 |_,_,.int b,_=>.int b
 |_,_,.str b,_=>.str b
 |_,_,.tup q r,e=>.tup q (VReps.cut r e)
 |_,_,.fz q r,e=>.fz q (VReps.cut r e)
 |_,_,.ref q,e=>.ref (zaj.mp e)
theorem VReps.cut:∀{vs:List V} {ws:List W},VReps K m n' H vs ws->W.lts n ws=true->VReps K m n H vs ws
 |_,_,.nil,_=>.nil
 |_,_,.cons q r,e=>by
  have e:(W.lt n _&&W.lts n _)=true:=e
  rw[vab]at e
  exact .cons (VRep.cut q e.1) (VReps.cut r e.2)
end
theorem KReps.cut{m':Nat->Addr}{n1:Nat}{H':Hp}:∀{vs us:List (Key×V)} {ws:List (Key×W)},KReps K m n' H vs ws->KReps K m' n H' us ws->KReps K m n H vs ws
 |_,_,_,.nil,_=>.nil
 |_,_,_,.cons q r,.cons q2 r2=>.cons (q.cut q2.refsLt) (KReps.cut (n1:=n1) r r2)
theorem zpq{lo:Nat}(r:Rel K m h H):Rel K m ⟨h.n,lo,h.os⟩ H:=⟨r.obj,r.inj,r.len⟩
theorem zis{w w2:W}{h1 h2:VH}{v:V}{Q:VK}(r:Rel K m h H)(s:Stp m h.n H m' h1.n H')(r1:Rel K m' h1 H')(q:VRep K m' h1.n H' v w)(g:Grow ⟨h.n,h.n,h.os⟩ h1)(e:leave h w h1=.ok w2 h2)(k:Wants K m h.n H w2 h2 Q):Q v H':=by
 unfold leave at e
 split at e
 .rename_i hc
  cases e
  rw[vab]at hc
  have hlo:=va2 hc.1
  refine k v H' m' ⟨vaa _,s.same,λi a b=>absurd b (vb6.mpr a),λi j a b=>absurd b (vb6.mpr a),s.tup,s.frz,s.keep⟩ ⟨λi hi=>?_,λi j hi hj=>r1.inj i j (vag hi s.le) (vag hj s.le),r.len⟩ (q.cut hc.2)
  have hg:h1.get i=h.get i:=g.2.2 i hi (vag hi hlo)
  obtain⟨o,p1,p2⟩:=r1.obj i (vag hi s.le)
  rw[hg]at p1
  refine⟨o,p1,?_⟩
  have p3:=r.at_ p1
  cases o with
  |lst ws=>
   obtain⟨vs,a1,a2⟩:=p2
   obtain⟨us,b1,b2⟩:=p3
   exact⟨vs,a1,a2.cut b2.refsLt⟩
  |dk ws=>
   obtain⟨vs,a1,a2⟩:=p2
   obtain⟨us,b1,b2⟩:=p3
   exact⟨vs,a1,KReps.cut (n1:=0) a2 b2⟩
  |dm ws=>
   obtain⟨vs,a1,a2⟩:=p2
   obtain⟨us,b1,b2⟩:=p3
   exact⟨vs,a1,KReps.cut (n1:=0) a2 b2⟩
 .cases e
  exact k v H' m' s (zpq r1) q
theorem zn9{N:List Str}{vs:List V}{ws:List W}(q:VReps K m n H vs ws):Fr K m n H (L2.start N vs) (ws.map some++vgc (N.length-ws.length) none):=by
 unfold L2.start
 refine⟨by simp[q.length],λi w e=>?_⟩
 by_cases hi:i<ws.length
 .rw[vbv (by simpa using hi)]at e
  rw[vbv (by simpa[q.length]using hi)]
  rw[va5]at e ⊢
  cases z:ws[i]? with
  |none=>rw[z]at e;cases e
  |some w'=>
   rw[z]at e
   cases e
   obtain⟨v,h1,h2⟩:=q.get z
   exact⟨v,by rw[h1];rfl,h2⟩
 .rw[vay (by simpa using vb6.mp hi)]at e
  rw[vdh]at e
  split at e<;>cases e
end
theorem zhl{F:Nat->Option Fn}{k idx:Nat}{ws:List W}{h h':VH}{w:W}{fn:Fn}(hF:F idx=some fn)(e:run F k idx ws h=.ok w h'):ws.length=fn.ps:=by
 cases k with
 |zero=>cases e
 |succ k=>
  simp only[run,hF]at e
  split at e
  .rename_i hl;exact vcs hl
  .cases e
theorem zpr{P:Program}{w:World}{K:vga}{mg:Str->Option Value}{base:Heap}{F:Nat->Option Fn}{k idx:Nat}{fn:Fn}{x qual:Str}{st:Stmt}{f:Addr}{fd:FuncData}{N ps:List Str}(hF:F idx=some fn)(Fu:FunD K x qual st f fd)(S:FnScope N ps (zam st))
 (hn:fn.n=N.length) (hp:fn.ps=ps.length)
 (hbody:∀(cdv:Value)(A:Around)(outer:List Env)(s:Shared)(H:Hp)(E:XK),Room k (A.deeper (envOfC qual (zam st) s.heap.objs.size f cdv))->SSs (cxOf CX0 P w K mg base N qual (zam st) f cdv A outer s H E).nox (zd1 st) (exs (run F k) fn.body)) :
 FnOk P w K mg base CX0 (k+1) f fd ps (spV K ps.length (run F (k+1) idx)):=by
 refine Fu.ok S (λvs H Q E h=>h.1) λcdv A outer s H vs Q E hr hsp=>?_
 refine⟨_,hbody cdv A outer s H E hr,?_⟩
 obtain⟨hl,h,m,ws,w2,h2,r,q,e,k2⟩:=hsp
 have hws:=zhl hF e
 simp only[run,hF]at e
 split at e
 .refine zaa e λfl h1 e1 e2=>?_
  have g:=zim (zin F k) _ _ _ _ _ e1
  have hN:fn.n-fn.ps=N.length-ws.length:=by rw[hn,hws]
  rw[hN]at e1
  refine⟨_,⟨h.n,h.n,h.os⟩,m,fl,h1,zn9 q,zpq r,e1,λH' m' s' r'=>?_⟩
  cases fl with
  |nx ρ=>exact λσ' f'=>zis r s' r' .non g e2 k2
  |rt w3=>exact λv q3=>zis r s' r' q3 g e2 k2
  |bk _=>cases e2
  |ct _=>cases e2
 .cases e
theorem zlt{P:Program}{w:World}{K:vga}{mg:Str->Option Value}{base:Heap}{F:Nat->Option Fn}{idx:Nat}{f:Addr}{fd:FuncData}{ps:List Str}:FnOk P w K mg base CX0 0 f fd ps (spV K ps.length (run F 0 idx)):=
 ⟨λvs H Q E h=>h.1,λA outer s H args us vs Q E hr he hb hv hs=>by obtain⟨_,h,m,ws,w2,h2,r,q,e,k2⟩:=hs;cases e⟩
noncomputable def refAt(K:vga)(x:Str):Option Addr:=(match PySem.W.nsIn K mainGlobals x with
 |some (some (.ref f))=>some f
 |_=>none)
theorem zit{K:vga}{x:Str}{f:Addr}(h:refAt K x=some f):PySem.W.nsIn K mainGlobals x=some (some (.ref f)):=by
 unfold refAt at h
 split at h
 .rename_i g e;cases h;exact e
 .cases h
end RF
namespace L2
open PySem PySem.Spec PyProof.Rows PySem.W TS KO LX
section
variable{prog:Program}{w:World}{A:Around}{E:Value->Shared->Prop}{s:Shared}{l:Addr}{vs:List Value}
noncomputable def TupAt(h:Heap)(t:Addr×List Int):Prop:=∃o n its,h.get? t.1=some o/\o.cls=.type "tuple"/\o.data=.seq (List.toArray its) n/\Vals (t.2.map V.int) its
theorem TupAt.ne{h:Heap}{t:Addr×List Int}{a:Addr}{xs:Array Value}{n:Nat}(p:TupAt h t)(g:h.get? a=some (seqObj "list" xs n)):t.1≠a:=λe=>by
 obtain⟨o,_,_,e1,e2,_⟩:=p
 rw[e,g]at e1
 cases e1
 exact absurd (Value.type.inj e2) (by decide)
theorem zlu{Q:Bool->Shared->Prop}:∀{ks ls:List Int} {xs ys:List Value} {i:Nat},Vals (ks.map V.int) xs->Vals (ls.map V.int) ys->ks.length=ls.length->Q (lexB ks ls) s->KatLex prog w A true false Q (xs.zip ys) i s
 |[],[],_,_,_,.nil,.nil,_,h=>kat_nil h
 |k::ks,l::ls,_,_,i,.cons ⟨t,e⟩ r,.cons ⟨t',e'⟩ r',hl,h=>by
  subst e e'
  rw[vby]
  refine kat_cons (wpAny_eqBool_int ?_)
  unfold lexB at h
  by_cases z:k=l
  .rw[show(k==l)=true by simpa using z]
   rw[if_pos z]at h
   exact kat_yes (zlu r r' (by simpa using hl) h)
  .rw[show(k==l)=false by simpa using z]
   rw[if_neg z]at h
   refine kat_no ?_
   cases i with
   |zero=>exact oneLt_int h
   |succ i=>
    rw[show(true&&i+1==0)=false by simp]
    exact kat_one _ _ (lt_int h)
theorem zex{h:Heap}{m:Nat}:∀{ts:List (Addr×List Int)},(∀t∈ts,TupAt h t)->(∀t∈ts,t.2.length=m+1)->∃fs,KatTups h (ts.map λt=>Value.ref t.1) fs/\fs.length=ts.length/\∀v∈fs,∃i t,v=.int i t
 |[],_,_=>⟨[],trivial,rfl,λv h=>nomatch h⟩
 |t::ts,g,hm=>by
  obtain⟨fs,a,b,c⟩:=zex (λx hx=>g x (vaf _ hx)) λx hx=>hm x (vaf _ hx)
  obtain⟨o,n,its,e1,e2,e3,e4⟩:=g t (vak ..)
  have hl:=hm t (vak ..)
  match h1:t.2,hl,e4 with
  |k::ks,hl,e4=>
   cases e4 with
   |cons x r=>
    obtain⟨tk,rfl⟩:=x
    refine⟨.int k tk::fs,KatTups.cons e1 e2 e3 rfl a,by rw[vai,vai,b],λv hv=>?_⟩
    rcases va3.mp hv with hv|hv
    .exact⟨_,_,hv⟩
    .exact c v hv
noncomputable abbrev dA:Addr×List Int:=(0,[])
theorem back{α:Type}(d:α)(ts:List α):(List.range ts.length).map (λi=>ts.getD i d)=ts:=by
 refine List.ext_getElem (by simp) λi h1 h2=>?_
 simp[h2]
theorem zlv{a:Addr}{n m:Nat}{ts:List (Addr×List Int)}{P:PySem.Fin->Shared->Prop}(ho:s.heap.get? a=some (seqObj "list" (ts.map λt=>Value.ref t.1).toArray n))(hz:ts.length<=sizeLine)(h2:¬ts.length<2)
 (hm:∀t∈ts,t.2.length=m+1) (nd:(ts.map (·.2)).Nodup) (ta:∀t∈ts,TupAt s.heap t)
 (h:∀us:List (Addr×List Int),us.Perm ts->us.Pairwise (λx y=>lexB x.2 y.2=true)->P (.done (.ret .none)) {s with heap:=sortedHeap s.heap a (ts.map λt=>Value.ref t.1) (us.map λt=>Value.ref t.1).toArray}) :
 wpAny (model prog w) A (Builtin.«list.sort» ⟨[.ref a],[]⟩) P E s:=by
 rw[list_sort_plain]
 have ha:a<s.heap.objs.size:=vaq ho
 have hl:(ts.map λt=>Value.ref t.1).length<=sizeLine:=by rw[vah];exact hz
 refine vac (listItems_at ho rfl ?_)
 refine vac (ve0 ho rfl ?_ (by rw[vad];exact hl) (vbg _))
 obtain⟨e1,ho1⟩:∃e1,(s.heap.update a (Obj.mapSeq λ_=>#[])).get? a=some (seqObj "list" #[] e1):=⟨_,get?_update_seq ho (λ_=>#[])⟩
 refine vac (ve4 ho1 rfl ?_)
 refine vac (wpAny_newTuple ?_ (by show(ts.map λt=>Value.ref t.1).length<=_;exact hl))
 refine vac (wpAny_newList ?_ (vbg _))
 refine vcg ?_
 have ho6:(((s.heap.update a (Obj.mapSeq λ_=>#[])).push (seqObj "tuple" (ts.map λt=>Value.ref t.1).toArray 0)).push (seqObj "list" #[] 0)).get? a=some (seqObj "list" #[] e1):=vae _ (vae _ ho1)
 have ta6:∀t∈ts,TupAt (((s.heap.update a (Obj.mapSeq λ_=>#[])).push (seqObj "tuple" (ts.map λt=>Value.ref t.1).toArray 0)).push (seqObj "list" #[] 0)) t:=λt ht=>by
  have ne:=(ta t ht).ne ho
  obtain⟨o,n,its,g,r⟩:=ta t ht
  exact⟨o,n,its,vae _ (vae _ (by rw[Heap.get?_update_ne _ _ _ _ ne];exact g)),r⟩
 show wpAny (model prog w) A _ P E {s with heap:=((s.heap.update a (Obj.mapSeq λ_=>#[])).push (seqObj "tuple" (ts.map λt=>Value.ref t.1).toArray 0)).push (seqObj "list" #[] 0)}
 dsimp only
 have hs:¬(ts.map λt=>Value.ref t.1).toArray.size<2:=by rw[vad,vah];exact h2
 rw[if_neg hs,if_neg hs]
 obtain⟨fs,f1,f2,f3⟩:=zex (m:=m) ta6 hm
 refine vac (kat_kind (T:=.type "int") f1 (by lia) (λv hv=>?_) rfl ?_)
 .obtain⟨i,t,rfl⟩:=f3 v hv
  exact Looks.of_pure rfl
 have hk:∀k∈ts.map (·.2),k.length=m+1:=λk hk=>by
  obtain⟨t,ht,rfl⟩:=vct.mp hk
  exact hm t ht
 have gk:∀i,i<ts.length->(ts.map (·.2)).getD i []=(ts.getD i dA).2:=λi hi=>by simp[hi]
 have gv:∀i,i<ts.length->(ts.map λt=>Value.ref t.1).getD i Value.none=.ref (ts.getD i dA).1:=λi hi=>by simp[hi]
 have gm:∀i,i<ts.length->ts.getD i dA∈ts:=λi hi=>by simp[hi]
 have c:Cp prog w A {s with heap:=((s.heap.update a (Obj.mapSeq λ_=>#[])).push (seqObj "tuple" (ts.map λt=>Value.ref t.1).toArray 0)).push (seqObj "list" #[] 0)} (tuples' true)
  (λi=>((ts.map λt=>Value.ref t.1).getD i Value.none,(ts.map λt=>Value.ref t.1).getD i Value.none)) (rk (ts.map (·.2))) ts.length:=by
  refine⟨λi j C hi hj hC=>?_,λi j hi hj e=>zuy hk nd (by rw[vah];exact hi) (by rw[vah];exact hj) e⟩
  obtain⟨o,n,its,g1,_,g2,g3⟩:=ta6 _ (gm i hi)
  obtain⟨o',n',its',g1',_,g2',g3'⟩:=ta6 _ (gm j hj)
  have sz:its.length=its'.length:=by
   have:=g3.length
   have:=g3'.length
   rw[vah]at *
   rw[hm _ (gm i hi)]at *
   rw[hm _ (gm j hj)]at *
   lia
  dsimp only
  rw[gv i hi,gv j hj]
  refine kat_lt g1 g2 g1' g2' ?_
  rw[show decide (its.toArray.size<its'.toArray.size)=false from vav (by rw[vad,vad];lia)]
  refine zlu g3 g3' (by rw[hm _ (gm i hi),hm _ (gm j hj)]) ?_
  rw[zpe hk nd (by rw[vah];exact hi) (by rw[vah];exact hj),gk i hi,gk j hj]at hC
  exact hC
 have P0:Pm ts.length (List.range ts.length).toArray:=⟨by simp,λx hx=>by simpa using hx,by simpa using List.nodup_range⟩
 have ez:(ts.map λt=>Value.ref t.1).toArray.zip (ts.map λt=>Value.ref t.1).toArray=(List.range ts.length).toArray.map λi=>((ts.map λt=>Value.ref t.1).getD i Value.none,(ts.map λt=>Value.ref t.1).getD i Value.none):=by
  apply Array.ext
  .simp
  .intro i h1 h2
   simp at h1 h2
   simp[h1]
 rw[ez]
 refine vac (vbz (zrg (E:=λ_ _=>False) c P0 (by lia) (Q:=λ_ st=>∃q pd g,st=TS.St (tuples' true) (λi=>((ts.map λt=>Value.ref t.1).getD i Value.none,(ts.map λt=>Value.ref t.1).getD i Value.none)) q pd g/\q.Perm (List.range ts.length).toArray/\Ri (rk (ts.map (·.2))) q 0 ts.length) λq pd g e u=>⟨q,pd,g,rfl,e,u⟩) ?_ λ_ _ e=>e.elim)
 rintro⟨⟨⟩,st⟩ s' ⟨rfl,q,pd,g,rfl,hq,u⟩
 dsimp only
 have pl:q.toList.Perm (List.range ts.length):=by simpa using Array.perm_iff_toList_perm.mp hq
 have hb:∀i∈q.toList,i<ts.length:=λi hi=>vbu.mp (pl.mem_iff.mp hi)
 have zq:q.size=ts.length:=by rw[hq.size_eq];simp
 have pu:(q.toList.map λi=>ts.getD i dA).Perm ts:=by
  have:=pl.map λi=>ts.getD i dA
  rw[back]at this
  exact this
 have ou:(arrOf (TS.St (tuples' true) (λi=>((ts.map λt=>Value.ref t.1).getD i Value.none,(ts.map λt=>Value.ref t.1).getD i Value.none)) q pd g)).map (·.2)=((q.toList.map λi=>ts.getD i dA).map λt=>Value.ref t.1).toArray:=by
  show(q.map _).map _=_
  rw[Array.map_map]
  apply Array.ext'
  rw[Array.toList_map,List.map_map]
  refine List.map_congr_left λi hi=>?_
  show(ts.map λt=>Value.ref t.1).getD i Value.none=_
  rw[gv i (hb i hi)]
  rfl
 refine vac (ve4 ho6 rfl ?_)
 rw[ou]
 refine vac (ve0 ho6 rfl ?_ (vbg _) (by rw[vad,vah,pu.length_eq];first|exact hz|exact vdx hz))
 show wpAny _ _ _ _ _ _
 rw[show failedOf (TS.St (tuples' true) (λi=>((ts.map λt=>Value.ref t.1).getD i Value.none,(ts.map λt=>Value.ref t.1).getD i Value.none)) q pd g)=none from rfl]
 simp only[bne_self_eq_false,vam,vbi]
 refine vas (h _ pu ?_)
 rw[List.pairwise_map,vbn]
 intro i j hi hj hij
 have hi':i<q.size:=by simpa using hi
 have hj':j<q.size:=by simpa using hj
 have b1:=hb q[i] (by simp)
 have b2:=hb q[j] (by simp)
 have x:=u i j (vbg _) (vdf hij) (by lia)
 unfold J at x
 rw[vbb hi',vbb hj',vem,vem]at x
 have ne:rk (ts.map (·.2)) q[i]≠rk (ts.map (·.2)) q[j]:=λe=>by
  have e:=c.inj _ _ b1 b2 e
  exact vbn.mp (P0.perm hq).nd i j hi hj hij (by simpa using e)
 have y:=zpe hk nd (i:=q[i]) (j:=q[j]) (by rw[vah];exact b1) (by rw[vah];exact b2)
 rw[vaz (by lia),gk _ b1,gk _ b2]at y
 simpa using y.symm
end
end L2
namespace L2
open PySem PySem.Spec PyProof.Rows PySem.W LX
section
variable{prog:Program}{w:World}{A:Around}{E:Value->Shared->Prop}{s:Shared}{l:Addr}{vs:List Value}
noncomputable def h1(h:Heap)(vs:List Value):Heap:=((h.push (seqObj "list" #[] 0)).update h.objs.size (Obj.mapSeq (· ++ vs.toArray))).push (seqObj "list" vs.toArray 0)
theorem zhm{h:Heap}:((h.push (seqObj "list" #[] 0)).update h.objs.size (Obj.mapSeq (· ++ vs.toArray))).objs.size=h.objs.size+1:=by rw[Heap.size_update,size_push']
theorem h1_at{h:Heap}:(h1 h vs).get? (h.objs.size+1)=some (seqObj "list" vs.toArray 0):=by
 unfold h1
 rw[<-zhm (vs:=vs)]
 exact va9 _ rfl
theorem zwe{h:Heap}{b:Addr}{o:Obj}(q:h.get? b=some o):(h1 h vs).get? b=some o:=by
 have hlt:b<h.objs.size:=vaq q
 unfold h1
 rw[Heap.get?_push_ne _ _ _ (by rw[zhm];exact va7 (vcl hlt)),Heap.get?_update_ne _ _ _ _ (va7 hlt),Heap.get?_push_ne _ _ _ (va7 hlt)]
 exact q
theorem zps{h:Heap}{out:Array Value}:sortedHeap (h1 h vs) (h.objs.size+1) vs out=sortedAll h vs out:=by
 unfold sortedAll h1
 rfl
theorem zlw{Q:Value->Shared->Prop}(hl:s.heap.IsList l vs.toArray)(hz:vs.length<=sizeLine)
 (h:∀P:PySem.Fin->Shared->Prop,(∀s',Q (.ref (s.heap.objs.size+1)) s'->P (.done (.ret .none)) s')->wpAny (model prog w) A.in1.in1 (Builtin.«list.sort» ⟨[.ref (s.heap.objs.size+1)],[]⟩) P E {s with heap:=h1 s.heap vs}) :
 wpAny (model prog w) A (call (.builtin "sorted") [.ref l]) Q E s:=by
 refine Calls.call_function_entry kind_sorted plain_sorted entry_sorted (args_sorted1 _) ?_
 unfold Builtin.«sorted»
 refine vac (m:=checkCount "sorted" 1 1 _) (vas ?_)
 refine vac (collect_list hl ?_ hz)
 refine vac (wpAny_newList ?_ hz)
 show wpAny _ _ _ _ _ {s with heap:=h1 s.heap vs}
 rw[zhm]
 refine vac (vcg (vd2 slot_list_sort ⟨_,h1_at,rfl⟩ entry_list_sort (h _ λs' q=>?_) (args_list_sort _)))
 exact⟨_,rfl,vas ⟨_,rfl,q⟩⟩
theorem zoa{a:Addr}{n:Nat}{P:PySem.Fin->Shared->Prop}(ho:s.heap.get? a=some (seqObj "list" vs.toArray n))(h2:vs.length<2)(h:P (.done (.ret .none)) {s with heap:=sortedHeap s.heap a vs vs.toArray}) :
 wpAny (model prog w) A (Builtin.«list.sort» ⟨[.ref a],[]⟩) P E s:=by
 rw[list_sort_plain]
 have ha:a<s.heap.objs.size:=vaq ho
 have hl:(vs.length:Nat)<=sizeLine:=by rw[vex];lia
 refine vac (listItems_at ho rfl ?_)
 refine vac (ve0 ho rfl ?_ (by rw[vad];exact hl) (vbg _))
 obtain⟨e1,ho1⟩:∃e1,(s.heap.update a (Obj.mapSeq λ_=>#[])).get? a=some (seqObj "list" #[] e1):=⟨_,get?_update_seq ho (λ_=>#[])⟩
 refine vac (ve4 ho1 rfl ?_)
 refine vac (wpAny_newTuple ?_ (by show vs.length<=_;exact hl))
 refine vac (wpAny_newList ?_ (vbg _))
 refine vcg ?_
 have ho6:(((s.heap.update a (Obj.mapSeq λ_=>#[])).push (seqObj "tuple" vs.toArray 0)).push (seqObj "list" #[] 0)).get? a=some (seqObj "list" #[] e1):=vae _ (vae _ ho1)
 show wpAny (model prog w) A _ P E {s with heap:=((s.heap.update a (Obj.mapSeq λ_=>#[])).push (seqObj "tuple" vs.toArray 0)).push (seqObj "list" #[] 0)}
 dsimp only
 have hs:vs.toArray.size<2:=by rw[vad];exact h2
 have hm:(arrOf (SortSt.mk' general' (vs.toArray.zip vs.toArray) #[] 7 none)).map (·.2)=vs.toArray:=by
  show(vs.toArray.zip vs.toArray).map (·.2)=vs.toArray
  simp only[List.zip_toArray,List.map_toArray]
  exact vd8 _ (List.map_snd_zip (vaa _))
 rw[if_pos hs,if_pos hs]
 refine vac (vas ?_)
 rw[StateT.run_pure]
 refine vac (vas ?_)
 dsimp only
 refine vac (ve4 ho6 rfl ?_)
 rw[hm]
 refine vac (ve0 ho6 rfl ?_ (vbg _) (by rw[vad];first|exact hl|exact vdx hl))
 simp only[bne_self_eq_false,vam,vbi]
 exact vas h
end
section
variable{X:Cx}
theorem zr3{ts:List (Addr×List Int)}{vs:List Value}(r:Vals (ts.map λt=>V.ref t.1) vs):vs=ts.map λt=>Value.ref t.1:=by
 induction ts generalizing vs with
 |nil=>cases r;rfl
 |cons t ts ih=>
  cases r with
  |cons a b=>
   cases a
   rw[ih b]
   rfl
theorem zr4{ts:List (Addr×List Int)}:Vals (ts.map λt=>V.ref t.1) (ts.map λt=>Value.ref t.1):=by
 induction ts with
 |nil=>exact .nil
 |cons t ts ih=>exact .cons rfl ih
theorem zwf{pins:List (Addr×Obj)}{σ:St}{H:Hp}{s:Shared}{t:Addr×List Int}(I:Inv X pins σ H s)(h:SqT X.K H t.1 (t.2.map V.int)):TupAt s.heap t:=by
 obtain⟨its,rv,pt,_⟩:=I.tuple h
 obtain⟨o,a,b,n,d⟩:=pt
 exact⟨o,n,its,a,b,d,rv⟩
theorem zwg{α:Type}{R:α->α->Prop}:∀{ts:List α},ts.length<2->ts.Pairwise R
 |[],_=>.nil
 |[_],_=>List.pairwise_singleton ..
 |_::_::_,h=>absurd h (by simp)
theorem zjy:CallR X (.builtin "sorted") (λxs H Q=>∃(p:Addr) (m:Nat) (ts:List (Addr×List Int)),xs=[.ref p]/\SqL X.K H p (ts.map λt=>V.ref t.1)/\(∀t∈ts,SqT X.K H t.1 (t.2.map V.int))/\(2<=ts.length->∀t∈ts,t.2.length=m+1)/\(ts.map (·.2)).Nodup/\
 ∀(l:Addr)(us:List (Addr×List Int)),H l=none->us.Perm ts->us.Pairwise (λa b=>lexB a.2 b.2=true)->Q (.ref l) (upd H l (.lst (us.map λt=>V.ref t.1)))):=by
 intro pins s σ H xs us Q I r h
 obtain⟨p,m,ts,rfl,hq,hT,hm,nd,q⟩:=h
 obtain⟨u,rfl,ru⟩:=vals1 r
 cases ru
 obtain⟨its,rv,pl,hz⟩:=I.list hq
 have hL:s.heap.IsList p its.toArray:=pl.isList
 have e:=zr3 rv
 subst e
 rw[vah]at hz
 have fin:∀us:List (Addr×List Int),us.Perm ts->us.Pairwise (λa b=>lexB a.2 b.2=true)->∃v H',Inv X pins σ H' {s with heap:=sortedAll s.heap (ts.map λt=>Value.ref t.1) (us.map λt=>Value.ref t.1).toArray}/\RelV v (.ref (s.heap.objs.size+1))/\Q v H':=λus pu pw=>by
  obtain⟨e,he⟩:=sortedAll_at s.heap (ts.map λt=>Value.ref t.1) (us.map λt=>Value.ref t.1).toArray
  exact⟨.ref _,_,I.laid (t':=s.toks) (λb o z=>sortedAll_old z) (vdk _) (show ObjOk X.prog X.w _ _ _ (.lst (us.map λt=>V.ref t.1))from⟨by rw[vah,pu.length_eq];exact hz,_,e,zr4,he⟩),rfl,q _ us (I.hok.fresh (vdk _)) pu pw⟩
 refine zlw hL (by rw[vah];exact hz) λP hP=>?_
 by_cases h2:ts.length<2
 .refine zoa h1_at (by rw[vah];exact h2) (hP _ ?_)
  dsimp only
  rw[zps]
  exact fin ts (vcz _) (zwg h2)
 .refine zlv h1_at hz h2 (hm (by lia)) nd (λt ht=>?_) λus pu pw=>hP _ ?_
  .obtain⟨o,n,its,g,r⟩:=zwf I (hT t ht)
   exact⟨o,n,its,zwe g,r⟩
  .dsimp only
   rw[zps]
   exact fin us pu pw
end
end L2
namespace RF
open PySem PySem.Spec PyProof.Rows L2 LX
theorem zed(x:List Int):∀l:List (List Int),(insL x l).Perm (x::l)
 |[]=>vcz _
 |y::r=>by
  unfold insL
  split
  .exact vcz _
  .exact((zed x r).cons y).trans (List.Perm.swap ..)
theorem zb2:∀l:List (List Int),(srtL l).Perm l
 |[]=>vcz _
 |x::r=>(zed x _).trans ((zb2 r).cons x)
theorem zlx{m:Nat}(x:List Int)(hx:x.length=m):∀{l:List (List Int)},(∀k∈l,k.length=m)->x∉l->l.Pairwise (λa b=>lexB a b=true)->(insL x l).Pairwise λa b=>lexB a b=true
 |[],_,_,_=>List.pairwise_singleton ..
 |y::r,hl,hn,h=>by
  obtain⟨h1,h2⟩:=List.pairwise_cons.mp h
  have ly:=hl y (vak ..)
  have lr:∀k∈r,k.length=m:=λk hk=>hl k (vaf _ hk)
  unfold insL
  split
  .rename_i z
   refine List.pairwise_cons.mpr ⟨λa ha=>?_,h⟩
   rcases va3.mp ha with e|ha
   .rw[e];exact z
   .exact zid (by rw[hx,ly]) (by rw[ly,lr a ha]) z (h1 a ha)
  .rename_i z
   have ne:x≠y:=λe=>hn (by rw[e];exact vak ..)
   have z':lexB y x=true:=(zfg (by rw[hx,ly]) ne).resolve_left z
   refine List.pairwise_cons.mpr ⟨λa ha=>?_,zlx x hx lr (λq=>hn (vaf _ q)) h2⟩
   rcases va3.mp ((zed x r).mem_iff.mp ha)with e|ha
   .rw[e];exact z'
   .exact h1 a ha
theorem zly{m:Nat}:∀l:List (List Int),(∀k∈l,k.length=m)->l.Nodup->(srtL l).Pairwise λa b=>lexB a b=true
 |[],_,_=>.nil
 |x::r,hl,nd=>by
  have nd:=vdo.mp nd
  have p:=zb2 r
  exact zlx x (hl x (vak ..)) (λk hk=>hl k (vaf _ (p.mem_iff.mp hk))) (λq=>nd.1 (p.mem_iff.mp q)) (zly r (λk hk=>hl k (vaf _ hk)) nd.2)
theorem zob{a b:List Int}(e:a.length=b.length)(h1:lexB a b=true)(h2:lexB b a=true):False:=by
 have:=zid e e.symm h1 h2
 rw[zhf]at this
 cases this
theorem zoc{l m:List (List Int)}(e:∀a∈l,∀b∈l,a.length=b.length)(u:(srtL l).Pairwise λa b=>lexB a b=true)(p:m.Perm l)(h:m.Pairwise λa b=>lexB a b=true):m=srtL l:=
 List.Perm.eq_of_pairwise (λa b ha hb x y=>(zob (e a (p.mem_iff.mp ha) b ((zb2 l).mem_iff.mp hb)) x y).elim) h u (p.trans (zb2 l).symm)
section
variable{K:vga}{m:Nat->Addr}{n:Nat}{H:Hp}
theorem zpt:∀{vs:List V} {ws:List W} {is:List Int},VReps K m n H vs ws->mapO iZ ws=some is->vs=is.map .int
 |_,_,_,.nil,e=>by cases e;rfl
 |_,_,_,.cons (w:=w) (ws:=ws) q r,e=>by
  unfold mapO at e
  cases z:iZ w with
  |none=>rw[z]at e;cases e
  |some b=>
   rw[z]at e
   cases z2:mapO iZ ws with
   |none=>rw[z2]at e;cases e
   |some cs=>
    rw[z2]at e;cases e
    unfold iZ at z
    split at z<;>cases z
    cases q
    rw[zpt r z2];rfl
theorem ziu:∀is:List Int,VReps K m n H (is.map .int) (is.map .int)
 |[]=>.nil
 |i::r=>.cons (.int i) (ziu r)
theorem kl_ok:∀{vs:List V} {ws:List W} {ks:List (List Int)},VReps K m n H vs ws->mapO kW ws=some ks->∃ts:List (Addr×List Int),vs=ts.map (λt=>V.ref t.1)/\ts.map (·.2)=ks/\∀t∈ts,SqT K H t.1 (t.2.map .int)
 |_,_,_,.nil,e=>by cases e;exact⟨[],rfl,rfl,λt h=>nomatch h⟩
 |_,_,_,.cons (w:=w) (ws:=ws) q r,e=>by
  unfold mapO at e
  cases z:kW w with
  |none=>rw[z]at e;cases e
  |some b=>
   rw[z]at e
   cases z2:mapO kW ws with
   |none=>rw[z2]at e;cases e
   |some cs=>
    rw[z2]at e;cases e
    unfold kW at z
    split at z<;>try cases z
    obtain⟨ts,e1,e2,e3⟩:=kl_ok r z2
    cases q with
    |tup s1 s2=>
     have:=zpt s2 z
     subst this
     refine⟨(_,b)::ts,by rw[e1];rfl,vd8 (b :: ·) e2,λt ht=>?_⟩
     rcases va3.mp ht with e|ht
     .rw[e];exact s1
     .exact e3 t ht
theorem ziv:∀ts:List (Addr×List Int),(∀t∈ts,SqT K H t.1 (t.2.map .int))->VReps K m n H (ts.map λt=>V.ref t.1) ((ts.map (·.2)).map λk=>.tup (k.map .int))
 |[],_=>.nil
 |t::r,h=>.cons (.tup (h t (vak ..)) (ziu _)) (ziv r λx hx=>h x (vaf _ hx))
end
noncomputable def rSrt(K:vga):List V->Hp->VK->Prop:=λxs H Q=>∃(p:Addr) (m:Nat) (ts:List (Addr×List Int)),xs=[.ref p]/\SqL K H p (ts.map λt=>V.ref t.1)/\(∀t∈ts,SqT K H t.1 (t.2.map V.int))/\(2<=ts.length->∀t∈ts,t.2.length=m+1)/\(ts.map (·.2)).Nodup/\
 ∀(l:Addr)(us:List (Addr×List Int)),H l=none->us.Perm ts->us.Pairwise (λa b=>lexB a.2 b.2=true)->Q (.ref l) (upd H l (.lst (us.map λt=>V.ref t.1)))
theorem zr5:∀{ks:List (List Int)},lenL ks=true->∃m,(2<=ks.length->∀k∈ks,k.length=m+1)/\∃m',∀k∈ks,k.length=m'
 |[],_=>⟨0,λh=>absurd h (by simp),0,λk h=>nomatch h⟩
 |[k],_=>⟨0,λh=>absurd h (by simp),k.length,λq hq=>by rw[vbr.mp hq]⟩
 |k::k2::r,h=>by
  unfold lenL at h
  rw[vab]at h
  have h1:=va2 h.1
  have h2:∀q∈k::k2::r,q.length=k.length:=λq hq=>vcs (vax.mp h.2 q hq)
  exact⟨k.length-1,λ_ q hq=>by rw[h2 q hq];lia,k.length,h2⟩
theorem zwh{K:vga}:CallV K (rSrt K) srtW:=by
 intro m h H vs xs w h' Q r q e k
 unfold srtW at e
 split at e<;>try cases e
 rename_i i
 split at e<;>try cases e
 rename_i ws g
 obtain⟨v,rfl,q1⟩:=reps1 q
 cases z:mapO kW ws with
 |none=>rw[z]at e;cases e
 |some ks=>
  rw[z]at e
  dsimp only at e
  split at e<;>cases e
  rename_i z2
  rw[vab,vap]at z2
  obtain⟨nd,hl⟩:=z2
  cases q1
  obtain⟨us,p1,p2⟩:=r.lst g
  obtain⟨ts,e1,e2,e3⟩:=kl_ok p2 z
  subst e1 e2
  obtain⟨m1,l1,m2,l2⟩:=zr5 hl
  refine⟨_,m1,ts,rfl,.inl (.inl p1),e3,λh2 t ht=>l1 (by rw[vah];exact h2) _ (List.mem_map_of_mem ht),nd,λl us hl hp hu=>?_⟩
  have hm:us.map (·.2)=srtL (ts.map (·.2)):=zoc (λa ha b hb=>by rw[l2 a ha,l2 b hb]) (zly _ l2 nd) (hp.map _) (List.pairwise_map.mpr hu)
  rw[<-hm]at k
  exact Wants.list k r (ziv us λt ht=>e3 t (hp.mem_iff.mp ht)) hl
end RF
namespace L2
open PySem PySem.Spec PyProof.Rows
section
variable{X:Cx}
theorem zlz(hc:X.calm=true):CallR X (.builtin "max") (λxs H Q=>∃(p:Addr) (ns:List Int),xs=[.ref p]/\SqL X.K H p (ns.map .int)/\0<ns.length/\∀M,M∈ns->(∀a∈ns,a<=M)->Q (.int M) H):=by
 intro pins s σ H xs us Q I r h
 obtain⟨p,ns,rfl,hq,hne,q⟩:=h
 obtain⟨u,rfl,ru⟩:=vals1 r
 cases ru
 obtain⟨its,rv,pl,hz⟩:=I.list hq
 have hL:s.heap.IsList p its.toArray:=pl.isList
 have hi:=zk1 rv
 obtain⟨ys,hx⟩:=hi.allInts.items
 have hl':s.heap.IsList p (intItems ys):=hx▸hL
 have hns:ns=ys.toList.map (·.1):=by
  rw[<-nums_intItems,<-hx]
  exact(show numsOf its.toArray.toList=ns from hi.numsOf).symm
 have hsz:0<ys.size:=by rw[hns,vah,vc2]at hne;exact hne
 refine max_intList (I.ok.hd hc) hl' hsz λv h' tk hv hk=>?_
 obtain⟨t,rfl⟩:=intItems_at hv
 obtain⟨h1,h2⟩:=argBest_gt (numAt ys) (ys.size-1)
 refine⟨.int _,H,I.kept (t':=tk) hk,⟨_,rfl⟩,q _ ?_ λa ha=>?_⟩
 .rw[hns,numAt_eq];exact getD_mem (by rw[vah,vc2];lia)
 .rw[hns]at ha
  obtain⟨j,hj,rfl⟩:=mem_getD ha
  rw[vah,vc2]at hj
  rw[<-numAt_eq];exact h2 j (by lia)
end
end L2
namespace RF
open PySem PySem.Spec PyProof.Rows L2
section
variable{K:vga}{m:Nat->Addr}{h:VH}{H:Hp}
theorem zwi{a:Addr}{u:HO}(e:H a=some u):upd H a u=H:=by
 funext b
 by_cases z:b=a
 .subst z;rw[zaf,e]
 .rw[zac z]
theorem Rel.thaw(r:Rel K m h H){i:Nat}{kvs:List (Key×W)}(g:h.get i=some (.dm kvs)):Rel K m (h.set i (.dk kvs)) H:=by
 obtain⟨vs,p1,p2⟩:=r.dm g
 obtain⟨_,r'⟩:=r.write (i:=i) (o:=.dk kvs) (u:=.dK vs) (zag g) p1 (λ_ z=>nomatch z) (λ_ _ z=>nomatch z) λst=>⟨vs,.inl zaf,p2.stp st⟩
 rw[zwi p1]at r'
 exact r'
theorem Wants.dictM{Q:VK}(k:Wants K m h.n H (.ref h.n) (h.new (.dm [])) Q)(r:Rel K m h H){p:Addr}(hp:H p=none):Q (.ref p) (upd H p (.dK [])):=by
 obtain⟨st,r'⟩:=r.alloc (o:=.dm []) (u:=.dK []) hp (λ_ z=>nomatch z) (λst=>⟨[],zaf,.nil⟩)
 refine k _ _ _ st r' ?_
 have:VRep K (λi=>if i=h.n then p else m i) (h.n+1) (upd H p (.dK [])) (.ref ((λi=>if i=h.n then p else m i) h.n)) (.ref h.n):=.ref (va4 _)
 simp only[vbe]at this
 exact this
end
section
variable{X:Cx}{e o a k:Expr}{lo:Option Expr}{fa fo:FE}{pos p2:Pos}
theorem zwj:SE X (.Dict [] [] pos) (gArg aNil dm0W):=znl.imp λσ H Q z9 p hp=>z9.el λρ h m w h' f r e k=>by
 cases e
 exact Wants.dictM k r hp
theorem zwk(he:SE X e fa):SE X e (gArg (aCons fa aNil) frzW):=he.imp λσ H Q z9=>z9.el λρ h m w h' f r e k=>by
 refine zaa e λy h1 e1 e2=>?_
 refine zaa e1 λx h2 e3 e4=>?_
 cases e4
 refine(.mk f r e3 λv H1 m1 s1 r1 q1=>?_)
 dsimp only at e2
 unfold frzW at e2
 split at e2
 .rename_i i heq
  cases heq
  split at e2
  .rename_i kvs g
   cases e2
   exact k v H1 m1 s1 (r1.thaw g) q1
  .cases e2
   exact k v H1 m1 s1 r1 q1
  .cases e2
 .cases e2
end
set_option genInjectivity false in
structure CC where
 N:List Str
 names:List (Str×NameKind)
 fnAll:Bool
noncomputable def zce:List Str->Str->Nat->Option Nat
 |[],_,_=>none
 |y::r,x,i=>if y==x then some i else zce r x (i+1)
theorem zgo:∀{N:List Str} {x:Str} {k i:Nat},zce N x k=some i->∃j,i=k+j/\N[j]?=some x
 |[],_,_,_,e=>by cases e
 |y::r,x,k,i,e=>by
  unfold zce at e
  split at e
  .rename_i h
   cases e
   exact⟨0,rfl,by simpa using h⟩
  .obtain⟨j,h1,h2⟩:=zgo e
   exact⟨j+1,by lia,by simpa using h2⟩
theorem zl0{N:List Str}{x:Str}{i:Nat}(e:zce N x 0=some i):N[i]?=some x:=by
 obtain⟨j,h1,h2⟩:=zgo e
 rw[show i=j by lia];exact h2
noncomputable def visK:Option NameKind->Bool
 |some .local|some .cell|some .free=>true
 |_=>false
noncomputable def locK(all:Bool):Option NameKind->Bool
 |some .local=>true
 |some .cell=>all
 |_=>false
noncomputable def okN(x:Str):Bool:=!(x==("__debug__" : Str)) && !(x==("__classdict__" : Str)) && !(x==("__name__" : Str)) && !(x==("" : Str))
theorem zwl{x:Str}(h:okN x=true):x≠"":=by
 unfold okN at h
 simp only[vab,vb3]at h
 exact λz=>by rw[z]at h;simp at h
theorem zey{x:Str}(h:okN x=true):(x==("__debug__" : Str))=false/\(x==("__classdict__" : Str))=false/\x≠"__name__":=by
 unfold okN at h
 simp only[vab,vb3]at h
 exact⟨h.1.1.1,h.1.1.2,λz=>by rw[z]at h;simp at h⟩
noncomputable def cstW(K:vga):Nat->Value->Option W
 |0,_=>none
 |n+1,v=>match v with
  |.none=>some .non
  |.bool b=>some (.bl b)
  |.int i _=>some (.int i)
  |.str x _=>some (.str x)
  |.ref a=>(match K.lookup a with
   |some o=>(match o.cls,o.dict,o.data with
    |.type t,none,.seq its _=>if t == "tuple" && Nat.ble its.size 1000 then(mapO (cstW K n) its.toList).map .tup else none
    |_,_,_=>none)
   |none=>none)
  |_=>none
theorem zl1{K:vga}{f:Value->Option W}(ih:∀v w,f v=some w->∃x,RelV x v/\∀m n H,VRep K m n H x w):∀{us:List Value} {ws:List W},mapO f us=some ws->∃xs,Vals xs us/\∀m n H,VReps K m n H xs ws
 |[],_,e=>by cases e;exact⟨[],.nil,λ_ _ _=>.nil⟩
 |u::us,ws,e=>by
  unfold mapO at e
  split at e
  .rename_i b hb
   split at e
   .rename_i bs hbs
    cases e
    obtain⟨x,h1,h2⟩:=ih u b hb
    obtain⟨xs,h3,h4⟩:=zl1 ih hbs
    exact⟨x::xs,.cons h1 h3,λm n H=>.cons (h2 m n H) (h4 m n H)⟩
   .cases e
  .cases e
theorem zpu{K:vga}:∀(n:Nat) (v:Value) (w:W),cstW K n v=some w->∃x,RelV x v/\∀m n H,VRep K m n H x w
 |0,_,_,e=>by cases e
 |n+1,v,w,e=>by
  unfold cstW at e
  split at e
  .cases e;exact⟨.non,rfl,λ_ _ _=>.non⟩
  .cases e;exact⟨.bl _,rfl,λ_ _ _=>.bl _⟩
  .cases e;exact⟨.int _,⟨_,rfl⟩,λ_ _ _=>.int _⟩
  .cases e;exact⟨.str _,⟨_,rfl⟩,λ_ _ _=>.str _⟩
  .rename_i a
   split at e
   .rename_i o ho
    split at e
    .rename_i t its nn hc hdd hd
     split at e
     .rename_i hz
      rw[vab]at hz
      have ht:t = "tuple":=by simpa using hz.1
      subst ht
      cases z:mapO (cstW K n) its.toList with
      |none=>rw[z]at e;cases e
      |some ws=>
       rw[z]at e
       cases e
       obtain⟨xs,h3,h4⟩:=zl1 (zpu n) z
       exact⟨.ref a,rfl,λm n H=>.tup (.inr ⟨o,its,nn,ho,hc,hdd,hd,vdf (zge (va2 hz.2)),h3⟩) (h4 m n H)⟩
     .cases e
    .cases e
   .cases e
  .cases e
noncomputable def cL(f:Expr->Option E):List Expr->Option E
 |[]=>some .nil
 |e::es=>match f e,cL f es with
  |some a,some r=>some (.cons a r)
  |_,_=>none
noncomputable def fnAt(K:vga)(x:Str):Option (Addr×Obj×FuncData):=match refAt K x with
 |some f=>(match K.lookup f with
  |some o=>(match o.data with
   |.func fd=>some (f,o,fd)
   |_=>none)
  |none=>none)
 |none=>none
noncomputable def zbc:Arguments->Option (List Arg)
 |⟨[],args,none,[],[],none,_⟩=>some args
 |_=>none
noncomputable def isNone:Value->Bool
 |.none=>true
 |_=>false
noncomputable def zfo:Data->Bool
 |.seq xs _=>(match xs.toList with
  |[v]=>isNone v
  |_=>false)
 |_=>false
noncomputable def noneD(K:vga):Value->Bool
 |.ref t=>(match K.lookup t with
  |some o=>zfo o.data
  |none=>false)
 |_=>false
noncomputable def zee(K:vga)(x:Str)(n:Nat):Bool:=match fnAt K x with
 |some (_,_,fd)=>noneD K fd.defaults&&Nat.beq (n+1) fd.params.args.length
 |none=>false
noncomputable def hasD(K:vga)(x:Str):Bool:=match fnAt K x with
 |some (_,_,fd)=>noneD K fd.defaults
 |none=>false
theorem zjz{K:vga}{x:Str}{n:Nat}(h:zee K x n=true):hasD K x=true:=by
 unfold zee at h
 unfold hasD
 split at h
 .rw[vab]at h;exact h.1
 .cases h
noncomputable def padE:E->E
 |.nil=>.cons (.cst .non) .nil
 |.cons a r=>.cons a (padE r)
 |e=>e
noncomputable def argsE:E->Bool
 |.nil=>true
 |.cons _ r=>argsE r
 |_=>false
theorem zwm{cl:Call}:∀{a:E},argsE a=true->∀(ρ:En) (h:VH),ev cl (padE a) ρ h=(ev cl a ρ h).bind λy h=>match y with|.tup ys=>.ok (.tup (ys++[.non])) h|_=>.no:=by
 intro a
 induction a with
 |nil=>intro _ ρ h;rfl
 |cons x r _ ih=>
  intro ha ρ h
  have ih:=ih ha
  simp only[padE,ev]
  cases ev cl x ρ h with
  |no=>rfl
  |ex _ _=>rfl
  |ok w h1=>
   show Res.bind (ev cl (padE r) ρ h1) _=Res.bind (Res.bind (ev cl r ρ h1) _) _
   rw[ih]
   cases ev cl r ρ h1 with
   |no=>rfl
   |ex _ _=>rfl
   |ok y h2=>cases y<;>rfl
 |_=>intro ha;cases ha
theorem zl2{f:Expr->Option E}:∀{es:List Expr} {a:E},cL f es=some a->argsE a=true
 |[],_,h=>by cases h;rfl
 |e::es,a,h=>by
  unfold cL at h
  split at h
  .rename_i x r h1 h2
   cases h
   show argsE r=true
   exact zl2 h2
  .cases h
noncomputable def cPs(f:Expr->Option E):List (Option Expr)->List Expr->Option E
 |[],[]=>some .nil
 |some k::ks,v::vs=>match f k,f v,cPs f ks vs with
  |some a,some b,some r=>some (.cons a (.cons b r))
  |_,_,_=>none
 |_,_=>none
noncomputable def cB(and:Bool)(f:Expr->Option E):List Expr->Option E
 |[]=>none
 |[a]=>f a
 |a::b::r=>match f a,cB and f (b::r)with
  |some x,some y=>some (if and then .and x y else .or x y)
  |_,_=>none
noncomputable def cO(f:Expr->Option E):Option Expr->Option (Bool×E)
 |none=>some (false,.cst .non)
 |some e=>(f e).map λc=>(true,c)
noncomputable def zgp(K:vga)(C:CC)(x:Str):Bool:=C.names.lookup x==some .globalImplicit&& (match PySem.W.nsIn K mainGlobals x with|some none=>true|_=>false)
noncomputable def tyOf(x:Str):Option Ty:=
 if x==("int" : Str)then some .int else if x==("bool" : Str)then some .bool else if x==("tuple" : Str)then some .tuple else if x==("list" : Str)then some .list else if x==("str" : Str)then some .str else if x==("dict" : Str)then some .dict else none
noncomputable def lrOf(f:Str)(args:List Expr):Option Expr:=if f==("list" : Str)then(match args with
 |[.Call (.Name g _) [a] [] _]=>if g==("range" : Str)then some a else none
 |_=>none)else none
noncomputable def biOf(x:Str):Option Bi:=
 if x==("len" : Str)then some .len else if x==("list" : Str)then some .list else if x==("tuple" : Str)then some .tuple else if x==("int" : Str)then some .int else if x==("abs" : Str)then some .abs else if x==("max" : Str)then some .max else if x==("min" : Str)then some .min else if x==("sorted" : Str)then some .srt else none
noncomputable def zpv:Expr->Bool
 |.Tuple ..=>true
 |_=>false
noncomputable def okW:Kd->Expr->Bool
 |.enm,t=>zpv t
 |.zip,t=>zpv t
 |_,_=>true
noncomputable def nmIx(C:CC):Expr->Option Nat
 |.Name x _=>if okN x&&locK C.fnAll (C.names.lookup x)then zce C.N x 0 else none
 |_=>none
noncomputable def cTg(C:CC):Expr->Option Tg
 |.Name x p=>(nmIx C (.Name x p)).map .one
 |.Tuple es _ _=>(mapO (nmIx C) es).map .many
 |_=>none
noncomputable def ownOf(sc:Scope):List Str:=(sc.names.filter λy=>(y.2 == .local||y.2 == .cell) && !(y.1==(".0" : Str))).map (·.1)
noncomputable def zav(sc:Scope):List Str:=(sc.names.filter λy=>y.2 == .free).map (·.1)
noncomputable def zcx(C:CC)(sc:Scope)(ix:List Nat):Bool:=
 decide (sc.kind=.function)&&sc.names.all (λy=>decide (y.2=.cell->sc.names.lookup y.1=some .cell))&&sc.names.all (λy=>decide (y.2=.free->sc.names.lookup y.1=some .free))&&sc.names.all (λy=>decide (y.2=.local->sc.names.lookup y.1=some .local)) &&
 (ownOf sc).all (λx=>decide (sc.names.lookup x=some .local\/sc.names.lookup x=some .cell))&&sc.names.all (λy=>decide (y.2=.free->C.names.lookup y.1=some .cell\/C.names.lookup y.1=some .free))&&decide (ix.length=(zav sc).length) &&
 ((List.range (zav sc).length).all λk=>match(zav sc)[k]?,ix[k]? with
   |some x,some j=>decide (C.N[j]?=some x)&&decide (sc.names.lookup x=some .free)
   |_,_=>false)&&decide (ownOf sc++zav sc).Nodup
noncomputable def inC(sc:Scope):CC:=⟨ownOf sc++zav sc,sc.names,true⟩
noncomputable def zod(x:Str):Bool:=x==("rockers" : Str)
noncomputable def zl3(C:CC)(x:Str):Bool:=zod x&& (zce C.N ("doors" : Str) 0).isNone
mutual
noncomputable def cE(K:vga)(T:List Str):Nat->CC->Expr->Option E
 |0,_,_=>none
 |n+1,C,e=>match e with
  |.Name x _=>if okN x then(if visK (C.names.lookup x)then(zce C.N x 0).map .var
   else if C.names.lookup x==some .globalImplicit then(match PySem.W.nsIn K mainGlobals x with
    |some (some v)=>(cstW K 8 v).map .cst
    |_=>none)else none)else none
  |.Constant c _ _=>(match c with
   |.int i=>some (.cst (.int i))
   |.bool b=>some (.cst (.bl b))
   |.none=>some (.cst .non)
   |.str x=>some (.cst (.str x))
   |_=>none)
  |.Tuple es _ _=>(cL (cE K T n C) es).map .tup
  |.List es _=>(cL (cE K T n C) es).map .lst
  |.Dict ks vs _=>(match ks with
   |[]=>(match vs with
    |[]=>some (.bi .dm0 .nil)
    |_::_=>none)
   |k::ks=>if Nat.ble (k::ks).length 15&&Nat.beq (k::ks).length vs.length&& (k::ks).all (·.isSome)then(cPs (cE K T n C) (k::ks) vs).map .dsp else none)
  |.BinOp a O b _=>(match opOf O,cE K T n C a,cE K T n C b with
   |some o,some x,some y=>some (.op o x y)
   |_,_,_=>none)
  |.UnaryOp o a _=>(match o with
   |.Not=>(cE K T n C a).map .not
   |.USub=>(cE K T n C a).map .neg
   |_=>none)
  |.BoolOp o es _=>(match o with
   |.And=>cB true (cE K T n C) es
   |.Or=>cB false (cE K T n C) es)
  |.Compare a Os bs _=>(match Os,bs with
   |[O],[b]=>if zcd b then(match cpOf O,cE K T n C a,cE K T n C b with
   |some c,some x,some y=>some (.cmp c x y)
   |_,_,_=>none)else none
   |[O,O'],[b,c]=>if zcd c then(match cpOf O,cpOf O',cE K T n C a,cE K T n C b,cE K T n C c with
   |some o,some o',some x,some y,some z=>some (.chn o o' x y z)
   |_,_,_,_,_=>none)else none
   |_,_=>none)
  |.IfExp c a b _=>(match cT K T n C c,cE K T n C a,cE K T n C b with
   |some z,some x,some y=>some (.ite z x y)
   |_,_,_=>none)
  |.Subscript a b _=>(match b with
   |.Slice lo hi st _=>(match st with
    |none=>(match cE K T n C a,cO (cE K T n C) lo,cO (cE K T n C) hi with
   |some x,some (bl,l),some (bh,u)=>some (.slc x bl l bh u)
   |_,_,_=>none)
    |some _=>none)
   |b=>if zec b then(match cE K T n C a,cE K T n C b with
   |some x,some y=>some (.idx x y)
   |_,_=>none)else none)
  |.Call fn args kw pos=>(match kw with
   |[]=>(match fn with
    |.Name f _=>if okN f&&C.names.lookup f==some .globalImplicit then(match PySem.W.nsIn K mainGlobals f with
     |some none=>if f==("isinstance" : Str)then(match args with
      |[a,.Name t _]=>(match tyOf t,cE K T n C a with
       |some ty,some x=>if okN t&&zgp K C t then some (.isi ty x)else none
       |_,_=>none)
      |_=>none)
      else(match biOf f,args with
       |some b,_::_=>(cL (cE K T n C) args).map (.bi b)
       |_,_=>none)
     |some (some _)=>(match zce T f 0 with
      |some i=>if zee K f args.length && !args.isEmpty then(cL (cE K T n C) args).map (λa=>.call i (padE a))else(cL (cE K T n C) args).map (.call i)
      |none=>none)
     |none=>none)else none
    |.Attribute o mth ap=>if zfl o&& (ap.endLine==pos.line)then(match cE K T n C o,args with
     |some x,[a]=>if mth==("append" : Str)then(cE K T n C a).map λy=>.mt .append x (.cons y .nil)else none
     |some x,[a,b]=>if mth==("get" : Str)then(match cE K T n C a,cE K T n C b with
      |some y,some z=>some (.mt .get x (.cons y (.cons z .nil)))
      |_,_=>none)else none
     |_,_=>none)else none
    |_=>none)
   |_=>none)
  |.ListComp elt gs sc _=>(match gs with
   |[g]=>(match g with
    |⟨tg,iter,ifs,0⟩=>(match mapO (λx=>zce C.N x 0) (zav sc)with
     |some ix=>if zcx C sc ix then(match cW K T n C iter,cTg (inC sc) tg,(match ifs with|[]=>some (.cst (.bl true))|[c]=>cT K T n (inC sc) c|_=>none),cE K T n (inC sc) elt with
      |some (kd,a),some t,some c,some e=>if okW kd tg then some (.lc kd a t (ownOf sc).length ix c e)else none
      |_,_,_,_=>none)else none
     |none=>none)
    |_=>none)
   |_=>none)
  |.DictComp ek evv gs sc _=>(match gs with
   |[g]=>(match g with
    |⟨tg,iter,ifs,0⟩=>(match mapO (λx=>zce C.N x 0) (zav sc)with
     |some ix=>if zcx C sc ix then(match cW K T n C iter,cTg (inC sc) tg,(match ifs with|[]=>some (.cst (.bl true))|[c]=>cT K T n (inC sc) c|_=>none),cE K T n (inC sc) ek,cE K T n (inC sc) evv with
      |some (kd,a),some t,some c,some e,some v=>if okW kd tg then some (.dc kd a t (ownOf sc).length ix c e v)else none
      |_,_,_,_,_=>none)else none
     |none=>none)
    |_=>none)
   |_=>none)
  |_=>none
noncomputable def cT(K:vga)(T:List Str):Nat->CC->Expr->Option E
 |0,_,_=>none
 |n+1,C,e=>match e with
  |.Compare a Os bs _=>(match Os,bs with
   |[O],[b]=>if zcd b then(match cpOf O,cE K T n C a,cE K T n C b with
   |some c,some x,some y=>some (.cmp c x y)
   |_,_,_=>none)else none
   |[O,O'],[b,c]=>if zcd c then(match cpOf O,cpOf O',cE K T n C a,cE K T n C b,cE K T n C c with
   |some o,some o',some x,some y,some z=>some (.chn o o' x y z)
   |_,_,_,_,_=>none)else none
   |_,_=>none)
  |.UnaryOp o a _=>(match o with
   |.Not=>(cT K T n C a).map .not
   |_=>none)
  |.BoolOp o es _=>(match o with
   |.And=>cB true (cT K T n C) es
   |.Or=>cB false (cT K T n C) es)
  |.Name x p=>(cE K T n C (.Name x p)).map .tru
  |.Call f as ks p=>(cE K T n C (.Call f as ks p)).map .tru
  |.Subscript a b p=>(cE K T n C (.Subscript a b p)).map .tru
  |_=>none
noncomputable def cW(K:vga)(T:List Str):Nat->CC->Expr->Option (Kd×E)
 |0,_,_=>none
 |n+1,C,e=>match e with
  |.Call (.Name f p) args [] pos=>if f==("range" : Str)then(if zgp K C f then(match args with
   |[a]=>(cE K T n C a).map λx=>(.rng1,.cons x .nil)
   |[a,b]=>(match cE K T n C a,cE K T n C b with
    |some x,some y=>some (.rng2,.cons x (.cons y .nil))
    |_,_=>none)
   |_=>none)else none)
   else if f==("enumerate" : Str)then(if zgp K C f then(match args with
    |[a]=>(cE K T n C a).map λx=>(.enm,x)
    |_=>none)else none)
   else(cE K T n C (.Call (.Name f p) args [] pos)).map λx=>(.seq,x)
  |.Set ..=>none
  |.Name x p=>(cE K T n C (.Name x p)).map λc=>if zl3 C x then(.keys,.bi .frz (.cons c .nil))else(.seq,c)
  |e=>(cE K T n C e).map λx=>(.seq,x)
end
noncomputable def cSs(f:Stmt->Option S):List Stmt->Option S
 |[]=>some .skip
 |s::r=>match f s,cSs f r with
  |some a,some b=>some (.seq a b)
  |_,_=>none
noncomputable def cS(K:vga)(T:List Str)(d:Nat):Nat->CC->Stmt->Option S
 |0,_,_=>none
 |n+1,C,s=>match s with
  |.Pass _=>some .skip
  |.Break _=>some .brk
  |.Continue _=>some .cnt
  |.Raise ..=>some .no
  |.Return r _=>(match r with
   |none=>some (.ret (.cst .non))
   |some e=>(cE K T d C e).map .ret)
  |.Expr e _=>if zio e then(cE K T d C e).map .expr else none
  |.Assign l e _=>(match l with
   |[t]=>(match t with
    |.Name x p=>(match nmIx C (.Name x p),cE K T d C e with
    |some i,some c=>some (.set i c)
    |_,_=>none)
    |.Tuple ts _ _=>if noTup e then(match mapO (nmIx C) ts,cE K T d C e with
    |some is,some c=>some (.unp is c)
    |_,_=>none)else none
    |.Subscript o i _=>if zec i then(match cE K T d C o,cE K T d C i,cE K T d C e with
    |some x,some y,some z=>some (.put x y z)
    |_,_,_=>none)else none
    |_=>none)
   |_=>none)
  |.AugAssign t O e _=>(match t with
   |.Name x p=>(match nmIx C (.Name x p),ipOf O,cE K T d C e with
    |some i,some o,some c=>some (.aug i o c)
    |_,_,_=>none)
   |_=>none)
  |.If c a b _=>(match cT K T d C c,cSs (cS K T d n C) a,cSs (cS K T d n C) b with
   |some z,some x,some y=>some (.ite z x y)
   |_,_,_=>none)
  |.For tg it b el _=>(match el with
   |[]=>(match cW K T d C it,cTg C tg,cSs (cS K T d n C) b with
    |some (kd,a),some t,some x=>if okW kd tg then some (.for kd a t x)else none
    |_,_,_=>none)
   |_=>none)
  |.While c b el _=>(match el with
   |[]=>(match cT K T d C c,cSs (cS K T d n C) b with
    |some z,some x=>some (.whl z x)
    |_,_=>none)
   |_=>none)
  |_=>none
structure XOk(X:Cx)(C:CC)(T:List Str)(F:Nat->Option Fn)(k:Nat):Prop where
 hN:X.N=C.N
 nd:C.N.Nodup
 vis:∀x,visK (C.names.lookup x)=true->Vis X.env.scope x
 loc:∀x,locK C.fnAll (C.names.lookup x)=true->Loc X.env.scope x/\(X.fn x=true\/X.env.scope.names.lookup x=some .local)
 gl:∀x,C.names.lookup x=some .globalImplicit->Gl X x
 cf:∀x,(C.names.lookup x=some .cell\/C.names.lookup x=some .free)->X.env.kindOf x=some .cell\/X.env.kindOf x=some .free
 calm:X.calm=true
 room:Room k X.A
 xe:X.xe=λ_ _=>False
 kfn:X.env.scope.kind=.function
 mgs:∀x v,PySem.W.nsIn X.K mainGlobals x=some (some v)->X.mg x=some v
 mgn:∀x,PySem.W.nsIn X.K mainGlobals x=some none->X.mg x=none
 fns:∀(i:Nat)(x:Str),T[i]?=some x->x≠""->∃f fd ps fn,refAt X.K x=some f/\FnOk X.prog X.w X.K X.mg X.base CX0 k f fd ps (spV X.K ps.length (run F k i))/\PySem.W.keepIn X.K (.ref f)=true/\Binds X.K fd ps []/\F i=some fn/\fn.ps=ps.length/\(hasD X.K x=true->Binds X.K fd ps [.none])
section
variable{X:Cx}{C:CC}{T:List Str}{F:Nat->Option Fn}{k:Nat}
theorem XOk.u65(O:XOk X C T F k):X.A.units+65<cLine:=by have:=O.room.un;lia
theorem XOk.u2(O:XOk X C T F k):X.A.units+2<cLine:=vea (Nat.add_le_add_left (by decide:2<=64) _) O.room.units
theorem XOk.u1(O:XOk X C T F k):X.A.units+1<cLine:=vea (Nat.add_le_add_left (by decide:1<=64) _) O.room.units
theorem zef(O:XOk X C T F k){x:Str}(h:zgp X.K C x=true):Gl X x/\X.mg x=none:=by
 unfold zgp at h
 rw[vab]at h
 refine⟨O.gl x (by simpa using h.1),O.mgn x ?_⟩
 have h2:=h.2
 split at h2
 .assumption
 .cases h2
theorem nm_ok(O:XOk X C T F k){e:Expr}{i:Nat}(h:nmIx C e=some i):NmOk X e i:=by
 unfold nmIx at h
 split at h
 .split at h
  .rename_i hc
   rw[vab]at hc
   obtain⟨h1,h2⟩:=O.loc _ hc.2
   exact⟨_,_,rfl,by rw[O.hN];exact zl0 h,h1,h2⟩
  .cases h
 .cases h
theorem zl4(O:XOk X C T F k):∀{es:List Expr} {is:List Nat},mapO (nmIx C) es=some is->Paired (NmOk X) es is
 |[],_,h=>by cases h;exact .nil
 |e::es,is,h=>by
  unfold mapO at h
  split at h
  .rename_i b hb
   split at h
   .rename_i bs hbs
    cases h
    exact .cons (nm_ok O hb) (zl4 O hbs)
   .cases h
  .cases h
theorem tg_ok(O:XOk X C T F k){e:Expr}{t:Tg}(h:cTg C e=some t):PG X e (lftG X.K t):=by
 unfold cTg at h
 split at h
 .rename_i x p
  cases z:nmIx C (.Name x p)with
  |none=>rw[z]at h;cases h
  |some i=>
   rw[z]at h;cases h
   obtain⟨x',p',e,h1,h2,h3⟩:=nm_ok O z
   cases e
   exact zvw (O.hN▸O.nd) h1 h2 h3
 .rename_i es kx p
  cases z:mapO (nmIx C) es with
  |none=>rw[z]at h;cases h
  |some is=>rw[z]at h;cases h;exact zll O.calm (O.hN▸O.nd) (zl4 O z)
 .cases h
theorem cL_ok{f:Expr->Option E}{cl:Call}(ih:∀e c,f e=some c->SE X e (ev cl c)/\zax e=true):∀{es:List Expr} {c:E},cL f es=some c->SA X es (ev cl c)/\es.all zax=true
 |[],_,h=>by cases h;exact⟨zlb,rfl⟩
 |e::es,c,h=>by
  unfold cL at h
  split at h
  .rename_i a r ha hr
   cases h
   obtain⟨h1,h2⟩:=ih e a ha
   obtain⟨h3,h4⟩:=cL_ok ih hr
   exact⟨zfi h1 h3 (zae h2),by rw[vch,h2,h4];rfl⟩
  .cases h
theorem zpw{f:Expr->Option E}{cl:Call}{pos:Pos}(ih:∀e c,f e=some c->SE X e (ev cl c)/\zax e=true):∀{ks:List (Option Expr)} {vs:List Expr} {c:E},cPs f ks vs=some c->SPs X pos ks vs (ev cl c)
 |[],[],_,h=>by cases h;exact zrp
 |[],_::_,_,h=>by cases h
 |none::_,_,_,h=>by cases h
 |some _::_,[],_,h=>by cases h
 |some a::ks,v::vs,c,h=>by
  unfold cPs at h
  split at h
  .rename_i x y r hx hy hr
   cases h
   exact znz (ih _ _ hx).1 (ih _ _ hy).1 (zpw ih hr)
  .cases h
theorem cB_ok{f:Expr->Option E}{cl:Call}{pos:Pos}(ih:∀e c,f e=some c->SE X e (ev cl c)/\zax e=true):∀{es:List Expr} {c:E},(cB true f es=some c->SE X (.BoolOp .And es pos) (ev cl c))/\(cB false f es=some c->SE X (.BoolOp .Or es pos) (ev cl c))
 |[],_=>⟨(λh=>nomatch h),(λh=>nomatch h)⟩
 |[a],c=>⟨λh=>zpk (ih a c h).1,λh=>zpk (ih a c h).1⟩
 |a::b::r,c=>by
  refine⟨λh=>?_,λh=>?_⟩
  .unfold cB at h
   split at h
   .rename_i x y hx hy
    cases h
    exact zve (ih a x hx).1 ((cB_ok ih).1 hy)
   .cases h
  .unfold cB at h
   split at h
   .rename_i x y hx hy
    cases h
    exact se_or (ih a x hx).1 ((cB_ok ih).2 hy)
   .cases h
theorem ziw{f:Expr->Option E}{cl:Call}{pos:Pos}(ih:∀e c,f e=some c->ST X e (ev cl c)):∀{es:List Expr} {c:E},(cB true f es=some c->SW X (.BoolOp .And es pos) (ev cl c))/\(cB false f es=some c->SW X (.BoolOp .Or es pos) (ev cl c))
 |[],_=>⟨(λh=>nomatch h),(λh=>nomatch h)⟩
 |[a],c=>⟨λh=>zpj (ih a c h),λh=>zpj (ih a c h)⟩
 |a::b::r,c=>by
  refine⟨λh=>?_,λh=>?_⟩
  .unfold cB at h
   split at h
   .rename_i x y hx hy
    cases h
    exact zvd (ih a x hx) ((ziw ih).1 hy)
   .cases h
  .unfold cB at h
   split at h
   .rename_i x y hx hy
    cases h
    exact sw_or (ih a x hx) ((ziw ih).2 hy)
   .cases h
theorem cO_ok{f:Expr->Option E}{cl:Call}(ih:∀e c,f e=some c->SE X e (ev cl c)/\zax e=true){o:Option Expr}{b:Bool}{c:E}(h:cO f o=some (b,c)):PO X o (lftO X.K b (ev cl c)):=by
 unfold cO at h
 split at h
 .cases h;exact zrm
 .rename_i e
  cases z:f e with
  |none=>rw[z]at h;cases h
  |some c'=>rw[z]at h;cases h;exact zrn (ih _ _ z).1
theorem zr6{x:Str}{t:Ty}(h:tyOf x=some t):bootBuiltins x=some (.type (tyN t)):=by
 unfold tyOf at h
 split at h
 .rename_i e;cases h;rw[show x = "int" by simpa using e];exact PyProof.Rows.boot_int
 split at h
 .rename_i e;cases h;rw[show x = "bool" by simpa using e];decide +kernel
 split at h
 .rename_i e;cases h;rw[show x = "tuple" by simpa using e];exact PyProof.Rows.boot_tuple
 split at h
 .rename_i e;cases h;rw[show x = "list" by simpa using e];exact PyProof.Rows.boot_list
 split at h
 .rename_i e;cases h;rw[show x = "str" by simpa using e];decide +kernel
 split at h
 .rename_i e;cases h;rw[show x = "dict" by simpa using e];decide +kernel
 .cases h
theorem bi_ok{x:Str}{b:Bi}{e:Expr}{es:List Expr}{fa:FE}{p pos:Pos}(h:biOf x=some b)(hg:Gl X x)(hm:X.mg x=none)(hn:okN x=true)(hc:X.calm=true)(ha:SA X (e::es) fa)(hs:(e::es).all zax=true):SE X (.Call (.Name x p) (e::es) [] pos) (gArg fa (biW b)):=by
 obtain⟨n1,_,n2⟩:=zey hn
 unfold biOf at h
 split at h
 .rename_i z
  cases h
  have z:x = "len":=by simpa using z
  subst z
  exact zcv zf9 zvj hg hm PySem.boot_len ha hs n2 n1
 split at h
 .rename_i z
  cases h
  have z:x = "list":=by simpa using z
  subst z
  exact zeb zga zro hg hm PyProof.Rows.boot_list ha hs n2 n1
 split at h
 .rename_i z
  cases h
  have z:x = "tuple":=by simpa using z
  subst z
  exact zeb ze8 znx hg hm PyProof.Rows.boot_tuple ha hs n2 n1
 split at h
 .rename_i z
  cases h
  have z:x = "int":=by simpa using z
  subst z
  exact zeb zkg zvk hg hm PyProof.Rows.boot_int ha hs n2 n1
 split at h
 .rename_i z
  cases h
  have z:x = "abs":=by simpa using z
  subst z
  exact zcv znd zvl hg hm (by decide +kernel) ha hs n2 n1
 split at h
 .rename_i z
  cases h
  have z:x = "max":=by simpa using z
  subst z
  exact zcv ((zke hc).or (zlz hc)) zvm hg hm (by decide +kernel) ha hs n2 n1
 split at h
 .rename_i z
  cases h
  have z:x = "min":=by simpa using z
  subst z
  exact zcv (zkf hc) zvn hg hm (by decide +kernel) ha hs n2 n1
 split at h
 .rename_i z
  cases h
  have z:x = "sorted":=by simpa using z
  subst z
  exact zcv zjy zwh hg hm (by decide +kernel) ha hs n2 n1
 .cases h
theorem zj0{b:Expr}(h:zec b=true):zg9 b:=λo i=>by cases b<;>first|rfl|cases h
end
section
variable{X:Cx}{C:CC}{T:List Str}{F:Nat->Option Fn}{k:Nat}
theorem zay{env:Env}{kd:NameKind}(hk:kd≠.free):∀{l:List (Str×NameKind)} {x:Str},l.lookup x=some kd->
 (l.map λ(n,k)=>if(k==NameKind.free&&env.scope.kind == .function&&env.kindOf n==some .cell)then(n,NameKind.cell)else(n,k)).lookup x=some kd
 |[],_,h=>by cases h
 |(n,j)::r,x,h=>by
  rw[vaw]
  simp only[vau]at h
  by_cases hx:(x==n)=true
  .simp only[hx]at h
   cases h
   have:(kd==NameKind.free)=false:=by simpa using hk
   simp only[this,veh,vam,vbi,vau,hx]
  .have hx':(x==n)=false:=by simpa using hx
   simp only[hx']at h
   have ih:=zay (env:=env) hk (l:=r) (x:=x) h
   by_cases hc':(j==NameKind.free&&env.scope.kind == .function&&env.kindOf n==some .cell)=true
   .simp only[hc',vbe,vau,hx'];exact ih
   .have hcf:(j==NameKind.free&&env.scope.kind == .function&&env.kindOf n==some .cell)=false:=by simpa using hc'
    simp only[hcf,vam,vbi,vau,hx'];exact ih
theorem zdd(O:XOk X C T F k){sc:Scope}{ix:List Nat}(h:zcx C sc ix=true):CompScope X (ownOf sc) (zav sc) ix sc/\(ownOf sc++zav sc).Nodup:=by
 unfold zcx at h
 simp only[vab,vap,vax]at h
 obtain⟨⟨⟨⟨⟨⟨⟨⟨h1,h2⟩,h2'⟩,h3⟩,h4⟩,h5⟩,h6⟩,h7⟩,h8⟩:=h
 refine⟨⟨h1,h2,h3,h4,h2',λy hy e=>O.cf _ (h5 y hy e),λq x e=>?_,h6⟩,h8⟩
 have hk:q< (zav sc).length:=(vba.mp e).1
 have:=h7 q (vbu.mpr hk)
 rw[e]at this
 cases z:ix[q]? with
 |none=>rw[z]at this;cases this
 |some j=>
  rw[z]at this
  simp only[vab,vap]at this
  exact⟨j,rfl,by rw[O.hN];exact this.1,this.2⟩
theorem zeg(O:XOk X C T F k){sc:Scope}{ix:List Nat}(h:zcx C sc ix=true)(D:Addr)(s₀:Shared)(H₀:Hp)(ex:List Addr):XOk (X.comp (ownOf sc++zav sc) sc D s₀ H₀ ex) (inC sc) T F k:=by
 obtain⟨S,nd⟩:=zdd O h
 refine⟨rfl,nd,λx hx=>?_,λx hx=>?_,λx hx=>?_,λx hx=>?_,O.calm,O.room,rfl,S.kind,O.mgs,O.mgn,O.fns⟩
 .have hx:visK (sc.names.lookup x)=true:=hx
  cases z:sc.names.lookup x with
  |none=>rw[z]at hx;cases hx
  |some kd=>
   cases kd with
   | «local»=>exact .inl (zay (by decide) z)
   |cell=>exact .inr (.inl (zay (by decide) z))
   |free=>
    have:=zbd (env:=X.env) O.kfn z
    by_cases hc:X.env.kindOf x=some .cell
    .rw[if_pos hc]at this;exact .inr (.inl this)
    .rw[if_neg hc]at this;exact .inr (.inr this)
   |globalExplicit=>rw[z]at hx;cases hx
   |globalImplicit=>rw[z]at hx;cases hx
 .have hx:locK true (sc.names.lookup x)=true:=hx
  cases z:sc.names.lookup x with
  |none=>rw[z]at hx;cases hx
  |some kd=>
   cases kd with
   | «local»=>exact⟨.inl (zay (by decide) z),.inr (zay (by decide) z)⟩
   |cell=>exact⟨.inr (zay (by decide) z),.inl (by show(sc.names.lookup x==some NameKind.cell)=true;rw[z];rfl)⟩
   |free=>rw[z]at hx;cases hx
   |globalExplicit=>rw[z]at hx;cases hx
   |globalImplicit=>rw[z]at hx;cases hx
 .exact zay (by decide) hx
 .have hx:sc.names.lookup x=some .cell\/sc.names.lookup x=some .free:=hx
  rcases hx with z|z
  .exact .inl (zay (by decide) z)
  .have:=zbd (env:=X.env) O.kfn z
   by_cases hc:X.env.kindOf x=some .cell
   .rw[if_pos hc]at this;exact .inl this
   .rw[if_neg hc]at this;exact .inr this
end
theorem map_some{α β:Type}{o:Option α}{f:α->β}{b:β}(h:o.map f=some b):∃a,o=some a/\b=f a:=by
 cases o with
 |none=>cases h
 |some a=>cases h;exact⟨a,rfl,rfl⟩
structure Snd(X:Cx)(C:CC)(T:List Str)(F:Nat->Option Fn)(k n:Nat):Prop where
 e:∀e c,cE X.K T n C e=some c->SE X e (ev (run F k) c)/\zax e=true
 t:∀e c,cT X.K T n C e=some c->ST X e (ev (run F k) c)
 w:∀e kd c tg,cW X.K T n C e=some (kd,c)->okW kd tg=true->PI X tg e (lftI X.K kd (ev (run F k) c))/\∀x,foldedSetIterable e X.env x=pure x
section
variable{X:Cx}{C:CC}{T:List Str}{F:Nat->Option Fn}{k n:Nat}
theorem snd_t(O:XOk X C T F k)(ih:Snd X C T F k n)(e:Expr)(c:E)(h:cT X.K T (n+1) C e=some c):ST X e (ev (run F k) c):=by
 unfold cT at h
 split at h
 .split at h
  .split at h
   .rename_i hs
    split at h
    .rename_i h1 h2 h3
     cases h
     exact zu8 O.u65 h1 hs (ih.e _ _ h2).1 (ih.e _ _ h3).1
    .cases h
   .cases h
  .split at h
   .rename_i hs
    split at h
    .rename_i h1 h2 h3 h4 h5
     cases h
     exact zva O.u65 h1 h2 hs (ih.e _ _ h3).1 (ih.e _ _ h4).1 (ih.e _ _ h5).1
    .cases h
   .cases h
  .cases h
 .split at h
  .obtain⟨a,h1,rfl⟩:=map_some h
   exact zvb (ih.t _ _ h1)
  .cases h
 .split at h
  .exact((ziw ih.t).1 h).pt
  .exact((ziw ih.t).2 h).pt
 .obtain⟨a,h1,rfl⟩:=map_some h
  exact zle (ih.e _ _ h1).1 λ_=>rfl
 .obtain⟨a,h1,rfl⟩:=map_some h
  exact zle (ih.e _ _ h1).1 λ_=>rfl
 .obtain⟨a,h1,rfl⟩:=map_some h
  exact zle (ih.e _ _ h1).1 λ_=>rfl
 .cases h
theorem noSet{e:Expr}(h:∀a b c,e≠.Set a b c){env:Env}:∀x,foldedSetIterable e env x=pure x:=by
 intro x
 cases e<;>first|rfl|exact absurd rfl (h _ _ _)
theorem snd_w(O:XOk X C T F k)(ih:Snd X C T F k n)(e:Expr)(kd:Kd)(c:E)(tg:Expr)(h:cW X.K T (n+1) C e=some (kd,c))(hw:okW kd tg=true):PI X tg e (lftI X.K kd (ev (run F k) c))/\∀x,foldedSetIterable e X.env x=pure x:=by
 unfold cW at h
 split at h
 .rename_i f p args pos
  refine⟨?_,λx=>rfl⟩
  split at h
  .rename_i hf
   have hf:f = "range":=by simpa using hf
   subst hf
   split at h
   .rename_i ha
    obtain⟨g1,g2⟩:=zef O ha
    split at h
    .rename_i a
     obtain⟨x,h1,h2⟩:=map_some h
     cases h2
     obtain⟨h3,h4⟩:=ih.e _ _ h1
     exact zrs (zfi h3 zlb (zae h4)) h4 g1 g2
    .rename_i a b
     split at h
     .rename_i x y h1 h2
      cases h
      obtain⟨h3,h4⟩:=ih.e _ _ h1
      obtain⟨h5,h6⟩:=ih.e _ _ h2
      exact zrt (zfi h3 (zfi h5 zlb (zae h6)) (zae h4)) h4 h6 g1 g2
     .cases h
    .cases h
   .cases h
  .split at h
   .rename_i hf
    have hf:f = "enumerate":=by simpa using hf
    subst hf
    split at h
    .rename_i ha
     obtain⟨g1,g2⟩:=zef O ha
     split at h
     .rename_i a
      obtain⟨x,h1,h2⟩:=map_some h
      cases h2
      obtain⟨h3,h4⟩:=ih.e _ _ h1
      cases tg<;>first|exact zvv h3 h4 g1 g2|cases hw
     .cases h
    .cases h
   .obtain⟨x,h1,h2⟩:=map_some h
    cases h2
    exact zli (ih.e _ _ h1).1
 .cases h
 .rename_i nm _
  obtain⟨x,h1,h2⟩:=map_some h
  by_cases hcn:zl3 C nm=true
  .simp only[hcn,vbe]at h2
   cases h2
   exact⟨zru (zwk (ih.e _ _ h1).1),λx=>rfl⟩
  .simp only[hcn,vbi]at h2
   cases h2
   exact⟨zli (ih.e _ _ h1).1,λx=>rfl⟩
 .rename_i hns hnm
  obtain⟨x,h1,h2⟩:=map_some h
  cases h2
  exact⟨zli (ih.e _ _ h1).1,noSet (by first|exact hns|(intro a b c z;exact hns a b c z))⟩
end
section
variable{X:Cx}{C:CC}{T:List Str}{F:Nat->Option Fn}{k n:Nat}
theorem zoe(O:XOk X C T F k){x:Str}{p:Pos}{c:E}(h:cE X.K T (n+1) C (.Name x p)=some c):SE X (.Name x p) (ev (run F k) c):=by
 simp only[cE]at h
 split at h
 .rename_i hn
  obtain⟨n1,n2,n3⟩:=zey hn
  split at h
  .rename_i hv
   obtain⟨i,h1,rfl⟩:=map_some h
   exact zuz (by rw[O.hN];exact zl0 h1) (O.vis x hv) n1 n2
  .split at h
   .rename_i hg
    split at h
    .rename_i v hv
     obtain⟨w,h1,rfl⟩:=map_some h
     obtain⟨y,h2,h3⟩:=zpu 8 v w h1
     exact zgk (zqg (O.gl x (by simpa using hg)) (O.mgs x v hv) h2 n1) h3
    .cases h
   .cases h
 .cases h
theorem zof(O:XOk X C T F k)(ih:Snd X C T F k n){f:Str}{p pos:Pos}{args:List Expr}{c:E}(h:cE X.K T (n+1) C (.Call (.Name f p) args [] pos)=some c):SE X (.Call (.Name f p) args [] pos) (ev (run F k) c):=by
 simp only[cE]at h
 split at h
 .rename_i hn
  rw[vab]at hn
  have hg:=O.gl f (by simpa using hn.2)
  split at h
  .rename_i hm
   have hm:=O.mgn f hm
   split at h
   .rename_i hf
    have hf:f = "isinstance":=by simpa using hf
    subst hf
    split at h
    .rename_i a t pt
     split at h
     .rename_i ty x h1 h2
      split at h
      .rename_i hc
       cases h
       rw[vab]at hc
       obtain⟨g1,g2⟩:=zef O hc.2
       obtain⟨h3,h4⟩:=ih.e _ _ h2
       obtain⟨n1,n2,n3⟩:=zey hc.1
       exact zvp ty h3 h4 hg hm g1 g2 (zr6 h1) n3 n1
      .cases h
     .cases h
    .cases h
   .split at h
    .rename_i b e es hb
     obtain⟨a,h1,rfl⟩:=map_some h
     obtain⟨h2,h3⟩:=cL_ok ih.e h1
     exact bi_ok hb hg hm hn.1 O.calm h2 h3
    .cases h
  .rename_i v hv
   split at h
   .rename_i i hi
    obtain⟨fa,fd,ps,fn,q1,q2,q3,q4,q5,q6,q7⟩:=O.fns i f (zl0 hi) (zwl hn.1)
    have q1:=zit q1
    split at h
    .rename_i hlv
     rw[vab]at hlv
     obtain⟨a,h1,rfl⟩:=map_some h
     obtain⟨h2,h3⟩:=cL_ok ih.e h1
     have hl:∀ws h w h',run F k i ws h=.ok w h'->ws.length=ps.length:=λws h w h' e=>by rw[zhl q5 e,q6]
     have hev:ev (run F k) (.call i (padE a))=gArg (ev (run F k) a) (λws h=>run F k i (ws++[.non]) h):=by
      funext ρ h
      simp only[ev,zwm (zl2 h1)]
      show Res.bind (Res.bind (ev (run F k) a ρ h) _) _=Res.bind (ev (run F k) a ρ h) _
      cases ev (run F k) a ρ h with
      |no=>rfl
      |ex _ _=>rfl
      |ok y h2=>cases y<;>rfl
     rw[hev]
     cases args with
     |nil=>cases hlv.2
     |cons e es=>exact zn1 q2 O.room hg (O.mgs f _ q1) q3 (q7 (zjz hlv.1)) h2 h3 (zey hn.1).1 hl
    obtain⟨a,h1,rfl⟩:=map_some h
    obtain⟨h2,h3⟩:=cL_ok ih.e h1
    have hl:∀ws h w h',run F k i ws h=.ok w h'->ws.length=ps.length:=λws h w h' e=>by rw[zhl q5 e,q6]
    cases args with
    |nil=>
     simp only[cL]at h1
     cases h1
     exact zn0 q2 O.room hg (O.mgs f _ q1) q3 q4 (zey hn.1).1 hl
    |cons e es=>exact zrq q2 O.room hg (O.mgs f _ q1) q3 q4 h2 h3 (zey hn.1).1 hl
   .cases h
  .cases h
 .cases h
theorem zog(O:XOk X C T F k)(ih:Snd X C T F k n){o:Expr}{m:Str}{ap pos:Pos}{args:List Expr}{c:E}(h:cE X.K T (n+1) C (.Call (.Attribute o m ap) args [] pos)=some c):SE X (.Call (.Attribute o m ap) args [] pos) (ev (run F k) c):=by
 simp only[cE]at h
 split at h
 .rename_i hn
  rw[vab]at hn
  split at h
  .rename_i x a hx
   split at h
   .rename_i hm
    have hm:m = "append":=by simpa using hm
    subst hm
    obtain⟨y,h1,rfl⟩:=map_some h
    obtain⟨h2,h3⟩:=ih.e _ _ h1
    exact zlh (ih.e _ _ hx).1 h2 hn.1 h3 hn.2
   .cases h
  .rename_i x a b hx
   split at h
   .rename_i hm
    have hm:m = "get":=by simpa using hm
    subst hm
    split at h
    .rename_i y z h1 h2
     cases h
     obtain⟨h3,h4⟩:=ih.e _ _ h1
     obtain⟨h5,h6⟩:=ih.e _ _ h2
     exact zvq O.u1 (ih.e _ _ hx).1 h3 h5 hn.1 h4 h6 hn.2
    .cases h
   .cases h
  .cases h
 .cases h
theorem zpx{ow fr:List Str}{sc:Scope}{ifs:List Expr}{c:E}(O:∀D s₀ H₀ ex,Snd (X.comp (ow++fr) sc D s₀ H₀ ex) (inC sc) T F k n)
 (h:(match ifs with|[]=>some (E.cst (.bl true))|[c]=>cT X.K T n (inC sc) c|_=>none)=some c) (D:Addr) (s₀:Shared) (H₀:Hp) (ex:List Addr):PTs (X.comp (ow++fr) sc D s₀ H₀ ex) ifs (lftT X.K (ev (run F k) c)):=by
 split at h
 .cases h
  exact λpins s σ H Q I z9=>z9.el λρ h m b h' f r e q=>by
   cases e
   exact zq4 pins s σ H Q I (q H m .refl r)
 .exact zq5 ((O D s₀ H₀ ex).t _ _ h)
 .cases h
theorem zpy(O:XOk X C T F k)(ih:Snd X C T F k n)(ihc:∀{sc:Scope} {ix:List Nat},zcx C sc ix=true->∀D s₀ H₀ ex,Snd (X.comp (ownOf sc++zav sc) sc D s₀ H₀ ex) (inC sc) T F k n)
 {elt tg iter:Expr} {ifs:List Expr} {sc:Scope} {pos:Pos} {c:E} (h:cE X.K T (n+1) C (.ListComp elt [⟨tg,iter,ifs,0⟩] sc pos)=some c) :
 ∃kd a t ix cc ce,c=.lc kd a t (ownOf sc).length ix cc ce/\CompScope X (ownOf sc) (zav sc) ix sc/\PI X tg iter (lftI X.K kd (ev (run F k) a))/\(∀D s₀ H₀ ex,PG (X.comp (ownOf sc++zav sc) sc D s₀ H₀ ex) tg (lftG X.K t))/\
  (∀D s₀ H₀ ex,PTs (X.comp (ownOf sc++zav sc) sc D s₀ H₀ ex) ifs (lftT X.K (ev (run F k) cc)))/\(∀D s₀ H₀ ex,PE (X.comp (ownOf sc++zav sc) sc D s₀ H₀ ex) elt (lft X.K (ev (run F k) ce)))/\∀x,foldedSetIterable iter X.env x=pure x:=by
 simp only[cE]at h
 split at h
 .rename_i ix hix
  split at h
  .rename_i hc
   split at h
   .rename_i kd a t cc ce h1 h2 h3 h4
    split at h
    case isFalse=>cases h
    rename_i hw
    cases h
    obtain⟨w1,w2⟩:=ih.w _ _ _ tg h1 hw
    exact⟨kd,a,t,ix,cc,ce,rfl,(zdd O hc).1,w1,λD s₀ H₀ ex=>tg_ok (zeg O hc D s₀ H₀ ex) h2,zpx (ihc hc) h3,λD s₀ H₀ ex=>((ihc hc D s₀ H₀ ex).e _ _ h4).1,w2⟩
   .cases h
  .cases h
 .cases h
theorem zpz(O:XOk X C T F k)(ih:Snd X C T F k n)(ihc:∀{sc:Scope} {ix:List Nat},zcx C sc ix=true->∀D s₀ H₀ ex,Snd (X.comp (ownOf sc++zav sc) sc D s₀ H₀ ex) (inC sc) T F k n)
 {ek evv tg iter:Expr} {ifs:List Expr} {sc:Scope} {pos:Pos} {c:E} (h:cE X.K T (n+1) C (.DictComp ek evv [⟨tg,iter,ifs,0⟩] sc pos)=some c) :
 ∃kd a t ix cc ce cv,c=.dc kd a t (ownOf sc).length ix cc ce cv/\CompScope X (ownOf sc) (zav sc) ix sc/\PI X tg iter (lftI X.K kd (ev (run F k) a))/\(∀D s₀ H₀ ex,PG (X.comp (ownOf sc++zav sc) sc D s₀ H₀ ex) tg (lftG X.K t))/\
  (∀D s₀ H₀ ex,PTs (X.comp (ownOf sc++zav sc) sc D s₀ H₀ ex) ifs (lftT X.K (ev (run F k) cc)))/\(∀D s₀ H₀ ex,PE (X.comp (ownOf sc++zav sc) sc D s₀ H₀ ex) ek (lft X.K (ev (run F k) ce)))/\
  (∀D s₀ H₀ ex,PE (X.comp (ownOf sc++zav sc) sc D s₀ H₀ ex) evv (lft X.K (ev (run F k) cv)))/\∀x,foldedSetIterable iter X.env x=pure x:=by
 simp only[cE]at h
 split at h
 .rename_i ix hix
  split at h
  .rename_i hc
   split at h
   .rename_i kd a t cc ce cv h1 h2 h3 h4 h5
    split at h
    case isFalse=>cases h
    rename_i hw
    cases h
    obtain⟨w1,w2⟩:=ih.w _ _ _ tg h1 hw
    exact⟨kd,a,t,ix,cc,ce,cv,rfl,(zdd O hc).1,w1,λD s₀ H₀ ex=>tg_ok (zeg O hc D s₀ H₀ ex) h2,zpx (ihc hc) h3,λD s₀ H₀ ex=>((ihc hc D s₀ H₀ ex).e _ _ h4).1,λD s₀ H₀ ex=>((ihc hc D s₀ H₀ ex).e _ _ h5).1,w2⟩
   .cases h
  .cases h
 .cases h
theorem snd_e(O:XOk X C T F k)(ih:Snd X C T F k n)(ihc:∀{sc:Scope} {ix:List Nat},zcx C sc ix=true->∀D s₀ H₀ ex,Snd (X.comp (ownOf sc++zav sc) sc D s₀ H₀ ex) (inC sc) T F k n)
 (e:Expr) (c:E) (h:cE X.K T (n+1) C e=some c):SE X e (ev (run F k) c)/\zax e=true:=by
 have h0:=h
 unfold cE at h
 split at h
 .exact⟨zoe O h0,rfl⟩
 .refine⟨?_,rfl⟩
  split at h
  .cases h;exact zu0
  .cases h;exact se_bl
  .cases h;exact zu1
  .cases h;exact zu2
  .cases h
 .obtain⟨a,h1,rfl⟩:=map_some h
  exact⟨zu3 (cL_ok ih.e h1).1,rfl⟩
 .obtain⟨a,h1,rfl⟩:=map_some h
  exact⟨zu4 (cL_ok ih.e h1).1,rfl⟩
 .refine⟨?_,rfl⟩
  split at h
  .split at h
   .cases h
    exact zwj
   .cases h
  .split at h
   .rename_i hc
    simp only[vab]at hc
    obtain⟨a,h1,rfl⟩:=map_some h
    exact zvr O.u2 (zpw ih.e h1) hc.2 (vcs hc.1.2) (by simp) (va2 hc.1.1)
   .cases h
 .refine⟨?_,rfl⟩
  split at h
  .rename_i h1 h2 h3
   cases h
   exact se_op (op_ok h1) (zu5 _) (ih.e _ _ h2).1 (ih.e _ _ h3).1
  .cases h
 .split at h
  .obtain⟨a,h1,rfl⟩:=map_some h
   exact⟨zvc (ih.e _ _ h1).1,rfl⟩
  .obtain⟨a,h1,rfl⟩:=map_some h
   exact⟨zvg (ih.e _ _ h1).1,rfl⟩
  .cases h
 .split at h
  .exact⟨(cB_ok ih.e).1 h,rfl⟩
  .exact⟨(cB_ok ih.e).2 h,rfl⟩
 .split at h
  .refine⟨?_,rfl⟩
   split at h
   .rename_i hs
    split at h
    .rename_i h1 h2 h3
     cases h
     exact zu7 O.u65 h1 hs (ih.e _ _ h2).1 (ih.e _ _ h3).1
    .cases h
   .cases h
  .refine⟨?_,rfl⟩
   split at h
   .rename_i hs
    split at h
    .rename_i h1 h2 h3 h4 h5
     cases h
     exact zu9 O.u65 h1 h2 hs (ih.e _ _ h3).1 (ih.e _ _ h4).1 (ih.e _ _ h5).1
    .cases h
   .cases h
  .cases h
 .refine⟨?_,rfl⟩
  split at h
  .rename_i h1 h2 h3
   cases h
   exact zvf (ih.t _ _ h1) (ih.e _ _ h2).1 (ih.e _ _ h3).1
  .cases h
 .split at h
  .split at h
   .refine⟨?_,rfl⟩
    split at h
    .rename_i h1 h2 h3
     cases h
     exact zvi (ih.e _ _ h1).1 (cO_ok ih.e h2) (cO_ok ih.e h3)
    .cases h
   .cases h
  .refine⟨?_,rfl⟩
   split at h
   .rename_i hs
    split at h
    .rename_i h1 h2
     cases h
     exact zvh O.u2 (ih.e _ _ h1).1 (ih.e _ _ h2).1 (zj0 hs)
    .cases h
   .cases h
 .split at h
  .split at h
   .exact⟨zof O ih h0,rfl⟩
   .exact⟨zog O ih h0,rfl⟩
   .cases h
  .cases h
 .split at h
  .split at h
   .refine⟨?_,rfl⟩
    obtain⟨kd,a,t,ix,cc,ce,rfl,S,w1,w2,w3,w4,w5⟩:=zpy O ih ihc h0
    exact se_lc S O.calm w1 w2 w3 w4 w5
   .cases h
  .cases h
 .split at h
  .split at h
   .refine⟨?_,rfl⟩
    obtain⟨kd,a,t,ix,cc,ce,cv,rfl,S,w1,w2,w3,w4,w6,w5⟩:=zpz O ih ihc h0
    exact se_dc S O.calm w1 w2 w3 w4 w6 w5
   .cases h
  .cases h
 .cases h
end
theorem zdl{T:List Str}{F:Nat->Option Fn}{k:Nat}:∀(n:Nat) {X:Cx} {C:CC},XOk X C T F k->Snd X C T F k n
 |0,_,_,_=>⟨(λe c h=>nomatch h),(λe c h=>nomatch h),(λe kd c tg h _=>nomatch h)⟩
 |n+1,X,C,O=>by
  have ih:=zdl n O
  have ihc:∀{sc:Scope}{ix:List Nat},zcx C sc ix=true->∀D s₀ H₀ ex,Snd (X.comp (ownOf sc++zav sc) sc D s₀ H₀ ex) (inC sc) T F k n:=λhc D s₀ H₀ ex=>zdl n (zeg O hc D s₀ H₀ ex)
  exact⟨snd_e O ih ihc,snd_t O ih,snd_w O ih⟩
section
variable{X:Cx}{C:CC}{T:List Str}{F:Nat->Option Fn}{k d:Nat}
theorem zck{f:Stmt->Option S}{cl:Call}(ih:∀st c,f st=some c->SS X st (exs cl c)):∀{sts:List Stmt} {c:S},cSs f sts=some c->SSs X sts (exs cl c)
 |[],_,h=>by cases h;exact zrx
 |s::r,c,h=>by
  unfold cSs at h
  split at h
  .rename_i a b ha hb
   cases h
   exact zn5 (ih s a ha) (zck ih hb)
  .cases h
theorem zwn{K:vga}{T:List Str}{n:Nat}{C:CC}{elt:Expr}{gs:List Comprehension}{sc:Scope}{lp:Pos}{c:E}(h:cE K T (n+1) C (.ListComp elt gs sc lp)=some c):∃tg iter ifs,gs=[⟨tg,iter,ifs,0⟩]:=by
 simp only[cE]at h
 split at h
 .rename_i g
  split at h
  .exact⟨_,_,_,rfl⟩
  .cases h
 .cases h
theorem zwo{K:vga}{T:List Str}{n:Nat}{C:CC}{ek ev:Expr}{gs:List Comprehension}{sc:Scope}{lp:Pos}{c:E}(h:cE K T (n+1) C (.DictComp ek ev gs sc lp)=some c):∃tg iter ifs,gs=[⟨tg,iter,ifs,0⟩]:=by
 simp only[cE]at h
 split at h
 .rename_i g
  split at h
  .exact⟨_,_,_,rfl⟩
  .cases h
 .cases h
theorem zr7(O:XOk X C T F k){x:Str}{p pos:Pos}{e:Expr}{i:Nat}{c:E}(hi:nmIx C (.Name x p)=some i)(h:cE X.K T d C e=some c):SS X (.Assign [.Name x p] e pos) (exs (run F k) (.set i c)):=by
 obtain⟨x',p',ex,h1,h2,h3⟩:=nm_ok O hi
 cases ex
 have nd:X.N.Nodup:=O.hN▸O.nd
 have Sd:=zdl (T:=T) (F:=F) (k:=k) d O
 by_cases hc:zio e=true
 .exact zlp nd h1 h2 h3 (Sd.e _ _ h).1 (ziq hc)
 .cases d with
  |zero=>cases h
  |succ n=>
   cases e with
   |ListComp elt gs sc lp=>
    have sw:∃b:Bool,swapsWith (.ListComp elt gs sc lp) (some (.Name x p)) pos.line X.env=pure b:=⟨_,rfl⟩
    obtain⟨b,hb⟩:=sw
    cases b with
    |false=>exact zlp nd h1 h2 h3 (Sd.e _ _ h).1 hb
    |true=>
     obtain⟨tg,iter,ifs,rfl⟩:=zwn h
     obtain⟨kd,a,t,ix,cc,ce,rfl,S,w1,w2,w3,w4,w5⟩:=zpy O (zdl n O) (λhc D s₀ H₀ ex=>zdl n (zeg O hc D s₀ H₀ ex)) h
     exact zn6 nd h1 h2 h3 S O.calm w1 w2 w3 w4 hb w5
   |SetComp _ _ _ _=>unfold cE at h;cases h
   |DictComp ek evv gs sc lp=>
    have sw:∃b:Bool,swapsWith (.DictComp ek evv gs sc lp) (some (.Name x p)) pos.line X.env=pure b:=⟨_,rfl⟩
    obtain⟨b,hb⟩:=sw
    cases b with
    |false=>exact zlp nd h1 h2 h3 (Sd.e _ _ h).1 hb
    |true=>
     obtain⟨tg,iter,ifs,rfl⟩:=zwo h
     obtain⟨kd,a,t,ix,cc,ce,cv,rfl,S,w1,w2,w3,w4,w6,w5⟩:=zpz O (zdl n O) (λhc D s₀ H₀ ex=>zdl n (zeg O hc D s₀ H₀ ex)) h
     exact zn7 nd h1 h2 h3 S O.calm w1 w2 w3 w4 w6 hb w5
   |_=>exact absurd rfl hc
theorem snd_s(O:XOk X C T F k):∀(n:Nat) (st:Stmt) (c:S),cS X.K T d n C st=some c->SS X st (exs (run F k) c)
 |0,_,_,h=>by cases h
 |n+1,st,c,h=>by
  have nd:X.N.Nodup:=O.hN▸O.nd
  have Sd:=zdl (T:=T) (F:=F) (k:=k) d O
  have ih:=snd_s O n
  have hp:PassesOwn (model X.prog X.w) X.A X.env X.xe:=by rw[O.xe];exact PassesOwn.never
  unfold cS at h
  split at h
  .cases h;exact zry
  .cases h;exact zv1
  .cases h;exact zv2
  .cases h;exact ss_no
  .split at h
   .cases h;exact zr0
   .obtain⟨a,h1,rfl⟩:=map_some h
    exact zv3 (Sd.e _ _ h1).1
  .split at h
   .rename_i hc
    obtain⟨a,h1,rfl⟩:=map_some h
    exact zrz (Sd.e _ _ h1).1 hc
   .cases h
  .split at h
   .split at h
    .split at h
     .rename_i i a h1 h2
      cases h
      exact zr7 O h1 h2
     .cases h
    .split at h
     .rename_i ht
      split at h
      .rename_i h1 h2
       cases h
       exact zv4 O.calm nd (zl4 O h1) (Sd.e _ _ h2).1 ht
      .cases h
     .cases h
    .split at h
     .rename_i hs
      split at h
      .rename_i h1 h2 h3
       cases h
       exact zv6 O.u2 (Sd.e _ _ h1).1 (Sd.e _ _ h2).1 (Sd.e _ _ h3).1 hs
      .cases h
     .cases h
    .cases h
   .cases h
  .split at h
   .split at h
    .rename_i h1 h2 h3
     cases h
     obtain⟨x',p',ex,a1,a2,a3⟩:=nm_ok O h1
     cases ex
     exact zv9 h2 nd a1 a2 a3 (Sd.e _ _ h3).1
    .cases h
   .cases h
  .split at h
   .rename_i h1 h2 h3
    cases h
    exact zwa (Sd.t _ _ h1) (zck ih h2) (zck ih h3)
   .cases h
  .rename_i tg it b el pos
   split at h
   .split at h
    .rename_i h1 h2 h3
     split at h
     case isFalse=>cases h
     rename_i hw
     cases h
     obtain⟨w1,w2⟩:=Sd.w _ _ _ tg h1 hw
     exact zwc hp O.calm w1 (tg_ok O h2) (zck ih h3) w2
    .cases h
   .cases h
  .split at h
   .split at h
    .rename_i h1 h2
     cases h
     exact zwd hp (Sd.t _ _ h1) (zck ih h2)
    .cases h
   .cases h
  .cases h
end
noncomputable def zhn:FuncBody->Option (List Stmt)
 |.stmts b=>some b
 |_=>none
theorem zj1{d:Data}(h:zfo d=true):∃n,d=.seq #[.none] n:=by
 cases d with
 |seq xs n=>
  obtain⟨l⟩:=xs
  unfold zfo at h
  simp only[]at h
  split at h
  .rename_i v
   cases v<;>first|exact⟨n,rfl⟩|cases h
  .cases h
 |_=>cases h
theorem zoh{K:vga}{v:Value}(h:noneD K v=true):∃t o n,v=.ref t/\K.lookup t=some o/\o.data=.seq #[.none] n:=by
 cases v with
 |ref t=>
  have h:(match K.lookup t with|some o=>zfo o.data|none=>false)=true:=h
  cases e:K.lookup t with
  |none=>rw[e]at h;cases h
  |some o=>
   rw[e]at h
   obtain⟨n,q⟩:=zj1 h
   exact⟨t,o,n,rfl,e,q⟩
 |_=>cases h
noncomputable def zcl(ps:List Str)(sc:Scope):List Str:=ps++(sc.names.filter λy=>(y.2 == .local||y.2 == .cell) && !(ps.contains y.1)).map (·.1)
noncomputable def zfp(N ps:List Str)(sc:Scope):Bool:=
 decide (sc.kind=.function) && !sc.isCoroutine && !sc.isGenerator&&decide N.Nodup&&decide (N.take ps.length=ps)&&ps.all (λx=>decide (sc.names.lookup x=some .local\/sc.names.lookup x=some .cell))&&sc.names.all (λy=>decide (y.2≠.free))&&decide ps.Nodup
theorem zj2{N ps:List Str}{sc:Scope}(h:zfp N ps sc=true):FnScope N ps sc/\ps.Nodup:=by
 unfold zfp at h
 simp only[vab,vap,vax,vb3]at h
 obtain⟨⟨⟨⟨⟨⟨⟨h1,h2⟩,h3⟩,h4⟩,h5⟩,h6⟩,h7⟩,h8⟩:=h
 exact⟨⟨h1,h2,h3,h4,h5,h6,h7⟩,h8⟩
noncomputable def nmOf(x:Str):Str:=x
noncomputable def cF(K:vga)(T:List Str)(d n:Nat)(x:Str):Option Fn:=match fnAt K x with
 |some (f,o,fd)=>(match zbc fd.params,zhn fd.body with
  |some args,some body=>if fd.name==nmOf x&&fd.qualname==x&&Nat.beq fd.globals mainGlobals&&fd.closure.isEmpty&& (isNone fd.defaults||noneD K fd.defaults && !args.isEmpty)&&Nat.beq fd.builtins builtinsNs&&PySem.W.codeIn K fd.code x&&PySem.W.keepIn K (.ref f) &&
   zfp (zcl (args.map (·.arg)) fd.scope) (args.map (·.arg)) fd.scope then
   (cSs (cS K T d n ⟨zcl (args.map (·.arg)) fd.scope,fd.scope.names,true⟩) body).map λb=>⟨(args.map (·.arg)).length,(zcl (args.map (·.arg)) fd.scope).length,b⟩
   else none
  |_,_=>none)
 |none=>none
theorem zr8{fd:FuncData}{x:Str}{args:List Arg}{body:List Stmt}(c1:(fd.name==nmOf x)=true)(c2:(fd.qualname==x)=true)(c3:Nat.beq fd.globals mainGlobals=true)(c4:fd.closure.isEmpty=true)(c6:Nat.beq fd.builtins builtinsNs=true)(ha:zbc fd.params=some args)(hb:zhn fd.body=some body) :
 ∃dx,fd=PySem.W.fnOf (nmOf x) x ⟨[],args,none,[],[],none,dx⟩ body fd.scope fd.defaults fd.kwdefaults fd.doc fd.pyModule fd.annotations fd.code fd.closureTuple:=by
 obtain⟨nm,qn,pr,bd,sc,gl,cl,df,kd,dc,pm,an,cdv,ct,bu⟩:=fd
 have e1:nm=nmOf x:=by simpa using c1
 have e2:qn=x:=by simpa using c2
 have e3:gl=mainGlobals:=vcs c3
 have e4:cl=[]:=by simpa using c4
 have e6:bu=builtinsNs:=vcs c6
 have e7:bd=.stmts body:=by
  cases bd with
  |stmts b'=>cases hb;rfl
  |expr _=>cases hb
 obtain⟨dx,e8⟩:∃dx,pr=⟨[],args,none,[],[],none,dx⟩:=by
  unfold zbc at ha
  split at ha
  .cases ha;rename_i z;exact⟨_,z⟩
  .cases ha
 exact⟨dx,by rw[e1,e2,e3,e4,e6,e7,e8]⟩
theorem zoi{K:vga}{x:Str}{fd:FuncData}{args:List Arg}{body:List Stmt}{dx:List Expr}{sc:Scope}{df kd dc pm:Value}{an:Option Addr}{cdv ct:Value}{b:Bool}(e:fd=PySem.W.fnOf (nmOf x) x ⟨[],args,none,[],[],none,dx⟩ body sc df kd dc pm an cdv ct)(nd:(args.map (·.arg)).Nodup)
 (hb:b=noneD K df) (c5:(isNone df||noneD K df && !args.isEmpty)=true):Binds K fd (args.map (·.arg)) []/\(b=true->Binds K fd (args.map (·.arg)) [.none])/\(b=false->∀us:List Value,us.length=(args.map (·.arg)).length->bindArgs fd ⟨us,[]⟩=pure ((args.map (·.arg)).zip us)):=by
 subst e hb
 rw[vcp,vab]at c5
 rcases c5 with c5|⟨c5,c0⟩
 .have e5:df=.none:=by cases df<;>first|rfl|cases c5
  subst e5
  exact⟨.all λus hl=>zew hl nd,(λz=>nomatch z),λ_ us hl=>zew hl nd⟩
 .obtain⟨t,o,n,rfl,hk,hd⟩:=zoh c5
  rw[c5]
  obtain⟨qs,z,hqz⟩:∃qs z,args.map (·.arg)=qs++[z]:=by
   rcases List.eq_nil_or_concat (args.map (·.arg))with q|⟨l,b,q⟩
   .rw[List.map_eq_nil_iff.mp q]at c0;cases c0
   .exact⟨l,b,by rw[q,List.concat_eq_append]⟩
  have nd':=nd
  rw[hqz]at nd'
  refine⟨λs us hK hl=>?_,λ_ s us hK hl=>?_,λz=>nomatch z⟩
  .rw[vbp]at hl ⊢
   rw[hqz]at hl ⊢
   exact zjw hqz nd' (hK _ _ hk) hd hl
  .rw[hqz]at hl ⊢
   exact zjx hqz nd' (hK _ _ hk) hd (by rw[vaj,vaj]at hl;simpa using hl)
theorem zl5{K:vga}{x:Str}{f:Addr}{o:Obj}{fd:FuncData}(h:fnAt K x=some (f,o,fd)):refAt K x=some f/\∃oc od sl,K.lookup f=some ⟨oc,od,.func fd,sl⟩:=by
 unfold fnAt at h
 split at h
 .rename_i f' hn
  split at h
  .rename_i o' ho
   split at h
   .rename_i fd' hd
    cases h
    refine⟨hn,o.cls,o.dict,o.slots,?_⟩
    rw[<-hd];exact ho
   .cases h
  .cases h
 .cases h
theorem zwp{K:vga}{T:List Str}{d n:Nat}{x:Str}{fn:Fn}:∀(f:Addr) (o:Obj) (fd:FuncData) (args:List Arg) (body:List Stmt) (b:S),fnAt K x=some (f,o,fd)->zbc fd.params=some args->zhn fd.body=some body->(fd.name==nmOf x&&fd.qualname==x&&Nat.beq fd.globals mainGlobals&&fd.closure.isEmpty&& (isNone fd.defaults||noneD K fd.defaults && !args.isEmpty)&&Nat.beq fd.builtins builtinsNs&&PySem.W.codeIn K fd.code x&&PySem.W.keepIn K (.ref f) &&
 zfp (zcl (args.map (·.arg)) fd.scope) (args.map (·.arg)) fd.scope)=true->cSs (cS K T d n ⟨zcl (args.map (·.arg)) fd.scope,fd.scope.names,true⟩) body=some b->fn=⟨(args.map (·.arg)).length,(zcl (args.map (·.arg)) fd.scope).length,b⟩->∃f fd st ps N,refAt K x=some f/\FunD K (nmOf x) x st f fd/\FnScope N ps (zam st)/\fn.n=N.length/\fn.ps=ps.length/\(Binds K fd ps []/\(hasD K x=true->Binds K fd ps [.none])/\(hasD K x=false->∀us:List Value,us.length=ps.length->bindArgs fd ⟨us,[]⟩=pure (ps.zip us)))/\
 cSs (cS K T d n ⟨N,(zam st).names,true⟩) (zd1 st)=some fn.body/\∃o' fd' args,fnAt K x=some (f,o',fd')/\zbc fd'.params=some args/\ps=args.map (·.arg):=by
 intro f o fd args body b hf ha hb hc h1 e
 rw[vab,vab,vab,vab,vab,vab,vab,vab]at hc
 obtain⟨⟨⟨⟨⟨⟨⟨⟨c1,c2⟩,c3⟩,c4⟩,c5⟩,c6⟩,c7⟩,c8⟩,c9⟩:=hc
 obtain⟨S,nd⟩:=zj2 c9
 obtain⟨hn,oc,od,sl,lk⟩:=zl5 hf
 obtain⟨dx,ef⟩:=zr8 c1 c2 c3 c4 c6 ha hb
 have hh:hasD K x=noneD K fd.defaults:=by unfold hasD;rw[hf]
 exact⟨f,fd,.FunctionDef (nmOf x) ⟨[],args,none,[],[],none,dx⟩ body [] none [] fd.scope none (nmOf x) ⟨0,0,0,0⟩,args.map (·.arg),zcl (args.map (·.arg)) fd.scope,hn,⟨⟨oc,od,_,_,_,_,_,fd.code,_,sl,ef,lk,c7⟩,c8⟩,S,by rw[e],by rw[e],zoi ef nd hh c5,by rw[e];exact h1,o,fd,args,hf,ha,rfl⟩
theorem cF_ok{K:vga}{T:List Str}{d n:Nat}{x:Str}{fn:Fn}(h:cF K T d n x=some fn):∃f fd st ps N,refAt K x=some f/\FunD K (nmOf x) x st f fd/\FnScope N ps (zam st)/\fn.n=N.length/\fn.ps=ps.length/\(Binds K fd ps []/\(hasD K x=true->Binds K fd ps [.none])/\(hasD K x=false->∀us:List Value,us.length=ps.length->bindArgs fd ⟨us,[]⟩=pure (ps.zip us)))/\
 cSs (cS K T d n ⟨N,(zam st).names,true⟩) (zd1 st)=some fn.body/\∃o' fd' args,fnAt K x=some (f,o',fd')/\zbc fd'.params=some args/\ps=args.map (·.arg):=by
 unfold cF at h
 split at h
 .rename_i f o fd hf
  split at h
  .rename_i args body ha hb
   split at h
   .rename_i hc
    obtain⟨b,h1,e⟩:=map_some h
    exact zwp f o fd args body b hf ha hb hc h1 e
   .cases h
  .cases h
 .cases h
theorem zdv{α β:Type}{f:α->Option β}:∀{l:List α} {r:List β},mapO f l=some r->∀(i:Nat) (a:α),l[i]?=some a->∃b,r[i]?=some b/\f a=some b
 |[],_,_,i,a,e=>by simp at e
 |x::l,r,h,i,a,e=>by
  unfold mapO at h
  split at h
  .rename_i b hb
   split at h
   .rename_i bs hbs
    cases h
    cases i with
    |zero=>simp at e;subst e;exact⟨b,rfl,hb⟩
    |succ i=>
     obtain⟨c,h1,h2⟩:=zdv hbs i a (by simpa using e)
     exact⟨c,by simpa using h1,h2⟩
   .cases h
  .cases h
noncomputable def cF0(K:vga)(T:List Str)(d n:Nat)(x:Str):Option Fn:=if x==("" : Str)then some ⟨0,0,.no⟩else cF K T d n x
theorem zl6{K:vga}{T:List Str}{d n:Nat}{x:Str}{fn:Fn}(h:cF0 K T d n x=some fn)(hx:x≠""):cF K T d n x=some fn:=by
 unfold cF0 at h
 rw[if_neg (by simpa using hx)]at h
 exact h
noncomputable def cProg(K:vga)(T:List Str)(d n:Nat):Option (List Fn):=mapO (cF0 K T d n) T
theorem zl7{P:Program}{w:World}{K:vga}{mg:Str->Option Value}{base:Heap}{T:List Str}{Fs:List Fn}{k:Nat}(KX:K.In base)(G:base.Ns mainGlobals mg){x:Str}{st:Stmt}{f:Addr}{N ps:List Str}(S:FnScope N ps (zam st))
 (H0:∀(i:Nat)(x:Str),T[i]?=some x->x≠""->∃f fd ps fn,refAt K x=some f/\FnOk P w K mg base CX0 k f fd ps (spV K ps.length (run (λi=>Fs[i]?) k i))/\PySem.W.keepIn K (.ref f)=true/\Binds K fd ps []/\Fs[i]?=some fn/\fn.ps=ps.length/\(hasD K x=true->Binds K fd ps [.none]))
 (cdv:Value) (A:Around) (outer:List Env) (s:Shared) (H:Hp) (E:XK) (hr:Room k (A.deeper (envOfC x (zam st) s.heap.objs.size f cdv))):XOk (cxOf CX0 P w K mg base N x (zam st) f cdv A outer s H E).nox ⟨N,(zam st).names,true⟩ T (λi=>Fs[i]?) k:=by
 refine⟨rfl,S.nd,λy hy=>?_,λy hy=>?_,λy hy=>hy,λy hy=>hy,rfl,hr,rfl,S.kind,λy v hv=>PySem.W.mg_of KX G hv,λy hv=>PySem.W.mg_none_of KX G hv,H0⟩
 .have hy:visK ((zam st).names.lookup y)=true:=hy
  cases z:(zam st).names.lookup y with
  |none=>rw[z]at hy;cases hy
  |some kd=>cases kd<;>first|exact .inl z|exact .inr (.inl z)|exact .inr (.inr z)|(rw[z]at hy;cases hy)
 .have hy:locK true ((zam st).names.lookup y)=true:=hy
  cases z:(zam st).names.lookup y with
  |none=>rw[z]at hy;cases hy
  |some kd=>cases kd<;>first|exact⟨.inl z,.inl rfl⟩|exact⟨.inr z,.inl rfl⟩|(rw[z]at hy;cases hy)
theorem zr9{P:Program}{w:World}{K:vga}{mg:Str->Option Value}{base:Heap}{T:List Str}{d n:Nat}{Fs:List Fn}(hP:cProg K T d n=some Fs)(KX:K.In base)(G:base.Ns mainGlobals mg)(k:Nat):∀(j:Nat),j<=k->∀(i:Nat) (x:Str),T[i]?=some x->x≠""->
 ∃f fd ps fn,refAt K x=some f/\FnOk P w K mg base CX0 j f fd ps (spV K ps.length (run (λi=>Fs[i]?) j i))/\PySem.W.keepIn K (.ref f)=true/\Binds K fd ps []/\Fs[i]?=some fn/\fn.ps=ps.length/\(hasD K x=true->Binds K fd ps [.none]):=by
 induction k with
 |zero=>
  intro j hj i x e hx
  have:j=0:=Nat.le_zero.mp hj
  subst this
  obtain⟨fn,h1,h2⟩:=zdv hP i x e
  obtain⟨f,fd,st,ps,N,a1,a2,a3,a4,a5,a6,a7,_⟩:=cF_ok (zl6 h2 hx)
  exact⟨f,fd,ps,fn,a1,zlt,a2.kp,a6.1,h1,a5,a6.2.1⟩
 |succ k ih=>
  intro j hj i x e hx
  by_cases hjk:j<=k
  .exact ih j hjk i x e hx
  .have:j=k+1:=by lia
   subst this
   obtain⟨fn,h1,h2⟩:=zdv hP i x e
   obtain⟨f,fd,st,ps,N,a1,a2,a3,a4,a5,a6,a7,_⟩:=cF_ok (zl6 h2 hx)
   exact⟨f,fd,ps,fn,a1,zpr (F:=λi=>Fs[i]?) h1 a2 a3 a4 a5 λcdv A outer s H E hr=>zck (snd_s (zl7 KX G a3 (λj y hj hy=>ih k (vaa _) j y hj hy) cdv A outer s H E hr) n) a7,a2.kp,a6.1,h1,a5,a6.2.1⟩
noncomputable def zb9:Res W->Bool
 |.ok (.bl true) _=>true
 |_=>false
noncomputable def says(K:vga)(T:List Str)(d n k i:Nat)(ns:List Int):Bool:=match cProg K T d n with
 |some Fs=>zb9 (run (λi=>Fs[i]?) k i [.fz (ns.map .int)] ⟨0,0,[]⟩)
 |none=>false
theorem zho{r:Res W}(h:zb9 r=true):∃h',r=.ok (.bl true) h':=by
 cases r with
 |no=>cases h
 |ex _ _=>cases h
 |ok w h'=>cases w<;>first|(rename_i b;cases b<;>first|exact⟨h',rfl⟩|cases h)|cases h
theorem zez{K:vga}{m:Nat->Addr}{n:Nat}{H:Hp}:∀(ns:List Int),VReps K m n H (ns.map V.int) (ns.map W.int)
 |[]=>.nil
 |i::r=>.cons (.int i) (zez r)
theorem zl8{K:vga}{T:List Str}{d n k i:Nat}{ns:List Int}(h:says K T d n k i ns=true):∃Fs h',cProg K T d n=some Fs/\run (λi=>Fs[i]?) k i [.fz (ns.map .int)] ⟨0,0,[]⟩=.ok (.bl true) h':=by
 unfold says at h
 split at h
 .rename_i Fs hF
  obtain⟨h',e⟩:=zho h
  exact⟨Fs,h',hF,e⟩
 .cases h
theorem zsa{K:vga}{T:List Str}{d n k i:Nat}{ns:List Int}{Fs:List Fn}(hP:cProg K T d n=some Fs)(h:zb9 (run (λi=>Fs[i]?) k i [.fz (ns.map .int)] ⟨0,0,[]⟩)=true):says K T d n k i ns=true:=by
 unfold says
 rw[hP]
 exact h
noncomputable def lawOk(K:vga)(x:Str):Bool:=match fnAt K x with
 |some (_,_,fd)=>(match zbc fd.params with
  |some [a]=>a.arg==("_law_script" : Str) && !(noneD K fd.defaults)
  |_=>false)
 |none=>false
theorem zoj{l:PySem.W.OpenLaw}{q:Program}{loose:List Str}{XP:(Str->Option Value)->Heap->Prop}{YP:World->Heap->Prop}{dr:DefRec}{K:Params->vga}(T:List Str)(d n k i:Nat)(hn:l.most=some 63)(hdf:dr.params.defaults=[])(hr:Room k callerA)
 (hY:∀(w:World)(h:Heap),YP w h->(K w.params).In h) (hT:T[i]?=some dr.name) (hne:dr.name≠"") (hS:∀(w:World)(ns:List Int),ns.length<=63->says (K w.params) T d n k i ns=true) (hL:∀w:World,lawOk (K w.params) dr.name=true) :
 PySem.W.WalkO q loose XP YP l.row.toRowW dr [] (λf vs=>PySem.call f vs):=by
 have any:∀w:World,∃Fs,cProg (K w.params) T d n=some Fs:=λw=>let⟨Fs,_,h,_⟩:=zl8 (hS w [] (vbg _));⟨Fs,h⟩
 refine L2.zq2 (n:=63) (k:=k) (x:="_law_script") (CX:=λ_=>CX0) (sp:=λw=>spV (K w.params) 1 (run (λj=>(Classical.choose (any w))[j]?) k i)) hn (by decide) hdf hr hY ?_ ?_ λ_ _ _ _ _ z=>z
 .intro w mg fa h KX G hmg
  have hP:=Classical.choose_spec (any w)
  obtain⟨fn',h1,h2⟩:=zdv hP i _ hT
  obtain⟨f',fd',st,ps',N,a1,a2,a3,a4,a5,a6,a7,o',fd'',args,a8,a9,a10⟩:=cF_ok (zl6 h2 hne)
  have hps:ps'=[("_law_script" : Str)]:=by
   have hl:=hL w
   unfold lawOk at hl
   rw[a8]at hl
   simp only[a9]at hl
   cases args with
   |nil=>cases hl
   |cons z zs=>
    cases zs with
    |nil=>
     rw[vab]at hl
     have hl:z.arg = "_law_script":=by simpa using hl.1
     rw[a10,vaw,hl];rfl
    |cons _ _=>cases hl
  have hnd:hasD (K w.params) dr.name=false:=by
   have hl:=hL w
   unfold lawOk at hl
   rw[a8]at hl
   unfold hasD
   rw[a8]
   simp only[a9]at hl
   split at hl
   .rw[vab]at hl
    simpa using hl.2
   .cases hl
  have e:=PySem.W.mg_of KX G (zit a1)
  rw[hmg]at e
  cases e
  subst hps
  refine⟨fd',λs u=>.of_eq (a6.2.2 hnd [u] rfl),λbase KB GB=>?_⟩
  cases k with
  |zero=>exact zlt
  |succ k=>exact zpr (F:=λj=>(Classical.choose (any w))[j]?) h1 a2 a3 a4 a5 λcdv A outer s H E hr=>zck (snd_s (zl7 KB GB a3 (λj y hj hy=>zr9 hP KB GB k k (vaa _) j y hj hy) cdv A outer s H E hr) n) a7
 .intro w H a ns hl hO hQ
  obtain⟨Fs,h',e1,e2⟩:=zl8 (hS w ns hl)
  have hP:=Classical.choose_spec (any w)
  rw[hP]at e1
  cases e1
  refine⟨rfl,⟨0,0,[]⟩,λ_=>0,_,_,h',⟨λi hi=>absurd hi (Nat.not_lt_zero _),λi j hi=>absurd hi (Nat.not_lt_zero _),rfl⟩,.cons (.fz ?_ (zez ns)) .nil,e2,λv H' m' _ _ q=>by cases q;rfl⟩
  rcases hQ with(q|⟨o,q⟩)|q
  .rcases hO a with z|⟨o,xs,z⟩
   .rw[z]at q;cases q
   .rw[z]at q;cases q
  .exact .inl ⟨o,q⟩
  .exact .inr q
noncomputable def fn0:Fn:=⟨1,1,(.seq (.ret (.and (.isi .int (.var 0)) (.not (.isi .bool (.var 0))))) .skip)⟩
noncomputable def fn1:Fn:=⟨3,3,(.seq (.ret (.and (.call 0 (.cons (.var 0) .nil)) (.chn .le .le (.var 1) (.var 0) (.var 2)))) .skip)⟩
noncomputable def fn2:Fn:=⟨2,2,(.seq (.ite (.cmp .eq (.bi .len (.cons (.var 0) .nil)) (.cst (.int (0)))) (.seq (.ret (.op .add (.op .mul (.cst (.int (7))) (.var 1)) (.cst (.int (3))))) .skip) .skip) (.seq (.ret (.bi .abs (.cons (.idx (.var 0) (.op .mod (.var 1) (.bi .len (.cons (.var 0) .nil)))) .nil))) .skip))⟩
noncomputable def zdm:E:=(.cmp .ge (.bi .abs (.cons (.var 0) .nil)) (.op .pow (.cst (.int (10))) (.cst (.int (18)))))
noncomputable def zdn:E:=(.bi .abs (.cons (.var 0) .nil))
noncomputable def fn3:Fn:=⟨1,1,(.seq (.ret (.lst (.cons (.var 0) (.cons (.lc .seq (.var 0) (.one 0) 1 [] zdm zdn) (.cons (.cst (.int (0))) (.cons (.cst (.int (0))) .nil)))))) .skip)⟩
noncomputable def fn4:Fn:=⟨3,4,(.seq (.set 3 (.op .mod (.op .pow (.op .add (.op .mul (.op .add (.op .mod (.call 2 (.cons (.var 0) (.cons (.var 1) .nil))) (.cst (.int (1000003)))) (.cst (.int (5)))) (.op .add (.var 1) (.cst (.int (2))))) (.op .mul (.cst (.int (7919))) (.var 1))) (.cst (.int (5)))) (.cst (.int (2147483647))))) (.seq (.ret (.op .mod (.op .fdiv (.var 3) (.cst (.int (13)))) (.var 2))) .skip))⟩
noncomputable def zgq:E:=(.cmp .lt (.idx (.var 0) (.cst (.int (2)))) (.bi .len (.cons (.idx (.var 0) (.cst (.int (1)))) .nil)))
noncomputable def zeh:S:=(.seq (.set 2 (.idx (.idx (.var 0) (.cst (.int (1)))) (.idx (.var 0) (.cst (.int (2)))))) (.seq (.ite (.cmp .gt (.var 2) (.cst (.int (0)))) (.seq (.put (.idx (.var 0) (.cst (.int (1)))) (.idx (.var 0) (.cst (.int (2)))) (.op .fdiv (.var 2) (.var 1))) (.seq (.ret (.op .mod (.var 2) (.var 1))) .skip)) .skip) (.seq (.put (.var 0) (.cst (.int (2))) (.op .add (.idx (.var 0) (.cst (.int (2)))) (.cst (.int (1))))) .skip)))
noncomputable def fn5:Fn:=⟨2,3,(.seq (.whl zgq zeh) (.seq (.put (.var 0) (.cst (.int (3))) (.op .add (.idx (.var 0) (.cst (.int (3)))) (.cst (.int (1))))) (.seq (.ret (.call 4 (.cons (.idx (.var 0) (.cst (.int (0)))) (.cons (.idx (.var 0) (.cst (.int (3)))) (.cons (.var 1) .nil))))) .skip)))⟩
noncomputable def fn6:Fn:=⟨3,3,(.seq (.ret (.and (.isi .tuple (.var 0)) (.chn .le .le (.var 1) (.bi .len (.cons (.var 0) .nil)) (.var 2)))) .skip)⟩
noncomputable def zix:S:=(.seq (.ite (.not (.tru (.call 1 (.cons (.var 5) (.cons (.var 3) (.cons (.var 4) .nil)))))) (.seq (.ret (.cst (.bl false))) .skip) .skip) .skip)
noncomputable def fn7:Fn:=⟨5,6,(.seq (.ite (.not (.tru (.call 6 (.cons (.var 0) (.cons (.var 1) (.cons (.var 2) .nil)))))) (.seq (.ret (.cst (.bl false))) .skip) .skip) (.seq (.«for» .seq (.var 0) (.one 5) zix) (.seq (.ret (.cst (.bl true))) .skip)))⟩
noncomputable def ziy:S:=(.seq (.ite (.not (.tru (.call 11 (.cons (.var 3) (.cons (.var 2) .nil))))) (.seq (.ret (.cst (.bl false))) .skip) .skip) .skip)
noncomputable def fn8:Fn:=⟨3,4,(.seq (.ite (.not (.tru (.call 6 (.cons (.var 0) (.cons (.var 1) (.cons (.var 1) .nil)))))) (.seq (.ret (.cst (.bl false))) .skip) .skip) (.seq (.«for» .seq (.var 0) (.one 3) ziy) (.seq (.ret (.cst (.bl true))) .skip)))⟩
noncomputable def ziz:S:=(.seq (.ite (.not (.tru (.call 6 (.cons (.var 2) (.cons (.var 1) (.cons (.var 1) .nil)))))) (.seq (.ret (.cst (.bl false))) .skip) .skip) .skip)
noncomputable def fn9:Fn:=⟨2,3,(.seq (.ite (.not (.tru (.call 6 (.cons (.var 0) (.cons (.cst (.int (0))) (.cons (.cst (.int (60))) .nil)))))) (.seq (.ret (.cst (.bl false))) .skip) .skip) (.seq (.«for» .seq (.var 0) (.one 2) ziz) (.seq (.ret (.cst (.bl true))) .skip)))⟩
noncomputable def fn10:Fn:=⟨1,6,(.seq (.ite (.not (.tru (.call 6 (.cons (.var 0) (.cons (.cst (.int (5))) (.cons (.cst (.int (5))) .nil)))))) (.seq (.ret (.cst (.bl false))) .skip) .skip) (.seq (.unp [1,2,3,4,5] (.var 0)) (.seq (.ite (.or (.not (.tru (.call 1 (.cons (.var 1) (.cons (.cst (.int (1))) (.cons (.cst (.int (40))) .nil)))))) (.not (.tru (.call 1 (.cons (.var 2) (.cons (.cst (.int (0))) (.cons (.cst (.int (8))) .nil))))))) (.seq (.ret (.cst (.bl false))) .skip) .skip) (.seq (.ite (.not (.tru (.call 7 (.cons (.var 4) (.cons (.cst (.int (1))) (.cons (.cst (.int (4))) (.cons (.cst (.int (0))) (.cons (.op .sub (.var 1) (.cst (.int (1)))) .nil)))))))) (.seq (.ret (.cst (.bl false))) .skip) .skip) (.seq (.ret (.and (.call 9 (.cons (.var 3) (.cons (.var 1) .nil))) (.call 8 (.cons (.var 5) (.cons (.var 1) (.cons (.bi .len (.cons (.var 4) .nil)) .nil)))))) .skip)))))⟩
noncomputable def fn11:Fn:=⟨2,4,(.seq (.ite (.not (.tru (.call 6 (.cons (.var 0) (.cons (.cst (.int (2))) (.cons (.cst (.int (2))) .nil)))))) (.seq (.ret (.cst (.bl false))) .skip) .skip) (.seq (.unp [2,3] (.var 0)) (.seq (.ret (.and (.call 1 (.cons (.var 2) (.cons (.cst (.int (0))) (.cons (.cst (.int (99))) .nil)))) (.call 12 (.cons (.var 3) (.cons (.var 1) .nil))))) .skip)))⟩
noncomputable def fn12:Fn:=⟨2,2,(.seq (.ret (.or (.cmp .isn (.var 0) (.cst .non)) (.call 1 (.cons (.var 0) (.cons (.cst (.int (0))) (.cons (.op .sub (.var 1) (.cst (.int (1)))) .nil)))))) .skip)⟩
noncomputable def fn13:Fn:=⟨2,4,(.seq (.ite (.not (.tru (.call 6 (.cons (.var 0) (.cons (.cst (.int (2))) (.cons (.cst (.int (2))) .nil)))))) (.seq (.ret (.cst (.bl false))) .skip) .skip) (.seq (.unp [2,3] (.var 0)) (.seq (.ret (.and (.call 1 (.cons (.var 2) (.cons (.cst (.int (0))) (.cons (.op .sub (.var 1) (.cst (.int (1)))) .nil)))) (.call 1 (.cons (.var 3) (.cons (.cst (.int (0))) (.cons (.cst (.int (1))) .nil)))))) .skip)))⟩
noncomputable def zfq:S:=(.seq (.ite (.not (.tru (.call 15 (.cons (.var 7) (.cons (.var 6) (.cons (.var 1) (.cons (.var 2) .nil))))))) (.seq .no .skip) .skip) .skip)
noncomputable def zfr:S:=(.seq (.«for» .enm (.var 5) (.many [6,7]) zfq) .skip)
noncomputable def fn14:Fn:=⟨1,8,(.seq (.ite (.not (.tru (.call 10 (.cons (.var 0) .nil)))) (.seq .no .skip) .skip) (.seq (.unp [1,2,3] (.slc (.var 0) false (.cst .non) true (.cst (.int (3))))) (.seq (.«for» .enm (.var 3) (.many [4,5]) zfr) .skip)))⟩
noncomputable def fn15:Fn:=⟨4,4,(.seq (.ite (.or (.cmp .eq (.var 0) (.cst (.str (vgb "x")))) (.tru (.call 13 (.cons (.var 0) (.cons (.var 3) .nil))))) (.seq (.ret (.chn .lt .lt (.cst (.int (0))) (.var 1) (.op .sub (.var 2) (.cst (.int (1)))))) .skip) .skip) (.seq (.ite (.cmp .eq (.var 0) (.cst (.str (vgb "<")))) (.seq (.ret (.cmp .gt (.var 1) (.cst (.int (0))))) .skip) .skip) (.seq (.ite (.cmp .eq (.var 0) (.cst (.str (vgb ">")))) (.seq (.ret (.cmp .lt (.var 1) (.op .sub (.var 2) (.cst (.int (1)))))) .skip) .skip) (.seq (.ret (.or (.cmp .eq (.var 0) (.cst (.str (vgb ".")))) (.cmp .eq (.var 0) (.cst (.str (vgb "s")))))) .skip))))⟩
noncomputable def fin(h:VH)(r:Res Fl):Res W:=r.bind λfl h'=>match fl with
 |.nx _=>leave h .non h'
 |.rt w=>leave h w h'
 |_=>.no
theorem zal{F:Nat->Option Fn}{k f:Nat}{fn:Fn}{ws:List W}{h:VH}(hF:F f=some fn)(hl:ws.length=fn.ps) :
 run F (k+1) f ws h=fin h (exs (run F k) fn.body (ws.map some++vgc (fn.n-fn.ps) none) ⟨h.n,h.n,h.os⟩):=by
 simp only[run,hF]
 rw[if_pos (by rw[hl];exact Nat.beq_refl _)]
 rfl
theorem ze0{h:VH}{w:W}{h':VH}(h1:h.n<=h'.lo)(h2:W.lt h.n w=true):leave h w h'=.ok w h:=by
 unfold leave
 rw[if_pos (by rw[vab];exact⟨veg.mpr h1,h2⟩)]
theorem zai{h h':VH}{w:W}(h1:h.n<=h'.lo)(h2:W.lt h.n w=true):fin h (.ok (.rt w) h')=.ok w h:=ze0 h1 h2
theorem zwq{h h':VH}{ρ:En}(h1:h.n<=h'.lo):fin h (.ok (.nx ρ) h')=.ok .non h:=ze0 h1 (by simp only[W.lt])
@[simp] theorem bindok {α β:Type} {a:α} {h:VH} {f:α->VH->Res β}:(Res.ok a h).bind f=f a h:=rfl
@[simp] theorem bindno {α β:Type} {f:α->VH->Res β}:(Res.no:Res α).bind f=.no:=rfl
@[simp] theorem ofsome {α:Type} {a:α} {h:VH}:Res.of (some a) h=.ok a h:=rfl
@[simp] theorem ofnone {α:Type} {h:VH}:Res.of (none:Option α) h=.no:=rfl
@[simp] theorem lt_non {n:Nat}:W.lt n .non=true:=by simp only[W.lt]
@[simp] theorem lt_bl {n:Nat} {b:Bool}:W.lt n (.bl b)=true:=by simp only[W.lt]
@[simp] theorem lt_int {n:Nat} {b:Int}:W.lt n (.int b)=true:=by simp only[W.lt]
@[simp] theorem lt_str {n:Nat} {b:Str}:W.lt n (.str b)=true:=by simp only[W.lt]
@[simp] theorem lt_tup {n:Nat} {b:List W}:W.lt n (.tup b)=W.lts n b:=by simp only[W.lt]
@[simp] theorem lts_nil {n:Nat}:W.lts n []=true:=by simp only[W.lts]
@[simp] theorem lts_cons {n:Nat} {b:W} {r:List W}:W.lts n (b::r)=(W.lt n b&&W.lts n r):=by simp only[W.lts]
@[simp] theorem ty_int_int:((Ty.int==Ty.int):Bool)=true:=rfl
@[simp] theorem ty_int_bool:((Ty.int==Ty.bool):Bool)=false:=rfl
@[simp] theorem ty_int_tuple:((Ty.int==Ty.tuple):Bool)=false:=rfl
@[simp] theorem ty_int_list:((Ty.int==Ty.list):Bool)=false:=rfl
@[simp] theorem ty_int_str:((Ty.int==Ty.str):Bool)=false:=rfl
@[simp] theorem ty_int_dict:((Ty.int==Ty.dict):Bool)=false:=rfl
@[simp] theorem ty_bool_int:((Ty.bool==Ty.int):Bool)=false:=rfl
@[simp] theorem ty_bool_bool:((Ty.bool==Ty.bool):Bool)=true:=rfl
@[simp] theorem ty_bool_tuple:((Ty.bool==Ty.tuple):Bool)=false:=rfl
@[simp] theorem ty_bool_list:((Ty.bool==Ty.list):Bool)=false:=rfl
@[simp] theorem ty_bool_str:((Ty.bool==Ty.str):Bool)=false:=rfl
@[simp] theorem ty_bool_dict:((Ty.bool==Ty.dict):Bool)=false:=rfl
@[simp] theorem ty_tuple_int:((Ty.tuple==Ty.int):Bool)=false:=rfl
@[simp] theorem ty_tuple_bool:((Ty.tuple==Ty.bool):Bool)=false:=rfl
@[simp] theorem ty_tuple_tuple:((Ty.tuple==Ty.tuple):Bool)=true:=rfl
@[simp] theorem ty_tuple_list:((Ty.tuple==Ty.list):Bool)=false:=rfl
@[simp] theorem ty_tuple_str:((Ty.tuple==Ty.str):Bool)=false:=rfl
@[simp] theorem ty_tuple_dict:((Ty.tuple==Ty.dict):Bool)=false:=rfl
@[simp] theorem ty_list_int:((Ty.list==Ty.int):Bool)=false:=rfl
@[simp] theorem ty_list_bool:((Ty.list==Ty.bool):Bool)=false:=rfl
@[simp] theorem ty_list_tuple:((Ty.list==Ty.tuple):Bool)=false:=rfl
@[simp] theorem ty_list_list:((Ty.list==Ty.list):Bool)=true:=rfl
@[simp] theorem ty_list_str:((Ty.list==Ty.str):Bool)=false:=rfl
@[simp] theorem ty_list_dict:((Ty.list==Ty.dict):Bool)=false:=rfl
@[simp] theorem ty_str_int:((Ty.str==Ty.int):Bool)=false:=rfl
@[simp] theorem ty_str_bool:((Ty.str==Ty.bool):Bool)=false:=rfl
@[simp] theorem ty_str_tuple:((Ty.str==Ty.tuple):Bool)=false:=rfl
@[simp] theorem ty_str_list:((Ty.str==Ty.list):Bool)=false:=rfl
@[simp] theorem ty_str_str:((Ty.str==Ty.str):Bool)=true:=rfl
@[simp] theorem ty_str_dict:((Ty.str==Ty.dict):Bool)=false:=rfl
@[simp] theorem ty_dict_int:((Ty.dict==Ty.int):Bool)=false:=rfl
@[simp] theorem ty_dict_bool:((Ty.dict==Ty.bool):Bool)=false:=rfl
@[simp] theorem ty_dict_tuple:((Ty.dict==Ty.tuple):Bool)=false:=rfl
@[simp] theorem ty_dict_list:((Ty.dict==Ty.list):Bool)=false:=rfl
@[simp] theorem ty_dict_str:((Ty.dict==Ty.str):Bool)=false:=rfl
@[simp] theorem ty_dict_dict:((Ty.dict==Ty.dict):Bool)=true:=rfl
@[simp] theorem isi_non {t:Ty} {h:VH}:tyIs t h .non=some false:=rfl
@[simp] theorem isi_bl {t:Ty} {h:VH} {b:Bool}:tyIs t h (.bl b)=some (t == .int||t == .bool):=rfl
@[simp] theorem isi_int {t:Ty} {h:VH} {i:Int}:tyIs t h (.int i)=some (t == .int):=rfl
@[simp] theorem isi_str {t:Ty} {h:VH} {x:Str}:tyIs t h (.str x)=some (t == .str):=rfl
@[simp] theorem isi_tup {t:Ty} {h:VH} {x:List W}:tyIs t h (.tup x)=some (t == .tuple):=rfl
@[simp] theorem get_lo {h:VH} {l i:Nat}:VH.get ⟨h.n,l,h.os⟩ i=h.get i:=by unfold VH.get;rfl
@[simp] theorem tru_bl {h:VH} {b:Bool}:truW h (.bl b)=some b:=rfl
noncomputable def forL(tg:W->VH->En->Option En)(b:FS):List W->En->VH->Res Fl
 |[],ρ,h=>.ok (.nx ρ) h
 |w::r,ρ,h=>match tg w h ρ with
  |none=>.no
  |some ρ=>(b ρ h).bind λfl h=>match fl with
   |.nx ρ=>forL tg b r ρ h
   |.ct ρ=>forL tg b r ρ h
   |.bk ρ=>.ok (.nx ρ) h
   |.rt w=>.ok (.rt w) h
noncomputable def lcL(tg:W->VH->En->Option En)(c e:FE):List W->En->VH->Res (List W)
 |[],_,h=>.ok [] h
 |w::r,ρ,h=>match tg w h ρ with
  |none=>.no
  |some ρ=>(c ρ h).bind λb h=>match b with
   |.bl true=>(e ρ h).bind λy h=>(lcL tg c e r ρ h).bind λys h=>.ok (y::ys) h
   |.bl false=>lcL tg c e r ρ h
   |_=>.no
theorem ze1{α β γ:Type}{r:Res α}{f:α->VH->Res β}{g:β->VH->Res γ}:(r.bind f).bind g=r.bind λa h=>(f a h).bind g:=by cases r<;>rfl
theorem zei{nx:Nat->VH->Option (Option W)}{tg:W->VH->En->Option En}{b:FS}{ws:List W}(hx:∀i h,nx i h=some ws[i]?):∀(fu i:Nat) (ρ:En) (h:VH),i<=ws.length->ws.length<fu+i->forG nx tg b fu i ρ h=forL tg b (ws.drop i) ρ h
 |0,i,ρ,h,hi,hl=>by lia
 |fu+1,i,ρ,h,hi,hl=>by
  simp only[forG,hx]
  cases q:ws[i]? with
  |none=>
   rw[List.drop_eq_nil_of_le (vcb.mp q)]
   rfl
  |some w=>
   obtain⟨hi,e⟩:=vba.mp q
   rw[vb9 hi,e]
   simp only[forL]
   cases tg w h ρ with
   |none=>rfl
   |some ρ'=>
    simp only
    congr 1
    funext fl h1
    cases fl<;>simp only[zei hx fu (i+1) _ _ hi (by lia)]
theorem zfs{nx:Nat->VH->Option (Option W)}{tg:W->VH->En->Option En}{c e:FE}{ws:List W}(hx:∀i h,nx i h=some ws[i]?):∀(fu i:Nat) (ρ:En) (h:VH) (acc:List W),i<=ws.length->ws.length<fu+i->
 lcG nx tg c e fu i ρ h acc=(lcL tg c e (ws.drop i) ρ h).bind λys h=>.ok (acc.reverse++ys) h
 |0,i,ρ,h,acc,hi,hl=>by lia
 |fu+1,i,ρ,h,acc,hi,hl=>by
  simp only[lcG,hx]
  cases q:ws[i]? with
  |none=>
   rw[List.drop_eq_nil_of_le (vcb.mp q)]
   simp[lcL]
  |some w=>
   obtain⟨hi,ee⟩:=vba.mp q
   rw[vb9 hi,ee]
   simp only[lcL]
   cases tg w h ρ with
   |none=>rfl
   |some ρ'=>
    simp only[ze1]
    congr 1
    funext bv h1
    cases bv<;>try rfl
    rename_i bb
    cases bb with
    |true=>
     simp only[ze1]
     congr 1
     funext y h2
     rw[zfs hx fu (i+1) _ _ _ hi (by lia)]
     congr 1
     funext ys h3
     simp
    |false=>simp only[zfs hx fu (i+1) _ _ _ hi (by lia)]
theorem zej{ws:List W}{tg:W->VH->En->Option En}{b:FS}{ρ:En}{h:VH}(hl:ws.length<1000000):forG (nxt .seq (.tup ws)) tg b fuel 0 ρ h=forL tg b ws ρ h:=by
 have:=zei (nx:=nxt .seq (.tup ws)) (tg:=tg) (b:=b) (ws:=ws) (λi h=>rfl) fuel 0 ρ h (vbg _) (by simpa[fuel]using hl)
 simpa using this
noncomputable def enumW:Nat->List W->List W
 |_,[]=>[]
 |i,w::r=>.tup [.int i,w]::enumW (i+1) r
theorem zgr:∀(ws:List W) (i j:Nat),(enumW j ws)[i]?=(ws[i]?).map λw=>.tup [.int ((j+i:Nat):Int),w]
 |[],i,j=>by simp[enumW]
 |w::r,0,j=>by simp[enumW]
 |w::r,i+1,j=>by
  simp only[enumW,vbc]
  rw[zgr r i (j+1)]
  congr 1
  funext w
  rw[show j+1+i=j+ (i+1) by lia]
theorem zgs:∀(ws:List W) (j:Nat),(enumW j ws).length=ws.length
 |[],_=>rfl
 |_::r,j=>by simp[enumW,zgs r]
theorem zi0{ws:List W}{tg:W->VH->En->Option En}{b:FS}{ρ:En}{h:VH}(hl:ws.length<1000000):forG (nxt .enm (.tup ws)) tg b fuel 0 ρ h=forL tg b (enumW 0 ws) ρ h:=by
 have:=zei (nx:=nxt .enm (.tup ws)) (tg:=tg) (b:=b) (ws:=enumW 0 ws) (λi h=>by rw[zgr];simp[nxt,seqW]) fuel 0 ρ h (vbg _) (by simpa[fuel,zgs]using hl)
 simpa using this
noncomputable def isInt:W->Bool
 |.int _=>true
 |_=>false
noncomputable def Kn(h:VH)(w:W):Prop:=tyIs .int h w≠none
theorem kn_lo{h:VH}{l:Nat}{w:W}:Kn ⟨h.n,l,h.os⟩ w↔Kn h w:=by
 unfold Kn
 cases w<;>simp[tyIs]
structure CoreA(F:Nat->Option Fn):Prop where
 f0:F 0=some fn0
 f1:F 1=some fn1
 f6:F 6=some fn6
 f7:F 7=some fn7
section
variable{F:Nat->Option Fn}(C:CoreA F)
include C
theorem zok{k:Nat}{h:VH}{w:W}(hw:Kn h w):run F (k+1) 0 [w] h=.ok (.bl (isInt w)) h:=by
 rw[zal C.f0 rfl]
 cases w<;>try(simp[fn0,exs,ev,isInt,zai];done)
 .exact absurd rfl hw
 .rename_i i
  unfold Kn at hw
  simp only[tyIs]at hw
  cases g:h.get i with
  |none=>rw[g]at hw;exact absurd rfl hw
  |some o=>cases o<;>first|(simp[fn0,exs,ev,isInt,zai,tyIs,g];done)|(simp[g]at hw)
noncomputable def within(w:W)(lo hi:Int):Bool:=match w with
 |.int i=>decide (lo<=i)&&decide (i<=hi)
 |_=>false
theorem zao{k:Nat}{h:VH}{w:W}{lo hi:Int}(hw:Kn h w):run F (k+2) 1 [w,.int lo,.int hi] h=.ok (.bl (within w lo hi)) h:=by
 rw[zal C.f1 rfl]
 have e:=zok C (k:=k) (h:=⟨h.n,h.n,h.os⟩) (w:=w) (kn_lo.mpr hw)
 cases w<;>simp[fn1,exs,ev,e,isInt,within,zai,cmpW,cmpI]
 rename_i i
 by_cases h1:lo<=i<;>simp[h1,zai]
noncomputable def zau(w:W)(lo hi:Int):Bool:=match w with
 |.tup ws=>decide (lo<=ws.length)&&decide ((ws.length:Int)<=hi)
 |_=>false
theorem zap{k:Nat}{h:VH}{w:W}{lo hi:Int}(hw:Kn h w):run F (k+1) 6 [w,.int lo,.int hi] h=.ok (.bl (zau w lo hi)) h:=by
 rw[zal C.f6 rfl]
 cases w<;>try(simp[fn6,exs,ev,zau,zai];done)
 .rename_i ws
  simp[fn6,exs,ev,zau,zai,cmpW,cmpI,biW,lenW,seqW]
  by_cases h1:lo<=ws.length<;>simp[h1,zai]
 .exact absurd rfl hw
 .rename_i i
  unfold Kn at hw
  simp only[tyIs]at hw
  cases g:h.get i with
  |none=>rw[g]at hw;exact absurd rfl hw
  |some o=>cases o<;>first|(simp[fn6,exs,ev,zau,zai,tyIs,g];done)|(simp[g]at hw)
theorem loop7{k:Nat}{h:VH}{t a b:W}{lo hi:Int}:∀(ws:List W) (x:Option W),(∀w∈ws,Kn h w)->∃y,forL (tgW (.one 5)) (exs (run F (k+2)) zix) ws [some t,some a,some b,some (.int lo),some (.int hi),x] h =
 if ws.all (within · lo hi)then .ok (.nx [some t,some a,some b,some (.int lo),some (.int hi),y]) h else .ok (.rt (.bl false)) h
 |[],x,_=>⟨x,by simp[forL]⟩
 |w::r,x,hk=>by
  obtain⟨y,e⟩:=loop7 (t:=t) (a:=a) (b:=b) (k:=k) (lo:=lo) (hi:=hi) r (some w) λz hz=>hk z (vaf _ hz)
  refine⟨y,?_⟩
  have e1:=zao C (k:=k) (lo:=lo) (hi:=hi) (hk w vak)
  have eb:exs (run F (k+2)) zix [some t,some a,some b,some (.int lo),some (.int hi),some w] h=if within w lo hi then .ok (.nx [some t,some a,some b,some (.int lo),some (.int hi),some w]) h else .ok (.rt (.bl false)) h:=by
   cases q:within w lo hi<;>simp[zix,exs,ev,e1,q]
  simp only[forL,tgW,List.set,eb]
  cases q:within w lo hi<;>simp[q,e]
noncomputable def zcy(w:W)(a b lo hi:Int):Bool:=match w with
 |.tup ws=>zau w a b&&ws.all (within · lo hi)
 |_=>false
theorem zbl{k:Nat}{h:VH}{w:W}{a b lo hi:Int}(hw:Kn h w)(hp:∀ws,w=.tup ws->ws.length<1000000/\∀x∈ws,Kn h x):run F (k+3) 7 [w,.int a,.int b,.int lo,.int hi] h=.ok (.bl (zcy w a b lo hi)) h:=by
 rw[zal C.f7 rfl]
 have e1:=zap C (k:=k+1) (h:=⟨h.n,h.n,h.os⟩) (w:=w) (lo:=a) (hi:=b) (kn_lo.mpr hw)
 cases q:zau w a b with
 |false=>
  have:zcy w a b lo hi=false:=by cases w<;>simp[zcy,q]
  simp[fn7,exs,ev,e1,q,this,zai]
 |true=>
  cases w<;>try(simp[zau]at q;done)
  rename_i ws
  obtain⟨hl,hk⟩:=hp ws rfl
  obtain⟨y,e2⟩:=loop7 C (k:=k) (h:=⟨h.n,h.n,h.os⟩) (t:=.tup ws) (a:=.int a) (b:=.int b) (lo:=lo) (hi:=hi) ws none λx hx=>kn_lo.mpr (hk x hx)
  have e3:zcy (.tup ws) a b lo hi=ws.all (within · lo hi):=by simp[zcy,q]
  rw[e3]
  cases q2:ws.all (within · lo hi)with
  |true=>simp[fn7,exs,ev,e1,q,zej hl,e2,q2,zai]
  |false=>simp[fn7,exs,ev,e1,q,zej hl,e2,q2,zai]
end
noncomputable def zah:Nat->W->Bool
 |0,_=>false
 |n+1,w=>match w with
  |.non=>true
  |.bl _=>true
  |.int _=>true
  |.str x=>PyData.strOk x
  |.tup ws=>ws.all (zah n)
  |_=>false
theorem zi1{f:W->Option PyData}{p:W->Bool}{n:Nat}(h:∀w,p w=true->∃d,f w=some d/\d.canLay0=true/\d.depth<=n):∀ws:List W,ws.all p=true->∃ds,mapO f ws=some ds/\PyData.canLayAll0 ds=true/\PyData.depthAll ds<=n
 |[],_=>⟨[],rfl,rfl,vbg _⟩
 |w::r,e=>by
  rw[vch,vab]at e
  obtain⟨d,h1,h2,h3⟩:=h w e.1
  obtain⟨ds,h4,h5,h6⟩:=zi1 h r e.2
  refine⟨d::ds,by simp[mapO,h1,h4],?_,?_⟩
  .show(d.canLay0&&PyData.canLayAll0 ds)=true
   rw[h2,h5];rfl
  .show max d.depth (PyData.depthAll ds)<=n
   lia
theorem zcz(h:VH):∀(n:Nat) (w:W),zah n w=true->∃d,toD h n w=some d/\d.canLay0=true/\d.depth<=n
 |0,_,e=>by cases e
 |n+1,w,e=>by
  cases w<;>simp only[zah]at e<;>try(cases e;done)
  .exact⟨.none,rfl,rfl,vbg _⟩
  .exact⟨.bool _,rfl,rfl,vbg _⟩
  .exact⟨.int _,rfl,rfl,vbg _⟩
  .exact⟨.str _,rfl,e,vbg _⟩
  .obtain⟨ds,h1,h2,h3⟩:=zi1 (zcz h n) _ e
   exact⟨.tuple ds,by simp[toD,h1],h2,by show PyData.depthAll ds+1<=n+1;lia⟩
mutual
theorem zi2:∀d:PyData,d.canLay0=true->PyData.eqv d d=true
 |.none,_=>rfl
 |.bool b,_=>by simp[PyData.eqv]
 |.int i,_=>by simp[PyData.eqv]
 |.str x,_=>by simp[PyData.eqv]
 |.list xs,h=>by
  simp only[PyData.eqv]
  exact zcm xs h
 |.tuple xs,h=>by
  simp only[PyData.eqv]
  exact zcm xs h
 |.dict _,h=>by cases h
theorem zcm:∀ds:List PyData,PyData.canLayAll0 ds=true->PyData.eqvAll ds ds=true
 |[],_=>rfl
 |d::ds,h=>by
  have h:(d.canLay0&&PyData.canLayAll0 ds)=true:=h
  rw[vab]at h
  simp only[PyData.eqvAll,zi2 d h.1,zcm ds h.2,Bool.and_self]
end
theorem zol{h:VH}{w:W}(p:zah 24 w=true):eqW h w w=some true:=by
 obtain⟨d,h1,h2,h3⟩:=zcz h 24 w p
 have hs:SeqAt.shaped d=true:=by
  unfold SeqAt.shaped
  rw[h2,Bool.true_and,vap];lia
 unfold eqW
 rw[h1]
 simp[hs,zi2 d h2]
noncomputable def isS(w:W)(x:Str):Bool:=match w with
 |.str y=>y==x
 |_=>false
theorem zcn{h:VH}{w:W}{x:Str}(p:zah 24 w=true)(hx:PyData.strOk x=true):eqW h w (.str x)=some (isS w x):=by
 obtain⟨d,h1,h2,h3⟩:=zcz h 24 w p
 have hs:SeqAt.shaped d=true:=by
  unfold SeqAt.shaped
  rw[h2,Bool.true_and,vap];lia
 have hs2:SeqAt.shaped (.str x)=true:=by
  unfold SeqAt.shaped
  show(PyData.strOk x&&_)=true
  rw[hx];rfl
 unfold eqW
 rw[h1]
 have h4:toD h 24 (.str x)=some (.str x):=rfl
 rw[h4]
 simp only[hs,hs2,Bool.and_self,vbe]
 cases w<;>simp only[toD]at h1<;>try(cases h1;done)
 .cases h1;simp[isS,PyData.eqv]
 .cases h1;simp[isS,PyData.eqv]
 .cases h1;simp[isS,PyData.eqv]
 .cases h1;simp[isS,PyData.eqv]
 .obtain⟨ds,h5,h6⟩:=Option.map_eq_some_iff.mp h1
  subst h6
  simp[isS,PyData.eqv]
 .simp[zah]at p
 .simp[zah]at p
theorem zb3{n:Nat}{ws:List W}:zah (n+1) (.tup ws)=ws.all (zah n):=rfl
theorem zft{h:VH}{n:Nat}{w:W}(p:zah n w=true):Kn h w:=by
 unfold Kn
 cases n with
 |zero=>cases p
 |succ n=>cases w<;>simp[zah,tyIs]at p ⊢
structure CoreB(F:Nat->Option Fn):Prop extends CoreA F where
 f8:F 8=some fn8
 f9:F 9=some fn9
 f10:F 10=some fn10
 f11:F 11=some fn11
 f12:F 12=some fn12
 f13:F 13=some fn13
 f14:F 14=some fn14
 f15:F 15=some fn15
theorem zl9:isNon .non=true:=rfl
noncomputable def fon(w:W)(n:Int):Bool:=isNon w||within w 0 (n-1)
noncomputable def door(w:W)(n:Int):Bool:=match w with
 |.tup [a,b]=>within a 0 99&&fon b n
 |_=>false
noncomputable def zcf(w:W)(g:Int):Bool:=match w with
 |.tup [a,b]=>within a 0 (g-1)&&within b 0 1
 |_=>false
noncomputable def zaz(w:W)(c wd g:Int):Bool:=
 if isS w "x" || zcf w g then decide (0<c)&&decide (c<wd-1)else if isS w "<"then decide (0<c)else if isS w ">"then decide (c<wd-1)else isS w "." || isS w "s"
section
variable{F:Nat->Option Fn}(C:CoreB F)
include C
theorem zde{k:Nat}{h:VH}{w:W}{n:Int}(hw:Kn h w):run F (k+3) 12 [w,.int n] h=.ok (.bl (fon w n)) h:=by
 rw[zal C.f12 rfl]
 have e:=zao C.toCoreA (k:=k) (h:=⟨h.n,h.n,h.os⟩) (w:=w) (lo:=0) (hi:=n-1) (kn_lo.mpr hw)
 cases q:isNon w<;>simp[fn12,exs,ev,e,cmpW,zl9,q,fon,zai,opW,opI]
theorem zsb{k:Nat}{h:VH}{w:W}{n:Int}(hw:Kn h w)(hp:∀a b,w=.tup [a,b]->Kn h a/\Kn h b):run F (k+4) 11 [w,.int n] h=.ok (.bl (door w n)) h:=by
 rw[zal C.f11 rfl]
 have e1:=zap C.toCoreA (k:=k+2) (h:=⟨h.n,h.n,h.os⟩) (w:=w) (lo:=2) (hi:=2) (kn_lo.mpr hw)
 cases q:zau w 2 2 with
 |false=>
  have:door w n=false:=by
   cases w<;>simp[door]
   rename_i ws
   rcases ws with _|⟨a,_|⟨b,_|_⟩⟩<;>simp[zau]at q ⊢
  simp[fn11,exs,ev,e1,q,this,zai]
 |true=>
  cases w<;>try(simp[zau]at q;done)
  rename_i ws
  have hl:ws.length=2:=by simp[zau]at q;lia
  rcases ws with _|⟨a,_|⟨b,_|_⟩⟩<;>simp at hl
  obtain⟨ka,kb⟩:=hp a b rfl
  have e2:=zao C.toCoreA (k:=k+1) (h:=⟨h.n,h.n,h.os⟩) (w:=a) (lo:=0) (hi:=99) (kn_lo.mpr ka)
  have e3:=zde C (k:=k) (h:=⟨h.n,h.n,h.os⟩) (w:=b) (n:=n) (kn_lo.mpr kb)
  cases q2:within a 0 99<;>simp[fn11,exs,ev,e1,q,e2,e3,q2,door,zai,tgW,seqW,zbf]
theorem zma{k:Nat}{h:VH}{w:W}{n:Int}(hw:Kn h w)(hp:∀a b,w=.tup [a,b]->Kn h a/\Kn h b):run F (k+3) 13 [w,.int n] h=.ok (.bl (zcf w n)) h:=by
 rw[zal C.f13 rfl]
 have e1:=zap C.toCoreA (k:=k+1) (h:=⟨h.n,h.n,h.os⟩) (w:=w) (lo:=2) (hi:=2) (kn_lo.mpr hw)
 cases q:zau w 2 2 with
 |false=>
  have:zcf w n=false:=by
   cases w<;>simp[zcf]
   rename_i ws
   rcases ws with _|⟨a,_|⟨b,_|_⟩⟩<;>simp[zau]at q ⊢
  simp[fn13,exs,ev,e1,q,this,zai]
 |true=>
  cases w<;>try(simp[zau]at q;done)
  rename_i ws
  have hl:ws.length=2:=by simp[zau]at q;lia
  rcases ws with _|⟨a,_|⟨b,_|_⟩⟩<;>simp at hl
  obtain⟨ka,kb⟩:=hp a b rfl
  have e2:=zao C.toCoreA (k:=k) (h:=⟨h.n,h.n,h.os⟩) (w:=a) (lo:=0) (hi:=n-1) (kn_lo.mpr ka)
  have e3:=zao C.toCoreA (k:=k) (h:=⟨h.n,h.n,h.os⟩) (w:=b) (lo:=0) (hi:=1) (kn_lo.mpr kb)
  cases q2:within a 0 (n-1)<;>simp[fn13,exs,ev,e1,q,e2,e3,q2,zcf,zai,tgW,seqW,zbf,opW,opI]
omit C in
theorem so_x:PyData.strOk (Str.ofString "x")=true:=by decide +kernel
omit C in
theorem so_l:PyData.strOk (Str.ofString "<")=true:=by decide +kernel
omit C in
theorem so_g:PyData.strOk (Str.ofString ">")=true:=by decide +kernel
omit C in
theorem so_d:PyData.strOk (Str.ofString ".")=true:=by decide +kernel
omit C in
theorem so_s:PyData.strOk (Str.ofString "s")=true:=by decide +kernel
theorem zmb{k:Nat}{h:VH}{w:W}{c wd g:Int}(p:zah 24 w=true):run F (k+4) 15 [w,.int c,.int wd,.int g] h=.ok (.bl (zaz w c wd g)) h:=by
 rw[zal C.f15 rfl]
 have hp:∀a b,w=.tup [a,b]->Kn ⟨h.n,h.n,h.os⟩ a/\Kn ⟨h.n,h.n,h.os⟩ b:=λa b e=>by
  subst e
  have p:zah (23+1) (.tup [a,b])=true:=p
  rw[zb3,vch,vch,vab,vab]at p
  exact⟨zft p.1,zft p.2.1⟩
 have e1:=zma C (k:=k) (h:=⟨h.n,h.n,h.os⟩) (w:=w) (n:=g) (zft p) hp
 have sx:=zcn (h:=⟨h.n,h.n,h.os⟩) (x:=Str.ofString "x") p so_x
 have sl:=zcn (h:=⟨h.n,h.n,h.os⟩) (x:=Str.ofString "<") p so_l
 have sg:=zcn (h:=⟨h.n,h.n,h.os⟩) (x:=Str.ofString ">") p so_g
 have sd:=zcn (h:=⟨h.n,h.n,h.os⟩) (x:=Str.ofString ".") p so_d
 have ss:=zcn (h:=⟨h.n,h.n,h.os⟩) (x:=Str.ofString "s") p so_s
 unfold zaz
 cases q1:isS w (Str.ofString "x")<;>cases q2:zcf w g<;>cases q3:isS w (Str.ofString "<")<;>cases q4:isS w (Str.ofString ">")<;>cases q5:isS w (Str.ofString ".")<;>by_cases h1:0<c<;>
  simp[fn15,exs,ev,cmpW,cmpI,sx,sl,sg,sd,ss,e1,opW,opI,q1,q2,q3,q4,q5,h1,zai]
theorem zcg{k:Nat}{h:VH}{t a:W}{n:Int}:∀(ws:List W) (x:Option W),(∀w∈ws,Kn h w/\∀a b,w=.tup [a,b]->Kn h a/\Kn h b)->∃y,forL (tgW (.one 3)) (exs (run F (k+4)) ziy) ws [some t,some a,some (.int n),x] h =
 if ws.all (door · n)then .ok (.nx [some t,some a,some (.int n),y]) h else .ok (.rt (.bl false)) h
 |[],x,_=>⟨x,by simp[forL]⟩
 |w::r,x,hk=>by
  obtain⟨y,e⟩:=zcg (t:=t) (a:=a) (k:=k) (n:=n) r (some w) λz hz=>hk z (vaf _ hz)
  refine⟨y,?_⟩
  obtain⟨k1,k2⟩:=hk w vak
  have e1:=zsb C (k:=k) (n:=n) k1 k2
  have eb:exs (run F (k+4)) ziy [some t,some a,some (.int n),some w] h=if door w n then .ok (.nx [some t,some a,some (.int n),some w]) h else .ok (.rt (.bl false)) h:=by
   cases q:door w n<;>simp[ziy,exs,ev,e1,q]
  simp only[forL,tgW,List.set,eb]
  cases q:door w n<;>simp[q,e]
theorem zmc{k:Nat}{h:VH}{ws:List W}{wd n:Int}(hl:ws.length=wd)(hz:ws.length<1000000)(hd:∀w∈ws,door w n=true):run F (k+5) 8 [.tup ws,.int wd,.int n] h=.ok (.bl true) h:=by
 rw[zal C.f8 rfl]
 have e1:=zap C.toCoreA (k:=k+3) (h:=⟨h.n,h.n,h.os⟩) (w:=.tup ws) (lo:=wd) (hi:=wd) (by unfold Kn;simp)
 have q:zau (.tup ws) wd wd=true:=by simp[zau,hl]
 have kn:∀w∈ws,Kn ⟨h.n,h.n,h.os⟩ w/\∀a b,w=.tup [a,b]->Kn ⟨h.n,h.n,h.os⟩ a/\Kn ⟨h.n,h.n,h.os⟩ b:=λw hw=>by
  have:=hd w hw
  cases w<;>simp only[door]at this<;>try(cases this;done)
  rename_i us
  refine⟨by unfold Kn;simp,λa b e=>?_⟩
  cases e
  simp only[vab]at this
  obtain⟨h1,h2⟩:=this
  refine⟨?_,?_⟩
  .cases a<;>simp[within]at h1
   unfold Kn;simp
  .unfold fon at h2
   cases b<;>simp[within,isNon]at h2
   .unfold Kn;simp
   .unfold Kn;simp
 obtain⟨y,e2⟩:=zcg C (k:=k) (h:=⟨h.n,h.n,h.os⟩) (t:=.tup ws) (a:=.int wd) (n:=n) ws none kn
 have ha:ws.all (door · n)=true:=vax.mpr hd
 simp[fn8,exs,ev,e1,q,zej hz,e2,ha,zai]
theorem zc0{k:Nat}{h:VH}{t:W}{wd:Int}:∀(ws:List W) (x:Option W),(∀w∈ws,∃us,w=.tup us/\us.length=wd)->∃y,forL (tgW (.one 2)) (exs (run F (k+1)) ziz) ws [some t,some (.int wd),x] h=.ok (.nx [some t,some (.int wd),y]) h
 |[],x,_=>⟨x,by simp[forL]⟩
 |w::r,x,hk=>by
  obtain⟨y,e⟩:=zc0 (h:=h) (t:=t) (k:=k) (wd:=wd) r (some w) λz hz=>hk z (vaf _ hz)
  refine⟨y,?_⟩
  obtain⟨us,rfl,hl⟩:=hk w vak
  have e1:=zap C.toCoreA (k:=k) (h:=h) (w:=.tup us) (lo:=wd) (hi:=wd) (by unfold Kn;simp)
  have q:zau (.tup us) wd wd=true:=by simp[zau,hl]
  have eb:exs (run F (k+1)) ziz [some t,some (.int wd),some (.tup us)] h=.ok (.nx [some t,some (.int wd),some (.tup us)]) h:=by
   simp[ziz,exs,ev,e1,q]
  simp only[forL,tgW,List.set,eb,bindok,e]
theorem zom{k:Nat}{h:VH}{ws:List W}{wd:Int}(hl:ws.length<=60)(hd:∀w∈ws,∃us,w=.tup us/\us.length=wd):run F (k+2) 9 [.tup ws,.int wd] h=.ok (.bl true) h:=by
 rw[zal C.f9 rfl]
 have e1:=zap C.toCoreA (k:=k) (h:=⟨h.n,h.n,h.os⟩) (w:=.tup ws) (lo:=0) (hi:=60) (by unfold Kn;simp)
 have q:zau (.tup ws) 0 60=true:=by simp[zau];lia
 obtain⟨y,e2⟩:=zc0 C (k:=k) (h:=⟨h.n,h.n,h.os⟩) (t:=.tup ws) (wd:=wd) ws none hd
 simp[fn9,exs,ev,e1,q,zej (show ws.length<1000000 by lia),e2,zai]
end
structure Bd where
 wd:Int
 gr:Int
 rows:List (List W)
 fd:List W
 dr:List W
noncomputable def Bd.w(B:Bd):W:=.tup [.int B.wd,.int B.gr,.tup (B.rows.map .tup),.tup B.fd,.tup B.dr]
noncomputable def rowOk(wd g:Int):Int->List W->Prop
 |_,[]=>True
 |c,w::r=>zaz w c wd g=true/\rowOk wd g (c+1) r
structure Bd.Ok(B:Bd):Prop where
 w1:1<=B.wd
 w2:B.wd<=40
 g1:0<=B.gr
 g2:B.gr<=8
 r1:B.rows.length<=60
 r2:∀r∈B.rows,(r.length:Int)=B.wd/\rowOk B.wd B.gr 0 r
 f1:1<=B.fd.length
 f2:B.fd.length<=4
 f3:∀f∈B.fd,within f 0 (B.wd-1)=true
 d1:(B.dr.length:Int)=B.wd
 d2:∀d∈B.dr,door d B.fd.length=true
structure Bd.Ok0(B:Bd):Prop where
 w1:1<=B.wd
 w2:B.wd<=40
 g1:0<=B.gr
 g2:B.gr<=8
 r1:B.rows.length<=60
 r2:∀r∈B.rows,(r.length:Int)=B.wd
 f1:1<=B.fd.length
 f2:B.fd.length<=4
 f3:∀f∈B.fd,within f 0 (B.wd-1)=true
 d1:(B.dr.length:Int)=B.wd
 d2:∀d∈B.dr,door d B.fd.length=true
theorem Bd.Ok.ok0{B:Bd}(b:B.Ok):B.Ok0:=⟨b.w1,b.w2,b.g1,b.g2,b.r1,λr hr=>(b.r2 r hr).1,b.f1,b.f2,b.f3,b.d1,b.d2⟩
theorem zgt{w:W}{g:Int}(h:zcf w g=true)(n:Nat):zah (n+2) w=true:=by
 cases w<;>simp only[zcf]at h<;>try(cases h;done)
 rename_i us
 rcases us with _|⟨a,_|⟨b,_|_⟩⟩<;>simp at h
 obtain⟨h1,h2⟩:=h
 cases a<;>simp[within]at h1
 cases b<;>simp[within]at h2
 rfl
theorem ze2{w:W}{x:Str}(h:isS w x=true):w=.str x:=by
 cases w<;>simp[isS]at h
 rw[h]
theorem zch{w:W}{c wd g:Int}(h:zaz w c wd g=true)(n:Nat):zah (n+2) w=true:=by
 have st:∀x:Str,PyData.strOk x=true->isS w x=true->zah (n+2) w=true:=λx hx e=>by rw[ze2 e];exact hx
 unfold zaz at h
 split at h
 .rename_i q
  rw[vcp]at q
  rcases q with q|q
  .exact st _ (by decide +kernel) q
  .exact zgt q n
 .split at h
  .rename_i q;exact st _ (by decide +kernel) q
  .split at h
   .rename_i q;exact st _ (by decide +kernel) q
   .rw[vcp]at h
    rcases h with q|q
    .exact st _ (by decide +kernel) q
    .exact st _ (by decide +kernel) q
section
variable{F:Nat->Option Fn}(C:CoreB F)
include C
theorem zmd{k:Nat}{h:VH}{B:Bd}(b:B.Ok0):run F (k+6) 10 [B.w] h=.ok (.bl true) h:=by
 rw[zal C.f10 rfl]
 have e1:=zap C.toCoreA (k:=k+4) (h:=⟨h.n,h.n,h.os⟩) (w:=B.w) (lo:=5) (hi:=5) (by unfold Kn Bd.w;simp)
 have q1:zau B.w 5 5=true:=by simp[zau,Bd.w]
 have e2:=zao C.toCoreA (k:=k+3) (h:=⟨h.n,h.n,h.os⟩) (w:=.int B.wd) (lo:=1) (hi:=40) (by unfold Kn;simp)
 have q2:within (.int B.wd) 1 40=true:=by simp[within,b.w1,b.w2]
 have e3:=zao C.toCoreA (k:=k+3) (h:=⟨h.n,h.n,h.os⟩) (w:=.int B.gr) (lo:=0) (hi:=8) (by unfold Kn;simp)
 have q3:within (.int B.gr) 0 8=true:=by simp[within,b.g1,b.g2]
 have kf:∀x∈B.fd,Kn ⟨h.n,h.n,h.os⟩ x:=λx hx=>by
  have:=b.f3 x hx
  cases x<;>simp[within]at this
  unfold Kn;simp
 have hf:=b.f2
 have e4:=zbl C.toCoreA (k:=k+2) (h:=⟨h.n,h.n,h.os⟩) (w:=.tup B.fd) (a:=1) (b:=4) (lo:=0) (hi:=B.wd-1) (by unfold Kn;simp) (λws e=>by cases e;exact⟨by lia,kf⟩)
 have q4:zcy (.tup B.fd) 1 4 0 (B.wd-1)=true:=by
  have h1:=b.f1
  simp only[zcy,zau,vab,vap]
  exact⟨⟨by lia,by lia⟩,vax.mpr b.f3⟩
 have e5:=zom C (k:=k+3) (h:=⟨h.n,h.n,h.os⟩) (ws:=B.rows.map .tup) (wd:=B.wd) (by rw[vah];exact b.r1) (λw hw=>by
  obtain⟨r,hr,e⟩:=vct.mp hw
  exact⟨r,e.symm,b.r2 r hr⟩)
 have hd:=b.d1
 have h40:=b.w2
 have e6:=zmc C (k:=k) (h:=⟨h.n,h.n,h.os⟩) (ws:=B.dr) (wd:=B.wd) (n:=B.fd.length) hd (by lia) b.d2
 unfold Bd.w at e1 q1 ⊢
 simp[fn10,exs,ev,e1,q1,e2,q2,e3,q3,e4,q4,e5,e6,zai,tgW,seqW,zbf,opW,opI,biW,lenW]
theorem zon{k:Nat}{h:VH}{B:Bd}(b:B.Ok):run F (k+6) 10 [B.w] h=.ok (.bl true) h:=zmd C b.ok0
theorem zme{k:Nat}{h:VH}{t rs pl:W}{wd g r0:Int}:∀(ws:List W) (c:Int) (j:Nat) (x y:Option W),c=j->rowOk wd g c ws->∃x' y',forL (tgW (.many [6,7])) (exs (run F (k+4)) zfq) (enumW j ws) [some t,some (.int wd),some (.int g),some rs,some (.int r0),some pl,x,y] h =
 .ok (.nx [some t,some (.int wd),some (.int g),some rs,some (.int r0),some pl,x',y']) h
 |[],c,j,x,y,_,_=>⟨x,y,by simp[forL,enumW]⟩
 |w::r,c,j,x,y,hc,ho=>by
  obtain⟨h1,h2⟩:=ho
  obtain⟨x',y',e⟩:=zme (h:=h) (t:=t) (rs:=rs) (pl:=pl) (k:=k) (wd:=wd) (g:=g) (r0:=r0) r (c+1) (j+1) (some (.int j)) (some w) (by rw[hc];push_cast;rfl) h2
  refine⟨x',y',?_⟩
  have e1:=zmb C (k:=k) (h:=h) (c:=j) (wd:=wd) (g:=g) (zch h1 22)
  rw[<-hc,h1]at e1
  have eb:exs (run F (k+4)) zfq [some t,some (.int wd),some (.int g),some rs,some (.int r0),some pl,some (.int j),some w] h=.ok (.nx [some t,some (.int wd),some (.int g),some rs,some (.int r0),some pl,some (.int j),some w]) h:=by
   rw[hc]at e1
   simp[zfq,exs,ev,e1]
  simp only[forL,enumW,tgW,seqW,zbf,List.set,eb,bindok,e]
theorem zi3{k:Nat}{h:VH}{t rs:W}{wd g:Int}:∀(ws:List (List W)) (j:Nat) (x y z u:Option W),(∀r∈ws,(r.length:Int)<1000000/\rowOk wd g 0 r)->∃x' y' z' u',forL (tgW (.many [4,5])) (exs (run F (k+4)) zfr) (enumW j (ws.map .tup)) [some t,some (.int wd),some (.int g),some rs,x,y,z,u] h =
 .ok (.nx [some t,some (.int wd),some (.int g),some rs,x',y',z',u']) h
 |[],j,x,y,z,u,_=>⟨x,y,z,u,by simp[forL,enumW]⟩
 |w::r,j,x,y,z,u,ho=>by
  obtain⟨h1,h2⟩:=ho w vak
  obtain⟨z1,u1,e1⟩:=zme C (k:=k) (h:=h) (t:=t) (rs:=rs) (pl:=.tup w) (wd:=wd) (g:=g) (r0:=j) w 0 0 z u rfl h2
  obtain⟨x',y',z',u',e⟩:=zi3 (h:=h) (t:=t) (rs:=rs) (k:=k) (wd:=wd) (g:=g) r (j+1) (some (.int j)) (some (.tup w)) z1 u1 λq hq=>ho q (vaf _ hq)
  refine⟨x',y',z',u',?_⟩
  have eb:exs (run F (k+4)) zfr [some t,some (.int wd),some (.int g),some rs,some (.int j),some (.tup w),z,u] h=.ok (.nx [some t,some (.int wd),some (.int g),some rs,some (.int j),some (.tup w),z1,u1]) h:=by
   simp[zfr,exs,ev,zi0 (show w.length<1000000 by lia),e1]
  simp only[forL,vaw,enumW,tgW,seqW,zbf,List.set,eb,bindok,e]
theorem zc1{k:Nat}{h:VH}{B:Bd}(b:B.Ok):run F (k+7) 14 [B.w] h=.ok .non h:=by
 rw[zal C.f14 rfl]
 have e1:=zon C (k:=k) (h:=⟨h.n,h.n,h.os⟩) b
 have h40:=b.w2
 have h60:=b.r1
 obtain⟨x',y',z',u',e2⟩:=zi3 C (k:=k+2) (h:=⟨h.n,h.n,h.os⟩) (t:=B.w) (rs:=.tup (B.rows.map .tup)) (wd:=B.wd) (g:=B.gr) B.rows 0 none none none none λr hr=>⟨by have:=(b.r2 r hr).1;lia,(b.r2 r hr).2⟩
 unfold Bd.w at e1 e2 ⊢
 simp[fn14,exs,ev,e1,zwq,tgW,seqW,zbf,partW,cutW,HT.sIx,zi0 (show(B.rows.map W.tup).length<1000000 by rw[vah];lia),e2]
end
structure CoreD(F:Nat->Option Fn):Prop where
 f2:F 2=some fn2
 f3:F 3=some fn3
 f4:F 4=some fn4
 f5:F 5=some fn5
theorem zb4{h:VH}{i j:Int}:eqW h (.int i) (.int j)=some (decide (i=j)):=by
 unfold eqW
 simp only[toD]
 show some (i==j)=_
 by_cases q:i=j<;>simp[q]
theorem zfu{i:Int}(h1:-(2 ^ 63)<=i)(h2:i<2 ^ 63):za4 i=true:=by
 unfold za4
 simp only[vab,vap]
 lia
theorem zas{h:VH}{i:Nat}{o o0:VO}(g:h.get i=some o0):(h.set i o).get i=some o:=by
 have hi:=zag g
 unfold VH.get at g
 rw[if_pos (zaj.mpr hi)]at g
 have hl:=(vba.mp g).1
 unfold VH.get VH.set
 simp only[if_pos (zaj.mpr hi)]
 rw[vbx hl]
theorem za0{h:VH}{i j:Nat}{o o0:VO}(g:h.get i=some o0)(hj:j≠i):(h.set i o).get j=h.get j:=zbk (zag g) hj
structure Dk(h:VH)(d c:Nat)(b:Nat):Prop where
 ne:d≠c
 st:∃(ns cells:List Int) (p q:Int),h.get d=some (.lst [.fz (ns.map .int),.ref c,.int p,.int q])/\h.get c=some (.lst (cells.map .int))/\(∀x∈cells,(0:Int)<=x)/\0<=p/\0<=q/\q<=b/\cells.length<=63
theorem Dk.mono{h:VH}{d c b b':Nat}(D:Dk h d c b)(hb:b<=b'):Dk h d c b':=by
 obtain⟨ne,ns,cells,p,q,a1,a2,a3,a4,a5,a6,a7⟩:=D
 exact⟨ne,ns,cells,p,q,a1,a2,a3,a4,a5,by lia,a7⟩
structure Keep(h h':VH)(d c:Nat):Prop where
 le:h.n<=h'.n
 get:∀i o,i≠d->i≠c->h.get i=some o->h'.get i=some o
theorem Keep.trans{h h1 h2:VH}{d c:Nat}(a:Keep h h1 d c)(b:Keep h1 h2 d c):Keep h h2 d c:=⟨vbo a.le b.le,λi o h1 h2 e=>b.get i o h1 h2 (a.get i o h1 h2 e)⟩
theorem zdf(i:Int):(if i<0 then -i else i)=(i.natAbs:Int):=by
 split<;>lia
section
variable{F:Nat->Option Fn}(C:CoreD F)
include C
theorem cell{k:Nat}{h:VH}{ns:List Int}{j:Int}(hj:0<=j):∃r,run F (k+1) 2 [.fz (ns.map .int),.int j] h=.ok (.int r) h/\0<=r:=by
 rw[zal C.f2 rfl]
 cases ns with
 |nil=>
  refine⟨7*j+3,?_,by lia⟩
  simp[fn2,exs,ev,biW,lenW,seqW,cmpW,zb4,opW,opI,zfu,zai]
 |cons n0 ns0=>
  have hl:(0:Int)< ((n0::ns0).length:Int):=by simp only[vai];lia
  have hm1:=ver j (show((n0::ns0).length:Int)≠0 by lia)
  have hm2:=ved j hl
  obtain⟨m,hm⟩:=vbl hm1
  have hml:m< (n0::ns0).length:=by lia
  have ha:atI (List.map W.int (n0::ns0)) (j % ((n0::ns0).length:Int))=some (.int ((n0::ns0)[m])):=by
   rw[hm]
   exact zbo (by rw[va5,va0 hml];rfl)
  have hb:¬(((ns0.length:Int)+1)=0):=by lia
  have hp:(0:Int)< (ns0.length:Int)+1:=by lia
  refine⟨(((n0::ns0)[m]).natAbs:Int),?_,by lia⟩
  simp only[vai,Int.natCast_add,Int.cast_ofNat_Int,vaw]at ha
  simp[fn2,exs,ev,biW,lenW,seqW,cmpW,zb4,opW,opI,zai,idxW,absW,hb,hp,ha,zdf]
theorem mixed{k:Nat}{h:VH}{ns:List Int}{j m:Int}(hj:0<=j)(hj2:j<=1000000000)(hm:0<m):∃r,run F (k+2) 4 [.fz (ns.map .int),.int j,.int m] h=.ok (.int r) h/\0<=r/\r<m:=by
 rw[zal C.f4 rfl]
 obtain⟨c,e1,hc⟩:=cell C (k:=k) (h:=⟨h.n,h.n,h.os⟩) (ns:=ns) hj
 have h1:=ver c (show(1000003:Int)≠0 by decide)
 have h2:=ved c (show(0:Int)<1000003 by decide)
 generalize hx:c % 1000003=x at h1 h2
 have s1:za4 (x+5)=true:=zfu (by lia) (by lia)
 have s2:za4 7919=true:=zfu (by decide) (by decide)
 have hb:(x+5)* (j+2)<=1000008*1000000002:=Int.mul_le_mul (by lia) (by lia) (by lia) (by lia)
 have hb0:0<=(x+5)* (j+2):=Int.mul_nonneg (by lia) (by lia)
 generalize hy:(x+5)* (j+2)=y at hb hb0
 have hn:(y+7919*j).natAbs<2 ^ 64:=by lia
 refine⟨(y+7919*j) ^ 5 % 2147483647/13 % m,?_,ver _ (by lia),ved _ hm⟩
 have hn':(y+7919*j).natAbs<18446744073709551616:=by lia
 simp[fn4,exs,ev,e1,opW,opI,hx,s1,s2,hy,hn',hm,zai]
theorem zgu{k:Nat}{d c:Nat}{m q:Int}{ns:List Int}(hdc:d≠c)(hm:0<m)(hm2:m<1073741824):∀(n f:Nat) (g:VH) (x:Option W) (cells:List Int) (p:Int),n<f->(cells.length:Int)-p<=n->0<=p->(∀y∈cells,(0:Int)<=y)->
 g.get d=some (.lst [.fz (ns.map .int),.ref c,.int p,.int q])->g.get c=some (.lst (cells.map .int))->
 ∃(g':VH) (cells':List Int) (p':Int),0<=p'/\(∀y∈cells',(0:Int)<=y)/\cells'.length=cells.length/\g'.get d=some (.lst [.fz (ns.map .int),.ref c,.int p',.int q])/\g'.get c=some (.lst (cells'.map .int))/\g'.n=g.n/\(∀i,i≠d->i≠c->g'.get i=g.get i)/\
  ((∃r,whlG (ev (run F (k+2)) zgq) (exs (run F (k+2)) zeh) f [some (.ref d),some (.int m),x] g=.ok (.rt (.int r)) g'/\0<=r/\r<m)\/∃y,whlG (ev (run F (k+2)) zgq) (exs (run F (k+2)) zeh) f [some (.ref d),some (.int m),x] g=.ok (.nx [some (.ref d),some (.int m),y]) g')
 |n,0,g,x,cells,p,hf,_,_,_,_,_=>by lia
 |n,f+1,g,x,cells,p,hf,hn,hp,hnn,gd,gc=>by
  have ec:ev (run F (k+2)) zgq [some (.ref d),some (.int m),x] g=.ok (.bl (decide (p<cells.length))) g:=by
   simp[zgq,ev,idxW,gd,atI,ixN,biW,lenW,seqW,gc,cmpW,cmpI]
  by_cases hlt:p<cells.length
  .obtain⟨pn,rfl⟩:=vbl hp
   have hpl:pn<cells.length:=by lia
   have hat:atI (cells.map W.int) (pn:Int)=some (.int cells[pn]):=zbo (by rw[va5,va0 hpl];rfl)
   by_cases hpos:0<cells[pn]
   .refine⟨g.set c (.lst ((cells.set pn (cells[pn]/m)).map .int)),cells.set pn (cells[pn]/m),pn,hp,?_,by simp,?_,zas gc,rfl,λi _ hi=>za0 gc hi,.inl ⟨cells[pn] % m,?_,ver _ (by lia),ved _ hm⟩⟩
    .intro y hy
     rcases vda hy with hy|rfl
     .exact hnn y hy
     .exact Int.ediv_nonneg (by lia) (by lia)
    .rw[za0 gc hdc];exact gd
    .have hix:ixN (cells.map W.int).length (pn:Int)=some pn:=by
      unfold ixN
      rw[if_pos (by lia),if_pos (by rw[vah];lia)];simp
     have eb:exs (run F (k+2)) zeh [some (.ref d),some (.int m),x] g=.ok (.rt (.int (cells[pn] % m))) (g.set c (.lst ((cells.set pn (cells[pn]/m)).map .int))):=by
      have h2:atI [W.fz (ns.map .int),.ref c,.int pn,.int q] 2=some (.int pn):=rfl
      have h1:atI [W.fz (ns.map .int),.ref c,.int pn,.int q] 1=some (.ref c):=rfl
      simp[zeh,exs,ev,idxW,gd,h1,h2,gc,hat,cmpW,cmpI,hpos,opW,opI,hm,hm2]at hix ⊢
      simp[hix,hm,List.map_set]
     simp[whlG,ec,hlt,eb]
   .have gs:(g.set d (.lst [.fz (ns.map .int),.ref c,.int ((pn:Int)+1),.int q])).get c=some (.lst (cells.map .int)):=by rw[za0 gd (vdy hdc)];exact gc
    cases n with
    |zero=>lia
    |succ n=>
     obtain⟨g',cells',p',a1,a2,a3,a4,a5,a6,a7,a8⟩:=zgu (k:=k) hdc hm hm2 n f (g.set d (.lst [.fz (ns.map .int),.ref c,.int ((pn:Int)+1),.int q])) (some (.int cells[pn])) cells (pn+1) (by lia) (by lia) (by lia) hnn (zas gd) gs
     have eb:exs (run F (k+2)) zeh [some (.ref d),some (.int m),x] g=.ok (.nx [some (.ref d),some (.int m),some (.int cells[pn])]) (g.set d (.lst [.fz (ns.map .int),.ref c,.int ((pn:Int)+1),.int q])):=by
      have h2:atI [W.fz (ns.map .int),.ref c,.int pn,.int q] 2=some (.int pn):=rfl
      have h1:atI [W.fz (ns.map .int),.ref c,.int pn,.int q] 1=some (.ref c):=rfl
      have h3:ixN 4 2=some 2:=rfl
      simp[zeh,exs,ev,idxW,gd,h1,h2,h3,gc,hat,cmpW,cmpI,hpos,opW,opI]
     refine⟨g',cells',p',a1,a2,a3,a4,a5,a6,λi h1 h2=>by rw[a7 i h1 h2,za0 gd h1],?_⟩
     rcases a8 with⟨r,e,h3⟩|⟨y,e⟩
     .exact .inl ⟨r,by simp[whlG,ec,hlt,eb,e],h3⟩
     .exact .inr ⟨y,by simp[whlG,ec,hlt,eb,e]⟩
  .exact⟨g,cells,p,hp,hnn,rfl,gd,gc,rfl,λ_ _ _=>rfl,.inr ⟨x,by simp[whlG,ec,hlt]⟩⟩
omit C in
theorem zgv{h h':VH}{w:W}(g:Grow ⟨h.n,h.n,h.os⟩ h'):∃h2,leave h w h'=.ok w h2/\h.n<=h2.n/\∀i,i<h.n->h2.get i=h'.get i:=by
 unfold leave
 split
 .rename_i q
  rw[vab]at q
  have hlo:=va2 q.1
  exact⟨h,rfl,vaa _,λi hi=>by
   rw[g.2.2 i hi (vag hi hlo)]
   exact get_lo.symm⟩
 .exact⟨_,rfl,g.1,λi hi=>get_lo⟩
theorem take{k:Nat}{h:VH}{d c b:Nat}{m:Int}(D:Dk h d c b)(hb:b<1000000000)(hm:0<m)(hm2:m<1073741824):∃r h',run F (k+3) 5 [.ref d,.int m] h=.ok (.int r) h'/\0<=r/\r<m/\Dk h' d c (b+1)/\Keep h h' d c:=by
 rw[zal C.f5 rfl]
 obtain⟨hne,ns,cells,p,q,gd,gc,hnn,hp,hq,hqb,hl⟩:=D
 have gd0:VH.get ⟨h.n,h.n,h.os⟩ d=some (.lst [.fz (ns.map .int),.ref c,.int p,.int q]):=by rw[get_lo];exact gd
 have gc0:VH.get ⟨h.n,h.n,h.os⟩ c=some (.lst (cells.map .int)):=by rw[get_lo];exact gc
 obtain⟨g',cells',p',a1,a2,a3,a4,a5,a6,a7,a8⟩:=zgu C (k:=k) hne hm hm2 63 fuel ⟨h.n,h.n,h.os⟩ none cells p (by decide) (by lia) hp hnn gd0 gc0
 have key:∀(g2:VH)(r:Int)(cells2:List Int)(p2 q2:Int),exs (run F (k+2)) fn5.body [some (.ref d),some (.int m),none] ⟨h.n,h.n,h.os⟩=.ok (.rt (.int r)) g2->0<=r->r<m->0<=p2->0<=q2->q2<=b+1->cells2.length<=63->(∀y∈cells2,(0:Int)<=y)->
  g2.get d=some (.lst [.fz (ns.map .int),.ref c,.int p2,.int q2])->g2.get c=some (.lst (cells2.map .int))->(∀i,i<h.n->i≠d->i≠c->g2.get i=h.get i)->
  ∃r h',fin h (exs (run F (k+2)) fn5.body ([W.ref d,W.int m].map some++vgc (fn5.n-fn5.ps) none) ⟨h.n,h.n,h.os⟩)=.ok (.int r) h'/\0<=r/\r<m/\Dk h' d c (b+1)/\Keep h h' d c:=by
  intro g2 r cells2 p2 q2 e r1 r2 b1 b2 b3 b4 b5 b6 b7 b8
  obtain⟨h2,e2,hn2,hg2⟩:=zgv (w:=.int r) (zim (zin F (k+2)) _ _ _ _ _ e)
  refine⟨r,h2,?_,r1,r2,⟨hne,ns,cells2,p2,q2,?_,?_,b5,b1,b2,by lia,b4⟩,⟨hn2,λi o h1 h3 e3=>?_⟩⟩
  .show fin h (exs (run F (k+2)) fn5.body [some (.ref d),some (.int m),none] ⟨h.n,h.n,h.os⟩)=_
   rw[e]
   exact e2
  .rw[hg2 d (zag gd)];exact b6
  .rw[hg2 c (zag gc)];exact b7
  .rw[hg2 i (zag e3),b8 i (zag e3) h1 h3];exact e3
 rcases a8 with⟨r,e,r1,r2⟩|⟨y,e⟩
 .refine key g' r cells' p' q ?_ r1 r2 a1 hq (by lia) (by lia) a2 a4 a5 λi hi h1 h2=>by rw[a7 i h1 h2,get_lo]
  simp[fn5,exs,e]
 .obtain⟨r,e2,r1,r2⟩:=mixed C (k:=k) (h:=g'.set d (.lst [.fz (ns.map .int),.ref c,.int p',.int (q+1)])) (ns:=ns) (j:=q+1) (m:=m) (by lia) (by lia) hm
  refine key (g'.set d (.lst [.fz (ns.map .int),.ref c,.int p',.int (q+1)])) r cells' p' (q+1) ?_ r1 r2 a1 (by lia) (by lia) (by lia) a2 (zas a4) (by rw[za0 a4 (vdy hne)];exact a5) λi hi h1 h2=>by rw[za0 a4 h1,a7 i h1 h2,get_lo]
  have h3:atI [W.fz (ns.map .int),.ref c,.int p',.int q] 3=some (.int q):=rfl
  have h30:atI [W.fz (ns.map .int),.ref c,.int p',.int (q+1)] 3=some (.int (q+1)):=rfl
  have h00:atI [W.fz (ns.map .int),.ref c,.int p',.int (q+1)] 0=some (.fz (ns.map .int)):=rfl
  have h33:ixN 4 3=some 3:=rfl
  have hs:=zas (o:=.lst [.fz (ns.map .int),.ref c,.int p',.int (q+1)]) a4
  simp[fn5,exs,e,ev,idxW,a4,h3,opW,opI,h33,hs,h30,h00,e2]
end
theorem zab{cl:Call}{a b:S}{ρ ρ':En}{h h':VH}(e:exs cl a ρ h=.ok (.nx ρ') h'):exs cl (.seq a b) ρ h=exs cl b ρ' h':=by
 simp only[exs,e,bindok]
theorem zan{cl:Call}{a b:S}{ρ:En}{w:W}{h h':VH}(e:exs cl a ρ h=.ok (.rt w) h'):exs cl (.seq a b) ρ h=.ok (.rt w) h':=by
 simp only[exs,e,bindok]
@[simp] theorem exs_skip {cl:Call} {ρ:En} {h:VH}:exs cl .skip ρ h=.ok (.nx ρ) h:=rfl
theorem Dk.new{h:VH}{d c b:Nat}{o:VO}(D:Dk h d c b):Dk (h.new o) d c b:=by
 obtain⟨ne,ns,cells,p,q,a1,a2,a3⟩:=D
 exact⟨ne,ns,cells,p,q,by rw[zak (zag a1)];exact a1,by rw[zak (zag a2)];exact a2,a3⟩
theorem Keep.new{h h':VH}{d c:Nat}{o:VO}(K:Keep h h' d c):Keep h (h'.new o) d c:=⟨vdx K.le,λi o' h1 h2 e=>by
 have:=K.get i o' h1 h2 e
 rw[zak (zag this)];exact this⟩
theorem zoo{cl:Call}{h h':VH}{d c b:Nat}{w:W}{fl:Fl}{body:S}{ρ:En}{F:Nat->Option Fn}{k:Nat}(e:exs (run F k) body ρ ⟨h.n,h.n,h.os⟩=.ok (.rt w) h')(D0:Dk h d c 0\/∃b,Dk h d c b)(D:Dk h' d c b)(K:Keep ⟨h.n,h.n,h.os⟩ h' d c) :
 ∃h2,fin h (exs (run F k) body ρ ⟨h.n,h.n,h.os⟩)=.ok w h2/\Dk h2 d c b/\Keep h h2 d c:=by
 obtain⟨h2,e2,hn2,hg2⟩:=zgv (w:=w) (zim (zin F k) _ _ _ _ _ e)
 have hd:d<h.n/\c<h.n:=by
  rcases D0 with⟨_,ns,cells,p,q,a1,a2,_⟩|⟨b,_,ns,cells,p,q,a1,a2,_⟩<;>exact⟨zag a1,zag a2⟩
 refine⟨h2,by rw[e];exact e2,?_,⟨hn2,λi o h1 h3 e3=>?_⟩⟩
 .obtain⟨ne,ns,cells,p,q,a1,a2,a3⟩:=D
  exact⟨ne,ns,cells,p,q,by rw[hg2 d hd.1];exact a1,by rw[hg2 c hd.2];exact a2,a3⟩
 .rw[hg2 i (zag e3)]
  exact K.get i o h1 h3 (by rw[get_lo];exact e3)
noncomputable abbrev sDot:Str:=Str.ofString "."
noncomputable abbrev sLt:Str:=Str.ofString "<"
noncomputable abbrev sGt:Str:=Str.ofString ">"
noncomputable abbrev sX:Str:=Str.ofString "x"
noncomputable abbrev sS:Str:=Str.ofString "s"
theorem zp0{cl:Call}:ev cl (.cst (.bl true))=λ_ h=>.ok (.bl true) h:=rfl
theorem zhp{n:Nat}(h:n<=1000000):Nat.ble n big=true:=veg.mpr (vbo h (by decide))
structure Gw(h h':VH):Prop where
 le:h.n<=h'.n
 lo:h'.lo=h.lo
 get:∀i o,h.get i=some o->h'.get i=some o
theorem zfv{n:Nat}(h:n<=1000000):Nat.blt n big=true:=zaj.mpr (vea h (by decide))
theorem zgw{cl:Call}{i l:Nat}{x:E}{ρ:En}{h h1:VH}{w:W}{acc acc0:List W}(hρ:ρ[i]?=some (some (.ref l)))(g0:h.get l=some (.lst acc0))(e:ev cl x ρ h=.ok w h1)(g:h1.get l=some (.lst acc))(hl:acc.length<=1000000) :
 ev cl (.mt .append (.var i) (.cons x .nil)) ρ h=.ok .non (h1.set l (.lst (acc++[w]))):=by
 have hk:zbw .append h (.ref l)=true:=by simp only[zbw,g0]
 have hm:mtW .append (.ref l) [w] h1=.ok .non (h1.set l (.lst (acc++[w]))):=by
  simp only[mtW,g]
  rw[if_pos (zfv hl)]
 simp only[ev,hρ,vb2,ofsome,bindok,hk,vbe,e,hm]
theorem zhq{w:W}{g:Int}(h:zcf w g=true):∃a b:Int,w=.tup [.int a,.int b]/\0<=a/\a<g/\0<=b/\b<2:=by
 cases w<;>simp only[zcf]at h<;>try(cases h;done)
 rename_i us
 rcases us with _|⟨a,_|⟨b,_|_⟩⟩<;>simp at h
 obtain⟨h1,h2⟩:=h
 cases a<;>simp[within]at h1
 cases b<;>simp[within]at h2
 exact⟨_,_,rfl,by lia,by lia,by lia,by lia⟩
theorem zmf{wd g g':Int}{f:W->W}(hf:∀w c,zaz w c wd g=true->zaz (f w) c wd g'=true):∀{ws:List W} {c:Int},rowOk wd g c ws->rowOk wd g' c (ws.map f)
 |[],_,_=>trivial
 |_::_,_,⟨h1,h2⟩=>⟨hf _ _ h1,zmf hf h2⟩
theorem zmg{w:W}{n:Int}(h:door w n=true):∃(a:Int) (b:W),w=.tup [.int a,b]/\0<=a/\a<=99/\(b=.non\/∃i:Int,b=.int i/\0<=i/\i<n):=by
 cases w<;>simp only[door]at h<;>try(cases h;done)
 rename_i us
 rcases us with _|⟨a,_|⟨b,_|_⟩⟩<;>simp at h
 obtain⟨h1,h2⟩:=h
 cases a<;>simp[within]at h1
 unfold fon at h2
 cases b<;>simp[within,isNon]at h2
 .exact⟨_,_,rfl,h1.1,h1.2,.inl rfl⟩
 .exact⟨_,_,rfl,h1.1,h1.2,.inr ⟨_,rfl,by lia,by lia⟩⟩
theorem zgx{wd g:Int}{n:Nat}:∀{ws:List W} {c:Int},rowOk wd g c ws->ws.all (zah (n+2))=true
 |[],_,_=>rfl
 |_::_,_,⟨h1,h2⟩=>by rw[vch,zch h1,zgx h2];rfl
theorem zgy{B:Bd}(b:B.Ok)(n:Nat):zah (n+6) B.w=true:=by
 have h1:(B.rows.map W.tup).all (zah (n+4))=true:=by
  rw[vax]
  intro w hw
  obtain⟨r,hr,rfl⟩:=vct.mp hw
  exact zgx (n:=n+1) (b.r2 r hr).2
 have h2:B.fd.all (zah (n+4))=true:=by
  rw[vax]
  intro w hw
  have:=b.f3 w hw
  cases w<;>simp[within]at this
  rfl
 have h3:B.dr.all (zah (n+4))=true:=by
  rw[vax]
  intro w hw
  obtain⟨a,c,rfl,_,_,h⟩:=zmg (b.d2 w hw)
  rcases h with rfl|⟨i,rfl,_⟩<;>rfl
 show(zah (n+5) (.int B.wd)&& (zah (n+5) (.int B.gr)&& (zah (n+5) (.tup (B.rows.map .tup))&& (zah (n+5) (.tup B.fd)&& (zah (n+5) (.tup B.dr)&&true)))))=true
 rw[zb3,zb3,zb3,h1,h2,h3]
 rfl
theorem zop{B:Bd}(b:B.Ok):zah 24 B.w=true:=zgy b 18
noncomputable def stepP(w:W)(hd:Int)(ls:List Int):Option (Int×List Int×List Int):=match w with
 |.tup [.int g,.int s]=>some (if ls.getD g.toNat 0=s then -1 else 1,[g],ls.set g.toNat (1-ls.getD g.toNat 0))
 |.str x=>if x==sS then none else if x==sX then some (hd,[],ls)else if x==sDot then some (0,[],ls)else some (if x==sLt then -1 else 1,[],ls)
 |_=>none
noncomputable def colAt(r:List W)(c:Int):W:=(r[c.toNat]?).getD .non
structure Fa where
 cs:List Int
 ts:List Int
 ls:List Int
 st:Bool
noncomputable def fallP:List (List W)->Int->Int->List Int->Fa
 |[],_,_,ls=>⟨[],[],ls,false⟩
 |r::rs,c,hd,ls=>match stepP (colAt r c) hd ls with
  |none=>⟨[],[],ls,true⟩
  |some (d,t,l)=>⟨(c+d):: (fallP rs (c+d) d l).cs,t++(fallP rs (c+d) d l).ts,(fallP rs (c+d) d l).ls,(fallP rs (c+d) d l).st⟩
noncomputable def lastC:Int->List Int->Int
 |c,[]=>c
 |_,x::r=>lastC x r
noncomputable def Bits(ls:List Int):Prop:=∀x∈ls,x=0\/x=1
theorem zgz{w:W}{c wd g:Int}(h:zaz w c wd g=true):(w=.str sX/\0<c/\c<wd-1)\/(w=.str sLt/\0<c)\/(w=.str sGt/\c<wd-1)\/w=.str sDot\/w=.str sS\/∃a b:Nat,w=.tup [.int a,.int b]/\(a:Int)<g/\b<2/\0<c/\c<wd-1:=by
 unfold zaz at h
 split at h
 .rename_i q
  rw[vab,vap,vap]at h
  rw[vcp]at q
  rcases q with q|q
  .exact .inl ⟨ze2 q,h⟩
  .obtain⟨a,b,rfl,h1,h2,h3,h4⟩:=zhq q
   obtain⟨a,rfl⟩:=vbl h1
   obtain⟨b,rfl⟩:=vbl h3
   exact .inr (.inr (.inr (.inr (.inr ⟨a,b,rfl,h2,by lia,h⟩))))
 .split at h
  .rename_i q;exact .inr (.inl ⟨ze2 q,by simpa using h⟩)
  .split at h
   .rename_i q;exact .inr (.inr (.inl ⟨ze2 q,by simpa using h⟩))
   .rw[vcp]at h
    rcases h with q|q
    .exact .inr (.inr (.inr (.inl (ze2 q))))
    .exact .inr (.inr (.inr (.inr (.inl (ze2 q)))))
theorem zp1{hd:Int}{ls:List Int}:stepP (.str sX) hd ls=some (hd,[],ls):=rfl
theorem zmh{hd:Int}{ls:List Int}:stepP (.str sLt) hd ls=some (-1,[],ls):=rfl
theorem zmi{hd:Int}{ls:List Int}:stepP (.str sGt) hd ls=some (1,[],ls):=rfl
theorem zfw{hd:Int}{ls:List Int}:stepP (.str sDot) hd ls=some (0,[],ls):=rfl
theorem zp2{hd:Int}{ls:List Int}:stepP (.str sS) hd ls=none:=rfl
theorem zmj{hd:Int}{ls:List Int}{a b:Nat}:stepP (.tup [.int a,.int b]) hd ls=some (if ls.getD a 0=b then -1 else 1,[(a:Int)],ls.set a (1-ls.getD a 0)):=rfl
theorem zoq{ls:List Int}(h:Bits ls)(a:Nat):ls.getD a 0=0\/ls.getD a 0=1:=by
 rw[vb5]
 cases q:ls[a]? with
 |none=>exact .inl rfl
 |some x=>exact h x (vdz q)
theorem zmk{w:W}{c wd g hd:Int}{ls:List Int}(h:zaz w c wd g=true)(c0:0<=c)(c1:c<wd)(h1:-1<=hd)(h2:hd<=1)(b:Bits ls){d:Int}{t l:List Int}(e:stepP w hd ls=some (d,t,l)):-1<=d/\d<=1/\0<=c+d/\c+d<wd/\l.length=ls.length/\Bits l/\t.length<=1:=by
 rcases zgz h with⟨rfl,h3,h4⟩|⟨rfl,h3⟩|⟨rfl,h3⟩|rfl|rfl|⟨p,q,rfl,h3,h4,h5,h6⟩
 .rw[zp1]at e;cases e;exact⟨h1,h2,by lia,by lia,rfl,b,by simp⟩
 .rw[zmh]at e;cases e;exact⟨by lia,by lia,by lia,by lia,rfl,b,by simp⟩
 .rw[zmi]at e;cases e;exact⟨by lia,by lia,by lia,by lia,rfl,b,by simp⟩
 .rw[zfw]at e;cases e;exact⟨by lia,by lia,by lia,by lia,rfl,b,by simp⟩
 .rw[zp2]at e;cases e
 .rw[zmj]at e;cases e
  refine⟨by split<;>lia,by split<;>lia,by split<;>lia,by split<;>lia,by simp,λx hx=>?_,by simp⟩
  rcases vda hx with hx|rfl
  .exact b x hx
  .rcases zoq b p with q|q<;>rw[q]<;>lia
noncomputable def zi4(wd g:Int)(rs:List (List W)):Prop:=∀r∈rs,(r.length:Int)=wd/\rowOk wd g 0 r
theorem zi5{wd g:Int}:∀{ws:List W} {c:Int} (i:Nat) {w:W},rowOk wd g c ws->ws[i]?=some w->zaz w (c+i) wd g=true
 |[],_,_,_,_,e=>by simp at e
 |x::r,c,0,w,⟨h1,h2⟩,e=>by
  simp at e;subst e;simpa using h1
 |x::r,c,i+1,w,⟨h1,h2⟩,e=>by
  have:=zi5 i h2 (by simpa using e)
  rw[show c+ ((i+1:Nat):Int)=c+1+i by push_cast;lia]
  exact this
theorem zi6{wd g c:Int}{r:List W}(h:(r.length:Int)=wd/\rowOk wd g 0 r)(c0:0<=c)(c1:c<wd):r[c.toNat]?=some (colAt r c)/\zaz (colAt r c) c wd g=true:=by
 obtain⟨n,rfl⟩:=vbl c0
 have hn:n<r.length:=by lia
 have e:r[n]?=some r[n]:=va0 hn
 have e2:colAt r n=r[n]:=by
  unfold colAt
  rw[vde,e];rfl
 rw[e2,vde]
 refine⟨e,?_⟩
 have:=zi5 n h.2 e
 simpa using this
structure Fa.Ok(q:Fa)(wd:Int)(c:Int)(m n:Nat):Prop where
 l1:q.ls.length=n
 l2:Bits q.ls
 c1:∀x∈q.cs,0<=x/\x<wd
 c2:q.cs.length<=m
 c3:q.st=false->q.cs.length=m
 c5:q.st=true->q.cs.length<m
 c4:0<=lastC c q.cs/\lastC c q.cs<wd
 t1:q.ts.length<=m
theorem zml{wd g:Int}:∀(rs:List (List W)) (c hd:Int) (ls:List Int),zi4 wd g rs->0<=c->c<wd->-1<=hd->hd<=1->Bits ls->(fallP rs c hd ls).Ok wd c rs.length ls.length
 |[],c,hd,ls,_,c0,c1,_,_,b=>⟨rfl,b,by simp[fallP],by simp[fallP],by simp[fallP],by simp[fallP],⟨c0,c1⟩,by simp[fallP]⟩
 |r::rs,c,hd,ls,ok,c0,c1,h1,h2,b=>by
  obtain⟨_,hm⟩:=zi6 (ok r vak) c0 c1
  unfold fallP
  cases e:stepP (colAt r c) hd ls with
  |none=>exact⟨rfl,b,by simp,by simp,by simp,by simp,⟨c0,c1⟩,by simp⟩
  |some q=>
   obtain⟨d,t,l⟩:=q
   obtain⟨a1,a2,a3,a4,a5,a6,a7⟩:=zmk hm c0 c1 h1 h2 b e
   have ih:=zml rs (c+d) d l (λr hr=>ok r (vaf _ hr)) a3 a4 a1 a2 a6
   refine⟨ih.l1.trans a5,ih.l2,λx hx=>?_,?_,λh=>?_,λh=>?_,ih.c4,?_⟩
   .rcases va3.mp hx with rfl|hx
    .exact⟨a3,a4⟩
    .exact ih.c1 x hx
   .simp only[vai];have:=ih.c2;lia
   .simp only[vai];have:=ih.c3 h;lia
   .simp only[vai];have:=ih.c5 h;lia
   .simp only[vai,vaj];have:=ih.t1;lia
theorem zg0{r:List W}{rs:List (List W)}{c hd:Int}{ls:List Int}(e:stepP (colAt r c) hd ls=none):fallP (r::rs) c hd ls=⟨[],[],ls,true⟩:=by
 unfold fallP
 rw[e]
theorem zb5{r:List W}{rs:List (List W)}{c hd d:Int}{ls t l:List Int}(e:stepP (colAt r c) hd ls=some (d,t,l)):fallP (r::rs) c hd ls=⟨(c+d):: (fallP rs (c+d) d l).cs,t++(fallP rs (c+d) d l).ts,(fallP rs (c+d) d l).ls,(fallP rs (c+d) d l).st⟩:=by
 rw[fallP,e]
noncomputable def st3(h:VH)(gs:List VO)(c t l:List W):VH:=⟨h.n+3+gs.length,h.n,gs++(.lst l :: .lst t :: .lst c::h.os)⟩
theorem st_c{h:VH}{gs:List VO}{c t l:List W}:(st3 h gs c t l).get h.n=some (.lst c):=by
 unfold st3 VH.get
 rw[if_pos (zaj.mpr (by show h.n<h.n+3+gs.length;lia))]
 show(gs++(.lst l :: .lst t :: .lst c::h.os))[h.n+3+gs.length-1-h.n]?=_
 rw[vay (by lia),show h.n+3+gs.length-1-h.n-gs.length=2 by lia]
 rfl
theorem st_t{h:VH}{gs:List VO}{c t l:List W}:(st3 h gs c t l).get (h.n+1)=some (.lst t):=by
 unfold st3 VH.get
 rw[if_pos (zaj.mpr (by show h.n+1<h.n+3+gs.length;lia))]
 show(gs++(.lst l :: .lst t :: .lst c::h.os))[h.n+3+gs.length-1- (h.n+1)]?=_
 rw[vay (by lia),show h.n+3+gs.length-1- (h.n+1)-gs.length=1 by lia]
 rfl
theorem st_l{h:VH}{gs:List VO}{c t l:List W}:(st3 h gs c t l).get (h.n+2)=some (.lst l):=by
 unfold st3 VH.get
 rw[if_pos (zaj.mpr (by show h.n+2<h.n+3+gs.length;lia))]
 show(gs++(.lst l :: .lst t :: .lst c::h.os))[h.n+3+gs.length-1- (h.n+2)]?=_
 rw[vay (by lia),show h.n+3+gs.length-1- (h.n+2)-gs.length=0 by lia]
 rfl
theorem zi7{a b:Nat}(h:b<=a):Nat.blt a b=false:=by
 cases q:Nat.blt a b with
 |false=>rfl
 |true=>have:=zaj.mp q;lia
theorem zsc{h:VH}{gs:List VO}{c t l c':List W}:(st3 h gs c t l).set h.n (.lst c')=st3 h gs c' t l:=by
 unfold st3 VH.set
 simp only[zi7 (vaa h.n)]
 rw[List.set_append_right _ _ (by lia),show h.n+3+gs.length-1-h.n-gs.length=2 by lia]
 rfl
theorem zsd{h:VH}{gs:List VO}{c t l t':List W}:(st3 h gs c t l).set (h.n+1) (.lst t')=st3 h gs c t' l:=by
 unfold st3 VH.set
 simp only[zi7 (vdk h.n)]
 rw[List.set_append_right _ _ (by lia),show h.n+3+gs.length-1- (h.n+1)-gs.length=1 by lia]
 rfl
theorem zse{h:VH}{gs:List VO}{c t l l':List W}:(st3 h gs c t l).set (h.n+2) (.lst l')=st3 h gs c t l':=by
 unfold st3 VH.set
 simp only[zi7 (show h.n<=h.n+2 by lia)]
 rw[List.set_append_right _ _ (by lia),show h.n+3+gs.length-1- (h.n+2)-gs.length=0 by lia]
 rfl
theorem zmm{h:VH}{gs:List VO}{c t l:List W}{o:VO}:(st3 h gs c t l).new o=st3 h (o::gs) c t l:=by
 unfold st3 VH.new
 simp only[vai,vcv]
 rw[show h.n+3+gs.length+1=h.n+3+ (gs.length+1) by lia]
noncomputable def fn17:Fn:=⟨2,2,(.seq (.ret (.call 7 (.cons (.var 0) (.cons (.var 1) (.cons (.var 1) (.cons (.cst (.int (0))) (.cons (.cst (.int (1))) .nil))))))) .skip)⟩
noncomputable def fn22:Fn:=⟨2,2,(.seq (.expr (.call 14 (.cons (.var 0) .nil))) (.seq (.ret (.call 17 (.cons (.var 1) (.cons (.idx (.var 0) (.cst (.int (1)))) .nil)))) .skip))⟩
noncomputable def zb6:E:=(.cmp .lt (.var 3) (.var 0))
noncomputable def zfx:S:=(.seq (.aug 2 .add (.cst (.int (1)))) (.seq (.aug 3 .mul (.cst (.int (2)))) .skip))
noncomputable def fn32:Fn:=⟨2,4,(.seq (.ite (.or (.not (.tru (.call 1 (.cons (.var 0) (.cons (.cst (.int (1))) (.cons (.cst (.int (1000000000))) .nil)))))) (.not (.tru (.call 1 (.cons (.var 1) (.cons (.cst (.int (1))) (.cons (.cst (.int (4))) .nil))))))) (.seq .no .skip) .skip) (.seq (.set 2 (.cst (.int (0)))) (.seq (.set 3 (.var 1)) (.seq (.whl zb6 zfx) (.seq (.ret (.var 2)) .skip)))))⟩
noncomputable def zfy:E:=(.mt .get (.var 1) (.cons (.var 0) (.cons (.cst (.str (vgb "."))) .nil)))
noncomputable def fn33:Fn:=⟨2,2,(.seq (.ret (.bi .tuple (.cons (.lc .rng1 (.cons (.var 0) .nil) (.one 0) 1 [1] (.cst (.bl true)) zfy) .nil))) .skip)⟩
noncomputable def fn36:Fn:=⟨2,2,(.seq (.ret (.lst (.cons (.call 33 (.cons (.var 0) (.cons (.var 1) .nil))) (.cons (.call 33 (.cons (.var 0) (.cons (.dc .keys (.bi .frz (.cons (.var 1) .nil)) (.one 0) 1 [] (.cst (.bl true)) (.op .add (.var 0) (.cst (.int (1)))) (.cst (.str (vgb "<")))) .nil))) .nil)))) .skip)⟩
noncomputable def zdg:S:=(.seq (.set 8 (.idx (.var 7) (.idx (.var 4) (.neg (.cst (.int (1))))))) (.seq (.ite (.cmp .eq (.var 8) (.cst (.str (vgb "s")))) (.seq (.ret (.lst (.cons (.bi .tuple (.cons (.var 4) .nil)) (.cons (.bi .tuple (.cons (.var 5) .nil)) (.cons (.bi .tuple (.cons (.var 1) .nil)) (.cons (.cst (.bl true)) .nil)))))) .skip) .skip) (.seq (.ite (.or (.cmp .eq (.var 8) (.cst (.str (vgb ".")))) (.or (.cmp .eq (.var 8) (.cst (.str (vgb "<")))) (.cmp .eq (.var 8) (.cst (.str (vgb ">")))))) (.seq (.set 6 (.idx (.dsp (.cons (.cst (.str (vgb "."))) (.cons (.cst (.int (0))) (.cons (.cst (.str (vgb "<"))) (.cons (.neg (.cst (.int (1)))) (.cons (.cst (.str (vgb ">"))) (.cons (.cst (.int (1))) .nil))))))) (.var 8))) .skip) (.seq (.ite (.cmp .ne (.var 8) (.cst (.str (vgb "x")))) (.seq (.set 6 (.op .sub (.cst (.int (1))) (.op .mul (.cst (.int (2))) (.bi .int (.cons (.cmp .eq (.idx (.var 1) (.idx (.var 8) (.cst (.int (0))))) (.idx (.var 8) (.cst (.int (1))))) .nil))))) (.seq (.expr (.mt .append (.var 5) (.cons (.idx (.var 8) (.cst (.int (0)))) .nil))) (.seq (.put (.var 1) (.idx (.var 8) (.cst (.int (0)))) (.op .sub (.cst (.int (1))) (.idx (.var 1) (.idx (.var 8) (.cst (.int (0))))))) .skip))) .skip) .skip)) (.seq (.expr (.mt .append (.var 4) (.cons (.op .add (.idx (.var 4) (.neg (.cst (.int (1))))) (.var 6)) .nil))) .skip))))
noncomputable def fn38:Fn:=⟨3,9,(.seq (.set 3 (.idx (.idx (.var 0) (.cst (.int (3)))) (.var 2))) (.seq (.set 4 (.lst (.cons (.var 3) .nil))) (.seq (.set 5 (.lst .nil)) (.seq (.set 1 (.bi .list (.cons (.var 1) .nil))) (.seq (.set 6 (.cst (.int (0)))) (.seq (.«for» .seq (.idx (.var 0) (.cst (.int (2)))) (.one 7) zdg) (.seq (.ret (.lst (.cons (.bi .tuple (.cons (.var 4) .nil)) (.cons (.bi .tuple (.cons (.var 5) .nil)) (.cons (.bi .tuple (.cons (.var 1) .nil)) (.cons (.cst (.bl false)) .nil)))))) .skip)))))))⟩
noncomputable def fn39:Fn:=⟨2,2,(.seq (.ret (.and (.isi .int (.var 0)) (.and (.not (.isi .bool (.var 0))) (.cmp .eq (.var 0) (.var 1))))) .skip)⟩
noncomputable def zhr:S:=(.seq (.expr (.mt .append (.var 2) (.cons (.op .mod (.var 0) (.cst (.int (2)))) .nil))) (.seq (.aug 0 .fdiv (.cst (.int (2)))) .skip))
noncomputable def fn41:Fn:=⟨2,4,(.seq (.set 2 (.lst .nil)) (.seq (.«for» .rng1 (.cons (.var 1) .nil) (.one 3) zhr) (.seq (.ret (.bi .tuple (.cons (.var 2) .nil))) .skip)))⟩
theorem eqS{h:VH}{x y:Str}(hx:PyData.strOk x=true)(hy:PyData.strOk y=true):eqW h (.str x) (.str y)=some (x==y):=by
 rw[zcn (x:=y) (by exact hx) hy];rfl
@[simp] theorem eq_X_X {h:VH}:eqW h (.str sX) (.str (vgb "x"))=some true:=(eqS (by decide +kernel) (by decide +kernel)).trans (by decide +kernel)
@[simp] theorem eq_X_Lt {h:VH}:eqW h (.str sX) (.str (vgb "<"))=some false:=(eqS (by decide +kernel) (by decide +kernel)).trans (by decide +kernel)
@[simp] theorem eq_X_Gt {h:VH}:eqW h (.str sX) (.str (vgb ">"))=some false:=(eqS (by decide +kernel) (by decide +kernel)).trans (by decide +kernel)
@[simp] theorem eq_X_Dot {h:VH}:eqW h (.str sX) (.str (vgb "."))=some false:=(eqS (by decide +kernel) (by decide +kernel)).trans (by decide +kernel)
@[simp] theorem eq_X_S {h:VH}:eqW h (.str sX) (.str (vgb "s"))=some false:=(eqS (by decide +kernel) (by decide +kernel)).trans (by decide +kernel)
@[simp] theorem eq_Lt_X {h:VH}:eqW h (.str sLt) (.str (vgb "x"))=some false:=(eqS (by decide +kernel) (by decide +kernel)).trans (by decide +kernel)
@[simp] theorem eq_Lt_Lt {h:VH}:eqW h (.str sLt) (.str (vgb "<"))=some true:=(eqS (by decide +kernel) (by decide +kernel)).trans (by decide +kernel)
@[simp] theorem eq_Lt_Gt {h:VH}:eqW h (.str sLt) (.str (vgb ">"))=some false:=(eqS (by decide +kernel) (by decide +kernel)).trans (by decide +kernel)
@[simp] theorem eq_Lt_Dot {h:VH}:eqW h (.str sLt) (.str (vgb "."))=some false:=(eqS (by decide +kernel) (by decide +kernel)).trans (by decide +kernel)
@[simp] theorem eq_Lt_S {h:VH}:eqW h (.str sLt) (.str (vgb "s"))=some false:=(eqS (by decide +kernel) (by decide +kernel)).trans (by decide +kernel)
@[simp] theorem eq_Gt_X {h:VH}:eqW h (.str sGt) (.str (vgb "x"))=some false:=(eqS (by decide +kernel) (by decide +kernel)).trans (by decide +kernel)
@[simp] theorem eq_Gt_Lt {h:VH}:eqW h (.str sGt) (.str (vgb "<"))=some false:=(eqS (by decide +kernel) (by decide +kernel)).trans (by decide +kernel)
@[simp] theorem eq_Gt_Gt {h:VH}:eqW h (.str sGt) (.str (vgb ">"))=some true:=(eqS (by decide +kernel) (by decide +kernel)).trans (by decide +kernel)
@[simp] theorem eq_Gt_Dot {h:VH}:eqW h (.str sGt) (.str (vgb "."))=some false:=(eqS (by decide +kernel) (by decide +kernel)).trans (by decide +kernel)
@[simp] theorem eq_Gt_S {h:VH}:eqW h (.str sGt) (.str (vgb "s"))=some false:=(eqS (by decide +kernel) (by decide +kernel)).trans (by decide +kernel)
@[simp] theorem eq_Dot_X {h:VH}:eqW h (.str sDot) (.str (vgb "x"))=some false:=(eqS (by decide +kernel) (by decide +kernel)).trans (by decide +kernel)
@[simp] theorem eq_Dot_Lt {h:VH}:eqW h (.str sDot) (.str (vgb "<"))=some false:=(eqS (by decide +kernel) (by decide +kernel)).trans (by decide +kernel)
@[simp] theorem eq_Dot_Gt {h:VH}:eqW h (.str sDot) (.str (vgb ">"))=some false:=(eqS (by decide +kernel) (by decide +kernel)).trans (by decide +kernel)
@[simp] theorem eq_Dot_Dot {h:VH}:eqW h (.str sDot) (.str (vgb "."))=some true:=(eqS (by decide +kernel) (by decide +kernel)).trans (by decide +kernel)
@[simp] theorem eq_Dot_S {h:VH}:eqW h (.str sDot) (.str (vgb "s"))=some false:=(eqS (by decide +kernel) (by decide +kernel)).trans (by decide +kernel)
@[simp] theorem eq_S_X {h:VH}:eqW h (.str sS) (.str (vgb "x"))=some false:=(eqS (by decide +kernel) (by decide +kernel)).trans (by decide +kernel)
@[simp] theorem eq_S_Lt {h:VH}:eqW h (.str sS) (.str (vgb "<"))=some false:=(eqS (by decide +kernel) (by decide +kernel)).trans (by decide +kernel)
@[simp] theorem eq_S_Gt {h:VH}:eqW h (.str sS) (.str (vgb ">"))=some false:=(eqS (by decide +kernel) (by decide +kernel)).trans (by decide +kernel)
@[simp] theorem eq_S_Dot {h:VH}:eqW h (.str sS) (.str (vgb "."))=some false:=(eqS (by decide +kernel) (by decide +kernel)).trans (by decide +kernel)
@[simp] theorem eq_S_S {h:VH}:eqW h (.str sS) (.str (vgb "s"))=some true:=(eqS (by decide +kernel) (by decide +kernel)).trans (by decide +kernel)
theorem zwr{ls:List Int}{a:Nat}(h:a<ls.length):atI (ls.map W.int) (a:Int)=some (.int (ls.getD a 0)):=
 zbo (by rw[va5,va0 h,vb5,va0 h];rfl)
theorem zmn{n a:Nat}(h:a<n):ixN n (a:Int)=some a:=by
 unfold ixN
 rw[if_pos (by lia),if_pos (by lia)];simp
theorem zws{wd g c:Int}{r:List W}(ok:(r.length:Int)=wd/\rowOk wd g 0 r)(c0:0<=c)(c1:c<wd):atI r c=some (colAt r c):=by
 have:=(zi6 ok c0 c1).1
 obtain⟨n,rfl⟩:=vbl c0
 rw[vde]at this
 exact zbo this
noncomputable def iW(ls:List Int):W:=.tup (ls.map .int)
theorem zhs{cl:Call}{i l:Nat}{ρ:En}{h:VH}{ws:List W}(hρ:ρ[i]?=some (some (.ref l)))(g:h.get l=some (.lst ws)):ev cl (.bi .tuple (.cons (.var i) .nil)) ρ h=.ok (.tup ws) h:=by
 simp only[ev,hρ,vb2,ofsome,bindok,biW,zd9,seqW,g,vbt]
theorem zi8:∀(cs:List Int) (c:Int),(c::cs)[cs.length]?=some (lastC c cs)
 |[],c=>rfl
 |x::r,c=>by
  rw[vai,vbc]
  exact zi8 r x
theorem zsf{cs:List Int}{c:Int}:atI ((c::cs).map W.int) (-1)=some (.int (lastC c cs)):=by
 have e:ixN ((c::cs).map W.int).length (-1)=some cs.length:=by
  unfold ixN
  rw[if_neg (by decide),vah,vai,if_pos (by lia)]
  congr 1
  lia
 unfold atI
 rw[e,Option.bind_some,va5,zi8]
 rfl
theorem zmo{ls:List Int}{g:Int}(hl:(ls.length:Int)=g)(b:Bits ls):zcy (iW ls) g g 0 1=true:=by
 unfold iW zcy zau
 simp only[vah,vab,vap,vax]
 refine⟨⟨by lia,by lia⟩,λw hw=>?_⟩
 obtain⟨x,hx,rfl⟩:=vct.mp hw
 rcases b x hx with rfl|rfl<;>rfl
noncomputable def dirD:List (Key×W):=[(.inr sDot,.int 0),(.inr sLt,.int (-1)),(.inr sGt,.int 1)]
theorem zmp:zie [] [(.inr sDot,.int 0),(.inr sLt,.int (-1)),(.inr sGt,.int 1)]=dirD:=by rfl
theorem zsg:lookK dirD (.inr sDot)=some (.int 0):=by rfl
theorem zwt:lookK dirD (.inr sLt)=some (.int (-1)):=by rfl
theorem zwu:lookK dirD (.inr sGt)=some (.int 1):=by rfl
noncomputable abbrev dspE:E:=.dsp (.cons (.cst (.str (vgb "."))) (.cons (.cst (.int (0))) (.cons (.cst (.str (vgb "<"))) (.cons (.neg (.cst (.int (1)))) (.cons (.cst (.str (vgb ">"))) (.cons (.cst (.int (1))) .nil))))))
theorem zwv{cl:Call}{ρ:En}{h:VH}:ev cl dspE ρ h=.ok (.ref h.n) (h.new (.dk dirD)):=by
 simp only[dspE,ev,bindok,zdj,keyW]
 rw[if_pos (by decide)]
 show Res.ok _ (h.new (.dk (zie [] _)))=_
 rw[zmp]
theorem zmq{h:VH}{o:VO}:(h.new o).get h.n=some o:=by
 unfold VH.get VH.new
 rw[if_pos (zaj.mpr (by show h.n<h.n+1;lia))]
 show(o::h.os)[h.n+1-1-h.n]?=_
 rw[show h.n+1-1-h.n=0 by lia]
 rfl
theorem zww{cl:Call}{ρ:En}{h:VH}{x:Str}{d:Int}(hρ:ρ[8]?=some (some (.str x)))(e:lookK dirD (.inr x)=some (.int d)):ev cl (.idx dspE (.var 8)) ρ h=.ok (.int d) (h.new (.dk dirD)):=by
 rw[ev,zwv,bindok,ev,hρ]
 show(Res.of (idxW (h.new (.dk dirD)) (.ref h.n) (.str x)) (h.new (.dk dirD)))=_
 unfold idxW
 simp only[zmq,e]
 rfl
theorem zbm{h:VH}{p q:Int}{x:Str}(hx:PyData.strOk x=true):eqW h (.tup [.int p,.int q]) (.str x)=some false:=by
 rw[zcn (x:=x) rfl hx];rfl
noncomputable def endE(st:Bool):E:=.lst (.cons (.bi .tuple (.cons (.var 4) .nil)) (.cons (.bi .tuple (.cons (.var 5) .nil)) (.cons (.bi .tuple (.cons (.var 1) .nil)) (.cons (.cst (.bl st)) .nil))))
theorem zp3{cl:Call}{st:Bool}{ρ:En}{h0:VH}{gs:List VO}{cs ts ls:List W}(r4:ρ[4]?=some (some (.ref h0.n)))(r5:ρ[5]?=some (some (.ref (h0.n+1))))(r1:ρ[1]?=some (some (.ref (h0.n+2)))) :
 ev cl (endE st) ρ (st3 h0 gs cs ts ls)=.ok (.ref (h0.n+3+gs.length)) (st3 h0 (.lst [.tup cs,.tup ts,.tup ls,.bl st]::gs) cs ts ls):=by
 unfold endE
 rw[ev,ev,zhs r4 st_c,bindok,ev,zhs r5 st_t,bindok,ev,zhs r1 st_l,bindok,ev,ev,bindok,ev]
 simp only[bindok]
 rw[if_pos (by rfl),zmm]
 rfl
theorem zg1{cl:Call}{h0:VH}{gs:List VO}{cs ts ls:List W}{b l f:W}{a r:W}{w:W}{c d:Int}(hc:atI cs (-1)=some (.int c))(hl:cs.length<=1000000) :
 exs cl (.seq (.expr (.mt .append (.var 4) (.cons (.op .add (.idx (.var 4) (.neg (.cst (.int (1))))) (.var 6)) .nil))) .skip) [some b,some l,some f,some a,some (.ref h0.n),some (.ref (h0.n+1)),some (.int d),some r,some w] (st3 h0 gs cs ts ls)=.ok (.nx [some b,some l,some f,some a,some (.ref h0.n),some (.ref (h0.n+1)),some (.int d),some r,some w]) (st3 h0 gs (cs++[.int (c+d)]) ts ls):=by
 have g:=st_c (h:=h0) (gs:=gs) (c:=cs) (t:=ts) (l:=ls)
 have ea:=zgw (cl:=cl) (i:=4) (l:=h0.n) (x:=.op .add (.idx (.var 4) (.neg (.cst (.int (1))))) (.var 6)) (ρ:=[some b,some l,some f,some a,some (.ref h0.n),some (.ref (h0.n+1)),some (.int d),some r,some w]) (h:=st3 h0 gs cs ts ls) (h1:=st3 h0 gs cs ts ls) (w:=.int (c+d)) (acc:=cs) (acc0:=cs) rfl g (by simp only[ev,vb2,vbc,vbm,ofsome,bindok,idxW,g,hc,opW,opI,vbt]) g hl
 rw[zsc]at ea
 simp only[exs,ea,bindok]
noncomputable abbrev sE:E:=.cst (.str (vgb "s"))
noncomputable def midS:S:=(.ite (.or (.cmp .eq (.var 8) (.cst (.str (vgb ".")))) (.or (.cmp .eq (.var 8) (.cst (.str (vgb "<")))) (.cmp .eq (.var 8) (.cst (.str (vgb ">")))))) (.seq (.set 6 (.idx dspE (.var 8))) .skip) (.seq (.ite (.cmp .ne (.var 8) (.cst (.str (vgb "x")))) (.seq (.set 6 (.op .sub (.cst (.int (1))) (.op .mul (.cst (.int (2))) (.bi .int (.cons (.cmp .eq (.idx (.var 1) (.idx (.var 8) (.cst (.int (0))))) (.idx (.var 8) (.cst (.int (1))))) .nil))))) (.seq (.expr (.mt .append (.var 5) (.cons (.idx (.var 8) (.cst (.int (0)))) .nil))) (.seq (.put (.var 1) (.idx (.var 8) (.cst (.int (0)))) (.op .sub (.cst (.int (1))) (.idx (.var 1) (.idx (.var 8) (.cst (.int (0))))))) .skip))) .skip) .skip))
theorem zht{cl:Call}{h0:VH}{gs:List VO}{cs ts ls:List W}{b l f a r:W}{hd d:Int}{x:Str}(e1:(.str x:W)=.str sDot\/(.str x:W)=.str sLt\/(.str x:W)=.str sGt)(e:lookK dirD (.inr x)=some (.int d)) :
 exs cl midS [some b,some l,some f,some a,some (.ref h0.n),some (.ref (h0.n+1)),some (.int hd),some r,some (.str x)] (st3 h0 gs cs ts ls)=.ok (.nx [some b,some l,some f,some a,some (.ref h0.n),some (.ref (h0.n+1)),some (.int d),some r,some (.str x)]) (st3 h0 (.dk dirD::gs) cs ts ls):=by
 have ed:=zww (cl:=cl) (ρ:=[some b,some l,some f,some a,some (.ref h0.n),some (.ref (h0.n+1)),some (.int hd),some r,some (.str x)]) (h:=st3 h0 gs cs ts ls) rfl e
 rw[zmm]at ed
 have ec:ev cl (.or (.cmp .eq (.var 8) (.cst (.str (vgb ".")))) (.or (.cmp .eq (.var 8) (.cst (.str (vgb "<")))) (.cmp .eq (.var 8) (.cst (.str (vgb ">")))))) [some b,some l,some f,some a,some (.ref h0.n),some (.ref (h0.n+1)),some (.int hd),some r,some (.str x)] (st3 h0 gs cs ts ls)=.ok (.bl true) (st3 h0 gs cs ts ls):=by
  rcases e1 with e1|e1|e1<;>rw[e1]<;>simp[ev,cmpW]
 unfold midS
 rw[exs,ec,bindok]
 simp only[exs,ed,bindok,vc8,vc9]
theorem mid_x{cl:Call}{h0:VH}{gs:List VO}{cs ts ls:List W}{b l f a r:W}{hd:Int} :
 exs cl midS [some b,some l,some f,some a,some (.ref h0.n),some (.ref (h0.n+1)),some (.int hd),some r,some (.str sX)] (st3 h0 gs cs ts ls)=.ok (.nx [some b,some l,some f,some a,some (.ref h0.n),some (.ref (h0.n+1)),some (.int hd),some r,some (.str sX)]) (st3 h0 gs cs ts ls):=by
 simp[midS,exs,ev,cmpW]
theorem zwx{cl:Call}{h0:VH}{gs:List VO}{cs ts:List W}{ls:List Int}{b f a r:W}{hd:Int}{p q:Nat}(hp:p<ls.length)(ht:ts.length<=1000000) :
 exs cl midS [some b,some (.ref (h0.n+2)),some f,some a,some (.ref h0.n),some (.ref (h0.n+1)),some (.int hd),some r,some (.tup [.int p,.int q])] (st3 h0 gs cs ts (ls.map .int))=.ok (.nx [some b,some (.ref (h0.n+2)),some f,some a,some (.ref h0.n),some (.ref (h0.n+1)),some (.int (if ls.getD p 0=q then -1 else 1)),some r,some (.tup [.int p,.int q])]) (st3 h0 gs cs (ts++[.int p]) ((ls.set p (1-ls.getD p 0)).map .int)):=by
 have e1:=zwr hp
 have e2:ixN (ls.map W.int).length (p:Int)=some p:=zmn (by rw[vah];exact hp)
 have i0:atI [W.int p,.int q] 0=some (.int p):=rfl
 have i1:atI [W.int p,.int q] 1=some (.int q):=rfl
 have n1:∀h,eqW h (.tup [.int (p:Int),.int (q:Int)]) (.str (vgb "."))=some false:=λh=>zbm (by decide +kernel)
 have n2:∀h,eqW h (.tup [.int (p:Int),.int (q:Int)]) (.str (vgb "<"))=some false:=λh=>zbm (by decide +kernel)
 have n3:∀h,eqW h (.tup [.int (p:Int),.int (q:Int)]) (.str (vgb ">"))=some false:=λh=>zbm (by decide +kernel)
 have n4:∀h,eqW h (.tup [.int (p:Int),.int (q:Int)]) (.str (vgb "x"))=some false:=λh=>zbm (by decide +kernel)
 have g:=st_l (h:=h0) (gs:=gs) (c:=cs) (t:=ts) (l:=ls.map .int)
 have s1:exs cl (.set 6 (.op .sub (.cst (.int (1))) (.op .mul (.cst (.int (2))) (.bi .int (.cons (.cmp .eq (.idx (.var 1) (.idx (.var 8) (.cst (.int (0))))) (.idx (.var 8) (.cst (.int (1))))) .nil))))) [some b,some (.ref (h0.n+2)),some f,some a,some (.ref h0.n),some (.ref (h0.n+1)),some (.int hd),some r,some (.tup [.int p,.int q])] (st3 h0 gs cs ts (ls.map .int))=.ok (.nx [some b,some (.ref (h0.n+2)),some f,some a,some (.ref h0.n),some (.ref (h0.n+1)),some (.int (if ls.getD p 0=q then -1 else 1)),some r,some (.tup [.int p,.int q])]) (st3 h0 gs cs ts (ls.map .int)):=by
  generalize ls.getD p 0=y at e1 ⊢
  have sm:za4 2=true:=by decide
  by_cases z:y=(q:Int)
  .simp only[exs,ev,vb2,vbc,vbm,ofsome,bindok,idxW,i0,i1,g,e1,cmpW,zb4,z,vey,vbe,vbt,biW,intW,opW,opI,sm,Bool.true_or,vc8,vc9]
   rfl
  .simp only[exs,ev,vb2,vbc,vbm,ofsome,bindok,idxW,i0,i1,g,e1,cmpW,zb4,z,decide_false,vbi,vbt,biW,intW,opW,opI,sm,Bool.true_or,vc8,vc9]
   rfl
 generalize hy:(if ls.getD p 0=(q:Int)then(-1:Int)else 1)=dd at s1 ⊢
 have ea:=zgw (cl:=cl) (i:=5) (l:=h0.n+1) (x:=.idx (.var 8) (.cst (.int 0))) (ρ:=[some b,some (.ref (h0.n+2)),some f,some a,some (.ref h0.n),some (.ref (h0.n+1)),some (.int dd),some r,some (.tup [.int p,.int q])]) (h:=st3 h0 gs cs ts (ls.map .int)) (h1:=st3 h0 gs cs ts (ls.map .int)) (w:=.int p) (acc:=ts) (acc0:=ts) rfl st_t (by simp only[ev,vb2,vbc,vbm,ofsome,bindok,idxW,i0]) st_t ht
 rw[zsd]at ea
 have g2:=st_l (h:=h0) (gs:=gs) (c:=cs) (t:=ts++[.int p]) (l:=ls.map .int)
 have s3:exs cl (.put (.var 1) (.idx (.var 8) (.cst (.int (0)))) (.op .sub (.cst (.int (1))) (.idx (.var 1) (.idx (.var 8) (.cst (.int (0))))))) [some b,some (.ref (h0.n+2)),some f,some a,some (.ref h0.n),some (.ref (h0.n+1)),some (.int dd),some r,some (.tup [.int p,.int q])] (st3 h0 gs cs (ts++[.int p]) (ls.map .int))=.ok (.nx [some b,some (.ref (h0.n+2)),some f,some a,some (.ref h0.n),some (.ref (h0.n+1)),some (.int dd),some r,some (.tup [.int p,.int q])]) (st3 h0 gs cs (ts++[.int p]) ((ls.set p (1-ls.getD p 0)).map .int)):=by
  simp only[exs,ev,vb2,vbc,vbm,ofsome,bindok,idxW,i0,g2,e1,opW,opI,vbt,e2,zse,List.map_set]
 unfold midS
 have ec:ev cl (.or (.cmp .eq (.var 8) (.cst (.str (vgb ".")))) (.or (.cmp .eq (.var 8) (.cst (.str (vgb "<")))) (.cmp .eq (.var 8) (.cst (.str (vgb ">")))))) [some b,some (.ref (h0.n+2)),some f,some a,some (.ref h0.n),some (.ref (h0.n+1)),some (.int hd),some r,some (.tup [.int p,.int q])] (st3 h0 gs cs ts (ls.map .int))=.ok (.bl false) (st3 h0 gs cs ts (ls.map .int)):=by
  simp[ev,cmpW,n1,n2,n3]
 have ed:ev cl (.cmp .ne (.var 8) (.cst (.str (vgb "x")))) [some b,some (.ref (h0.n+2)),some f,some a,some (.ref h0.n),some (.ref (h0.n+1)),some (.int hd),some r,some (.tup [.int p,.int q])] (st3 h0 gs cs ts (ls.map .int))=.ok (.bl true) (st3 h0 gs cs ts (ls.map .int)):=by
  simp[ev,cmpW,n4]
 rw[exs,ec,bindok]
 simp only
 have s0:exs cl (.ite (.cmp .ne (.var 8) (.cst (.str (vgb "x")))) (.seq (.set 6 (.op .sub (.cst (.int (1))) (.op .mul (.cst (.int (2))) (.bi .int (.cons (.cmp .eq (.idx (.var 1) (.idx (.var 8) (.cst (.int (0))))) (.idx (.var 8) (.cst (.int (1))))) .nil))))) (.seq (.expr (.mt .append (.var 5) (.cons (.idx (.var 8) (.cst (.int (0)))) .nil))) (.seq (.put (.var 1) (.idx (.var 8) (.cst (.int (0)))) (.op .sub (.cst (.int (1))) (.idx (.var 1) (.idx (.var 8) (.cst (.int (0))))))) .skip))) .skip) [some b,some (.ref (h0.n+2)),some f,some a,some (.ref h0.n),some (.ref (h0.n+1)),some (.int hd),some r,some (.tup [.int p,.int q])] (st3 h0 gs cs ts (ls.map .int))=.ok (.nx [some b,some (.ref (h0.n+2)),some f,some a,some (.ref h0.n),some (.ref (h0.n+1)),some (.int dd),some r,some (.tup [.int p,.int q])]) (st3 h0 gs cs (ts++[.int p]) ((ls.set p (1-ls.getD p 0)).map .int)):=by
  rw[exs,ed,bindok]
  simp only
  rw[zab s1,zab (ρ':=[some b,some (.ref (h0.n+2)),some f,some a,some (.ref h0.n),some (.ref (h0.n+1)),some (.int dd),some r,some (.tup [.int p,.int q])]) (h':=st3 h0 gs cs (ts++[.int p]) (ls.map .int)) (by rw[exs,ea,bindok]),zab s3]
  rfl
 rw[zab s0]
 rfl
structure CoreL(F:Nat->Option Fn):Prop where
 f38:F 38=some fn38
theorem zj3:zdg=.seq (.set 8 (.idx (.var 7) (.idx (.var 4) (.neg (.cst (.int (1))))))) (.seq (.ite (.cmp .eq (.var 8) sE) (.seq (.ret (endE true)) .skip) .skip) (.seq midS (.seq (.expr (.mt .append (.var 4) (.cons (.op .add (.idx (.var 4) (.neg (.cst (.int (1))))) (.var 6)) .nil))) .skip))):=rfl
theorem zsh:fn38=⟨3,9,.seq (.set 3 (.idx (.idx (.var 0) (.cst (.int (3)))) (.var 2))) (.seq (.set 4 (.lst (.cons (.var 3) .nil))) (.seq (.set 5 (.lst .nil)) (.seq (.set 1 (.bi .list (.cons (.var 1) .nil))) (.seq (.set 6 (.cst (.int (0)))) (.seq (.«for» .seq (.idx (.var 0) (.cst (.int (2)))) (.one 7) zdg) (.seq (.ret (endE false)) .skip))))))⟩:=rfl
theorem zwy{cl:Call}{h0:VH}{gs:List VO}{b f a:W}{r:List W}{c wd hd:Int}{cs ts:List W}{ls:List Int}{y:Option W}(ok:(r.length:Int)=wd/\rowOk wd (ls.length:Int) 0 r)(c0:0<=c)(c1:c<wd)(hc:cs.length<=1000)(ht:ts.length<=1000)(hlast:atI cs (-1)=some (.int c)) :
 ∃gs',exs cl zdg [some b,some (.ref (h0.n+2)),some f,some a,some (.ref h0.n),some (.ref (h0.n+1)),some (.int hd),some (.tup r),y] (st3 h0 gs cs ts (ls.map .int))=match stepP (colAt r c) hd ls with
  |none=>.ok (.rt (.ref (h0.n+3+gs.length))) (st3 h0 (.lst [.tup cs,.tup ts,iW ls,.bl true]::gs) cs ts (ls.map .int))
  |some (d,t,l')=>.ok (.nx [some b,some (.ref (h0.n+2)),some f,some a,some (.ref h0.n),some (.ref (h0.n+1)),some (.int d),some (.tup r),some (colAt r c)]) (st3 h0 gs' (cs++[.int (c+d)]) (ts++t.map .int) (l'.map .int)):=by
 obtain⟨_,hm⟩:=zi6 ok c0 c1
 have e0:=zws ok c0 c1
 generalize colAt r c=w at hm e0 ⊢
 have g:=st_c (h:=h0) (gs:=gs) (c:=cs) (t:=ts) (l:=ls.map .int)
 have s1:exs cl (.set 8 (.idx (.var 7) (.idx (.var 4) (.neg (.cst (.int (1))))))) [some b,some (.ref (h0.n+2)),some f,some a,some (.ref h0.n),some (.ref (h0.n+1)),some (.int hd),some (.tup r),y] (st3 h0 gs cs ts (ls.map .int))=.ok (.nx [some b,some (.ref (h0.n+2)),some f,some a,some (.ref h0.n),some (.ref (h0.n+1)),some (.int hd),some (.tup r),some w]) (st3 h0 gs cs ts (ls.map .int)):=by
  simp only[exs,ev,vb2,vbc,vbm,ofsome,bindok,idxW,g,hlast,e0,vc8,vc9]
 have no:∀_:Unit,eqW (st3 h0 gs cs ts (ls.map .int)) w (.str sS)=some false->exs cl (.ite (.cmp .eq (.var 8) sE) (.seq (.ret (endE true)) .skip) .skip) [some b,some (.ref (h0.n+2)),some f,some a,some (.ref h0.n),some (.ref (h0.n+1)),some (.int hd),some (.tup r),some w] (st3 h0 gs cs ts (ls.map .int))=.ok (.nx [some b,some (.ref (h0.n+2)),some f,some a,some (.ref h0.n),some (.ref (h0.n+1)),some (.int hd),some (.tup r),some w]) (st3 h0 gs cs ts (ls.map .int)):=by
  intro _ e
  simp only[exs,ev,vb2,vbc,vbm,ofsome,bindok,cmpW,e,vbt]
 rw[zj3,zab s1]
 rcases zgz hm with⟨rfl,h3,h4⟩|⟨rfl,h3⟩|⟨rfl,h3⟩|rfl|rfl|⟨p,q,rfl,h3,h4,h5,h6⟩
 .refine⟨gs,?_⟩
  rw[zp1,zab (no () eq_X_S),zab mid_x,zg1 hlast (by lia)]
  simp
 .refine⟨.dk dirD::gs,?_⟩
  rw[zmh,zab (no () eq_Lt_S),zab (zht (.inr (.inl rfl)) zwt),zg1 hlast (by lia)]
  simp
 .refine⟨.dk dirD::gs,?_⟩
  rw[zmi,zab (no () eq_Gt_S),zab (zht (.inr (.inr rfl)) zwu),zg1 hlast (by lia)]
  simp
 .refine⟨.dk dirD::gs,?_⟩
  rw[zfw,zab (no () eq_Dot_S),zab (zht (.inl rfl) zsg),zg1 hlast (by lia)]
  simp
 .refine⟨gs,?_⟩
  rw[zp2]
  have ee:=zp3 (cl:=cl) (st:=true) (ρ:=[some b,some (.ref (h0.n+2)),some f,some a,some (.ref h0.n),some (.ref (h0.n+1)),some (.int hd),some (.tup r),some (.str sS)]) (h0:=h0) (gs:=gs) (cs:=cs) (ts:=ts) (ls:=ls.map .int) rfl rfl rfl
  refine zan ?_
  have ec:ev cl (.cmp .eq (.var 8) sE) [some b,some (.ref (h0.n+2)),some f,some a,some (.ref h0.n),some (.ref (h0.n+1)),some (.int hd),some (.tup r),some (.str sS)] (st3 h0 gs cs ts (ls.map .int))=.ok (.bl true) (st3 h0 gs cs ts (ls.map .int)):=by
   simp only[ev,vb2,vbc,vbm,ofsome,bindok,cmpW,eq_S_S,vbt]
  rw[exs,ec,bindok]
  simp only[exs,ee,bindok]
  rfl
 .refine⟨gs,?_⟩
  rw[zmj,zab (no () (zbm (by decide +kernel))),zab (zwx (by lia) (by lia)),zg1 hlast (by lia)]
  rfl
theorem zp4{cl:Call}{h0:VH}{b f a:W}{wd:Int}:∀(rs:List (List W)) (c hd:Int) (gs:List VO) (cs ts:List W) (ls:List Int) (x y:Option W),zi4 wd (ls.length:Int) rs->0<=c->c<wd->-1<=hd->hd<=1->Bits ls->cs.length+rs.length<=1000->ts.length+rs.length<=1000->atI cs (-1)=some (.int c)->
 ∃gs' hd' x' y',forL (tgW (.one 7)) (exs cl zdg) (rs.map .tup) [some b,some (.ref (h0.n+2)),some f,some a,some (.ref h0.n),some (.ref (h0.n+1)),some (.int hd),x,y] (st3 h0 gs cs ts (ls.map .int)) =
  if(fallP rs c hd ls).st then .ok (.rt (.ref (h0.n+3+gs'.length))) (st3 h0 (.lst [.tup (cs++(fallP rs c hd ls).cs.map .int),.tup (ts++(fallP rs c hd ls).ts.map .int),iW (fallP rs c hd ls).ls,.bl true]::gs') (cs++(fallP rs c hd ls).cs.map .int) (ts++(fallP rs c hd ls).ts.map .int) ((fallP rs c hd ls).ls.map .int))
  else .ok (.nx [some b,some (.ref (h0.n+2)),some f,some a,some (.ref h0.n),some (.ref (h0.n+1)),hd',x',y']) (st3 h0 gs' (cs++(fallP rs c hd ls).cs.map .int) (ts++(fallP rs c hd ls).ts.map .int) ((fallP rs c hd ls).ls.map .int))
 |[],c,hd,gs,cs,ts,ls,x,y,_,_,_,_,_,_,_,_,_=>⟨gs,some (.int hd),x,y,by simp[forL,fallP]⟩
 |r::rs,c,hd,gs,cs,ts,ls,x,y,ok,c0,c1,h1,h2,bi,hc,ht,hlast=>by
  have hc':cs.length+rs.length+1<=1000:=by rw[vai]at hc;lia
  have ht':ts.length+rs.length+1<=1000:=by rw[vai]at ht;lia
  obtain⟨gs1,eb⟩:=zwy (cl:=cl) (h0:=h0) (gs:=gs) (b:=b) (f:=f) (a:=a) (hd:=hd) (cs:=cs) (ts:=ts) (y:=y) (ok r vak) c0 c1 (by lia) (by lia) hlast
  obtain⟨_,hm⟩:=zi6 (ok r vak) c0 c1
  cases e:stepP (colAt r c) hd ls with
  |none=>
   rw[e]at eb
   rw[zg0 e]
   refine⟨gs,some (.int hd),x,y,?_⟩
   simp only[vaw,forL,tgW,vc8,vc9,eb,bindok,vd7,vbp,vbe]
  |some q=>
   obtain⟨d,t,l'⟩:=q
   rw[e]at eb
   obtain⟨a1,a2,a3,a4,a5,a6,a7⟩:=zmk hm c0 c1 h1 h2 bi e
   obtain⟨gs',hd',x',y',ih⟩:=zp4 (cl:=cl) (h0:=h0) (b:=b) (f:=f) (a:=a) rs (c+d) d gs1 (cs++[.int (c+d)]) (ts++t.map .int) l' (some (.tup r)) (some (colAt r c)) (λr hr=>by rw[a5];exact ok r (vaf _ hr)) a3 a4 a1 a2 a6 (by simp only[vaj,vc7];lia) (by simp only[vaj,vah];lia) (znh _ _)
   rw[zb5 e]
   refine⟨gs',hd',x',y',?_⟩
   simp only[vaw,forL,tgW,vc8,vc9,eb,bindok,ih,vca,va1,List.singleton_append]
theorem zwz{h:VH}{gs:List VO}{c t l:List W}{i:Nat}(hi:i<h.n):(st3 h gs c t l).get i=h.get i:=by
 unfold st3 VH.get
 rw[if_pos (zaj.mpr (by show i<h.n+3+gs.length;lia)),if_pos (zaj.mpr hi)]
 show(gs++(.lst l :: .lst t :: .lst c::h.os))[h.n+3+gs.length-1-i]?=_
 rw[vay (by lia),show h.n+3+gs.length-1-i-gs.length=(h.n-1-i)+3 by lia]
 rfl
theorem zw0{h:VH}{gs:List VO}{c t l:List W}{o:VO}:(st3 h (o::gs) c t l).get (h.n+3+gs.length)=some o:=by
 rw[<-zmm]
 exact zmq
section
variable{F:Nat->Option Fn}(C:CoreL F)
include C
theorem zor{k:Nat}{h:VH}{B:Bd}{ls:List Int}{f:Nat}{c:Int}(hlo:h.lo<=h.n)(hf:B.fd[f]?=some (.int c))(c0:0<=c)(c1:c<B.wd)(hr:zi4 B.wd (ls.length:Int) B.rows)(h60:B.rows.length<=60)(bi:Bits ls) :
 ∃i h',run F (k+1) 38 [B.w,iW ls,.int f] h=.ok (.ref i) h'/\h'.get i=some (.lst [iW (c:: (fallP B.rows c 0 ls).cs),iW (fallP B.rows c 0 ls).ts,iW (fallP B.rows c 0 ls).ls,.bl (fallP B.rows c 0 ls).st])/\Gw h h':=by
 rw[zal C.f38 rfl]
 have e1:atI B.fd (f:Int)=some (.int c):=zbo hf
 have i3:atI [W.int B.wd,.int B.gr,.tup (B.rows.map .tup),.tup B.fd,.tup B.dr] 3=some (.tup B.fd):=rfl
 have i2:atI [W.int B.wd,.int B.gr,.tup (B.rows.map .tup),.tup B.fd,.tup B.dr] 2=some (.tup (B.rows.map .tup)):=rfl
 have hz:(B.rows.map W.tup).length<1000000:=by rw[vah];lia
 obtain⟨gs,hd',x',y',el⟩:=zp4 (cl:=run F k) (h0:=h) (b:=B.w) (f:=.int f) (a:=.int c) B.rows c 0 [] [.int c] [] ls none none hr c0 c1 (by decide) (by decide) bi (by rw[vc7];lia) (by rw[vdr];lia) rfl
 have key:exs (run F k) fn38.body [some B.w,some (iW ls),some (.int f),none,none,none,none,none,none] ⟨h.n,h.n,h.os⟩=.ok (.rt (.ref (h.n+3+gs.length))) (st3 h (.lst [iW (c:: (fallP B.rows c 0 ls).cs),iW (fallP B.rows c 0 ls).ts,iW (fallP B.rows c 0 ls).ls,.bl (fallP B.rows c 0 ls).st]::gs) (([.int c]:List W)++(fallP B.rows c 0 ls).cs.map .int) (([]:List W)++(fallP B.rows c 0 ls).ts.map .int) ((fallP B.rows c 0 ls).ls.map .int)):=by
  rw[zsh]
  show exs (run F k) (.seq _ _) _ _=_
  rw[zab (ρ':=[some B.w,some (iW ls),some (.int f),some (.int c),none,none,none,none,none]) (h':=⟨h.n,h.n,h.os⟩) (by unfold Bd.w;simp[exs,ev,idxW,i3,e1])]
  rw[zab (ρ':=[some B.w,some (iW ls),some (.int f),some (.int c),some (.ref h.n),none,none,none,none]) (h':=VH.new ⟨h.n,h.n,h.os⟩ (.lst [.int c])) (by simp[exs,ev])]
  rw[zab (ρ':=[some B.w,some (iW ls),some (.int f),some (.int c),some (.ref h.n),some (.ref (h.n+1)),none,none,none]) (h':=VH.new (VH.new ⟨h.n,h.n,h.os⟩ (.lst [.int c])) (.lst [])) (by simp[exs,ev,VH.new])]
  rw[zab (ρ':=[some B.w,some (.ref (h.n+2)),some (.int f),some (.int c),some (.ref h.n),some (.ref (h.n+1)),none,none,none]) (h':=st3 h [] [.int c] [] (ls.map .int)) (by unfold iW;simp[exs,ev,VH.new,biW,listW,seqW,st3])]
  rw[zab (ρ':=[some B.w,some (.ref (h.n+2)),some (.int f),some (.int c),some (.ref h.n),some (.ref (h.n+1)),some (.int 0),none,none]) (h':=st3 h [] [.int c] [] (ls.map .int)) (by simp[exs,ev])]
  have ei:ev (run F k) (.idx (.var 0) (.cst (.int (2)))) [some B.w,some (.ref (h.n+2)),some (.int f),some (.int c),some (.ref h.n),some (.ref (h.n+1)),some (.int 0),none,none] (st3 h [] [.int c] [] (ls.map .int))=.ok (.tup (B.rows.map .tup)) (st3 h [] [.int c] [] (ls.map .int)):=by
   unfold Bd.w;simp[ev,idxW,i2]
  have ef:=zej (tg:=tgW (.one 7)) (b:=exs (run F k) zdg) (ρ:=[some B.w,some (.ref (h.n+2)),some (.int f),some (.int c),some (.ref h.n),some (.ref (h.n+1)),some (.int 0),none,none]) (h:=st3 h [] [.int c] [] (ls.map .int)) hz
  rw[el]at ef
  cases z:(fallP B.rows c 0 ls).st with
  |true=>
   rw[z]at ef
   refine(zan (by rw[exs,ei,bindok,ef];rfl)).trans ?_
   rfl
  |false=>
   rw[z]at ef
   refine(zab (by rw[exs,ei,bindok,ef];rfl)).trans ?_
   have ee:=zp3 (cl:=run F k) (st:=false) (ρ:=[some B.w,some (.ref (h.n+2)),some (.int f),some (.int c),some (.ref h.n),some (.ref (h.n+1)),hd',x',y']) (h0:=h) (gs:=gs) (cs:=([.int c]:List W)++(fallP B.rows c 0 ls).cs.map .int) (ts:=([]:List W)++(fallP B.rows c 0 ls).ts.map .int) (ls:=(fallP B.rows c 0 ls).ls.map .int) rfl rfl rfl
   simp only[exs,ee,bindok]
   rfl
 show ∃i h',fin h (exs (run F k) fn38.body [some B.w,some (iW ls),some (.int f),none,none,none,none,none,none] ⟨h.n,h.n,h.os⟩)=.ok (.ref i) h'/\_/\_
 rw[key]
 generalize (([.int c]:List W)++(fallP B.rows c 0 ls).cs.map .int)=c1'
 generalize (([]:List W)++(fallP B.rows c 0 ls).ts.map .int)=t1'
 generalize ((fallP B.rows c 0 ls).ls.map W.int)=l1'
 generalize W.bl (fallP B.rows c 0 ls).st=s1'
 refine⟨h.n+3+gs.length,⟨h.n+3+ (gs.length+1),h.lo,(.lst [iW (c:: (fallP B.rows c 0 ls).cs),iW (fallP B.rows c 0 ls).ts,iW (fallP B.rows c 0 ls).ls,s1']::gs)++(.lst l1' :: .lst t1' :: .lst c1'::h.os)⟩,?_,?_,?_,rfl,?_⟩
 .show leave _ _ _=_
  unfold leave
  rw[if_neg (by rw[W.lt,zi7 (by lia)];simp)]
  show Res.ok _ ⟨_,if Nat.ble h.lo h.n then h.lo else h.n,_⟩=_
  rw[if_pos (veg.mpr hlo)]
  rfl
 .exact(get_lo (h:=st3 h (.lst [iW (c:: (fallP B.rows c 0 ls).cs),iW (fallP B.rows c 0 ls).ts,iW (fallP B.rows c 0 ls).ls,s1']::gs) c1' t1' l1')).trans zw0
 .show h.n<=h.n+3+ (gs.length+1);lia
 .intro i o e
  exact((get_lo (h:=st3 h (.lst [iW (c:: (fallP B.rows c 0 ls).cs),iW (fallP B.rows c 0 ls).ts,iW (fallP B.rows c 0 ls).ls,s1']::gs) c1' t1' l1')).trans (zwz (zag e))).trans e
end
noncomputable abbrev Kv:=List (L2.Key×W)
noncomputable def rowP(w:Nat)(kvs:Kv):List W:=(List.range w).map λ(i:Nat)=>(lookK kvs (.inl (i:Int))).getD (.str sDot)
noncomputable def bitsP:Int->Nat->List Int
 |_,0=>[]
 |z,n+1=>z % 2::bitsP (z/2) n
noncomputable def zi9(wd g:Int):Int->List W->Bool
 |_,[]=>true
 |c,w::r=>zaz w c wd g&&zi9 wd g (c+1) r
theorem ze3{wd g:Int}:∀{c:Int} {r:List W},zi9 wd g c r=true->rowOk wd g c r
 |_,[],_=>trivial
 |c,w::r,h=>by
  simp only[zi9,vab]at h
  exact⟨h.1,ze3 h.2⟩
section
variable{S P:Nat}
theorem zbn:∀{z:Int} {n:Nat},(bitsP z n).length=n
 |_,0=>rfl
 |z,n+1=>by rw[bitsP,vai,zbn]
theorem zca:∀{n:Nat} {z:Int},Bits (bitsP z n)
 |0,_=>λx h=>by cases h
 |n+1,z=>λx h=>by
  rcases va3.mp h with rfl|h
  .exact Int.emod_two_eq z
  .exact zca x h
end
theorem zsi{k:L2.Key}{w:W}{kv:Kv}:(putKW kv k w).length<=kv.length+1:=by
 unfold putKW
 split
 .rw[vah];exact vdk _
 .rw[vaj];exact vaa _
noncomputable def kvK(kv:Kv):Kv:=kv.foldl (λacc x=>match x.1 with
 |.inl i=>putKW acc (.inl (i+1)) (.str sLt)
 |.inr _=>acc) []
theorem zsj{kv:Kv}:(kvK kv).length<=kv.length:=by
 have:∀(kv acc:Kv),(kv.foldl (λacc x=>match x.1 with
  |.inl i=>putKW acc (.inl (i+1)) (.str sLt)
  |.inr _=>acc) acc).length<=acc.length+kv.length:=by
  intro kv
  induction kv with
  |nil=>intro acc;exact vaa _
  |cons x r ih=>
   intro acc
   rw[vdq,vai]
   refine vbo (ih _) ?_
   obtain⟨k,w⟩:=x
   cases k with
   |inl i=>
    have:=zsi (k:=.inl (i+1)) (w:=.str sLt) (kv:=acc)
    show(putKW acc _ _).length+_<=_
    lia
   |inr s=>show acc.length+_<=_;lia
 refine vbo (this kv []) ?_
 simp
theorem zp5{w:Nat}{kv:Kv}{c:Int}(c0:0<=c)(c1:c<w):colAt (rowP w kv) c=(lookK kv (.inl c)).getD (.str sDot):=by
 unfold colAt rowP
 rw[va5,List.getElem?_range (by lia)]
 show(lookK kv (.inl ((c.toNat:Nat):Int))).getD _=_
 rw[vdj c0]
theorem zsk{w:Nat}{kv:Kv}:(rowP w kv).length=w:=by unfold rowP;rw[vah,vcm]
theorem zp6{n:Nat}:∀{ws:List W},(∀w∈ws,W.lt n w=true)->W.lts n ws=true
 |[],_=>by simp
 |w::r,h=>by rw[lts_cons,h w vak,zp6 λw hw=>h w (vaf _ hw)];rfl
section
variable{F:Nat->Option Fn}
theorem zja{m:Nat}:∀(n:Nat) (w:W),zah n w=true->W.lt m w=true
 |0,_,e=>by cases e
 |n+1,w,e=>by
  cases w<;>simp only[zah]at e<;>try(cases e;done)
  .simp
  .simp
  .simp
  .simp
  .rw[lt_tup]
   exact zp6 λw hw=>zja n w (vax.mp e w hw)
end
section
variable{F:Nat->Option Fn}(C:CoreD F)
include C
theorem ze4{k:Nat}:∀(ns:List Int) (x:Option W) (h:VH),∃cells:List Int,lcL (tgW (.one 0)) (ev (run F k) zdm) (ev (run F k) zdn) (ns.map .int) [x] h=.ok (cells.map .int) h/\(∀y∈cells,(0:Int)<=y)/\cells.length<=ns.length
 |[],x,h=>⟨[],rfl,(λy hy=>by cases hy),vaa _⟩
 |n::ns,x,h=>by
  obtain⟨cells,e,h1,h2⟩:=ze4 (k:=k) ns (some (.int n)) h
  have s10:((10:Int).natAbs<2 ^ 64):=by decide
  have ec:ev (run F k) zdm [some (.int n)] h=.ok (.bl (decide (1000000000000000000<=(n.natAbs:Int)))) h:=by
   simp[zdm,ev,biW,absW,opW,opI,cmpW,cmpI,zdf]
  have ee:ev (run F k) zdn [some (.int n)] h=.ok (.int (n.natAbs:Int)) h:=by
   simp[zdn,ev,biW,absW,zdf]
  by_cases q:1000000000000000000<=(n.natAbs:Int)
  .refine⟨(n.natAbs:Int)::cells,?_,λy hy=>?_,by rw[vai,vai];lia⟩
   .simp only[lcL,vaw,tgW,List.set,ec,bindok,q,vey,ee,e]
   .rcases va3.mp hy with rfl|hy
    .lia
    .exact h1 y hy
  .refine⟨cells,?_,h1,by rw[vai];lia⟩
   simp only[lcL,vaw,tgW,List.set,ec,bindok,q,decide_false,e]
theorem deck{k:Nat}{h:VH}{ns:List Int}(hl:ns.length<=63):∃h',run F (k+1) 3 [.fz (ns.map .int)] h=.ok (.ref (h.n+1)) h'/\Dk h' (h.n+1) h.n 0:=by
 rw[zal C.f3 rfl]
 obtain⟨cells,e,h1,h2⟩:=ze4 C (k:=k) ns none ⟨h.n,h.n,h.os⟩
 have l:=zfs (nx:=nxt .seq (.fz (ns.map .int))) (tg:=tgW (.one 0)) (c:=ev (run F k) zdm) (e:=ev (run F k) zdn) (ws:=ns.map .int) (λi h=>rfl) fuel 0 [none] ⟨h.n,h.n,h.os⟩ [] (vbg _) (by rw[vah];unfold fuel;lia)
 rw[List.drop_zero,e]at l
 have l:lcG (nxt .seq (.fz (ns.map .int))) (tgW (.one 0)) (ev (run F k) zdm) (ev (run F k) zdn) fuel 0 [none] ⟨h.n,h.n,h.os⟩ []=.ok (cells.map .int) ⟨h.n,h.n,h.os⟩:=l
 have q:ev (run F k) (.lc .seq (.var 0) (.one 0) 1 [] zdm zdn) [some (.fz (ns.map .int))] ⟨h.n,h.n,h.os⟩=.ok (.ref h.n) (VH.new ⟨h.n,h.n,h.os⟩ (.lst (cells.map .int))):=by
  rw[ev]
  have:ev (run F k) (.var 0) [some (.fz (ns.map .int))] ⟨h.n,h.n,h.os⟩=.ok (.fz (ns.map .int)) ⟨h.n,h.n,h.os⟩:=rfl
  rw[this,bindok]
  show(lcG (nxt .seq (.fz (ns.map .int))) (tgW (.one 0)) (ev (run F k) zdm) (ev (run F k) zdn) fuel 0 [none] ⟨h.n,h.n,h.os⟩ []).bind _=_
  rw[l,bindok,if_pos (zhp (by rw[vah];lia))]
 let h1':VH:=VH.new ⟨h.n,h.n,h.os⟩ (.lst (cells.map .int))
 let o:VO:=.lst [.fz (ns.map .int),.ref h.n,.int 0,.int 0]
 have eb:exs (run F k) fn3.body [some (.fz (ns.map .int))] ⟨h.n,h.n,h.os⟩=.ok (.rt (.ref (h.n+1))) (h1'.new o):=by
  simp only[fn3,exs,ev,bindok,ofsome,vbm,vb2]at q ⊢
  rw[q]
  rfl
 refine⟨⟨h.n+2,if Nat.ble h.lo h.n then h.lo else h.n,(h1'.new o).os⟩,?_,?_⟩
 .show fin h (exs (run F k) fn3.body [some (.fz (ns.map .int))] ⟨h.n,h.n,h.os⟩)=_
  rw[eb]
  show leave h (.ref (h.n+1)) (h1'.new o)=_
  unfold leave
  rw[if_neg (by
   rw[vab]
   intro z
   have:=z.2
   simp only[W.lt]at this
   have:=zaj.mp this
   lia)]
  rfl
 .refine⟨by lia,ns,cells,0,0,?_,?_,h1,by lia,by lia,by lia,by lia⟩
  .show VH.get ⟨(h1'.new o).n,_,(h1'.new o).os⟩ (h.n+1)=_
   rw[get_lo]
   exact zat (h:=h1')
  .show VH.get ⟨(h1'.new o).n,_,(h1'.new o).os⟩ h.n=_
   rw[get_lo,zak (h:=h1') (by show h.n<h.n+1;lia)]
   exact zat (h:=⟨h.n,h.n,h.os⟩)
end
theorem opE{cl:Call}{o:Op}{a b:E}{ρ:En}{h h1 h2:VH}{x y:W}{r:Res W}(ea:ev cl a ρ h=.ok x h1)(eb:ev cl b ρ h1=.ok y h2)(e:opW o x y h2=r):ev cl (.op o a b) ρ h=r:=by
 rw[ev,ea,bindok,eb,bindok,e]
theorem retE{cl:Call}{a:E}{ρ:En}{h h1:VH}{x:W}(ea:ev cl a ρ h=.ok x h1):exs cl (.ret a) ρ h=.ok (.rt x) h1:=by
 rw[exs,ea,bindok]
theorem setE{cl:Call}{i:Nat}{a:E}{ρ:En}{h h1:VH}{x:W}(ea:ev cl a ρ h=.ok x h1):exs cl (.set i a) ρ h=.ok (.nx (ρ.set i (some x))) h1:=by
 rw[exs,ea,bindok]
theorem varE{cl:Call}{i:Nat}{ρ:En}{h:VH}{x:W}(e:ρ[i]?=some (some x)):ev cl (.var i) ρ h=.ok x h:=by
 rw[ev,e];rfl
theorem idxE{cl:Call}{a b:E}{ρ:En}{h h1 h2:VH}{x y z:W}(ea:ev cl a ρ h=.ok x h1)(eb:ev cl b ρ h1=.ok y h2)(e:idxW h2 x y=some z):ev cl (.idx a b) ρ h=.ok z h2:=by
 rw[ev,ea,bindok,eb,bindok,e];rfl
theorem lenE{cl:Call}{a:E}{ρ:En}{h h1:VH}{x:W}{ws:List W}(ea:ev cl a ρ h=.ok x h1)(e:seqW h1 x=some ws):ev cl (.bi .len (.cons a .nil)) ρ h=.ok (.int ws.length) h1:=by
 rw[ev,ev,ea,bindok,ev,bindok]
 show lenW [x] h1=_
 simp only[lenW,e,ofsome]
theorem zdo{cl:Call}{ρ:En}{h h1 h':VH}{n:Nat}{a:E}{x w:W}(ea:ev cl a ρ h=.ok x h1)(e:cl n [x] h1=.ok w h'):ev cl (.call n (.cons a .nil)) ρ h=.ok w h':=by
 rw[ev,ev,ea,bindok,ev]
 exact e
theorem zbg{cl:Call}{ρ:En}{h h1 h2 h':VH}{n:Nat}{a b:E}{x y w:W}(ea:ev cl a ρ h=.ok x h1)(eb:ev cl b ρ h1=.ok y h2)(e:cl n [x,y] h2=.ok w h'):ev cl (.call n (.cons a (.cons b .nil))) ρ h=.ok w h':=by
 rw[ev,ev,ea,bindok,ev,eb,bindok,ev]
 exact e
theorem zmr{cl:Call}{ρ:En}{h h1 h2 h3 h':VH}{n:Nat}{a b c:E}{x y z w:W}(ea:ev cl a ρ h=.ok x h1)(eb:ev cl b ρ h1=.ok y h2)(ec:ev cl c ρ h2=.ok z h3)(e:cl n [x,y,z] h3=.ok w h'):ev cl (.call n (.cons a (.cons b (.cons c .nil)))) ρ h=.ok w h':=by
 rw[ev,ev,ea,bindok,ev,eb,bindok,ev,ec,bindok,ev]
 exact e
theorem zc2{nx:Nat->VH->Option (Option W)}{tg:W->VH->En->Option En}{b:FS}{n:Nat}{I:Nat->En->VH->Prop}
 (go:∀i ρ h,i<n->I i ρ h->∃w ρ1 ρ2 h2,nx i h=some (some w)/\tg w h ρ=some ρ1/\b ρ1 h=.ok (.nx ρ2) h2/\I (i+1) ρ2 h2)
 (stop:∀ρ h,I n ρ h->nx n h=some none) :
 ∀(m i fu:Nat)(ρ:En)(h:VH),i+m=n->m<fu->I i ρ h->∃ρ' h',forG nx tg b fu i ρ h=.ok (.nx ρ') h'/\I n ρ' h'
 |_,_,0,_,_,_,hf,_=>by lia
 |0,i,fu+1,ρ,h,hi,_,hI=>by
  obtain rfl:i=n:=by lia
  refine⟨ρ,h,?_,hI⟩
  simp only[forG,stop ρ h hI]
 |m+1,i,fu+1,ρ,h,hi,hf,hI=>by
  obtain⟨w,ρ1,ρ2,h2,e1,e2,e3,hI2⟩:=go i ρ h (by lia) hI
  obtain⟨ρ',h',e4,hI3⟩:=zc2 go stop m (i+1) fu ρ2 h2 (by lia) (by lia) hI2
  refine⟨ρ',h',?_,hI3⟩
  simp only[forG,e1,e2,e3,bindok,e4]
theorem zms{nx:Nat->VH->Option (Option W)}{tg:W->VH->En->Option En}{e:FE}{n:Nat}{I:Nat->En->VH->List W->Prop}
 (go:∀i ρ h acc,i<n->I i ρ h acc->∃w ρ1 y h2,nx i h=some (some w)/\tg w h ρ=some ρ1/\e ρ1 h=.ok y h2/\I (i+1) ρ1 h2 (acc++[y]))
 (stop:∀ρ h acc,I n ρ h acc->nx n h=some none) :
 ∀(m i fu:Nat)(ρ:En)(h:VH)(acc:List W),i+m=n->m<fu->I i ρ h acc->∃ys ρ' h',lcG nx tg (λ_ h=>.ok (.bl true) h) e fu i ρ h acc.reverse=.ok ys h'/\I n ρ' h' ys
 |_,_,0,_,_,_,_,hf,_=>by lia
 |0,i,fu+1,ρ,h,acc,hi,_,hI=>by
  obtain rfl:i=n:=by lia
  refine⟨acc,ρ,h,?_,hI⟩
  simp only[lcG,stop ρ h acc hI,List.reverse_reverse]
 |m+1,i,fu+1,ρ,h,acc,hi,hf,hI=>by
  obtain⟨w,ρ1,y,h2,e1,e2,e3,hI2⟩:=go i ρ h acc (by lia) hI
  obtain⟨ys,ρ',h',e4,hI3⟩:=zms go stop m (i+1) fu ρ1 h2 (acc++[y]) (by lia) (by lia) hI2
  refine⟨ys,ρ',h',?_,hI3⟩
  rw[List.reverse_append]at e4
  simp only[lcG,e1,e2,bindok,e3]
  exact e4
theorem zhu{nx:Nat->VH->Option (Option W)}{tg:W->VH->En->Option En}{c e v:FE}{n:Nat}{I:Nat->En->VH->Kv->Prop}
 (go:∀i ρ h acc,i<n->I i ρ h acc->∃w ρ1 t h1,nx i h=some (some w)/\tg w h ρ=some ρ1/\c ρ1 h=.ok (.bl t) h1/\
   ((t=true/\∃x k y h2 h3,e ρ1 h1=.ok x h2/\v ρ1 h2=.ok y h3/\keyW x=some k/\Nat.blt acc.length big=true/\I (i+1) ρ1 h3 (putKW acc k y))\/(t=false/\I (i+1) ρ1 h1 acc)))
 (stop:∀ρ h acc,I n ρ h acc->nx n h=some none) :
 ∀(m i fu:Nat)(ρ:En)(h:VH)(acc:Kv),i+m=n->m<fu->I i ρ h acc->∃ys ρ' h',dcG nx tg c e v fu i ρ h acc=.ok ys h'/\I n ρ' h' ys
 |_,_,0,_,_,_,_,hf,_=>by lia
 |0,i,fu+1,ρ,h,acc,hi,_,hI=>by
  obtain rfl:i=n:=by lia
  refine⟨acc,ρ,h,?_,hI⟩
  simp only[dcG,stop ρ h acc hI]
 |m+1,i,fu+1,ρ,h,acc,hi,hf,hI=>by
  obtain⟨w,ρ1,t,h1,e1,e2,e3,q⟩:=go i ρ h acc (by lia) hI
  rcases q with⟨rfl,x,k,y,h2,h3,e4,e5,e6,e7,hI2⟩|⟨rfl,hI2⟩
  .obtain⟨ys,ρ',h',e8,hI3⟩:=zhu go stop m (i+1) fu ρ1 h3 _ (by lia) (by lia) hI2
   refine⟨ys,ρ',h',?_,hI3⟩
   simp only[dcG,e1,e2,e3,bindok,e4,e5,e6,e7,vbe,e8]
  .obtain⟨ys,ρ',h',e8,hI3⟩:=zhu go stop m (i+1) fu ρ1 h1 _ (by lia) (by lia) hI2
   refine⟨ys,ρ',h',?_,hI3⟩
   simp only[dcG,e1,e2,e3,bindok,e8]
theorem zfz{nx:Nat->VH->Option (Option W)}{tg:W->VH->En->Option En}{e:FE}{n:Nat}{I:Nat->En->VH->List W->Prop}
 (go:∀i ρ h acc,i<n->I i ρ h acc->∃w ρ1 y h2,nx i h=some (some w)/\tg w h ρ=some ρ1/\e ρ1 h=.ok y h2/\I (i+1) ρ1 h2 (acc++[y]))
 (stop:∀ρ h acc,I n ρ h acc->nx n h=some none) {ρ:En} {h:VH} (hn:n<1000000) (hI:I 0 ρ h []):∃ys ρ' h',lcG nx tg (λ_ h=>.ok (.bl true) h) e fuel 0 ρ h []=.ok ys h'/\I n ρ' h' ys:=
 zms go stop n 0 fuel ρ h [] (vce _) hn hI
theorem za5{n i:Nat}{h:VH}(hn:n<1000000):nxt .rng1 (.tup [.int n]) i h=some (if i<n then some (.int (i:Int))else none):=by
 have hf:fits (n:Int)=true:=by
  unfold fits
  simp
  lia
 show(if fits (n:Int)then some (if decide ((i:Int)<n)then some (W.int (0+i))else none)else none)=_
 rw[if_pos hf,Int.zero_add]
 by_cases q:i<n
 .rw[if_pos q,vaz (by lia)];rfl
 .rw[if_neg q,vav (by lia)];rfl
theorem zsl{h h':VH}{w:W}(hw:W.lt h.n w=false):∃h2,fin h (.ok (.rt w) h')=.ok w h2/\h2.n=h'.n/\(∀i,h2.get i=h'.get i)/\h2.lo=min h.lo h'.lo:=by
 refine⟨⟨h'.n,if Nat.ble h.lo h'.lo then h.lo else h'.lo,h'.os⟩,?_,rfl,λi=>rfl,?_⟩
 .show leave h w h'=_
  unfold leave
  rw[hw,Bool.and_false]
  rfl
 .show(if Nat.ble h.lo h'.lo then h.lo else h'.lo)=_
  by_cases q:h.lo<=h'.lo
  .rw[if_pos (veg.mpr q)];lia
  .rw[if_neg (λz=>q (veg.mp z))];lia
theorem zp7{i n:Nat}(h:n<=i):W.lt n (.ref i)=false:=by
 show Nat.blt i n=false
 rw[<-Bool.not_eq_true,zaj];lia
section
variable{cl:Call}{ρ:En}{h h1 h2 h3 h':VH}{a b r:E}
theorem consM{x:W}{xs:List W}(ea:ev cl a ρ h=.ok x h1)(er:ev cl r ρ h1=.ok (.tup xs) h2):ev cl (.cons a r) ρ h=.ok (.tup (x::xs)) h2:=by
 rw[ev,ea,bindok,er];rfl
theorem nilM:ev cl .nil ρ h=.ok (.tup []) h:=by rw[ev]
theorem cstM{w:W}:ev cl (.cst w) ρ h=.ok w h:=by rw[ev]
theorem lstM{ys:List W}(ea:ev cl a ρ h=.ok (.tup ys) h1)(hl:Nat.ble ys.length 1000=true):ev cl (.lst a) ρ h=.ok (.ref h1.n) (h1.new (.lst ys)):=by
 rw[ev,ea,bindok]
 show(if Nat.ble ys.length 1000=true then _ else _)=_
 rw[if_pos hl]
theorem tupM{ys:List W}(ea:ev cl a ρ h=.ok (.tup ys) h1)(hl:Nat.ble ys.length 1000=true):ev cl (.tup a) ρ h=.ok (.tup ys) h1:=by
 rw[ev,ea,bindok]
 show(if Nat.ble ys.length 1000=true then _ else _)=_
 rw[if_pos hl]
theorem callM{ys:List W}{n:Nat}{w:W}(ea:ev cl a ρ h=.ok (.tup ys) h1)(e:cl n ys h1=.ok w h'):ev cl (.call n a) ρ h=.ok w h':=by
 rw[ev,ea,bindok];exact e
theorem zjb{x:W}{ws:List W}(ea:ev cl a ρ h=.ok x h1)(e:seqW h1 x=some ws):ev cl (.bi .tuple (.cons a .nil)) ρ h=.ok (.tup ws) h1:=by
 rw[ev,consM ea nilM,bindok]
 show zd9 [x] h1=_
 simp only[zd9,e,ofsome]
theorem lcM{k:Kd}{t:Tg}{ow:Nat}{ix:List Nat}{x:W}{ys:List W}(ea:ev cl a ρ h=.ok x h1)(el:lcG (nxt k x) (tgW t) (λ_ h=>.ok (.bl true) h) (ev cl b) fuel 0 (inner ow ix ρ) h1 []=.ok ys h2)(hy:ys.length<=1000000) :
 ev cl (.lc k a t ow ix (.cst (.bl true)) b) ρ h=.ok (.ref h2.n) (h2.new (.lst ys)):=by
 rw[ev,ea,bindok,zp0,el,bindok,if_pos (zhp hy)]
theorem forMw{k:Kd}{t:Tg}{x:W}{s:S}(ea:ev cl a ρ h=.ok x h1):exs cl (.«for» k a t s) ρ h=forG (nxt k x) (tgW t) (exs cl s) fuel 0 ρ h1:=by
 rw[exs,ea,bindok]
end
noncomputable def Pv(w:W):Prop:=∀n,W.lt n w=true
theorem Pv.tup{ws:List W}(h:∀w∈ws,Pv w):Pv (.tup ws):=λn=>by
 rw[lt_tup]
 induction ws with
 |nil=>rfl
 |cons a r ih=>
  rw[lts_cons,h a (vak ..),ih λw hw=>h w (vaf _ hw)]
  rfl
theorem Pv.int{i:Int}:Pv (.int i):=λ_=>lt_int
theorem Pv.str{i:Str}:Pv (.str i):=λ_=>lt_str
structure CoreA3(F:Nat->Option Fn):Prop where
 f0:F 0=some fn0
 f1:F 1=some fn1
 f6:F 6=some fn6
section
variable{F:Nat->Option Fn}(C:CoreA3 F)
include C
theorem zmt{k:Nat}{h:VH}{w:W}(hw:Kn h w):run F (k+1) 0 [w] h=.ok (.bl (isInt w)) h:=by
 rw[zal C.f0 rfl]
 cases w<;>try(simp[fn0,exs,ev,isInt,zai];done)
 .exact absurd rfl hw
 .rename_i i
  unfold Kn at hw
  simp only[tyIs]at hw
  cases g:h.get i with
  |none=>rw[g]at hw;exact absurd rfl hw
  |some o=>cases o<;>first|(simp[fn0,exs,ev,isInt,zai,tyIs,g];done)|(simp[g]at hw)
theorem za6{k:Nat}{h:VH}{w:W}{lo hi:Int}(hw:Kn h w):run F (k+2) 1 [w,.int lo,.int hi] h=.ok (.bl (within w lo hi)) h:=by
 rw[zal C.f1 rfl]
 have e:=zmt C (k:=k) (h:=⟨h.n,h.n,h.os⟩) (w:=w) (kn_lo.mpr hw)
 cases w<;>simp[fn1,exs,ev,e,isInt,within,zai,cmpW,cmpI]
 rename_i i
 by_cases h1:lo<=i<;>simp[h1,zai]
end
structure C53(F:Nat->Option Fn):Prop where
 f33:F 33=some fn33
 f36:F 36=some fn36
 f41:F 41=some fn41
noncomputable def Dct(h:VH)(p:Nat)(kvs:Kv):Prop:=h.get p=some (.dm kvs)\/h.get p=some (.dk kvs)
section
variable{F:Nat->Option Fn}(C:C53 F)
include C
theorem row53{k p n:Nat}{h:VH}{kvs:Kv}(g:Dct h p kvs)(hv:∀kv∈kvs,Pv kv.2)(hn:n<1000):run F (k+1) 33 [.int n,.ref p] h=.ok (.tup (rowP n kvs)) h:=by
 have look:∀i:Int,ev (run F k) zfy [some (.int i),some (.ref p)] ⟨h.n,h.n,h.os⟩=.ok ((lookK kvs (.inl i)).getD (.str sDot)) ⟨h.n,h.n,h.os⟩:=λi=>by
  have hk:zbw .get ⟨h.n,h.n,h.os⟩ (.ref p)=true:=by
   rcases g with g|g<;> (have g1:VH.get ⟨h.n,h.n,h.os⟩ p=_:=g)<;>simp only[zbw,g1]
  have hm:mtW .get (.ref p) [.int i,.str (vgb ".")] ⟨h.n,h.n,h.os⟩=.ok ((lookK kvs (.inl i)).getD (.str (vgb "."))) ⟨h.n,h.n,h.os⟩:=by
   rcases g with g|g<;> (have g1:VH.get ⟨h.n,h.n,h.os⟩ p=_:=g)<;>simp only[mtW,g1,keyW]
  unfold zfy
  rw[ev,varE (x:=.ref p) rfl,bindok,if_pos hk,consM (varE (x:=.int i) rfl) (consM cstM nilM),bindok]
  exact hm
 obtain⟨ys,ρ',h',e1,hI⟩:=zfz (nx:=nxt .rng1 (.tup [.int n])) (tg:=tgW (.one 0)) (e:=ev (run F k) zfy) (n:=n)
  (I:=λi ρ h1 acc=>(∃x,ρ=[x,some (.ref p)])/\h1=⟨h.n,h.n,h.os⟩/\acc=(List.range i).map λ(i:Nat)=>(lookK kvs (.inl (i:Int))).getD (.str sDot))
  (λi ρ h1 acc hi hI=>by
    obtain⟨⟨x,rfl⟩,rfl,rfl⟩:=hI
    refine⟨.int (i:Int),[some (.int i),some (.ref p)],_,_,?_,rfl,look i,⟨_,rfl⟩,rfl,?_⟩
    .rw[za5 (by lia),if_pos hi]
    .rw[ves,vca];rfl)
  (λρ h1 acc hI=>by rw[za5 (by lia),if_neg (vbf _)])
  (ρ:=inner 1 [1] [some (.int n),some (.ref p)]) (h:=⟨h.n,h.n,h.os⟩) (by lia) ⟨⟨none,rfl⟩,rfl,rfl⟩
 obtain⟨_,rfl,rfl⟩:=hI
 rw[zal C.f33 rfl]
 have eb:exs (run F k) fn33.body [some (.int n),some (.ref p)] ⟨h.n,h.n,h.os⟩=.ok (.rt (.tup (rowP n kvs))) (VH.new ⟨h.n,h.n,h.os⟩ (.lst (rowP n kvs))):=by
  refine zan (retE (zjb (lcM (consM (varE (x:=.int n) rfl) nilM) e1 ?_) ?_))
  .rw[zsk];lia
  .show(match VH.get _ _ with
    |some (.lst ws)=>some ws
    |_=>none)=_
   rw[zat]
 show fin h (exs (run F k) fn33.body [some (.int n),some (.ref p)] ⟨h.n,h.n,h.os⟩)=_
 rw[eb]
 refine zai (vaa _) (Pv.tup (λw hw=>?_) _)
 obtain⟨i,_,rfl⟩:=vct.mp hw
 cases q:lookK kvs (.inl (i:Int))with
 |none=>exact Pv.str
 |some v=>
  unfold lookK at q
  obtain⟨kv,q1,rfl⟩:=Option.map_eq_some_iff.mp q
  exact hv kv (List.mem_of_find?_eq_some q1)
end
noncomputable def Kok(kvs:Kv):Prop:=∀kv∈kvs,(∃i,kv.1=.inl i)/\Pv kv.2
theorem Kok.put{kvs:Kv}{i:Int}{w:W}(h:Kok kvs)(p:Pv w):Kok (putKW kvs (.inl i) w):=by
 unfold putKW
 split
 .intro kv hk
  obtain⟨x,hx,rfl⟩:=vct.mp hk
  split
  .exact⟨(h x hx).1,p⟩
  .exact h x hx
 .intro kv hk
  rcases vb8.mp hk with hk|hk
  .exact h kv hk
  .rw[vbr.mp hk];exact⟨⟨i,rfl⟩,p⟩
theorem Kok.nil:Kok []:=λ_ h=>by cases h
theorem Kok.v{kvs:Kv}(h:Kok kvs):∀kv∈kvs,Pv kv.2:=λkv hk=>(h kv hk).2
theorem zw1{kvs:Kv}:Kok (kvK kvs):=by
 have:∀(kv acc:Kv),Kok acc->Kok (kv.foldl (λacc x=>match x.1 with
  |.inl i=>putKW acc (.inl (i+1)) (.str sLt)
  |.inr _=>acc) acc):=by
  intro kv
  induction kv with
  |nil=>intro acc h;exact h
  |cons x r ih=>
   intro acc h
   rw[vdq]
   refine ih _ ?_
   obtain⟨k,w⟩:=x
   cases k with
   |inl i=>exact h.put Pv.str
   |inr s=>exact h
 exact this kvs [] .nil
theorem zos{kvs:Kv}{i:Int}{w:W}:kvK (kvs++[(.inl i,w)])=putKW (kvK kvs) (.inl (i+1)) (.str sLt):=by
 unfold kvK
 rw[List.foldl_append]
 rfl
structure Gm(h h':VH):Prop where
 le:h.n<=h'.n
 lo:min h.lo h.n<=h'.lo
 get:∀j,j<h.n->h'.get j=h.get j
theorem Gm.refl{h:VH}:Gm h h:=⟨vaa _,Nat.min_le_left _ _,λ_ _=>rfl⟩
theorem Gm.trans{a b c:VH}(x:Gm a b)(y:Gm b c):Gm a c:=⟨vbo x.le y.le,by
 have:=x.lo;have:=y.lo;have:=x.le;lia,λj hj=>by rw[y.get j (vag hj x.le),x.get j hj]⟩
theorem Gm.new{h h':VH}{o:VO}(x:Gm h h'):Gm h (h'.new o):=⟨vdx x.le,x.lo,λj hj=>by rw[zak (vag hj x.le),x.get j hj]⟩
theorem Gm.set{h h':VH}{o:VO}{a:Nat}(x:Gm h h')(ha:h.n<=a)(hb:a<h'.n):Gm h (h'.set a o):=⟨x.le,by
 have:=x.lo
 show _<=if Nat.blt a h'.lo then a else h'.lo
 split<;>lia,λj hj=>by rw[zbk hb (by lia),x.get j hj]⟩
theorem zp8{h h':VH}{w:W}(hw:W.lt h.n w=false)(x:Gm ⟨h.n,h.n,h.os⟩ h'):∃h2,fin h (.ok (.rt w) h')=.ok w h2/\Gm h h2/\∀i,h2.get i=h'.get i:=by
 obtain⟨h2,e,n2,G,l2⟩:=zsl (h':=h') hw
 refine⟨h2,e,⟨by rw[n2];exact x.le,?_,λj hj=>by rw[G,x.get j hj];rfl⟩,G⟩
 have:=x.lo
 have e2:(⟨h.n,h.n,h.os⟩:VH).lo=h.n:=rfl
 have e3:(⟨h.n,h.n,h.os⟩:VH).n=h.n:=rfl
 rw[l2]
 rw[e2,e3]at this
 lia
theorem zp9{h h':VH}{w:W}(p:Pv w)(x:Gm ⟨h.n,h.n,h.os⟩ h'):fin h (.ok (.rt w) h')=.ok w h:=zai (by
 have:=x.lo
 have e2:(⟨h.n,h.n,h.os⟩:VH).lo=h.n:=rfl
 have e3:(⟨h.n,h.n,h.os⟩:VH).n=h.n:=rfl
 rw[e2,e3]at this
 lia) (p _)
theorem zf0{a:Nat}{h:VH}{ws:List W}(g:h.get a=some (.lst ws)):seqW h (.ref a)=some ws:=by
 simp only[seqW,g]
section
variable{F:Nat->Option Fn}(C:C53 F)
include C
theorem zw2{k s:Nat}{h:VH}{z:Int}(hs:s<1000):run F (k+1) 41 [.int z,.int s] h=.ok (iW (bitsP z s)) h:=by
 have half:∀(i:Nat)(y:Int),bitsP y (i+1)=bitsP y i++[(y/2 ^ i) % 2]:=by
  intro i
  induction i with
  |zero=>intro y;simp[bitsP]
  |succ n ih=>
   intro y
   rw[bitsP,ih (y/2),bitsP,vcv]
   rw[Int.ediv_ediv_of_nonneg (by decide:(0:Int)<=2),show(2:Int)*2 ^ n=2 ^ (n+1) by rw[Int.pow_succ,Int.mul_comm]]
 obtain⟨ρ',h',e1,hI⟩:=zc2 (nx:=nxt .rng1 (.tup [.int s])) (tg:=tgW (.one 3)) (b:=exs (run F k) zhr) (n:=s)
  (I:=λi ρ h1=>(∃x,ρ=[some (.int (z/2 ^ i)),some (.int s),some (.ref h.n),x])/\Gm ⟨h.n,h.n,h.os⟩ h1/\h1.get h.n=some (.lst ((bitsP z i).map .int)))
  (λi ρ h1 hi hI=>by
    obtain⟨⟨x,rfl⟩,w1,g1⟩:=hI
    have hlt:=zag g1
    refine⟨.int (i:Int),[some (.int (z/2 ^ i)),some (.int s),some (.ref h.n),some (.int (i:Int))],[some (.int (z/2 ^ (i+1))),some (.int s),some (.ref h.n),some (.int (i:Int))],h1.set h.n (.lst ((bitsP z (i+1)).map .int)),?_,rfl,?_,⟨_,rfl⟩,w1.set (vaa _) hlt,zas g1⟩
    .rw[za5 (by lia),if_pos hi]
    .unfold zhr
     have ea:ev (run F k) (.mt .append (.var 2) (.cons (.op .mod (.var 0) (.cst (.int 2))) .nil)) [some (.int (z/2 ^ i)),some (.int s),some (.ref h.n),some (.int (i:Int))] h1=.ok .non (h1.set h.n (.lst ((bitsP z (i+1)).map .int))):=by
      have hk:zbw .append h1 (.ref h.n)=true:=by simp only[zbw,g1]
      rw[ev,varE (x:=.ref h.n) rfl,bindok,if_pos hk,consM (opE (r:=.ok (.int ((z/2 ^ i) % 2)) h1) (varE rfl) cstM rfl) nilM,bindok]
      show mtW .append (.ref h.n) [.int ((z/2 ^ i) % 2)] h1=_
      simp only[mtW,g1]
      rw[if_pos (zfv (by rw[vah,zbn];lia)),half,vca]
      rfl
     refine(zab (ρ':=[some (.int (z/2 ^ i)),some (.int s),some (.ref h.n),some (.int (i:Int))]) (h':=h1.set h.n (.lst ((bitsP z (i+1)).map .int))) (by rw[exs,ea,bindok])).trans ?_
     refine(zab (ρ':=[some (.int (z/2 ^ (i+1))),some (.int s),some (.ref h.n),some (.int (i:Int))]) (h':=h1.set h.n (.lst ((bitsP z (i+1)).map .int))) ?_).trans (by rw[exs])
     rw[exs]
     show((ev (run F k) (.cst (.int 2)) _ _).bind _)=_
     rw[cstM,bindok]
     show Res.ok (Fl.nx [some (.int (z/2 ^ i/2)),some (.int s),some (.ref h.n),some (.int (i:Int))]) _=_
     rw[Int.ediv_ediv_of_nonneg (Int.pow_nonneg (by decide)),show(2:Int) ^ i*2=2 ^ (i+1)from(Int.pow_succ 2 i).symm])
  (λρ h1 hI=>by rw[za5 (by lia),if_neg (vbf _)])
  s 0 fuel [some (.int z),some (.int s),some (.ref h.n),none] (VH.new ⟨h.n,h.n,h.os⟩ (.lst [])) (vce _) (show _<1000000 by lia)
  ⟨⟨none,by simp⟩,Gm.refl.new,zat⟩
 obtain⟨⟨x,rfl⟩,w1,g1⟩:=hI
 rw[zal C.f41 rfl]
 have eb:exs (run F k) fn41.body [some (.int z),some (.int s),none,none] ⟨h.n,h.n,h.os⟩=.ok (.rt (iW (bitsP z s))) h':=by
  refine(zab (setE (x:=.ref h.n) (h1:=VH.new ⟨h.n,h.n,h.os⟩ (.lst [])) (lstM nilM rfl))).trans ?_
  refine(zab ((forMw (consM (varE (x:=.int s) rfl) nilM)).trans e1)).trans ?_
  exact zan (retE (zjb (varE rfl) (zf0 g1)))
 show fin h (exs (run F k) fn41.body [some (.int z),some (.int s),none,none] ⟨h.n,h.n,h.os⟩)=_
 rw[eb]
 refine zp9 (Pv.tup λw hw=>?_) w1
 obtain⟨i,_,rfl⟩:=vct.mp hw
 exact Pv.int
end
noncomputable def dgK(g at_:Nat):Kv:=[(.inl ((1:Int)+g-at_),.tup [.int ((0:Int)+at_),.int 1])]
noncomputable def digR(g at_:Nat):List W:=rowP (g+3) (dgK g at_)
noncomputable def tuK(i:Nat):Kv:=[(.inl 1,.tup [.int i,.int 1])]
noncomputable def tuR(g i:Nat):List (List W):=[rowP (g+3) (tuK i),rowP (g+3) (kvK (tuK i))]
noncomputable def digRs(g:Nat):List (List W):=(List.range g).map (digR g)
noncomputable def trnOf(g:Nat)(bs:List Int)(i:Nat):List (List W):=if bs.getD i 0=1 then tuR g i else []
noncomputable def trnRs(g:Nat)(bs:List Int):List (List W):=(List.range g).flatMap (trnOf g bs)
noncomputable def grF:Nat->Nat->Nat->Nat->Nat
 |0,_,_,g=>g
 |f+1,n,r,g=>if r<n then grF f n (r*2) (g+1)else g
noncomputable def gr(n:Nat):Nat:=grF 9 n 1 0
noncomputable def B41(n:Nat):Bd:=⟨((gr n+3:Nat):Int),gr n,digRs (gr n)++trnRs (gr n) (bitsP (-(n:Int)) (gr n)),[.int ((1:Int)+gr n)],(vgc (gr n+3) (W.tup [.int 0,.int 0])).set 1 (.tup [.int 1,.int 0])⟩
noncomputable def allRs(g:Nat):List (List W):=digRs g++(List.range g).flatMap (tuR g)
noncomputable def okA(g:Nat):Bool:=(allRs g).all λr=>r.length==g+3&&zi9 ((g+3:Nat):Int) g 0 r
theorem zsm:((List.range 9).all okA)=true:=by decide +kernel
noncomputable def vl:List Int->Nat
 |[]=>0
 |x::r=>x.toNat+2*vl r
noncomputable def okD(g v:Nat):Bool:=match fallP (digRs g) ((1:Int)+g) 0 (bitsP v g)with
 |⟨cs,_,ls,st⟩=>!st&&ls==bitsP ((v+1:Nat):Int) g&&vl (bitsP v g)==v&& (if v+1=2 ^ g then lastC ((1:Int)+g) cs==1 else decide (3<=lastC ((1:Int)+g) cs))
theorem zsn:((List.range 9).all λg=>(List.range (2 ^ g)).all (okD g))=true:=by decide +kernel
noncomputable def notX:W->Bool
 |.str x=>!(x==sX)
 |_=>true
noncomputable def okT(n:Nat):Bool:=match fallP (trnRs (gr n) (bitsP (-(n:Int)) (gr n))) 1 0 (bitsP ((2 ^ gr n:Nat):Int) (gr n))with
 |⟨cs,_,ls,st⟩=>!st&&ls==bitsP (-(n:Int)) (gr n)&&lastC 1 cs==1&& (trnRs (gr n) (bitsP (-(n:Int)) (gr n))).all (λr=>notX (colAt r 1))
  && decide (gr n<=8)&&decide (n<=2 ^ gr n)&& (bitsP (-(n:Int)) (gr n)==bitsP ((2 ^ gr n-n:Nat):Int) (gr n))&&decide (n=1\/1<=gr n)
theorem zso:((List.range 256).all λn=>okT (n+1))=true:=by decide +kernel
theorem zsp{w:W}{hd:Int}{ls:List Int}(h:notX w=true):stepP w hd ls=stepP w 0 ls:=by
 unfold stepP
 split
 .rfl
 .rename_i x
  have h:(x==sX)=false:=by simpa[notX]using h
  rw[h]
  rfl
 .rfl
theorem zjc{R:List (List W)}:∀(rs:List (List W)) (c hd:Int) (ls:List Int),(fallP rs c hd ls).st=false->
 ∃hd',fallP (rs++R) c hd ls=⟨(fallP rs c hd ls).cs++(fallP R (lastC c (fallP rs c hd ls).cs) hd' (fallP rs c hd ls).ls).cs,(fallP rs c hd ls).ts++(fallP R (lastC c (fallP rs c hd ls).cs) hd' (fallP rs c hd ls).ls).ts,(fallP R (lastC c (fallP rs c hd ls).cs) hd' (fallP rs c hd ls).ls).ls,(fallP R (lastC c (fallP rs c hd ls).cs) hd' (fallP rs c hd ls).ls).st⟩
 |[],c,hd,ls,_=>⟨hd,rfl⟩
 |r::rs,c,hd,ls,h=>by
  rw[vcv]
  cases e:stepP (colAt r c) hd ls with
  |none=>rw[zg0 e]at h;cases h
  |some q=>
   obtain⟨d,t,l⟩:=q
   rw[zb5 e]at h
   obtain⟨hd',ih⟩:=zjc (R:=R) rs (c+d) d l h
   refine⟨hd',?_⟩
   rw[zb5 e,zb5 e,ih]
   simp only[lastC,vcv,va1]
theorem zg2:∀(xs ys:List Int) (c:Int),lastC c (xs++ys)=lastC (lastC c xs) ys
 |[],_,_=>rfl
 |x::xs,ys,_=>zg2 xs ys x
theorem zsq{R:List (List W)}{c hd:Int}{ls:List Int}(h:∀r∈R,notX (colAt r c)=true):fallP R c hd ls=fallP R c 0 ls:=by
 cases R with
 |nil=>rfl
 |cons r rs=>unfold fallP;rw[zsp (h r (vak ..))]
theorem zg3{c:Int}{ls:List Int}:∀(R:List (List W)) (hd:Int),(∀r∈R,colAt r c=.str sDot)->(fallP R c hd ls).st=false/\(fallP R c hd ls).ls=ls/\lastC c (fallP R c hd ls).cs=c
 |[],_,_=>⟨rfl,rfl,rfl⟩
 |r::rs,hd,h=>by
  have e:stepP (colAt r c) hd ls=some (0,[],ls):=by rw[h r (vak ..)];exact zfw
  obtain⟨a,b,d⟩:=zg3 (ls:=ls) rs 0 λq hq=>h q (vaf _ hq)
  rw[zb5 e,Int.add_zero]
  exact⟨a,b,d⟩
theorem zw3{g i:Nat}{c:Int}(c3:3<=c)(c1:c< ((g+3:Nat):Int)):∀r∈tuR g i,colAt r c=.str sDot:=λr hr=>by
 have n1:c≠1:=by lia
 have n2:c≠2:=by lia
 unfold tuR at hr
 rcases va3.mp hr with rfl|hr
 .rw[zp5 (by lia) c1]
  have:lookK (tuK i) (.inl c)=none:=by
   unfold tuK lookK
   simp[n1,vdy n1]
  rw[this];rfl
 .rw[vbr.mp hr,zp5 (by lia) c1]
  have:lookK (kvK (tuK i)) (.inl c)=none:=by
   have e:kvK (tuK i)=[(.inl 2,.str sLt)]:=rfl
   rw[e]
   unfold lookK
   simp[n2,vdy n2]
  rw[this];rfl
structure Tt41(n:Nat):Prop where
 t1:(fallP (trnRs (gr n) (bitsP (-(n:Int)) (gr n))) 1 0 (bitsP ((2 ^ gr n:Nat):Int) (gr n))).st=false
 t2:(fallP (trnRs (gr n) (bitsP (-(n:Int)) (gr n))) 1 0 (bitsP ((2 ^ gr n:Nat):Int) (gr n))).ls=bitsP (-(n:Int)) (gr n)
 t3:lastC 1 (fallP (trnRs (gr n) (bitsP (-(n:Int)) (gr n))) 1 0 (bitsP ((2 ^ gr n:Nat):Int) (gr n))).cs=1
 x:∀r∈trnRs (gr n) (bitsP (-(n:Int)) (gr n)),notX (colAt r 1)=true
 g8:gr n<=8
 le:n<=2 ^ gr n
 e:bitsP (-(n:Int)) (gr n)=bitsP ((2 ^ gr n-n:Nat):Int) (gr n)
 g1:n=1\/1<=gr n
structure Dd41(g v:Nat):Prop where
 d1:(fallP (digRs g) ((1:Int)+g) 0 (bitsP v g)).st=false
 d2:(fallP (digRs g) ((1:Int)+g) 0 (bitsP v g)).ls=bitsP ((v+1:Nat):Int) g
 d3:vl (bitsP v g)=v
 d4:v+1=2 ^ g->lastC ((1:Int)+g) (fallP (digRs g) ((1:Int)+g) 0 (bitsP v g)).cs=1
 d5:v+1≠2 ^ g->3<=lastC ((1:Int)+g) (fallP (digRs g) ((1:Int)+g) 0 (bitsP v g)).cs
theorem t41{n:Nat}(h1:1<=n)(h2:n<=256):Tt41 n:=by
 have q:=vax.mp zso (n-1) (vbu.mpr (by lia))
 rw[Nat.sub_add_cancel h1]at q
 unfold okT at q
 simp only[vab,vb3,veu,vap,vax]at q
 obtain⟨⟨⟨⟨⟨⟨⟨a,b⟩,c⟩,d⟩,e⟩,f⟩,g⟩,i⟩:=q
 exact⟨a,b,c,d,e,f,g,i⟩
theorem d41{g v:Nat}(hg:g<=8)(hv:v<2 ^ g):Dd41 g v:=by
 have q:=vax.mp (vax.mp zsn g (vbu.mpr (by lia))) v (vbu.mpr hv)
 unfold okD at q
 simp only[vab,vb3,veu]at q
 obtain⟨⟨⟨a,b⟩,c⟩,d⟩:=q
 refine⟨a,b,c,λz=>?_,λz=>?_⟩
 .rw[if_pos z]at d
  exact eq_of_beq d
 .rw[if_neg z]at d
  exact va6 d
theorem zmu{g:Nat}{bs:List Int}{r:List W}(h:r∈trnRs g bs):∃i,i<g/\r∈tuR g i:=by
 obtain⟨i,hi,hr⟩:=List.mem_flatMap.mp h
 unfold trnOf at hr
 split at hr
 .exact⟨i,vbu.mp hi,hr⟩
 .cases hr
theorem zsr{g:Nat}{bs:List Int}:(trnRs g bs).length<=2*g:=by
 have:∀l:List Nat,(l.flatMap (trnOf g bs)).length<=2*l.length:=by
  intro l
  induction l with
  |nil=>exact vaa _
  |cons i r ih=>
   rw[List.flatMap_cons,vaj,vai]
   have:(trnOf g bs i).length<=2:=by
    unfold trnOf
    split
    .exact vaa _
    .exact vbg _
   lia
 have:=this (List.range g)
 rwa [vcm]at this
theorem zss{g:Nat}(hg:g<=8){r:List W}(h:r∈allRs g):(r.length:Int)=((g+3:Nat):Int)/\rowOk ((g+3:Nat):Int) g 0 r:=by
 have q:=vax.mp (vax.mp zsm g (vbu.mpr (by lia))) r h
 rw[vab,veu]at q
 exact⟨by rw[q.1],ze3 q.2⟩
theorem zmv{n:Nat}(hg:gr n<=8):zi4 (B41 n).wd (gr n:Int) (B41 n).rows:=λr hr=>zss hg (by
 rcases vb8.mp hr with hr|hr
 .exact vci _ hr
 .obtain⟨i,hi,hr⟩:=zmu hr
  exact vat _ (List.mem_flatMap.mpr ⟨i,vbu.mpr hi,hr⟩))
theorem zmw{n:Nat}(hg:gr n<=8):(B41 n).rows.length<=24:=by
 have:=zsr (g:=gr n) (bs:=bitsP (-(n:Int)) (gr n))
 show(digRs (gr n)++_).length<=_
 rw[vaj]
 unfold digRs
 rw[vah,vcm]
 lia
theorem zqa{n:Nat}(hg:gr n<=8):(B41 n).Ok:=by
 have l:=zmw hg
 refine⟨?_,?_,?_,?_,by lia,zmv hg,?_,?_,?_,?_,?_⟩
 .show(1:Int)<=((gr n+3:Nat):Int);lia
 .show((gr n+3:Nat):Int)<=40;lia
 .show(0:Int)<=(gr n:Int);lia
 .show(gr n:Int)<=8;lia
 .exact vaa 1
 .show 1<=4;lia
 .intro f hf
  rw[vbr.mp hf]
  show(decide ((0:Int)<=1+gr n)&&decide ((1:Int)+gr n<=((gr n+3:Nat):Int)-1))=true
  rw[vaz (by lia),vaz (by lia)];rfl
 .show(((vgc (gr n+3) _).set 1 _).length:Int)=_
  rw[vdp,vcn]
  rfl
 .intro d hd
  rcases vda hd with hd|rfl
  .rw[(List.mem_replicate.mp hd).2];show door (.tup [.int 0,.int 0]) ((1:Nat):Int)=true;decide +kernel
  .show door (.tup [.int 1,.int 0]) ((1:Nat):Int)=true;decide +kernel
noncomputable def st41(n k:Nat):List Int:=if k=n then bitsP (-(n:Int)) (gr n)else bitsP ((2 ^ gr n-n+k:Nat):Int) (gr n)
theorem zjd{n k:Nat}:(st41 n k).length=gr n:=by
 unfold st41
 split<;>exact zbn
theorem zmx{n k:Nat}:Bits (st41 n k):=by
 unfold st41
 split<;>exact zca
theorem zw4{n:Nat}(h1:1<=n)(h2:n<=256):st41 n 0=bitsP (-(n:Int)) (gr n):=by
 unfold st41
 rw[if_neg (by lia),Nat.add_zero,(t41 h1 h2).e]
theorem zqb{n:Nat}:st41 n n=bitsP (-(n:Int)) (gr n):=if_pos rfl
theorem zot{n i j:Nat}(h2:n<=256)(hi:i<n)(hj:j<n)(h:st41 n i=st41 n j):i=j:=by
 have t:=t41 (n:=n) (by lia) h2
 have le:=t.le
 unfold st41 at h
 rw[if_neg (by lia),if_neg (by lia)]at h
 have a:=(d41 (v:=2 ^ gr n-n+i) t.g8 (by lia)).d3
 have b:=(d41 (v:=2 ^ gr n-n+j) t.g8 (by lia)).d3
 rw[h,b]at a
 lia
theorem zw5{n:Nat}{c:Int}(c3:3<=c)(c1:c< ((gr n+3:Nat):Int)):atI (B41 n).dr c=some (.tup [.int 0,.int 0]):=by
 obtain⟨c,rfl⟩:=vbl (show 0<=c by lia)
 refine zbo ?_
 show((vgc (gr n+3) (W.tup [.int 0,.int 0])).set 1 (.tup [.int 1,.int 0]))[c]?=_
 rw[vcw (by lia),vdh,if_pos (by lia)]
theorem zou{n:Nat}:atI (B41 n).dr 1=some (.tup [.int 1,.int 0]):=by
 refine zbo (j:=1) ?_
 show((vgc (gr n+3) (W.tup [.int 0,.int 0])).set 1 (.tup [.int 1,.int 0]))[1]?=_
 rw[vbx (by rw[vcn];lia)]
theorem zw6{n k:Nat}(h2:n<=256)(hk:k<n) :
 (fallP (B41 n).rows ((1:Int)+gr n) 0 (st41 n k)).st=false/\(fallP (B41 n).rows ((1:Int)+gr n) 0 (st41 n k)).ls=st41 n (k+1)/\
 atI (B41 n).dr (lastC ((1:Int)+gr n) (fallP (B41 n).rows ((1:Int)+gr n) 0 (st41 n k)).cs)=some (.tup [.int (if k+1=n then 1 else 0),.int 0]):=by
 have t:=t41 (n:=n) (by lia) h2
 have le:=t.le
 have hv:2 ^ gr n-n+k<2 ^ gr n:=by lia
 have d:=d41 t.g8 hv
 have e0:st41 n k=bitsP ((2 ^ gr n-n+k:Nat):Int) (gr n):=if_neg (by lia)
 rw[e0]
 obtain⟨hd',e⟩:=zjc (R:=trnRs (gr n) (bitsP (-(n:Int)) (gr n))) _ _ _ _ d.d1
 have rk:=zmv t.g8
 have ok:=zml (digRs (gr n)) ((1:Int)+gr n) 0 (bitsP ((2 ^ gr n-n+k:Nat):Int) (gr n)) (λr hr=>rk r (vci _ hr)) (by lia) (show(1:Int)+gr n< ((gr n+3:Nat):Int) by lia) (by lia) (by lia) zca
 have c4:lastC ((1:Int)+gr n) (fallP (digRs (gr n)) ((1:Int)+gr n) 0 (bitsP ((2 ^ gr n-n+k:Nat):Int) (gr n))).cs< ((gr n+3:Nat):Int):=ok.c4.2
 show(fallP (digRs (gr n)++trnRs (gr n) (bitsP (-(n:Int)) (gr n))) _ _ _).st=false/\(fallP (digRs (gr n)++trnRs (gr n) (bitsP (-(n:Int)) (gr n))) _ _ _).ls=_/\atI _ (lastC _ (fallP (digRs (gr n)++trnRs (gr n) (bitsP (-(n:Int)) (gr n))) _ _ _).cs)=_
 rw[e,zg2]
 dsimp only
 rw[d.d2]
 by_cases z:k+1=n
 .have v1:2 ^ gr n-n+k+1=2 ^ gr n:=by lia
  rw[d.d4 v1,v1,zsq t.x,if_pos z,t.t3,z,zqb]
  exact⟨t.t1,t.t2,zou⟩
 .have c3:=d.d5 (by lia)
  obtain⟨a,b,f⟩:=zg3 (c:=lastC ((1:Int)+gr n) (fallP (digRs (gr n)) ((1:Int)+gr n) 0 (bitsP ((2 ^ gr n-n+k:Nat):Int) (gr n))).cs) (ls:=bitsP ((2 ^ gr n-n+k+1:Nat):Int) (gr n)) (trnRs (gr n) (bitsP (-(n:Int)) (gr n))) hd' (λr hr=>by
   obtain⟨i,_,hr⟩:=zmu hr
   exact zw3 c3 c4 r hr)
  rw[f,if_neg z]
  refine⟨a,?_,zw5 c3 c4⟩
  rw[b]
  unfold st41
  rw[if_neg z]
  rfl
theorem zje{n:Nat}{ls:List Int}:zah (n+2) (iW ls)=true:=by
 unfold iW
 rw[zb3,vax]
 intro w hw
 obtain⟨x,_,rfl⟩:=vct.mp hw
 rfl
theorem zjf{h:VH}{n:Nat}:∀ls:List Int,mapO (toD h (n+1)) (ls.map W.int)=some (ls.map PyData.int)
 |[]=>rfl
 |x::r=>by simp only[vaw,mapO,zjf r];rfl
theorem zst{h:VH}{n:Nat}{ws:List W}:toD h (n+1) (.tup ws)=(mapO (toD h n) ws).map .tuple:=rfl
theorem zqc{h:VH}{n:Nat}{ls:List Int}:toD h (n+2) (iW ls)=some (.tuple (ls.map .int)):=by
 unfold iW
 rw[zst,zjf,vbt]
theorem zjg:∀ls ms:List Int,PyData.eqvAll (ls.map .int) (ms.map .int)=decide (ls=ms)
 |[],[]=>rfl
 |[],_::_=>rfl
 |_::_,[]=>rfl
 |x::r,y::s=>by
  simp only[vaw,PyData.eqvAll,PyData.eqv,zjg r s]
  by_cases a:x=y<;>by_cases b:r=s<;>simp[a,b]
theorem zg4{h:VH}{w:W}{d:PyData}(p:zah 24 w=true)(e:toD h 24 w=some d):SeqAt.shaped d=true:=by
 obtain⟨d',h1,h2,h3⟩:=zcz h 24 w p
 rw[e]at h1;cases h1
 unfold SeqAt.shaped
 rw[h2,Bool.true_and,vap];lia
theorem zw7{h:VH}{w w':W}{d d':PyData}(p:zah 24 w=true)(p':zah 24 w'=true)(e:toD h 24 w=some d)(e':toD h 24 w'=some d'):eqW h w w'=some (PyData.eqv d d'):=by
 unfold eqW
 rw[e,e']
 simp[zg4 p e,zg4 p' e']
theorem zqd{h:VH}{a b:List Int}:eqW h (iW a) (iW b)=some (decide (a=b)):=by
 rw[zw7 zje zje zqc zqc]
 simp only[PyData.eqv,zjg]
theorem zov{w:W}(h:zah 24 w=true):Pv w:=λn=>zja 24 _ h
theorem pv_bd{B:Bd}(b:B.Ok):Pv B.w:=zov (zop b)
noncomputable def dblM(s:Int):Nat->Int->Int->Int
 |0,_,g=>g
 |n+1,r,g=>if r<s then dblM s n (r*2) (g+1)else g
theorem zmy{cl:Call}{s ff:Int}{h:VH}:∀(n fu:Nat) (r g:Int),s<=r*2 ^ n->n<fu->∃r',whlG (ev cl zb6) (exs cl zfx) fu [some (.int s),some (.int ff),some (.int g),some (.int r)] h=.ok (.nx [some (.int s),some (.int ff),some (.int (dblM s n r g)),some (.int r')]) h
 |0,fu+1,r,g,hs,_=>by
  refine⟨r,?_⟩
  have ec:ev cl zb6 [some (.int s),some (.int ff),some (.int g),some (.int r)] h=.ok (.bl false) h:=by
   unfold zb6
   rw[ev,varE (x:=.int r) rfl,bindok,varE (x:=.int s) rfl,bindok]
   show Res.ok (W.bl (decide (r<s))) h=_
   rw[vav (by simp at hs;lia)]
  simp only[whlG,ec,bindok,dblM]
 |n+1,fu+1,r,g,hs,hf=>by
  by_cases q:r<s
  .have ec:ev cl zb6 [some (.int s),some (.int ff),some (.int g),some (.int r)] h=.ok (.bl true) h:=by
    unfold zb6
    rw[ev,varE (x:=.int r) rfl,bindok,varE (x:=.int s) rfl,bindok]
    show Res.ok (W.bl (decide (r<s))) h=_
    rw[vaz q]
   have eb:exs cl zfx [some (.int s),some (.int ff),some (.int g),some (.int r)] h=.ok (.nx [some (.int s),some (.int ff),some (.int (g+1)),some (.int (r*2))]) h:=by
    unfold zfx
    refine(zab (ρ':=[some (.int s),some (.int ff),some (.int (g+1)),some (.int r)]) (h':=h) ?_).trans ?_
    .rw[exs];rfl
    .refine(zab (ρ':=[some (.int s),some (.int ff),some (.int (g+1)),some (.int (r*2))]) (h':=h) ?_).trans (by rw[exs])
     rw[exs]
     show(((Res.of ((if za4 r||za4 2 then some (r*2)else none).map W.int) h)).bind _)=_
     rw[if_pos (by rw[show za4 2=true from by decide,Bool.or_true])]
     rfl
   obtain⟨r',e⟩:=zmy (cl:=cl) (s:=s) (ff:=ff) (h:=h) n fu (r*2) (g+1) (by rw[Int.mul_assoc,show(2:Int)*2 ^ n=2 ^ (n+1) by rw[Int.pow_succ,Int.mul_comm]];exact hs) (by lia)
   refine⟨r',?_⟩
   simp only[whlG,ec,bindok,eb,e,dblM,if_pos q]
  .refine⟨r,?_⟩
   have ec:ev cl zb6 [some (.int s),some (.int ff),some (.int g),some (.int r)] h=.ok (.bl false) h:=by
    unfold zb6
    rw[ev,varE (x:=.int r) rfl,bindok,varE (x:=.int s) rfl,bindok]
    show Res.ok (W.bl (decide (r<s))) h=_
    rw[vav q]
   simp only[whlG,ec,bindok,dblM,if_neg q]
theorem zw8{h:VH}{ws:List W}:Kn h (.tup ws):=by simp[Kn,tyIs]
theorem zjh{h:VH}{i:Int}:Kn h (.int i):=by simp[Kn,tyIs]
theorem ze5{cl:Call}{ρ:En}{h h1:VH}{a:E}{b:Bool}(ea:ev cl a ρ h=.ok (.bl b) h1):ev cl (.not (.tru a)) ρ h=.ok (.bl (!b)) h1:=by
 rw[ev,ev,ea,bindok]
 cases b<;>rfl
theorem zsu{h h':VH}{w:W}:∃h2,fin h (.ok (.rt w) h')=.ok w h2:=by
 show ∃h2,leave h w h'=.ok w h2
 unfold leave
 split<;>exact⟨_,rfl⟩
theorem skF{cl:Call}{c:E}{b:S}{ρ:En}{h h1:VH}(e:ev cl c ρ h=.ok (.bl false) h1):exs cl (.ite c b .skip) ρ h=.ok (.nx ρ) h1:=by
 rw[exs,e,bindok]
 show exs _ .skip _ _=_
 rw[exs]
theorem orF{cl:Call}{a b:E}{ρ:En}{h h1:VH}(ea:ev cl a ρ h=.ok (.bl false) h1):ev cl (.or a b) ρ h=ev cl b ρ h1:=by rw[ev,ea,bindok]
theorem anT{cl:Call}{a b:E}{ρ:En}{h h1:VH}(ea:ev cl a ρ h=.ok (.bl true) h1):ev cl (.and a b) ρ h=ev cl b ρ h1:=by rw[ev,ea,bindok]
theorem cmE{cl:Call}{c:Cp}{a b:E}{ρ:En}{h h1 h2:VH}{x y:W}{r:Bool}(ea:ev cl a ρ h=.ok x h1)(eb:ev cl b ρ h1=.ok y h2)(e:cmpW c h2 x y=some r):ev cl (.cmp c a b) ρ h=.ok (.bl r) h2:=by
 rw[ev,ea,bindok,eb,bindok,e];rfl
theorem isT{cl:Call}{a:E}{ρ:En}{h h1:VH}{ws:List W}(ea:ev cl a ρ h=.ok (.tup ws) h1):ev cl (.not (.tru (.isi .tuple a))) ρ h=.ok (.bl false) h1:=by
 refine ze5 (b:=true) ?_
 rw[ev,ea,bindok];rfl
theorem ne0{cl:Call}{a b:E}{ρ:En}{h h1 h2:VH}{i:Int}(ea:ev cl a ρ h=.ok (.int i) h1)(eb:ev cl b ρ h1=.ok (.int i) h2):ev cl (.cmp .ne a b) ρ h=.ok (.bl false) h2:=by
 refine cmE ea eb ?_
 simp only[cmpW,zb4,vey]
 rfl
noncomputable def zhv:E:=(.call 33 (.cons (.var 4) (.cons (.dsp (.cons (.op .sub (.var 1) (.var 0)) (.cons (.tup (.cons (.op .add (.var 2) (.var 0)) (.cons (.var 3) .nil))) .nil))) .nil)))
noncomputable def fn82:Fn:=⟨5,5,(.seq (.ret (.lc .rng1 (.cons (.var 3) .nil) (.one 0) 1 [1,2,4,0] (.cst (.bl true)) zhv)) .skip)⟩
noncomputable def zdw:S:=(.seq (.ite (.cmp .eq (.var 7) (.cst (.int (1)))) (.seq (.aug 5 .add (.call 36 (.cons (.var 2) (.cons (.dsp (.cons (.cst (.int (1))) (.cons (.tup (.cons (.var 6) (.cons (.cst (.int (1))) .nil))) .nil))) .nil)))) .skip) .skip) .skip)
noncomputable def zf1:E:=(.cst (.tup [(.int (0)),(.int (0))]))
noncomputable def fn106:Fn:=⟨1,9,(.seq (.ite (.not (.tru (.call 1 (.cons (.var 0) (.cons (.cst (.int (1))) (.cons (.cst (.int (256))) .nil)))))) (.seq .no .skip) .skip) (.seq (.set 1 (.call 32 (.cons (.var 0) (.cons (.cst (.int (1))) .nil)))) (.seq (.set 2 (.op .add (.var 1) (.cst (.int (3))))) (.seq (.set 3 (.op .add (.cst (.int (1))) (.var 1))) (.seq (.set 4 (.call 41 (.cons (.neg (.var 0)) (.cons (.var 1) .nil)))) (.seq (.set 5 (.call 82 (.cons (.var 2) (.cons (.var 3) (.cons (.cst (.int (0))) (.cons (.var 1) (.cons (.cst (.int (1))) .nil))))))) (.seq (.«for» .enm (.var 4) (.many [6,7]) zdw) (.seq (.set 8 (.lc .rng1 (.cons (.var 2) .nil) (.one 0) 1 [] (.cst (.bl true)) zf1)) (.seq (.put (.var 8) (.cst (.int (1))) (.cst (.tup [(.int (1)),(.int (0))]))) (.seq (.ret (.tup (.cons (.tup (.cons (.var 2) (.cons (.var 1) (.cons (.bi .tuple (.cons (.var 5) .nil)) (.cons (.tup (.cons (.var 3) .nil)) (.cons (.bi .tuple (.cons (.var 8) .nil)) .nil)))))) (.cons (.var 4) .nil)))) .skip))))))))))⟩
noncomputable def zc3:Fn:=⟨1,3,(.seq (.set 1 (.call 5 (.cons (.var 0) (.cons (.cst (.int (4))) .nil)))) (.seq (.set 2 (.op .shl (.cst (.int (1))) (.call 5 (.cons (.var 0) (.cons (.cst (.int (9))) .nil))))) (.seq (.ret (.idx (.lst (.cons (.op .add (.cst (.int (1))) (.call 5 (.cons (.var 0) (.cons (.cst (.int (256))) .nil)))) (.cons (.var 2) (.cons (.bi .max (.cons (.cst (.int (1))) (.cons (.op .sub (.var 2) (.cst (.int (1)))) .nil))) (.cons (.bi .min (.cons (.cst (.int (256))) (.cons (.op .add (.var 2) (.cst (.int (1)))) .nil))) .nil))))) (.var 1))) .skip)))⟩
noncomputable def zbs:E:=(.cmp .lt (.op .shl (.cst (.int (1))) (.var 1)) (.var 0))
noncomputable def zbt:S:=(.seq (.set 1 (.op .add (.var 1) (.cst (.int (1))))) .skip)
noncomputable def zc4:Fn:=⟨1,2,(.seq (.set 1 (.cst (.int (0)))) (.seq (.whl zbs zbt) (.seq (.ret (.var 1)) .skip)))⟩
noncomputable def zco:E:=(.not (.tru (.call 39 (.cons (.idx (.var 0) (.cst (.int (1)))) (.cons (.cst (.int (0))) .nil)))))
noncomputable def zek:E:=(.var 0)
noncomputable def zc5:Fn:=⟨1,4,(.seq (.set 1 (.call 106 (.cons (.var 0) .nil))) (.seq (.ite (.or (.not (.tru (.isi .tuple (.var 1)))) (.cmp .ne (.bi .len (.cons (.var 1) .nil)) (.cst (.int (2))))) (.seq (.ret (.cst (.bl false))) .skip) .skip) (.seq (.unp [2,3] (.var 1)) (.seq (.ite (.or (.cmp .notn (.call 14 (.cons (.var 2) .nil)) (.cst .non)) (.cmp .notn (.call 22 (.cons (.var 2) (.cons (.var 3) .nil))) (.cst (.bl true)))) (.seq (.ret (.cst (.bl false))) .skip) .skip) (.seq (.ite (.or (.not (.tru (.call 39 (.cons (.idx (.var 2) (.cst (.int (1)))) (.cons (.call 701 (.cons (.var 0) .nil)) .nil))))) (.cmp .ne (.bi .len (.cons (.idx (.var 2) (.cst (.int (3)))) .nil)) (.cst (.int (1))))) (.seq (.ret (.cst (.bl false))) .skip) .skip) (.seq (.ite (.cmp .ne (.lc .seq (.idx (.var 2) (.cst (.int (4)))) (.one 0) 1 [] zco zek) (.lst .nil)) (.seq (.ret (.cst (.bl false))) .skip) .skip) (.seq (.ret (.and (.call 703 (.cons (.var 2) (.cons (.var 3) (.cons (.var 0) .nil)))) (.cmp .eq (.call 106 (.cons (.var 0) .nil)) (.var 1)))) .skip)))))))⟩
noncomputable def zbu:S:=(.seq (.expr (.mt .append (.var 3) (.cons (.var 4) .nil))) (.seq (.unp [6,7,4,8] (.call 38 (.cons (.var 0) (.cons (.var 4) (.cons (.cst (.int (0))) .nil))))) (.seq (.ite (.or (.tru (.var 8)) (.not (.tru (.call 39 (.cons (.idx (.idx (.idx (.var 0) (.cst (.int (4)))) (.idx (.var 6) (.neg (.cst (.int (1)))))) (.cst (.int (0)))) (.cons (.bi .int (.cons (.cmp .eq (.var 5) (.op .sub (.var 2) (.cst (.int (1))))) .nil)) .nil)))))) (.seq (.ret (.cst (.bl false))) .skip) .skip) .skip)))
noncomputable def zcp:E:=(.cmp .eq (.idx (.var 1) (.op .sub (.var 0) (.cst (.int (1))))) (.idx (.var 1) (.var 0)))
noncomputable def zel:E:=(.var 0)
noncomputable def zc6:Fn:=⟨3,10,(.seq (.set 3 (.lst .nil)) (.seq (.set 4 (.var 1)) (.seq (.«for» .rng1 (.cons (.var 2) .nil) (.one 5) zbu) (.seq (.set 3 (.bi .srt (.cons (.var 3) .nil))) (.seq (.set 9 (.lc .rng2 (.cons (.cst (.int (1))) (.cons (.var 2) .nil)) (.one 0) 1 [3] zcp zel)) (.seq (.ret (.and (.cmp .eq (.var 4) (.var 1)) (.cmp .eq (.var 9) (.lst .nil)))) .skip))))))⟩
noncomputable def zcq:S:=(.seq (.ite (.not (.tru (.call 702 (.cons (.call 700 (.cons (.var 1) .nil)) .nil)))) (.seq (.ret (.cst (.bl false))) .skip) .skip) .skip)
noncomputable def zc7:Fn:=⟨1,3,(.seq (.set 1 (.call 3 (.cons (.var 0) .nil))) (.seq (.«for» .rng1 (.cons (.cst (.int (4))) .nil) (.one 2) zcq) (.seq (.ret (.cst (.bl true))) .skip)))⟩
theorem zw9:((List.range 257).all λS=>decide (dblM (S:Int) 9 1 0=(gr S:Int))&&decide (S<=2 ^ 9))=true:=by decide +kernel
theorem dsp1{cl:Call}{a:E}{ρ:En}{h h1:VH}{i:Int}{w:W}(ea:ev cl a ρ h=.ok (.tup [.int i,w]) h1):ev cl (.dsp a) ρ h=.ok (.ref h1.n) (h1.new (.dk [(.inl i,w)])):=by
 rw[ev,ea,bindok];rfl
theorem pv_tt{a b:Int}:Pv (.tup [.int a,.int b]):=Pv.tup λw hw=>by
 rcases va3.mp hw with rfl|hw
 .exact Pv.int
 .rw[vbr.mp hw];exact Pv.int
structure C41(F:Nat->Option Fn):Prop extends C53 F where
 b:CoreB F
 f32:F 32=some fn32
 f82:F 82=some fn82
 f106:F 106=some fn106
section
variable{F:Nat->Option Fn}(C:C41 F)
include C
theorem C41.a3:CoreA3 F:=⟨C.b.f0,C.b.f1,C.b.f6⟩
theorem zsv{k n:Nat}{h:VH}(h1:1<=n)(h2:n<=256):run F (k+3) 32 [.int n,.int 1] h=.ok (.int (gr n:Int)) h:=by
 rw[zal C.f32 rfl]
 have e1:=za6 C.a3 (k:=k) (h:=⟨h.n,h.n,h.os⟩) (w:=.int n) (lo:=1) (hi:=1000000000) zjh
 have e2:=za6 C.a3 (k:=k) (h:=⟨h.n,h.n,h.os⟩) (w:=.int 1) (lo:=1) (hi:=4) zjh
 have w1:within (.int n) 1 1000000000=true:=by
  simp[within]
  lia
 have w2:within (.int 1) 1 4=true:=by decide
 rw[w1]at e1
 rw[w2]at e2
 have hq:=vax.mp zw9 n (vbu.mpr (by lia))
 rw[vab,vap,vap]at hq
 obtain⟨r',e3⟩:=zmy (cl:=run F (k+2)) (s:=n) (ff:=1) (h:=⟨h.n,h.n,h.os⟩) 9 fuel 1 0 (by lia) (by decide)
 rw[hq.1]at e3
 simp[fn32,exs,ev,e1,e2,e3,zai]
theorem zow{k g:Nat}{h:VH}(hg:g<=8):∃i h',run F (k+2) 82 [.int ((g+3:Nat):Int),.int ((1:Int)+g),.int 0,.int (g:Int),.int 1] h=.ok (.ref i) h'/\h'.get i=some (.lst ((digRs g).map .tup))/\Gm h h'/\h.n<=i:=by
 obtain⟨ys,ρ',h',e1,hI⟩:=zfz (nx:=nxt .rng1 (.tup [.int (g:Int)])) (tg:=tgW (.one 0)) (e:=ev (run F (k+1)) zhv) (n:=g)
  (I:=λi ρ h1 acc=>(∃x,ρ=[x,some (.int ((1:Int)+g)),some (.int 0),some (.int 1),some (.int ((g+3:Nat):Int))])/\Gm ⟨h.n,h.n,h.os⟩ h1/\acc=((List.range i).map (digR g)).map .tup)
  (λi ρ h1 acc hi hI=>by
    obtain⟨⟨x,rfl⟩,G,rfl⟩:=hI
    have er:=row53 C.toC53 (k:=k) (p:=h1.n) (n:=g+3) (h:=h1.new (.dk (dgK g i))) (kvs:=dgK g i) (.inr zat) (λkv hk=>by
     rw[vbr.mp hk];exact pv_tt) (by lia)
    refine⟨.int (i:Int),[some (.int (i:Int)),some (.int ((1:Int)+g)),some (.int 0),some (.int 1),some (.int ((g+3:Nat):Int))],.tup (digR g i),h1.new (.dk (dgK g i)),?_,rfl,?_,⟨_,rfl⟩,G.new,?_⟩
    .rw[za5 (by lia),if_pos hi]
    .unfold zhv
     exact zbg (varE rfl) (dsp1 (consM (opE (x:=.int ((1:Int)+g)) (y:=.int (i:Int)) (varE rfl) (varE rfl) rfl) (consM (tupM (consM (opE (x:=.int 0) (y:=.int (i:Int)) (varE rfl) (varE rfl) rfl) (consM (varE (x:=.int 1) rfl) nilM)) rfl) nilM))) er
    .rw[ves,vca,vca];rfl)
  (λρ h1 acc hI=>by rw[za5 (by lia),if_neg (vbf _)])
  (ρ:=inner 1 [1,2,4,0] [some (.int ((g+3:Nat):Int)),some (.int ((1:Int)+g)),some (.int 0),some (.int (g:Int)),some (.int 1)]) (h:=⟨h.n,h.n,h.os⟩) (by lia) ⟨⟨none,rfl⟩,Gm.refl,rfl⟩
 obtain⟨_,G,rfl⟩:=hI
 have hl:((digRs g).map W.tup).length=g:=by unfold digRs;rw[vah,vah,vcm]
 have eb:exs (run F (k+1)) fn82.body [some (.int ((g+3:Nat):Int)),some (.int ((1:Int)+g)),some (.int 0),some (.int (g:Int)),some (.int 1)] ⟨h.n,h.n,h.os⟩=.ok (.rt (.ref h'.n)) (h'.new (.lst ((digRs g).map .tup))):=
  zan (retE (lcM (h1:=⟨h.n,h.n,h.os⟩) (x:=.tup [.int (g:Int)]) (consM (varE rfl) nilM) e1 (by rw[hl];lia)))
 obtain⟨h2,e2,G2,g2⟩:=zp8 (h:=h) (h':=h'.new (.lst ((digRs g).map .tup))) (w:=.ref h'.n) (zp7 G.le) G.new
 refine⟨h'.n,h2,?_,?_,G2,G.le⟩
 .rw[zal C.f82 rfl,<-e2]
  exact vd8 (fin h) eb
 .rw[g2];exact zat
theorem zxa{k p n:Nat}{h:VH}{kvs:Kv}(g:h.get p=some (.dk kvs))(ok:Kok kvs)(hl:kvs.length<=1000)(hn:n<1000) :
 ∃i h',run F (k+2) 36 [.int n,.ref p] h=.ok (.ref i) h'/\h'.get i=some (.lst [.tup (rowP n kvs),.tup (rowP n (kvK kvs))])/\Gm h h'/\h.n<=i:=by
 have g0:VH.get ⟨h.n,h.n,h.os⟩ p=some (.dk kvs):=g
 have eA:=row53 C.toC53 (k:=k) (p:=p) (n:=n) (h:=⟨h.n,h.n,h.os⟩) (.inr g0) ok.v hn
 generalize hk1:(⟨h.n,h.n,h.os⟩:VH)=k1 at *
 obtain⟨ys,ρ',h',e1,hI⟩:=zhu (nx:=nxt .keys (.ref p)) (tg:=tgW (.one 0)) (c:=λ_ h=>.ok (.bl true) h) (e:=ev (run F (k+1)) (.op .add (.var 0) (.cst (.int (1))))) (v:=ev (run F (k+1)) (.cst (.str sLt))) (n:=kvs.length)
  (I:=λi ρ h1 acc=>(∃x,ρ=[x])/\h1=k1/\acc=kvK (kvs.take i))
  (λi ρ h1 acc hi hI=>by
    obtain⟨⟨x,rfl⟩,rfl,rfl⟩:=hI
    have hx:=va0 hi
    obtain⟨⟨j,hj⟩,_⟩:=ok _ (vbd hi)
    refine⟨.int j,[some (.int j)],true,h1,?_,rfl,rfl,.inl ⟨rfl,.int (j+1),.inl (j+1),.str sLt,h1,h1,?_,cstM,rfl,?_,⟨_,rfl⟩,rfl,?_⟩⟩
    .simp only[nxt,g0,hx,hj,keyV]
    .exact opE (varE rfl) cstM rfl
    .have:=zsj (kv:=kvs.take i)
     rw[vbj]at this
     exact zfv (by lia)
    .rw[List.take_add_one,hx]
     have e5:kvs[i]=(.inl j,kvs[i].2):=by rw[<-hj]
     show _=kvK (kvs.take i++[kvs[i]])
     rw[e5,zos])
  (λρ h1 acc hI=>by
    obtain⟨_,rfl,rfl⟩:=hI
    simp only[nxt,g0,vdu (vaa _),Nat.beq_refl,vbe])
  kvs.length 0 fuel [none] k1 [] (vce _) (show _<1000000 by lia) ⟨⟨none,rfl⟩,rfl,rfl⟩
 obtain⟨_,rfl,rfl⟩:=hI
 rw[vel]at e1
 have eB:=row53 C.toC53 (k:=k) (p:=h'.n) (n:=n) (h:=h'.new (.dm (kvK kvs))) (.inl zat) zw1.v hn
 have efr:ev (run F (k+1)) (.bi .frz (.cons (.var 1) .nil)) [some (.int n),some (.ref p)] h'=.ok (.ref p) h':=by
  rw[ev,consM (varE (x:=.ref p) rfl) nilM,bindok]
  show frzW [.ref p] _=_
  simp only[frzW,g0]
 have edc:ev (run F (k+1)) (.dc .keys (.bi .frz (.cons (.var 1) .nil)) (.one 0) 1 [] (.cst (.bl true)) (.op .add (.var 0) (.cst (.int (1)))) (.cst (.str sLt))) [some (.int n),some (.ref p)] h'=.ok (.ref h'.n) (h'.new (.dm (kvK kvs))):=by
  rw[ev,efr,bindok,zp0]
  show((dcG _ _ _ _ _ fuel 0 [none] h' []).bind _)=_
  rw[e1,bindok]
 have eb:exs (run F (k+1)) fn36.body [some (.int n),some (.ref p)] h'=.ok (.rt (.ref (h'.n+1))) ((h'.new (.dm (kvK kvs))).new (.lst [.tup (rowP n kvs),.tup (rowP n (kvK kvs))])):=
  zan (retE (lstM (consM (zbg (varE rfl) (varE rfl) eA) (consM (zbg (varE rfl) edc eB) nilM)) rfl))
 subst hk1
 obtain⟨h2,e2,G2,g2⟩:=zp8 (h:=h) (h':=(VH.new ⟨h.n,h.n,h.os⟩ (.dm (kvK kvs))).new (.lst [.tup (rowP n kvs),.tup (rowP n (kvK kvs))])) (w:=.ref (h.n+1)) (zp7 (by lia)) Gm.refl.new.new
 refine⟨h.n+1,h2,?_,?_,G2,vdk _⟩
 .rw[zal C.f36 rfl,<-e2]
  exact vd8 (fin h) eb
 .rw[g2];exact zat
end
theorem iteT4{cl:Call}{c:E}{a b:S}{ρ:En}{h h1:VH}(e:ev cl c ρ h=.ok (.bl true) h1):exs cl (.ite c a b) ρ h=exs cl a ρ h1:=by
 rw[exs,e,bindok]
theorem zxb{i:Nat}:Kok (tuK i):=λkv hk=>by
 rw[vbr.mp hk]
 exact⟨⟨1,rfl⟩,pv_tt⟩
noncomputable abbrev E106(n g:Nat)(r:Nat)(x6 x7 x8:Option W):En:=[some (.int (n:Int)),some (.int (g:Int)),some (.int ((g+3:Nat):Int)),some (.int ((1:Int)+g)),some (iW (bitsP (-(n:Int)) g)),some (.ref r),x6,x7,x8]
section
variable{F:Nat->Option Fn}(C:C41 F)
include C
theorem zsw{k n g r i:Nat}{h h1:VH}{x6 x7:Option W}(hg:g<=8)(hi:i<g)(hr:h.n<=r)(G:Gm ⟨h.n,h.n,h.os⟩ h1)
 (g1:h1.get r=some (.lst ((digRs g++(List.range i).flatMap (trnOf g (bitsP (-(n:Int)) g))).map .tup))) (hl:(digRs g++(List.range i).flatMap (trnOf g (bitsP (-(n:Int)) g))).length<=100) :
 ∃h2,exs (run F (k+3)) zdw (E106 n g r (some (.int (i:Int))) (some (.int ((bitsP (-(n:Int)) g).getD i 0))) none) h1=.ok (.nx (E106 n g r (some (.int (i:Int))) (some (.int ((bitsP (-(n:Int)) g).getD i 0))) none)) h2/\Gm ⟨h.n,h.n,h.os⟩ h2/\
  h2.get r=some (.lst ((digRs g++(List.range (i+1)).flatMap (trnOf g (bitsP (-(n:Int)) g))).map .tup)):=by
 have ef:(List.range (i+1)).flatMap (trnOf g (bitsP (-(n:Int)) g))=(List.range i).flatMap (trnOf g (bitsP (-(n:Int)) g))++trnOf g (bitsP (-(n:Int)) g) i:=by
  rw[ves,List.flatMap_append,List.flatMap_cons,List.flatMap_nil,vbp]
 have ec:ev (run F (k+3)) (.cmp .eq (.var 7) (.cst (.int (1)))) (E106 n g r (some (.int (i:Int))) (some (.int ((bitsP (-(n:Int)) g).getD i 0))) none) h1=.ok (.bl (decide ((bitsP (-(n:Int)) g).getD i 0=1))) h1:=
  cmE (x:=.int ((bitsP (-(n:Int)) g).getD i 0)) (varE rfl) cstM (by simp only[cmpW,zb4])
 unfold zdw
 by_cases q:(bitsP (-(n:Int)) g).getD i 0=1
 .rw[vaz q]at ec
  have et:trnOf g (bitsP (-(n:Int)) g) i=tuR g i:=if_pos q
  obtain⟨j,h2,e2,g2,G2,j2⟩:=zxa C (k:=k+1) (p:=h1.n) (n:=g+3) (h:=h1.new (.dk (tuK i))) zat zxb (by simp[tuK]) (by lia)
  have G3:Gm ⟨h.n,h.n,h.os⟩ h2:=(G.new (o:=.dk (tuK i))).trans G2
  have hr1:=zag g1
  have g3:h2.get r=some (.lst ((digRs g++(List.range i).flatMap (trnOf g (bitsP (-(n:Int)) g))).map .tup)):=by
   rw[G2.get r (vcl hr1),zak hr1];exact g1
  refine⟨h2.set r (.lst ((digRs g++(List.range (i+1)).flatMap (trnOf g (bitsP (-(n:Int)) g))).map .tup)),?_,G3.set hr (zag g3),zas g3⟩
  refine(zab (ρ':=E106 n g r (some (.int (i:Int))) (some (.int ((bitsP (-(n:Int)) g).getD i 0))) none) ?_).trans (by rw[exs])
  rw[iteT4 ec]
  refine(zab (ρ':=E106 n g r (some (.int (i:Int))) (some (.int ((bitsP (-(n:Int)) g).getD i 0))) none) ?_).trans (by rw[exs])
  have ea:ev (run F (k+3)) (.call 36 (.cons (.var 2) (.cons (.dsp (.cons (.cst (.int (1))) (.cons (.tup (.cons (.var 6) (.cons (.cst (.int (1))) .nil))) .nil))) .nil))) (E106 n g r (some (.int (i:Int))) (some (.int ((bitsP (-(n:Int)) g).getD i 0))) none) h1=.ok (.ref j) h2:=
   zbg (varE (x:=.int ((g+3:Nat):Int)) rfl) (dsp1 (i:=1) (w:=.tup [.int (i:Int),.int 1]) (consM cstM (consM (tupM (consM (varE (x:=.int (i:Int)) rfl) (consM cstM nilM)) rfl) nilM))) e2
  rw[exs]
  show((ev (run F (k+3)) _ _ h1).bind _)=_
  rw[ea,bindok]
  have ei:ipW .add (.ref r) (.ref j) h2=.ok (.ref r) (h2.set r (.lst ((digRs g++(List.range (i+1)).flatMap (trnOf g (bitsP (-(n:Int)) g))).map .tup))):=by
   simp only[ipW,g3,g2]
   rw[if_pos (zhp (by rw[vah];simp only[vai,vdr];lia)),ef,et,<-va1,vca (l₂:=tuR g i)]
   rfl
  rw[ei,bindok]
  rfl
 .rw[vav q]at ec
  have et:trnOf g (bitsP (-(n:Int)) g) i=[]:=if_neg q
  refine⟨h1,(zab (skF ec)).trans (by rw[exs]),G,?_⟩
  rw[ef,et,vbp];exact g1
theorem zmz{k n:Nat}{h:VH}(h1:1<=n)(h2:n<=256):run F (k+4) 106 [.int n] h=.ok (.tup [(B41 n).w,iW (bitsP (-(n:Int)) (gr n))]) h:=by
 have t:=t41 h1 h2
 have hg:=t.g8
 have pvb:=pv_bd (zqa hg)
 let k0:VH:=⟨h.n,h.n,h.os⟩
 have e1:=za6 C.a3 (k:=k+1) (h:=k0) (w:=.int n) (lo:=1) (hi:=256) zjh
 have w1:within (.int n) 1 256=true:=by
  simp[within]
  lia
 rw[w1]at e1
 have e32:=zsv C (k:=k) (h:=k0) h1 h2
 have e41:=zw2 C.toC53 (k:=k+2) (s:=gr n) (h:=k0) (z:=-(n:Int)) (by lia)
 obtain⟨r,h82,e82,g82,G82,hr⟩:=zow C (k:=k+1) (g:=gr n) (h:=k0) hg
 have hb:((B41 n).w)=.tup [.int ((gr n+3:Nat):Int),.int (gr n:Int),.tup ((digRs (gr n)++trnRs (gr n) (bitsP (-(n:Int)) (gr n))).map .tup),.tup [.int ((1:Int)+gr n)],.tup ((vgc (gr n+3) (W.tup [.int 0,.int 0])).set 1 (.tup [.int 1,.int 0]))]:=rfl
 rw[hb]at pvb ⊢
 generalize gr n=g at *
 have hlen:∀i,i<=g->(digRs g++(List.range i).flatMap (trnOf g (bitsP (-(n:Int)) g))).length<=100:=λi hi=>by
  have:∀l:List Nat,(l.flatMap (trnOf g (bitsP (-(n:Int)) g))).length<=2*l.length:=by
   intro l
   induction l with
   |nil=>exact vaa _
   |cons i r ih=>
    rw[List.flatMap_cons,vaj,vai]
    have:(trnOf g (bitsP (-(n:Int)) g) i).length<=2:=by
     unfold trnOf
     split
     .exact vaa _
     .exact vbg _
    lia
  have:=this (List.range i)
  rw[vcm]at this
  rw[vaj]
  unfold digRs
  rw[vah,vcm]
  lia
 obtain⟨ρ',h',e5,hI⟩:=zc2 (nx:=nxt .enm (iW (bitsP (-(n:Int)) g))) (tg:=tgW (.many [6,7])) (b:=exs (run F (k+3)) zdw) (n:=g)
  (I:=λi ρ h1=>(∃x6 x7,ρ=E106 n g r x6 x7 none)/\Gm k0 h1/\h1.get r=some (.lst ((digRs g++(List.range i).flatMap (trnOf g (bitsP (-(n:Int)) g))).map .tup)))
  (λi ρ h1 hi hI=>by
    obtain⟨⟨x6,x7,rfl⟩,G,g1⟩:=hI
    obtain⟨h2,e2,G2,g2⟩:=zsw C (k:=k) (n:=n) (x6:=x6) (x7:=x7) (h:=h) hg hi hr G g1 (hlen i (vdf hi))
    refine⟨.tup [.int (i:Int),.int ((bitsP (-(n:Int)) g).getD i 0)],_,_,h2,?_,rfl,e2,⟨_,_,rfl⟩,G2,g2⟩
    show some ((((bitsP (-(n:Int)) g).map W.int)[i]?).map λw=>W.tup [.int i,w])=_
    rw[va5,vb5,va0 (by rw[zbn];exact hi)]
    rfl)
  (λρ h1 hI=>by
    show some ((((bitsP (-(n:Int)) g).map W.int)[g]?).map λw=>W.tup [.int g,w])=_
    rw[vdu (by rw[vah,zbn];exact vaa _)]
    rfl)
  g 0 fuel (E106 n g r none none none) h82 (vce _) (show _<1000000 by lia) ⟨⟨none,none,rfl⟩,G82,by rw[g82];simp⟩
 obtain⟨⟨x6,x7,rfl⟩,G5,g5⟩:=hI
 obtain⟨ys,ρ8,h8,e8,hI8⟩:=zfz (nx:=nxt .rng1 (.tup [.int ((g+3:Nat):Int)])) (tg:=tgW (.one 0)) (e:=ev (run F (k+3)) zf1) (n:=g+3)
  (I:=λi ρ h1 acc=>(∃x,ρ=[x])/\h1=h'/\acc=vgc i (W.tup [.int 0,.int 0]))
  (λi ρ h1 acc hi hI=>by
    obtain⟨⟨x,rfl⟩,rfl,rfl⟩:=hI
    refine⟨.int (i:Int),[some (.int (i:Int))],.tup [.int 0,.int 0],h1,?_,rfl,cstM,⟨_,rfl⟩,rfl,?_⟩
    .rw[za5 (by lia),if_pos hi]
    .rw[<-List.replicate_succ'])
  (λρ h1 acc hI=>by rw[za5 (by lia),if_neg (vbf _)])
  (ρ:=[none]) (h:=h') (by lia) ⟨⟨none,rfl⟩,rfl,rfl⟩
 obtain⟨_,rfl,rfl⟩:=hI8
 let h9:=h8.new (.lst (vgc (g+3) (W.tup [.int 0,.int 0])))
 have g9:h9.get h8.n=some (.lst (vgc (g+3) (W.tup [.int 0,.int 0]))):=zat
 let dd:List W:=(vgc (g+3) (W.tup [.int 0,.int 0])).set 1 (.tup [.int 1,.int 0])
 let h10:=h9.set h8.n (.lst dd)
 have G10:Gm k0 h10:=(G5.new (o:=.lst (vgc (g+3) (W.tup [.int 0,.int 0])))).set G5.le (va4 _)
 have hr5:=zag g5
 have g10:h10.get r=some (.lst ((digRs g++(List.range g).flatMap (trnOf g (bitsP (-(n:Int)) g))).map .tup)):=by
  show(VH.set h9 h8.n _).get r=_
  rw[zbk (va4 _) (by lia)]
  exact(zak hr5).trans g5
 have g11:h10.get h8.n=some (.lst dd):=zas g9
 have eb:exs (run F (k+3)) fn106.body [some (.int (n:Int)),none,none,none,none,none,none,none,none] k0=.ok (.rt (.tup [.tup [.int ((g+3:Nat):Int),.int (g:Int),.tup ((digRs g++trnRs g (bitsP (-(n:Int)) g)).map .tup),.tup [.int ((1:Int)+g)],.tup dd],iW (bitsP (-(n:Int)) g)])) h10:=by
  refine(zab (skF (h1:=k0) (ze5 (b:=true) (zmr (x:=.int (n:Int)) (varE rfl) cstM cstM e1)))).trans ?_
  refine(zab (setE (h1:=k0) (x:=.int (g:Int)) (zbg (x:=.int (n:Int)) (varE rfl) cstM e32))).trans ?_
  refine(zab (setE (h1:=k0) (x:=.int ((g+3:Nat):Int)) (opE (x:=.int (g:Int)) (varE rfl) cstM rfl))).trans ?_
  refine(zab (setE (h1:=k0) (x:=.int ((1:Int)+g)) (opE (y:=.int (g:Int)) cstM (varE rfl) rfl))).trans ?_
  refine(zab (setE (h1:=k0) (x:=iW (bitsP (-(n:Int)) g)) (zbg (x:=.int (-(n:Int))) (y:=.int (g:Int)) (h1:=k0) (by rw[ev,varE (x:=.int (n:Int)) rfl,bindok]) (varE rfl) e41))).trans ?_
  have e82':ev (run F (k+3)) (.call 82 (.cons (.var 2) (.cons (.var 3) (.cons (.cst (.int (0))) (.cons (.var 1) (.cons (.cst (.int (1))) .nil)))))) [some (.int (n:Int)),some (.int (g:Int)),some (.int ((g+3:Nat):Int)),some (.int ((1:Int)+g)),some (iW (bitsP (-(n:Int)) g)),none,none,none,none] k0=.ok (.ref r) h82:=
   callM (ys:=[.int ((g+3:Nat):Int),.int ((1:Int)+g),.int 0,.int (g:Int),.int 1]) (h1:=k0) (consM (varE rfl) (consM (varE rfl) (consM cstM (consM (varE rfl) (consM cstM nilM))))) e82
  refine(zab (setE (h1:=h82) (x:=.ref r) e82')).trans ?_
  refine(zab ((forMw (h1:=h82) (x:=iW (bitsP (-(n:Int)) g)) (varE rfl)).trans e5)).trans ?_
  have e9:ev (run F (k+3)) (.lc .rng1 (.cons (.var 2) .nil) (.one 0) 1 [] (.cst (.bl true)) zf1) (E106 n g r x6 x7 none) h8=.ok (.ref h8.n) h9:=
   lcM (h1:=h8) (x:=.tup [.int ((g+3:Nat):Int)]) (consM (varE (x:=.int ((g+3:Nat):Int)) rfl) nilM) e8 (by rw[vcn];lia)
  refine(zab (setE (h1:=h9) (x:=.ref h8.n) e9)).trans ?_
  refine(zab (ρ':=E106 n g r x6 x7 (some (.ref h8.n))) (h':=h10) ?_).trans ?_
  .rw[exs,cstM,bindok,varE (x:=.ref h8.n) rfl,bindok,cstM,bindok]
   have hx:ixN (g+3) 1=some 1:=zmn (by lia)
   simp only[g9,vcn,hx]
   rfl
  refine zan (retE (tupM (consM (tupM (consM (varE (x:=.int ((g+3:Nat):Int)) rfl) (consM (varE (x:=.int (g:Int)) rfl) (consM (zjb (x:=.ref r) (varE rfl) (zf0 g10)) (consM (tupM (consM (varE (x:=.int ((1:Int)+g)) rfl) nilM) rfl) (consM (zjb (x:=.ref h8.n) (varE rfl) (zf0 g11)) nilM))))) rfl) (consM (varE (x:=iW (bitsP (-(n:Int)) g)) rfl) nilM)) rfl))
 rw[zal C.f106 rfl]
 show fin h (exs (run F (k+3)) fn106.body [some (.int (n:Int)),none,none,none,none,none,none,none,none] k0)=_
 rw[eb]
 refine zp9 (Pv.tup λw hw=>?_) G10
 rcases va3.mp hw with rfl|hw
 .exact pvb
 .rw[vbr.mp hw]
  refine Pv.tup λw hw=>?_
  obtain⟨i,_,rfl⟩:=vct.mp hw
  exact Pv.int
end
theorem zxc:((List.range 256).all λn=>decide (n+1<=2 ^ gr (n+1))&& (List.range (gr (n+1))).all λi=>decide (2 ^ i<n+1))=true:=by decide +kernel
theorem zxd{n i:Nat}(h1:1<=n)(h2:n<=256):(i<gr n->2 ^ i<n)/\n<=2 ^ gr n:=by
 have q:=vax.mp zxc (n-1) (vbu.mpr (by lia))
 rw[Nat.sub_add_cancel h1,vab,vap]at q
 exact⟨λhi=>va6 (vax.mp q.2 i (vbu.mpr hi)),q.1⟩
theorem shl1{cl:Call}{a:E}{ρ:En}{h h1:VH}{i:Nat}(ea:ev cl a ρ h=.ok (.int (i:Int)) h1)(hi:i<=1000):ev cl (.op .shl (.cst (.int (1))) a) ρ h=.ok (.int ((2 ^ i:Nat):Int)) h1:=by
 refine opE (x:=.int 1) (y:=.int (i:Int)) cstM ea ?_
 show(Res.of ((if decide ((0:Int)<=(i:Int))&&decide ((i:Int)<=1000000)&&decide ((1:Int).natAbs<2 ^ 64)then some ((1:Int)*2 ^ (i:Int).toNat)else none).map W.int) h1)=_
 rw[vaz (by lia:(0:Int)<=(i:Int)),vaz (by lia:(i:Int)<=1000000),vaz (by decide:(1:Int).natAbs<2 ^ 64),Int.one_mul,vde]
 rw[show((2 ^ i:Nat):Int)=(2:Int) ^ i by push_cast;rfl]
 rfl
theorem zm0{cl:Call}{n:Nat}{h:VH}(h1:1<=n)(h2:n<=256):∀(m fu i:Nat),i+m=gr n->m<fu->whlG (ev cl zbs) (exs cl zbt) fu [some (.int (n:Int)),some (.int (i:Int))] h=.ok (.nx [some (.int (n:Int)),some (.int (gr n:Int))]) h
 |_,0,_,_,hf=>by lia
 |m,fu+1,i,hi,hf=>by
  have g8:=(t41 h1 h2).g8
  have ec:ev cl zbs [some (.int (n:Int)),some (.int (i:Int))] h=.ok (.bl (decide (((2 ^ i:Nat):Int)< (n:Int)))) h:=by
   unfold zbs
   exact cmE (shl1 (i:=i) (varE rfl) (by lia)) (varE (x:=.int (n:Int)) rfl) rfl
  obtain⟨q1,q2⟩:=zxd (i:=i) h1 h2
  cases m with
  |zero=>
   obtain rfl:i=gr n:=by lia
   rw[vav (by lia)]at ec
   simp only[whlG,ec,bindok]
  |succ m=>
   have q:=q1 (by lia)
   rw[vaz (by lia)]at ec
   have eb:exs cl zbt [some (.int (n:Int)),some (.int (i:Int))] h=.ok (.nx [some (.int (n:Int)),some (.int ((i+1:Nat):Int))]) h:=by
    unfold zbt
    exact(zab (setE (x:=.int ((i+1:Nat):Int)) (opE (x:=.int (i:Int)) (varE rfl) cstM rfl))).trans (by rw[exs];rfl)
   simp only[whlG,ec,bindok,eb]
   exact zm0 h1 h2 m fu (i+1) (by lia) (by lia)
structure C41l(F:Nat->Option Fn):Prop extends C41 F where
 t:CoreD F
 l:CoreL F
 f17:F 17=some fn17
 f22:F 22=some fn22
 f39:F 39=some fn39
 f700:F 700=some zc3
 f701:F 701=some zc4
 f702:F 702=some zc5
 f703:F 703=some zc6
 f704:F 704=some zc7
section
variable{F:Nat->Option Fn}(C:C41l F)
include C
theorem zox{k n:Nat}{h:VH}(h1:1<=n)(h2:n<=256):run F (k+1) 701 [.int n] h=.ok (.int (gr n:Int)) h:=by
 rw[zal C.f701 rfl]
 have g8:=(t41 h1 h2).g8
 have e3:=zm0 (cl:=run F k) (h:=⟨h.n,h.n,h.os⟩) h1 h2 (gr n) fuel 0 (vce _) (show gr n<1000000 by lia)
 have eb:exs (run F k) zc4.body [some (.int (n:Int)),none] ⟨h.n,h.n,h.os⟩=.ok (.rt (.int (gr n:Int))) ⟨h.n,h.n,h.os⟩:=by
  refine(zab (setE (x:=.int 0) cstM)).trans ?_
  refine(zab (ρ':=[some (.int (n:Int)),some (.int (gr n:Int))]) (h':=⟨h.n,h.n,h.os⟩) ?_).trans (zan (retE (varE rfl)))
  rw[exs]
  exact e3
 show fin h (exs (run F k) zc4.body [some (.int (n:Int)),none] ⟨h.n,h.n,h.os⟩)=_
 rw[eb]
 exact zai (vaa _) rfl
theorem num41{k:Nat}{h:VH}{a b:Int}:run F (k+1) 39 [.int a,.int b] h=.ok (.bl (decide (a=b))) h:=by
 rw[zal C.f39 rfl]
 simp[fn39,exs,ev,tyIs,cmpW,zb4,zai]
theorem zsx{k:Nat}{h:VH}{B:Bd}{ls:List Int}(b:B.Ok)(hl:(ls.length:Int)=B.gr)(bi:Bits ls):run F (k+8) 22 [B.w,iW ls] h=.ok (.bl true) h:=by
 have hg:=b.g2
 have w0:∀h:VH,run F (k+7) 17 [iW ls,.int B.gr] h=.ok (.bl true) h:=by
  intro h
  rw[zal C.f17 rfl]
  have e:=zbl C.b.toCoreA (k:=k+3) (h:=⟨h.n,h.n,h.os⟩) (w:=iW ls) (a:=B.gr) (b:=B.gr) (lo:=0) (hi:=1) zw8 (λws e=>by
   cases e
   refine⟨by rw[vah];lia,λx hx=>?_⟩
   obtain⟨y,_,rfl⟩:=vct.mp hx
   exact zjh)
  rw[zmo hl bi]at e
  simp[fn17,exs,ev,e,zai]
 have e14:=zc1 C.b (k:=k) (h:=⟨h.n,h.n,h.os⟩) b
 have eb:exs (run F (k+7)) fn22.body [some B.w,some (iW ls)] ⟨h.n,h.n,h.os⟩=.ok (.rt (.bl true)) ⟨h.n,h.n,h.os⟩:=by
  refine(zab (ρ':=[some B.w,some (iW ls)]) (h':=⟨h.n,h.n,h.os⟩) ?_).trans (zan (retE (zbg (x:=iW ls) (y:=.int B.gr) (varE rfl) (idxE (x:=B.w) (varE rfl) cstM rfl) (w0 _))))
  rw[exs,zdo (x:=B.w) (varE rfl) e14,bindok]
 rw[zal C.f22 rfl]
 show fin h (exs (run F (k+7)) fn22.body [some B.w,some (iW ls)] ⟨h.n,h.n,h.os⟩)=_
 rw[eb]
 exact zai (vaa _) rfl
end
theorem zf2{nx:Nat->VH->Option (Option W)}{tg:W->VH->En->Option En}{c e:FE}{n:Nat}{h:VH}{I:Nat->En->Prop}
 (go:∀i ρ,i<n->I i ρ->∃w ρ1,nx i h=some (some w)/\tg w h ρ=some ρ1/\c ρ1 h=.ok (.bl false) h/\I (i+1) ρ1) (stop:nx n h=some none) :
 ∀(m i fu:Nat)(ρ:En),i+m=n->m<fu->I i ρ->lcG nx tg c e fu i ρ h []=.ok [] h
 |_,_,0,_,_,hf,_=>by lia
 |0,i,fu+1,ρ,hi,_,_=>by
  obtain rfl:i=n:=by lia
  simp only[lcG,stop]
  rfl
 |m+1,i,fu+1,ρ,hi,hf,hI=>by
  obtain⟨w,ρ1,e1,e2,e3,hI2⟩:=go i ρ (by lia) hI
  simp only[lcG,e1,e2,e3,bindok]
  exact zf2 go stop m (i+1) fu ρ1 (by lia) (by lia) hI2
theorem lcC{cl:Call}{k:Kd}{a c b:E}{t:Tg}{ow:Nat}{ix:List Nat}{x:W}{ρ:En}{h h1:VH}(ea:ev cl a ρ h=.ok x h1)(el:lcG (nxt k x) (tgW t) (ev cl c) (ev cl b) fuel 0 (inner ow ix ρ) h1 []=.ok [] h1):ev cl (.lc k a t ow ix c b) ρ h=.ok (.ref h1.n) (h1.new (.lst [])):=by
 rw[ev,ea,bindok]
 show((lcG _ _ _ _ fuel 0 _ h1 []).bind _)=_
 rw[el,bindok]
 rfl
theorem zm1{h:VH}{i j:Nat}(g1:h.get i=some (.lst []))(g2:h.get j=some (.lst [])):eqW h (.ref i) (.ref j)=some true:=by
 unfold eqW
 simp only[toD,g1,g2,mapO,vbt]
 rfl
theorem kW_iW:∀ks:List (List Int),mapO kW (ks.map iW)=some ks
 |[]=>rfl
 |k::r=>by
  have hz:∀l:List Int,mapO iZ (l.map W.int)=some l:=by
   intro l
   induction l with
   |nil=>rfl
   |cons a l ih=>simp only[vaw,mapO,iZ,ih]
  have e:kW (iW k)=some k:=hz k
  simp only[vaw,mapO,e,kW_iW r]
theorem zsy{g:Nat}:∀{ks:List (List Int)},(∀k∈ks,k.length=g)->(ks.length<=1\/1<=g)->lenL ks=true
 |[],_,_=>rfl
 |[k],_,_=>rfl
 |k::k2::r,h,hg=>by
  unfold lenL
  have hk:=h k (vak ..)
  rw[vab]
  refine⟨veg.mpr (by rw[hk];simp at hg;exact hg),vax.mpr λq hq=>?_⟩
  rw[h q hq,hk]
  exact Nat.beq_refl _
noncomputable def met41(n i:Nat):List (List Int):=(List.range i).map (st41 n)
theorem zxe{n:Nat}(h2:n<=256):(met41 n n).Nodup:=by
 unfold met41
 rw[List.nodup_iff_pairwise_ne,List.pairwise_map]
 refine List.Pairwise.imp_of_mem (λ{a b} ha hb hab e=>hab (zot h2 (vbu.mp ha) (vbu.mp hb) e)) (List.nodup_iff_pairwise_ne.mp List.nodup_range)
noncomputable abbrev E703(B l0:W)(n m:Nat)(now:W)(x5 x6 x7 x8 x9:Option W):En:=[some B,some l0,some (.int (n:Int)),some (.ref m),some now,x5,x6,x7,x8,x9]
section
variable{F:Nat->Option Fn}(C:C41l F)
include C
theorem zsz{k n i m N:Nat}{l0:W}{h1:VH}{x6 x7 x8:Option W}(h2:n<=256)(hi:i<n)(hm:N<=m)(lo:N<=h1.lo)(hi1:h1.lo<=h1.n)(g1:h1.get m=some (.lst ((met41 n i).map iW))) :
 ∃y6 y7 h3,exs (run F (k+1)) zbu (E703 (B41 n).w l0 n m (iW (st41 n i)) (some (.int (i:Int))) x6 x7 x8 none) h1=.ok (.nx (E703 (B41 n).w l0 n m (iW (st41 n (i+1))) (some (.int (i:Int))) y6 y7 (some (.bl false)) none)) h3/\
  N<=h3.lo/\h3.lo<=h3.n/\h3.get m=some (.lst ((met41 n (i+1)).map iW)):=by
 have t:=t41 (n:=n) (by lia) h2
 have g8:=t.g8
 have hml:=zag g1
 have em:met41 n (i+1)=met41 n i++[st41 n i]:=by
  unfold met41
  rw[ves,vca]
  rfl
 let H1:=h1.set m (.lst ((met41 n (i+1)).map iW))
 have gH:H1.get m=some (.lst ((met41 n (i+1)).map iW)):=zas g1
 have lH:N<=H1.lo/\H1.lo<=H1.n:=by
  show N<=(if Nat.blt m h1.lo then m else h1.lo)/\(if Nat.blt m h1.lo then m else h1.lo)<=h1.n
  split<;>lia
 obtain⟨b1,b2,b3⟩:=zw6 h2 hi
 obtain⟨j,h3,e3,g3,W3⟩:=zor C.l (k:=k) (h:=H1) (B:=B41 n) (ls:=st41 n i) (f:=0) (c:=(1:Int)+gr n) lH.2 rfl (by lia) (show(1:Int)+gr n< ((gr n+3:Nat):Int) by lia) (by rw[zjd];exact zmv g8) (by have:=zmw (n:=n) g8;lia) zmx
 rw[b1,b2]at g3
 generalize (fallP (B41 n).rows ((1:Int)+gr n) 0 (st41 n i)).cs=cs at b3 g3
 generalize (fallP (B41 n).rows ((1:Int)+gr n) 0 (st41 n i)).ts=ts at g3
 refine⟨some (iW (((1:Int)+gr n)::cs)),some (iW ts),h3,?_,by rw[W3.lo];exact lH.1,by rw[W3.lo];exact vbo lH.2 W3.le,W3.get _ _ gH⟩
 have ea:ev (run F (k+1)) (.mt .append (.var 3) (.cons (.var 4) .nil)) (E703 (B41 n).w l0 n m (iW (st41 n i)) (some (.int (i:Int))) x6 x7 x8 none) h1=.ok .non H1:=by
  have hk:zbw .append h1 (.ref m)=true:=by simp only[zbw,g1]
  rw[ev,varE (x:=.ref m) rfl,bindok,if_pos hk,consM (varE (x:=iW (st41 n i)) rfl) nilM,bindok]
  show mtW .append (.ref m) [iW (st41 n i)] h1=_
  simp only[mtW,g1]
  rw[if_pos (zfv (by rw[vah];unfold met41;rw[vah,vcm];lia))]
  show _=Res.ok _ (h1.set m _)
  rw[em,vca]
  rfl
 unfold zbu
 refine(zab (ρ':=E703 (B41 n).w l0 n m (iW (st41 n i)) (some (.int (i:Int))) x6 x7 x8 none) (h':=H1) (by rw[exs,ea,bindok])).trans ?_
 refine(zab (ρ':=E703 (B41 n).w l0 n m (iW (st41 n (i+1))) (some (.int (i:Int))) (some (iW (((1:Int)+gr n)::cs))) (some (iW ts)) (some (.bl false)) none) (h':=h3) ?_).trans ?_
 .have ec:ev (run F (k+1)) (.call 38 (.cons (.var 0) (.cons (.var 4) (.cons (.cst (.int (0))) .nil)))) (E703 (B41 n).w l0 n m (iW (st41 n i)) (some (.int (i:Int))) x6 x7 x8 none) H1=.ok (.ref j) h3:=zmr (varE rfl) (varE rfl) cstM e3
  rw[exs,ec,bindok]
  simp only[tgW,zf0 g3,zbf]
  rfl
 .have el:idxW h3 (iW (((1:Int)+gr n)::cs)) (.int (-1))=some (.int (lastC ((1:Int)+gr n) cs)):=zsf
  have e1:ev (run F (k+1)) (.idx (.idx (.idx (.var 0) (.cst (.int (4)))) (.idx (.var 6) (.neg (.cst (.int (1)))))) (.cst (.int (0)))) (E703 (B41 n).w l0 n m (iW (st41 n (i+1))) (some (.int (i:Int))) (some (iW (((1:Int)+gr n)::cs))) (some (iW ts)) (some (.bl false)) none) h3=.ok (.int (if i+1=n then 1 else 0)) h3:=
   idxE (x:=.tup [.int (if i+1=n then 1 else 0),.int 0]) (idxE (x:=.tup (B41 n).dr) (idxE (x:=(B41 n).w) (varE rfl) cstM rfl) (idxE (x:=iW (((1:Int)+gr n)::cs)) (y:=.int (-1)) (varE rfl) (by rw[ev,cstM,bindok]) el) b3) cstM rfl
  have e2:ev (run F (k+1)) (.bi .int (.cons (.cmp .eq (.var 5) (.op .sub (.var 2) (.cst (.int (1))))) .nil)) (E703 (B41 n).w l0 n m (iW (st41 n (i+1))) (some (.int (i:Int))) (some (iW (((1:Int)+gr n)::cs))) (some (iW ts)) (some (.bl false)) none) h3=.ok (.int (if i+1=n then 1 else 0)) h3:=by
   have ex:ev (run F (k+1)) (.cmp .eq (.var 5) (.op .sub (.var 2) (.cst (.int (1))))) (E703 (B41 n).w l0 n m (iW (st41 n (i+1))) (some (.int (i:Int))) (some (iW (((1:Int)+gr n)::cs))) (some (iW ts)) (some (.bl false)) none) h3=.ok (.bl (decide (i+1=n))) h3:=by
    refine cmE (x:=.int (i:Int)) (y:=.int ((n:Int)-1)) (varE rfl) (opE (x:=.int (n:Int)) (varE rfl) cstM rfl) ?_
    simp only[cmpW,zb4]
    congr 1
    exact decide_eq_decide.mpr (by lia)
   rw[ev,consM ex nilM,bindok]
   show Res.ok (W.int (if decide (i+1=n)=true then 1 else 0)) h3=_
   by_cases z:i+1=n
   .rw[if_pos z,if_pos (vaz z)]
   .rw[if_neg z,if_neg (by rw[vav z];simp)]
  have e9:=num41 C (k:=k) (h:=h3) (a:=if i+1=n then 1 else 0) (b:=if i+1=n then 1 else 0)
  rw[vaz rfl]at e9
  exact(zab (skF (h1:=h3) ((orF (h1:=h3) (by rw[ev,varE (x:=.bl false) rfl,bindok];rfl)).trans (ze5 (b:=true) (zbg e1 e2 e9))))).trans (by rw[exs])
theorem zoy{k n:Nat}{h:VH}(h1:1<=n)(h2:n<=256):run F (k+2) 703 [(B41 n).w,iW (bitsP (-(n:Int)) (gr n)),.int n] h=.ok (.bl true) h:=by
 have t:=t41 h1 h2
 generalize hl0:iW (bitsP (-(n:Int)) (gr n))=l0
 let k0:VH:=⟨h.n,h.n,h.os⟩
 let k1:=k0.new (.lst [])
 obtain⟨ρ',h4,e4,hI⟩:=zc2 (nx:=nxt .rng1 (.tup [.int (n:Int)])) (tg:=tgW (.one 5)) (b:=exs (run F (k+1)) zbu) (n:=n)
  (I:=λi ρ h3=>(∃x5 x6 x7 x8,ρ=E703 (B41 n).w l0 n h.n (iW (st41 n i)) x5 x6 x7 x8 none)/\h.n<=h3.lo/\h3.lo<=h3.n/\h3.get h.n=some (.lst ((met41 n i).map iW)))
  (λi ρ h3 hi hI=>by
    obtain⟨⟨x5,x6,x7,x8,rfl⟩,a,b,g⟩:=hI
    obtain⟨y6,y7,h5,e5,a5,b5,g5⟩:=zsz C (k:=k) (m:=h.n) (l0:=l0) (x6:=x6) (x7:=x7) (x8:=x8) h2 hi (vaa _) a b g
    refine⟨.int (i:Int),_,_,h5,?_,rfl,e5,⟨_,_,_,_,rfl⟩,a5,b5,g5⟩
    rw[za5 (by lia),if_pos hi])
  (λρ h3 hI=>by rw[za5 (by lia),if_neg (vbf _)])
  n 0 fuel (E703 (B41 n).w l0 n h.n l0 none none none none none) k1 (vce _) (show _<1000000 by lia) ⟨⟨none,none,none,none,by rw[zw4 h1 h2,hl0]⟩,vaa _,vdk _,zat⟩
 obtain⟨⟨x5,x6,x7,x8,rfl⟩,a4,b4,g4⟩:=hI
 rw[zqb,hl0]at e4
 have nd:=zxe h2
 have hlen:(met41 n n).length=n:=by unfold met41;rw[vah,vcm]
 have hle:lenL (met41 n n)=true:=zsy (g:=gr n) (λk hk=>by
  obtain⟨i,_,rfl⟩:=vct.mp hk
  exact zjd) (by rw[hlen];have:=t.g1;lia)
 have sp:=zb2 (met41 n n)
 have snd:(srtL (met41 n n)).Nodup:=sp.nodup_iff.mpr nd
 have sl:(srtL (met41 n n)).length=n:=by rw[sp.length_eq,hlen]
 let h5:=h4.new (.lst ((srtL (met41 n n)).map iW))
 have g5:h5.get h4.n=some (.lst ((srtL (met41 n n)).map iW)):=zat
 have e5:ev (run F (k+1)) (.bi .srt (.cons (.var 3) .nil)) (E703 (B41 n).w l0 n h.n l0 x5 x6 x7 x8 none) h4=.ok (.ref h4.n) h5:=by
  rw[ev,consM (varE (x:=.ref h.n) rfl) nilM,bindok]
  show srtW [.ref h.n] h4=_
  simp only[srtW,g4,kW_iW]
  rw[hle,vaz nd]
  rfl
 have e6:ev (run F (k+1)) (.lc .rng2 (.cons (.cst (.int (1))) (.cons (.var 2) .nil)) (.one 0) 1 [3] zcp zel) (E703 (B41 n).w l0 n h4.n l0 x5 x6 x7 x8 none) h5=.ok (.ref h5.n) (h5.new (.lst [])):=by
  refine lcC (h1:=h5) (x:=.tup [.int 1,.int (n:Int)]) (consM cstM (consM (varE rfl) nilM)) ?_
  have nx:∀i,nxt .rng2 (.tup [.int 1,.int (n:Int)]) i h5=some (if(i:Int)< (n:Int)-1 then some (.int (1+ (i:Int)))else none):=λi=>by
   have hf:fits (n:Int)=true:=by
    unfold fits
    simp
    lia
   show(if fits 1&&fits (n:Int)then some (if decide ((i:Int)< (n:Int)-1)then some (W.int (1+ (i:Int)))else none)else none)=_
   rw[hf]
   simp only[vap]
   rfl
  refine zf2 (n:=n-1) (I:=λi ρ=>∃x,ρ=[x,some (.ref h4.n)]) (λi ρ hi hI=>?_) (by rw[nx,if_neg (by lia)]) (n-1) 0 fuel _ (vce _) (show _<1000000 by lia) ⟨none,rfl⟩
  obtain⟨x,rfl⟩:=hI
  refine⟨.int (1+ (i:Int)),[some (.int (1+ (i:Int))),some (.ref h4.n)],by rw[nx,if_pos (by lia)],rfl,?_,⟨_,rfl⟩⟩
  have i1:i< (srtL (met41 n n)).length:=by lia
  have i2:i+1< (srtL (met41 n n)).length:=by lia
  have at1:idxW h5 (.ref h4.n) (.int (i:Int))=some (iW (srtL (met41 n n))[i]):=by
   simp only[idxW,g5]
   exact zbo (by rw[va5,va0 i1];rfl)
  have at2:idxW h5 (.ref h4.n) (.int (1+ (i:Int)))=some (iW (srtL (met41 n n))[i+1]):=by
   simp only[idxW,g5]
   rw[show(1:Int)+ (i:Int)=((i+1:Nat):Int) by push_cast;exact Int.add_comm _ _]
   exact zbo (by rw[va5,va0 i2];rfl)
  unfold zcp
  refine cmE (idxE (x:=.ref h4.n) (y:=.int (i:Int)) (varE rfl) (opE (x:=.int (1+ (i:Int))) (varE rfl) cstM ?_) at1) (idxE (x:=.ref h4.n) (y:=.int (1+ (i:Int))) (varE rfl) (varE rfl) at2) ?_
  .show Res.ok (W.int (1+ (i:Int)-1)) h5=_
   rw[show(1:Int)+ (i:Int)-1=(i:Int) by lia]
  .simp only[cmpW,zqd]
   rw[vav (λe=>vbn.mp (List.nodup_iff_pairwise_ne.mp snd) i (i+1) i1 i2 (va4 _) e)]
 let h6:=h5.new (.lst [])
 let h7:=h6.new (.lst [])
 have g6:h7.get h5.n=some (.lst []):=(zak (va4 _)).trans zat
 have g7:h7.get h6.n=some (.lst []):=zat
 have eb:exs (run F (k+1)) zc6.body [some (B41 n).w,some l0,some (.int (n:Int)),none,none,none,none,none,none,none] k0=.ok (.rt (.bl true)) h7:=by
  refine(zab (setE (h1:=k1) (x:=.ref h.n) (lstM nilM rfl))).trans ?_
  refine(zab (setE (h1:=k1) (x:=l0) (varE rfl))).trans ?_
  refine(zab ((forMw (h1:=k1) (x:=.tup [.int (n:Int)]) (consM (varE rfl) nilM)).trans e4)).trans ?_
  refine(zab (setE (h1:=h5) (x:=.ref h4.n) e5)).trans ?_
  refine(zab (setE (h1:=h6) (x:=.ref h5.n) e6)).trans ?_
  refine zan (retE (h1:=h7) ((anT (h1:=h6) (cmE (x:=l0) (y:=l0) (varE rfl) (varE rfl) ?_)).trans (cmE (x:=.ref h5.n) (y:=.ref h6.n) (varE rfl) (lstM (h1:=h6) nilM rfl) ?_)))
  .rw[<-hl0]
   simp only[cmpW,zqd,vey]
  .exact zm1 g6 g7
 rw[zal C.f703 rfl]
 show fin h (exs (run F (k+1)) zc6.body [some (B41 n).w,some l0,some (.int (n:Int)),none,none,none,none,none,none,none] k0)=_
 rw[eb]
 exact zai a4 rfl
end
theorem bi2E{cl:Call}{b:Bi}{a c:E}{ρ:En}{h h1 h2 h3:VH}{x y w:W}(ea:ev cl a ρ h=.ok x h1)(ec:ev cl c ρ h1=.ok y h2)(e:biW b [x,y] h2=.ok w h3):ev cl (.bi b (.cons a (.cons c .nil))) ρ h=.ok w h3:=by
 rw[ev,consM ea (consM ec nilM),bindok]
 exact e
section
variable{F:Nat->Option Fn}(C:C41l F)
include C
theorem zs0{k d c b:Nat}{h:VH}(D:Dk h d c b)(hb:b<1000):∃n h',run F (k+4) 700 [.ref d] h=.ok (.int ((n:Nat):Int)) h'/\1<=n/\n<=256/\Dk h' d c (b+10):=by
 let k0:VH:=⟨h.n,h.n,h.os⟩
 have D0:Dk k0 d c b:=by
  obtain⟨ne,ns,cells,p,q,a1,a2,a3⟩:=D
  exact⟨ne,ns,cells,p,q,a1,a2,a3⟩
 obtain⟨l,h1,e1,l0,l1,D1,K1⟩:=take C.t (k:=k) (m:=4) (h:=k0) D0 (by lia) (by decide) (by decide)
 obtain⟨a,h2,e2,a0,a1,D2,K2⟩:=take C.t (k:=k) (m:=9) (h:=h1) D1 (by lia) (by decide) (by decide)
 obtain⟨q,h3,e3,q0,q1,D3,K3⟩:=take C.t (k:=k) (m:=256) (h:=h2) D2 (by lia) (by decide) (by decide)
 obtain⟨a,rfl⟩:=vbl a0
 obtain⟨l,rfl⟩:=vbl l0
 have a8:a<=8:=by lia
 have p1:1<=2 ^ a:=Nat.one_le_two_pow
 have p2:2 ^ a<=256:=vbo (Nat.pow_le_pow_right (by decide) a8) (by decide)
 let items:List W:=[.int (1+q),.int ((2 ^ a:Nat):Int),.int (if((2 ^ a:Nat):Int)-1>1 then((2 ^ a:Nat):Int)-1 else 1),.int (if((2 ^ a:Nat):Int)+1<256 then((2 ^ a:Nat):Int)+1 else 256)]
 let h4:=h3.new (.lst items)
 have g4:h4.get h3.n=some (.lst items):=zat
 obtain⟨n,en,n1,n2⟩:∃n:Nat,idxW h4 (.ref h3.n) (.int (l:Int))=some (.int (n:Int))/\1<=n/\n<=256:=by
  simp only[idxW,g4]
  have:l=0\/l=1\/l=2\/l=3:=by lia
  rcases this with rfl|rfl|rfl|rfl
  .refine⟨(1+q).toNat,?_,by lia,by lia⟩
   rw[vdj (by lia)];rfl
  .exact⟨2 ^ a,rfl,p1,p2⟩
  .refine⟨(if((2 ^ a:Nat):Int)-1>1 then((2 ^ a:Nat):Int)-1 else 1).toNat,?_,?_,?_⟩
   .rw[vdj (by split<;>lia)];rfl
   .split<;>lia
   .split<;>lia
  .refine⟨(if((2 ^ a:Nat):Int)+1<256 then((2 ^ a:Nat):Int)+1 else 256).toNat,?_,?_,?_⟩
   .rw[vdj (by split<;>lia)];rfl
   .split<;>lia
   .split<;>lia
 have eb:exs (run F (k+3)) zc3.body [some (.ref d),none,none] k0=.ok (.rt (.int (n:Int))) h4:=by
  refine(zab (setE (h1:=h1) (x:=.int (l:Int)) (zbg (x:=.ref d) (varE rfl) cstM e1))).trans ?_
  refine(zab (setE (h1:=h2) (x:=.int ((2 ^ a:Nat):Int)) (shl1 (i:=a) (zbg (x:=.ref d) (varE rfl) cstM e2) (by lia)))).trans ?_
  refine zan (retE (idxE (x:=.ref h3.n) (y:=.int (l:Int)) (h1:=h4) (h2:=h4) (lstM (h1:=h3) (ys:=items) (consM (h1:=h3) (opE (x:=.int 1) (y:=.int q) cstM (zbg (x:=.ref d) (varE rfl) cstM e3) rfl) (consM (varE (x:=.int ((2 ^ a:Nat):Int)) rfl) (consM (h1:=h3) ?_ (consM (h1:=h3) ?_ nilM)))) rfl) (varE rfl) en))
  .exact bi2E (y:=.int (((2 ^ a:Nat):Int)-1)) cstM (opE (x:=.int ((2 ^ a:Nat):Int)) (varE rfl) cstM rfl) rfl
  .exact bi2E (y:=.int (((2 ^ a:Nat):Int)+1)) cstM (opE (x:=.int ((2 ^ a:Nat):Int)) (varE rfl) cstM rfl) rfl
 obtain⟨h5,e5,D5,_⟩:=zoo (cl:=run F (k+3)) (fl:=.nx []) (w:=.int (n:Int)) (body:=zc3.body) (ρ:=[some (.ref d),none,none]) (F:=F) (k:=k+3) (h:=h) (h':=h4) eb (.inr ⟨b,D⟩) (D3.new (o:=.lst items)) ((K1.trans (K2.trans K3)).new (o:=.lst items))
 refine⟨n,h5,?_,n1,n2,D5.mono (by lia)⟩
 rw[zal C.f700 rfl]
 exact e5
theorem zs1{k n:Nat}{h:VH}(h1:1<=n)(h2:n<=256):run F (k+9) 702 [.int n] h=.ok (.bl true) h:=by
 have t:=t41 h1 h2
 have ok:=zqa (n:=n) t.g8
 let k0:VH:=⟨h.n,h.n,h.os⟩
 have ec:∀h:VH,run F (k+8) 106 [.int n] h=.ok (.tup [(B41 n).w,iW (bitsP (-(n:Int)) (gr n))]) h:=λh=>zmz C.toC41 (k:=k+4) h1 h2
 have e14:=zc1 C.b (k:=k+1) (h:=k0) ok
 have e22:=zsx C (k:=k) (h:=k0) (B:=B41 n) (ls:=bitsP (-(n:Int)) (gr n)) ok (by rw[zbn];rfl) zca
 have e701:=zox C (k:=k+7) (h:=k0) h1 h2
 have e39:=num41 C (k:=k+7) (h:=k0) (a:=(gr n:Int)) (b:=(gr n:Int))
 rw[vaz rfl]at e39
 let k1:=k0.new (.lst [])
 let k2:=k1.new (.lst [])
 have e703:=zoy C (k:=k+6) (h:=k2) h1 h2
 have hp:zah 24 (.tup [(B41 n).w,iW (bitsP (-(n:Int)) (gr n))])=true:=by
  show([(B41 n).w,iW (bitsP (-(n:Int)) (gr n))].all (zah 23))=true
  rw[vch,vch,vab,vab]
  refine⟨zgy ok 17,?_,rfl⟩
  show(((bitsP (-(n:Int)) (gr n)).map W.int).all (zah 22))=true
  exact vax.mpr λw hw=>by
   obtain⟨i,_,rfl⟩:=vct.mp hw
   rfl
 have hdr:∀d∈(B41 n).dr,∃z:Int,d=.tup [.int z,.int 0]:=λd hd=>by
  rcases vda (show d∈(vgc (gr n+3) (W.tup [.int 0,.int 0])).set 1 (.tup [.int 1,.int 0])from hd)with hd|rfl
  .exact⟨0,(List.mem_replicate.mp hd).2⟩
  .exact⟨1,rfl⟩
 have hdl:((B41 n).dr.length:Int)=(B41 n).wd:=ok.d1
 have hw2:=ok.w2
 have hgr:(B41 n).gr=(gr n:Int):=rfl
 have hfd:(B41 n).fd.length=1:=rfl
 generalize bitsP (-(n:Int)) (gr n)=l0 at *
 generalize B41 n=B at *
 have e6:ev (run F (k+8)) (.lc .seq (.idx (.var 2) (.cst (.int (4)))) (.one 0) 1 [] zco zek) [some (.int (n:Int)),some (.tup [B.w,iW l0]),some B.w,some (iW l0)] k0=.ok (.ref k0.n) k1:=by
  refine lcC (h1:=k0) (x:=.tup B.dr) (idxE (x:=B.w) (varE rfl) cstM rfl) (zf2 (n:=B.dr.length) (I:=λi ρ=>∃x,ρ=[x]) (λi ρ hi hI=>?_) ?_ B.dr.length 0 fuel _ (vce _) (show _<1000000 by lia) ⟨none,rfl⟩)
  .obtain⟨x,rfl⟩:=hI
   obtain⟨z,hz⟩:=hdr _ (vbd hi)
   refine⟨.tup [.int z,.int 0],[some (.tup [.int z,.int 0])],?_,rfl,?_,⟨_,rfl⟩⟩
   .show some B.dr[i]?=_
    rw[va0 hi,hz]
   .unfold zco
    have e:=num41 C (k:=k+7) (h:=k0) (a:=0) (b:=0)
    exact ze5 (b:=true) (zbg (x:=.int 0) (idxE (x:=.tup [.int z,.int 0]) (varE rfl) cstM rfl) cstM e)
  .show some B.dr[B.dr.length]?=_
   rw[vdu (vaa _)]
 have eb:exs (run F (k+8)) zc5.body [some (.int (n:Int)),none,none,none] k0=.ok (.rt (.bl true)) k2:=by
  refine(zab (setE (h1:=k0) (x:=.tup [B.w,iW l0]) (zdo (varE rfl) (ec k0)))).trans ?_
  refine(zab (skF (h1:=k0) ((orF (h1:=k0) (isT (ws:=[B.w,iW l0]) (varE rfl))).trans (ne0 (i:=2) (lenE (ws:=[B.w,iW l0]) (varE rfl) rfl) cstM)))).trans ?_
  refine(zab (ρ':=[some (.int (n:Int)),some (.tup [B.w,iW l0]),some B.w,some (iW l0)]) (h':=k0) ?_).trans ?_
  .show exs (run F (k+8)) (.unp [2,3] (.var 1)) _ k0=_
   rw[exs,varE (x:=.tup [B.w,iW l0]) rfl,bindok];rfl
  refine(zab (skF (h1:=k0) ((orF (h1:=k0) (cmE (x:=.non) (y:=.non) (zdo (x:=B.w) (varE rfl) e14) cstM rfl)).trans (cmE (x:=.bl true) (y:=.bl true) (zbg (x:=B.w) (y:=iW l0) (varE rfl) (varE rfl) e22) cstM rfl)))).trans ?_
  refine(zab (skF (h1:=k0) ((orF (h1:=k0) (ze5 (b:=true) (zbg (x:=.int (gr n:Int)) (y:=.int (gr n:Int)) (idxE (x:=B.w) (varE rfl) cstM (by rw[<-hgr];rfl)) (zdo (x:=.int (n:Int)) (varE rfl) e701) e39))).trans (ne0 (i:=1) ((lenE (ws:=B.fd) (idxE (x:=B.w) (varE rfl) cstM rfl) rfl).trans (by rw[hfd];rfl)) cstM)))).trans ?_
  have g0:k2.get k0.n=some (.lst []):=(zak (va4 _)).trans zat
  have g1:k2.get k1.n=some (.lst []):=zat
  refine(zab (skF (h1:=k2) (cmE (x:=.ref k0.n) (y:=.ref k1.n) (h1:=k1) (h2:=k2) e6 (lstM (h1:=k1) nilM rfl) (by simp only[cmpW,zm1 g0 g1];rfl)))).trans ?_
  exact zan (retE (h1:=k2) ((anT (h1:=k2) (zmr (x:=B.w) (y:=iW l0) (z:=.int (n:Int)) (varE rfl) (varE rfl) (varE rfl) e703)).trans (cmE (x:=.tup [B.w,iW l0]) (y:=.tup [B.w,iW l0]) (zdo (x:=.int (n:Int)) (varE rfl) (ec k2)) (varE rfl) (zol hp))))
 rw[zal C.f702 rfl]
 show fin h (exs (run F (k+8)) zc5.body [some (.int (n:Int)),none,none,none] k0)=_
 rw[eb]
 exact zai (vaa _) rfl
theorem law41{ns:List Int}(hl:ns.length<=63):zb9 (run F 30 704 [.fz (ns.map .int)] ⟨0,0,[]⟩)=true:=by
 rw[show(30:Nat)=29+1 from rfl,zal C.f704 rfl]
 obtain⟨h1,e1,D1⟩:=deck C.t (k:=28) (h:=⟨0,0,[]⟩) hl
 generalize hsc:W.fz (ns.map .int)=sc at *
 clear hl hsc
 let dk:W:=.ref (0+1)
 obtain⟨ρ',h',e2,hI⟩:=zc2 (nx:=nxt .rng1 (.tup [.int ((4:Nat):Int)])) (tg:=tgW (.one 2)) (b:=exs (run F 29) zcq) (n:=4)
  (I:=λi ρ h=>(∃x,ρ=[some sc,some dk,x])/\Dk h (0+1) 0 (10*i))
  (λi ρ h hi hI=>by
    obtain⟨⟨x,rfl⟩,D⟩:=hI
    obtain⟨n,h2,e2,n1,n2,D2⟩:=zs0 C (k:=25) D (by lia)
    have e3:=zs1 C (k:=20) (h:=h2) n1 n2
    refine⟨.int (i:Int),[some sc,some dk,some (.int (i:Int))],[some sc,some dk,some (.int (i:Int))],h2,by rw[za5 (by lia),if_pos hi],rfl,?_,⟨_,rfl⟩,D2.mono (by lia)⟩
    unfold zcq
    exact(zab (skF (h1:=h2) (ze5 (b:=true) (zdo (x:=.int (n:Int)) (zdo (x:=dk) (varE rfl) e2) e3)))).trans (by rw[exs]))
  (λρ h hI=>by rw[za5 (by lia),if_neg (vbf _)])
  4 0 fuel [some sc,some dk,none] h1 (vce _) (by decide) ⟨⟨none,rfl⟩,D1⟩
 obtain⟨⟨x,rfl⟩,_⟩:=hI
 have eb:exs (run F 29) zc7.body [some sc,none,none] ⟨0,0,[]⟩=.ok (.rt (.bl true)) h':=by
  refine(zab (setE (h1:=h1) (x:=dk) (zdo (varE rfl) e1))).trans ?_
  refine(zab ((forMw (h1:=h1) (x:=.tup [.int ((4:Nat):Int)]) (consM cstM nilM)).trans e2)).trans ?_
  exact zan (retE cstM)
 show zb9 (fin ⟨0,0,[]⟩ (exs (run F 29) zc7.body [some sc,none,none] ⟨0,0,[]⟩))=true
 rw[eb]
 obtain⟨h9,e9⟩:=zsu (h:=⟨0,0,[]⟩) (h':=h') (w:=.bl true)
 rw[e9]
 rfl
end
structure C41w(F:Nat->Option Fn):Prop where
 f0:F 0=some fn0
 f1:F 1=some fn1
 f6:F 6=some fn6
 f7:F 7=some fn7
 f8:F 8=some fn8
 f9:F 9=some fn9
 f10:F 10=some fn10
 f11:F 11=some fn11
 f12:F 12=some fn12
 f13:F 13=some fn13
 f14:F 14=some fn14
 f15:F 15=some fn15
 t:CoreD F
 l:CoreL F
 c:C53 F
 f17:F 17=some fn17
 f22:F 22=some fn22
 f32:F 32=some fn32
 f39:F 39=some fn39
 f82:F 82=some fn82
 f106:F 106=some fn106
 f700:F 700=some zc3
 f701:F 701=some zc4
 f702:F 702=some zc5
 f703:F 703=some zc6
 f704:F 704=some zc7
theorem zxf{F:Nat->Option Fn}(C:C41w F){ns:List Int}(hl:ns.length<=63):zb9 (run F 30 704 [.fz (ns.map .int)] ⟨0,0,[]⟩)=true:=
 law41 ⟨⟨C.c,⟨⟨C.f0,C.f1,C.f6,C.f7⟩,C.f8,C.f9,C.f10,C.f11,C.f12,C.f13,C.f14,C.f15⟩,C.f32,C.f82,C.f106⟩,C.t,C.l,C.f17,C.f22,C.f39,C.f700,C.f701,C.f702,C.f703,C.f704⟩ hl
end RF
namespace HD
open PySem PySem.W PySem.Calls PyProof.Rows
noncomputable section
noncomputable def p:Program:=PySem.Challenge.pw_ballrockers_k41_counter
noncomputable abbrev S(x:String):Str:=Str.ofString x
noncomputable abbrev U(x:String)(t:Tok):Value:=Value.str (S x) t
noncomputable abbrev R(a:Addr):Value:=Value.ref a
noncomputable abbrev I(i:Int)(t:Tok):Value:=Value.int i t
noncomputable abbrev E(P:Params)(x:String)(t:Tok)(v:Value):DictEntry:=DictEntry.mk (PyData.keyHash P (S x)) (Value.str (S x) t) v
noncomputable abbrev N(o:Obj)(l r:BT):BT:=BT.node o l r
noncomputable abbrev Z:BT:=BT.nil
noncomputable abbrev L(o:Obj):BT:=BT.node o Z Z
noncomputable abbrev Y(c:String)(d:Data):Obj:=Obj.mk (Value.type c) none d #[]
noncomputable abbrev X(d:Data):Obj:=Obj.mk Value.none none d #[]
noncomputable def atN(l:List Stmt)(i:Nat):Stmt:=l.getD i (Stmt.Pass ⟨0,0,0,0⟩)
noncomputable def fbS:Stmt->List Stmt
 |.FunctionDef _ _ b _ _ _ _ _ _ _=>b
 |.ClassDef _ _ _ b _ _ _ _ _ _ _=>b
 |_=>[]
noncomputable def faS:Stmt->Arguments
 |.FunctionDef _ a _ _ _ _ _ _ _ _=>a
 |_=>⟨[],[],none,[],[],none,[]⟩
noncomputable def fsS:Stmt->Scope
 |.FunctionDef _ _ _ _ _ _ s _ _ _=>s
 |_=>p.main.scope
noncomputable def fb(i:Nat):List Stmt:=fbS (atN p.main.body i)
noncomputable def fa(i:Nat):Arguments:=faS (atN p.main.body i)
noncomputable def fs(i:Nat):Scope:=fsS (atN p.main.body i)
noncomputable def cb(i j:Nat):List Stmt:=fbS (atN (fb i) j)
noncomputable def ca(i j:Nat):Arguments:=faS (atN (fb i) j)
noncomputable def cs(i j:Nat):Scope:=fsS (atN (fb i) j)
noncomputable abbrev O:Value:=Value.none
noncomputable abbrev J(i:Int):Value:=Value.int i 0
noncomputable abbrev V(t:Tok):Value:=Value.str (S "/claim/cut.py") t
noncomputable abbrev A(l:Array Value):Data:=Data.fields l
noncomputable abbrev B(f:FuncData):Data:=Data.func f
noncomputable abbrev G(x:String)(i:Nat)(g:Addr)(c:List (Str×Addr))(d k o m:Value)(n:Option Addr)(cd ct:Value)(b:Addr):FuncData:=FuncData.mk (S x) (S x) (fa i) (FuncBody.stmts (fb i)) (fs i) g c d k o m n cd ct b
section
variable(P:Params)
noncomputable def N0:Nat:=4058
noncomputable def lo:List Str:=[S "MOST_STANDS"]
noncomputable def keep:List Nat:=[1,2,3,4,6,7,8,9,11,12,13,14,15,16,17,18,19,20,21,22,23,24,25,27,28,30,31,32,33,35,36,37,38,39,41,42,43,44,45,46,47,48,49,50,51]
noncomputable def life:Life:=(Life.mk [] [] [] 0 [] [] false #[] [] 0 false false false 0 [2000,10,10] false 0 true [] [] 0 false)
noncomputable def m0:Nat:=11
noncomputable def ann:Option Value:=(some (R 6))
noncomputable def env:Env:={scope:=p.main.scope,locals:=mainNs,globals:=mainNs,cells:=[],code:=(R 13),frame:=some 14}
noncomputable def bd:List Stmt:=behindTheImports p
noncomputable def cd:Code:=Code.body bd env
noncomputable def fr:List Frame:=[topFrame (Pos.mk 0 0 0 0)]
noncomputable abbrev qC(n:String)(t:Nat)(l k:Int)(r m:Nat):Obj:=Y "code" (A #[U n t,U n (t+1),V (t+2),J l,J k,J 0,J 0,J 3,R r,Value.bool true,J 181,R (r+1),O,R (r+2),R (r+3),R (r+4),J (Int.ofNat m),J l,V (m+1)])
noncomputable abbrev qD(n:String)(t:Nat)(l k:Int)(r m:Nat):Obj:=Y "code" (A #[U n t,U n (t+1),V (t+2),J l,J k,J 0,J 0,J 3,R r,Value.bool true,J 181,R (r+1),O,O,O,R (r+2),J (Int.ofNat m),J l,V (m+1)])
noncomputable def qU:Nat->List String->List Value
 |_,[]=>[]
 |t,x::r=>U x t::qU (t+1) r
noncomputable abbrev qT(t:Nat)(l:List String):Obj:=Y "tuple" (Data.seq (qU t l).toArray 0)
noncomputable abbrev qF(n:String)(i:Nat)(u:Value)(r:Addr):Obj:=Y "function" (B (G n i 3 [] O O O u none (R r) O 0))
noncomputable abbrev qG(n:String)(i:Nat):Obj:=X (B (G n i 0 [] O O O O none O O 0))
noncomputable def qJ:List (Int×Nat)->List Value
 |[]=>[]
 |(a,b)::r=>J a::J 0::R b::qJ r
noncomputable def qO:List Obj->List Obj
 |x::_::r=>x::qO r
 |x=>x
noncomputable def qE:List Obj->List Obj
 |_::y::r=>y::qE r
 |_=>[]
noncomputable def qB:Nat->List Obj->BT
 |f+1,x::r=>N x (qB f (qO r)) (qB f (qE r))
 |_,_=>Z
 def a0:=(Y "tuple" (Data.seq #[] 0))
 def a1:=(X (A #[]))
 def a2:=(Y "code" (A #[(U "<module>" 182),(U "<module>" 183),(V 184),(J 1),(J 0),(J 0),(J 0),(J 0),(R 11),(Value.bool false),(J 181),(R 12),O,O,O,O,(J 185),(J 1),(V 186)]))
 def a3:=(Obj.mk (Value.type "frame") none Data.plain #[(some (R 13)),(some (R 3)),(some (R 3)),none,(some (U "__main__" 164)),none,(some (R 0))])
 def ha:Heap:=Heap.mk (Array.mk [(boot_o_0 P),(boot_o_1 P),(boot_o_2 P),(boot_o_3 P),(boot_o_4 P),(boot_o_5 P),(boot_o_6 P),(boot_o_7 P),(boot_o_8 P),(boot_o_9 P),(boot_o_10 P),a0,a1,a2,a3]) (Life.mk [] [] [] 0 [] [] false #[] [] 0 false false false 0 [2000,10,10] false 0 true [] [] 0 false)
noncomputable def sa(w:World)(os:OsState):Shared:=⟨ha w.params,(Array.mk []),(Drawn.mk 0 0 0 0),187,os⟩
theorem seg_q{w:World}{n:Nat}{s s':SharedT}{l:List Stmt}{pos pos':Pos}(h:PySem.W.Fast.tw10110043849684766642 PySem.W.Fast.tw14364793385576792824 p w m0 ann 1 n s (piecesOf l env cd pos fr)=some (.next,s',cd,pos')) :
 segRun treeTable p w m0 ann 1 n s.abs (piecesOf l env cd pos fr)=some (.next,s'.abs,cd,pos'):=
 segRun_of (by rw[PySem.W.Fast.te10110043849684766642,vcd];exact h)
theorem pre_q{w:World}{n:Nat}{s s':Shared}{pos:Pos}(h:PySem.W.Fast.tw15667345088766844465 PySem.W.Fast.tw14364793385576792824 p w m0 ann n s (topStub p)=some (s',⟨PySem.W.Fast.tw11892475500146522536 PySem.W.Fast.tw14364793385576792824 cd,cd,pos,fr⟩)) :
 topGo treeTable p w m0 ann n s (topStub p)=some (s',⟨denote treeTable cd,cd,pos,fr⟩):=by
 rw[PySem.W.Fast.te15667345088766844465,vcd,PySem.W.Fast.te11892475500146522536];exact h
theorem zs2{w:World}{n:Nat}{s s':Shared}{pos pos':Pos}(h:PySem.W.Fast.tw14374325043358763698 PySem.W.Fast.tw14364793385576792824 p w m0 ann 1 n s (blockOf bd env cd pos fr)=some (.next,s',cd,pos')) :
 segRun treeTable p w m0 ann 1 n s (blockOf bd env cd pos fr)=some (.next,s',cd,pos'):=by
 rw[PySem.W.Fast.te14374325043358763698,vcd];exact h
theorem fin_q{w:World}{n:Nat}{s s':Shared}{pos:Pos}(h:PySem.W.Fast.tw14082659384304107361 PySem.W.Fast.tw14364793385576792824 p w m0 ann n s ⟨doneF .next,cd,pos,fr⟩=some s') :
 topRun treeTable p w m0 ann n s ⟨doneF .next,cd,pos,fr⟩=some s':=by
 rw[PySem.W.Fast.te14082659384304107361,vcd];exact h
set_option maxHeartbeats 0 in
theorem pre(w:World)(os:OsState):topGo treeTable p w m0 ann 12 ⟨boot_heap w.params,Array.mk [],boot_drawn,boot_toks,os⟩ (topStub p)=some (sa w os,⟨denote treeTable cd,cd,(Pos.mk 0 0 0 0),fr⟩):=pre_q (by kernel_rfl)
 def vtb:List Obj:=[(boot_o_0 P),(boot_o_1 P),(boot_o_2 P),(boot_o_3 P),(boot_o_4 P),(boot_o_5 P),(boot_o_6 P),(boot_o_7 P),(boot_o_8 P),(boot_o_9 P),(boot_o_10 P),a0,a1,a2,a3]
 def tb:=qB 20 (vtb P)
noncomputable def sb(w:World)(os:OsState):SharedT:=⟨tb w.params,15,life,(Array.mk []),(Drawn.mk 0 0 0 0),187,os⟩
set_option maxHeartbeats 0 in
theorem block(w:World)(os:OsState):segRun treeTable p w m0 ann 1 1 (sa w os) (blockOf bd env cd (Pos.mk 0 0 0 0) fr)=some (.next,(sb w os).abs,cd,(Pos.mk 0 0 0 0)):=zs2 (by kernel_rfl)
 def ea4:=[(E P "__doc__" 166 O),(E P "__package__" 167 O),(E P "__loader__" 168 (Value.builtin "__main__.__loader__#opaque")),(E P "__spec__" 169 O),(E P "__annotations__" 170 (R 6)),(E P "__builtins__" 171 (R 4)),(E P "__file__" 173 (V 172)),(E P "__cached__" 174 O),(E P "BoardError" 206 (R 24)),(E P "NoBoard" 222 (R 37)),(E P "Fault" 249 (R 56)),(E P "NoNumber" 265 (R 68)),(E P "is_whole" 274 (R 77)),(E P "is_whole_within" 283 (R 84)),(E P "is_tuple_within" 292 (R 91)),(E P "are_wholes_within" 304 (R 98)),(E P "MOST_COLUMNS" 308 (I 40 307)),(E P "MOST_ROWS" 310 (I 60 309)),(E P "MOST_GROUPS" 312 (I 8 311)),(E P "MOST_FEEDERS" 314 (I 4 313)),(E P "MOST_NAME" 316 (I 99 315)),(E P "look_at_board" 330 (R 105)),(E P "is_leans" 338 (R 112)),(E P "is_board_but_for_places" 350 (R 119)),(E P "are_rows" 359 (R 126)),(E P "are_doors" 369 (R 133)),(E P "is_door" 379 (R 140)),(E P "is_feeder_or_none" 387 (R 147)),(E P "may_stand" 397 (R 154)),(E P "is_rocker" 407 (R 161)),(E P "are_leans" 415 (R 168)),(E P "MOST_STANDS" 421 (I 1000000000 420)),(E P "least_groups" 431 (R 175)),(E P "row_of" 439 (R 180)),(E P "digit_rows" 445 (R 185))]
 def a4:=Y "dict" (Data.dict ((E P "__name__" 165 (U "ballrockers.making" 432))::ea4 P).toArray 36)
 def ja5:List (Int×Nat):=[(2,20),(4,33),(6,45),(11,64),(14,76),(16,83),(18,90),(20,97),(33,104),(41,111),(44,118),(53,125),(60,132),(67,139),(72,146),(74,153),(82,160),(87,167),(91,174),(101,179),(103,184)]
 def a5:=X (A (qJ ja5).toArray)
 def a6:=(Y "tuple" (Data.seq #[(Value.type "ValueError")] 0))
 def a7:=(Y "builtin_function_or_method" (A #[(Value.builtin "type.__prepare__"),(Value.type "type")]))
 def a8:=(Y "dict" (Data.dict #[(E P "__module__" 196 (U "ballrockers.errors" 187)),(E P "__qualname__" 198 (U "BoardError" 197)),(E P "__firstlineno__" 200 (I 2 199)),(E P "__static_attributes__" 201 (R 22))] 4))
 def a9:=(Y "code" (A #[(U "BoardError" 191),(U "BoardError" 192),(V 193),(J 2),(J 0),(J 0),(J 0),(J 0),(R 18),(Value.bool false),(J 181),(R 19),O,O,O,O,(J 194),(J 2),(V 195)]))
 def a10:=(Obj.mk (Value.type "frame") none Data.plain #[(some (R 20)),(some (R 3)),(some (R 17)),none,(some (U "ballrockers.errors" 187)),none,(some (R 0))])
 def a11:=(Y "dict" (Data.dict #[(E P "__module__" 196 (U "ballrockers.errors" 187)),(E P "__firstlineno__" 200 (I 2 199)),(E P "__static_attributes__" 201 (R 22)),(E P "__weakref__" 203 (R 25)),(E P "__doc__" 204 O)] 3))
 def a12:=(Obj.mk (Value.type "type") none (Data.cls (ClassData.mk (S "BoardError") [(Value.type "ValueError")] [(R 24),(Value.type "ValueError"),(Value.type "Exception"),(Value.type "BaseException"),(Value.type "object")] 23 (S "BoardError") true [] [(R 37),(R 56),(R 68)] false none false)) #[(some (R 15)),none,(some (U "BoardError" 189)),(some (U "BoardError" 197)),(some (Value.builtin "ValueError.__new__")),(some (Value.bool true))])
 def a13:=(Y "getset_descriptor" (A #[(U "__weakref__" 202),(R 24),(Value.builtin "ExceptionGroup.__weakref__"),O]))
 def a14:=(Y "super" (A #[(R 24),(R 24),(R 24)]))
 def a15:=(Y "builtin_function_or_method" (A #[(Value.builtin "object.__init_subclass__"),(R 24)]))
 def a16:=(Y "tuple" (Data.seq #[(R 24)] 0))
 def a17:=(Y "dict" (Data.dict #[(E P "__module__" 214 (U "ballrockers.errors" 187)),(E P "__qualname__" 216 (U "NoBoard" 215)),(E P "__firstlineno__" 218 (I 4 217)),(E P "__static_attributes__" 219 (R 35))] 4))
 def a18:=(Y "code" (A #[(U "NoBoard" 209),(U "NoBoard" 210),(V 211),(J 4),(J 0),(J 0),(J 0),(J 0),(R 31),(Value.bool false),(J 181),(R 32),O,O,O,O,(J 212),(J 4),(V 213)]))
 def a19:=(Obj.mk (Value.type "frame") none Data.plain #[(some (R 33)),(some (R 3)),(some (R 30)),none,(some (U "ballrockers.errors" 187)),none,(some (R 0))])
 def a20:=(Y "dict" (Data.dict #[(E P "__module__" 214 (U "ballrockers.errors" 187)),(E P "__firstlineno__" 218 (I 4 217)),(E P "__static_attributes__" 219 (R 35)),(E P "__doc__" 220 O)] 2))
 def a21:=(Obj.mk (Value.type "type") none (Data.cls (ClassData.mk (S "NoBoard") [(R 24)] [(R 37),(R 24),(Value.type "ValueError"),(Value.type "Exception"),(Value.type "BaseException"),(Value.type "object")] 36 (S "NoBoard") true [] [] false none false)) #[(some (R 28)),none,(some (U "NoBoard" 207)),(some (U "NoBoard" 215)),(some (Value.builtin "ValueError.__new__")),(some (Value.bool true))])
 def a22:=(Y "super" (A #[(R 37),(R 37),(R 37)]))
 def a23:=(Y "builtin_function_or_method" (A #[(Value.builtin "object.__init_subclass__"),(R 37)]))
 def a24:=(Y "dict" (Data.dict #[(E P "__module__" 230 (U "ballrockers.errors" 187)),(E P "__qualname__" 232 (U "Fault" 231)),(E P "__firstlineno__" 234 (I 6 233)),(E P "__init__" 243 (R 53)),(E P "__static_attributes__" 246 (R 54))] 5))
 def a25:=(X (A #[(J 8),(J 4),(R 52)]))
 def a26:=(Y "code" (A #[(U "Fault" 225),(U "Fault" 226),(V 227),(J 6),(J 0),(J 0),(J 0),(J 0),(R 43),(Value.bool false),(J 181),(R 44),O,O,O,O,(J 228),(J 6),(V 229)]))
 def a27:=(Obj.mk (Value.type "frame") none Data.plain #[(some (R 45)),(some (R 3)),(some (R 42)),none,(some (U "ballrockers.errors" 187)),none,(some (R 0))])
 def a28:=qT 238 ["self","row","column"]
 def a29:=(X (B (FuncData.mk (S "__init__") (S "Fault.__init__") (ca 3 0) (FuncBody.stmts (cb 3 0)) (cs 3 0) 0 [] O O O O none O O 0)))
 def a30:=(Y "code" (A #[(U "__init__" 235),(U "Fault.__init__" 236),(V 237),(J 8),(J 3),(J 0),(J 0),(J 3),(R 47),(Value.bool true),(J 181),(R 48),O,(R 49),(R 50),(R 51),(J 241),(J 8),(V 242)]))
 def a31:=(Y "function" (B (FuncData.mk (S "__init__") (S "Fault.__init__") (ca 3 0) (FuncBody.stmts (cb 3 0)) (cs 3 0) 3 [] O O O (U "ballrockers.errors" 187) none (R 52) O 0)))
 def a32:=qT 244 ["column","row"]
 def a33:=(Y "dict" (Data.dict #[(E P "__module__" 230 (U "ballrockers.errors" 187)),(E P "__firstlineno__" 234 (I 6 233)),(E P "__init__" 243 (R 53)),(E P "__static_attributes__" 246 (R 54)),(E P "__doc__" 247 O)] 2))
 def a34:=(Obj.mk (Value.type "type") none (Data.cls (ClassData.mk (S "Fault") [(R 24)] [(R 56),(R 24),(Value.type "ValueError"),(Value.type "Exception"),(Value.type "BaseException"),(Value.type "object")] 55 (S "Fault") true [] [] false none false)) #[(some (R 40)),none,(some (U "Fault" 223)),(some (U "Fault" 231)),(some (Value.builtin "ValueError.__new__")),(some (Value.bool true))])
 def a35:=(Y "super" (A #[(R 56),(R 56),(R 56)]))
 def a36:=(Y "builtin_function_or_method" (A #[(Value.builtin "object.__init_subclass__"),(R 56)]))
 def a37:=(Y "dict" (Data.dict #[(E P "__module__" 257 (U "ballrockers.errors" 187)),(E P "__qualname__" 259 (U "NoNumber" 258)),(E P "__firstlineno__" 261 (I 11 260)),(E P "__static_attributes__" 262 (R 66))] 4))
 def a38:=(Y "code" (A #[(U "NoNumber" 252),(U "NoNumber" 253),(V 254),(J 11),(J 0),(J 0),(J 0),(J 0),(R 62),(Value.bool false),(J 181),(R 63),O,O,O,O,(J 255),(J 11),(V 256)]))
 def a39:=(Obj.mk (Value.type "frame") none Data.plain #[(some (R 64)),(some (R 3)),(some (R 61)),none,(some (U "ballrockers.errors" 187)),none,(some (R 0))])
 def a40:=(Y "dict" (Data.dict #[(E P "__module__" 257 (U "ballrockers.errors" 187)),(E P "__firstlineno__" 261 (I 11 260)),(E P "__static_attributes__" 262 (R 66)),(E P "__doc__" 263 O)] 2))
 def a41:=(Obj.mk (Value.type "type") none (Data.cls (ClassData.mk (S "NoNumber") [(R 24)] [(R 68),(R 24),(Value.type "ValueError"),(Value.type "Exception"),(Value.type "BaseException"),(Value.type "object")] 67 (S "NoNumber") true [] [] false none false)) #[(some (R 59)),none,(some (U "NoNumber" 250)),(some (U "NoNumber" 258)),(some (Value.builtin "ValueError.__new__")),(some (Value.bool true))])
 def a42:=(Y "super" (A #[(R 68),(R 68),(R 68)]))
 def a43:=(Y "builtin_function_or_method" (A #[(Value.builtin "object.__init_subclass__"),(R 68)]))
 def a44:=qT 271 ["thing"]
 def a45:=qG "is_whole" 6
 def a46:=qC "is_whole" 268 14 1 71 272
 def u266:=U "ballrockers.whole" 266
 def a47:=qF "is_whole" 6 u266 76
 def a48:=qT 278 ["thing","low","high"]
 def a49:=qG "is_whole_within" 7
 def a50:=qC "is_whole_within" 275 16 3 78 281
 def a51:=qF "is_whole_within" 7 u266 83
 def a52:=qT 287 ["thing","fewest","most"]
 def a53:=qG "is_tuple_within" 8
 def a54:=qC "is_tuple_within" 284 18 3 85 290
 def a55:=qF "is_tuple_within" 8 u266 90
 def a56:=qT 296 ["thing","fewest","most","low","high","number"]
 def a57:=qG "are_wholes_within" 9
 def a58:=qC "are_wholes_within" 293 20 5 92 302
 def a59:=qF "are_wholes_within" 9 u266 97
 def a60:=qT 320 ["board","width","groups","rows","row","places","column","piece"]
 def a61:=qG "look_at_board" 16
 def a62:=qC "look_at_board" 317 33 1 99 328
 def u305:=U "ballrockers.boards" 305
 def a63:=qF "look_at_board" 16 u305 104
 def a64:=qT 334 ["board","thing"]
 def a65:=qG "is_leans" 17
 def a66:=qC "is_leans" 331 41 2 106 336
 def a67:=qF "is_leans" 17 u305 111
 def a68:=qT 342 ["board","width","groups","rows","feeders","doors"]
 def a69:=qG "is_board_but_for_places" 18
 def a70:=qC "is_board_but_for_places" 339 44 1 113 348
 def a71:=qF "is_board_but_for_places" 18 u305 118
 def a72:=qT 354 ["thing","width","places"]
 def a73:=qG "are_rows" 19
 def a74:=qC "are_rows" 351 53 2 120 357
 def a75:=qF "are_rows" 19 u305 125
 def a76:=qT 363 ["thing","width","feeders","door"]
 def a77:=qG "are_doors" 20
 def a78:=qC "are_doors" 360 60 3 127 367
 def a79:=qF "are_doors" 20 u305 132
 def a80:=qT 373 ["thing","feeders","name","call"]
 def a81:=qG "is_door" 21
 def a82:=qC "is_door" 370 67 2 134 377
 def a83:=qF "is_door" 21 u305 139
 def a84:=qT 383 ["thing","feeders"]
 def a85:=qG "is_feeder_or_none" 22
 def a86:=qC "is_feeder_or_none" 380 72 2 141 385
 def a87:=qF "is_feeder_or_none" 22 u305 146
 def a88:=qT 391 ["piece","column","width","groups"]
 def a89:=qG "may_stand" 23
 def a90:=qC "may_stand" 388 74 4 148 395
 def a91:=qF "may_stand" 23 u305 153
 def a92:=qT 401 ["thing","groups","group","side"]
 def a93:=qG "is_rocker" 24
 def a94:=qC "is_rocker" 398 82 2 155 405
 def a95:=qF "is_rocker" 24 u305 160
 def a96:=qT 411 ["thing","groups"]
 def a97:=qG "are_leans" 25
 def a98:=qC "are_leans" 408 87 2 162 413
 def a99:=qF "are_leans" 25 u305 167
 def a100:=qT 425 ["stands","feeders","groups","reached"]
 def a101:=qG "least_groups" 28
 def a102:=qC "least_groups" 422 91 2 169 429
 def a103:=qF "least_groups" 28 (U "ballrockers.groups" 416) 174
 def a104:=qG "row_of" 30
 def a105:=qD "row_of" 434 101 2 176 437
 def u432:=U "ballrockers.making" 432
 def a106:=qF "row_of" 30 u432 179
 def a107:=qG "digit_rows" 31
 def a108:=qD "digit_rows" 440 103 5 181 443
 def a109:=qF "digit_rows" 31 u432 184
 def vt0:List Obj:=((vtb P).set 3 (a4 P)).set 12 a5++[a6,a7,(a8 P),a0,a1,a9,a10,a0,(a11 P),a12,a13,a14,a15,a16,a7,(a17 P),a0,a1,a18,a19,a0,(a20 P),a21,a22,a23,a16,a7,(a24 P),a0,a25,a26,a27,a0,a1,a28,a0,a29,a30,a31,a32,(a33 P),a34,a35,a36,a16,a7,(a37 P),a0,a1,a38,a39,a0,(a40 P),a41,a42,a43,a0,a1,a44,a0,a45,a46,a47,a0,a1,a48,a0,a49,a50,a51,a0,a1,a52,a0,a53,a54,a55,a0,a1,a56,a0,a57,a58,a59,a0,a1,a60,a0,a61,a62,a63,a0,a1,a64,a0,a65,a66,a67,a0,a1,a68,a0,a69,a70,a71,a0,a1,a72,a0,a73,a74,a75,a0,a1,a76,a0,a77,a78,a79,a0,a1,a80,a0,a81,a82,a83,a0,a1,a84,a0,a85,a86,a87,a0,a1,a88,a0,a89,a90,a91,a0,a1,a92,a0,a93,a94,a95,a0,a1,a96,a0,a97,a98,a99,a0,a1,a100,a0,a101,a102,a103,a0,a1,a104,a105,a106,a0,a1,a107,a108,a109]
 def t0:=qB 20 (vt0 P)
noncomputable def s0(w:World)(os:OsState):SharedT:=⟨t0 w.params,186,life,(Array.mk []),(Drawn.mk 0 0 0 0),446,os⟩
noncomputable def st0:List Stmt:=(bd.drop 0).take 32
set_option maxHeartbeats 0 in
theorem seg0(w:World)(os:OsState):segRun treeTable p w m0 ann 1 1493 (sb w os).abs (piecesOf st0 env cd (Pos.mk 0 0 0 0) fr)=some (.next,(s0 w os).abs,cd,(Pos.mk 103 0 104 83)):=seg_q (by kernel_rfl)
 def ea110:=(ea4 P++[(E P "turning_rows" 451 (R 190)),(E P "binary" 461 (R 197)),(E P "MOST_COUNTED" 465 (I 256 464)),(E P "OVER_COLUMN" 467 (I 1 466)),(E P "PLAIN_DOOR" 470 (R 198)),(E P "OVER_DOOR" 473 (R 199)),(E P "counter" 479 (R 204)),(E P "_law_cell" 489 (R 211)),(E P "_law_mixed" 499 (R 218)),(E P "_law_deck" 505 (R 223)),(E P "_law_take" 514 (R 230)),(E P "_law_fall" 529 (R 237)),(E P "_law_number" 537 (R 244)),(E P "_law_drawn" 546 (R 251)),(E P "_law_groups" 554 (R 258)),(E P "_law_walked" 560 (R 263)),(E P "_law_right" 566 (R 268)),(E P "law" 575 (R 275))])
 def a110:=Y "dict" (Data.dict ((E P "__name__" 165 (U "law_ballrockers_k41_counter" 480))::ea110 P).toArray 54)
 def ja111:List (Int×Nat):=ja5++[(105,189),(107,196),(118,203),(133,210),(137,217),(140,222),(142,229),(151,236),(169,243),(171,250),(175,257),(180,262),(191,267),(203,274)]
 def a111:=X (A (qJ ja111).toArray)
 def a112:=qG "turning_rows" 32
 def a113:=qD "turning_rows" 446 105 2 186 449
 def a114:=qF "turning_rows" 32 u432 189
 def a115:=qT 455 ["number","size","found","at"]
 def a116:=qG "binary" 33
 def a117:=qC "binary" 452 107 2 191 459
 def a118:=qF "binary" 33 u432 196
 def a119:=(Y "tuple" (Data.seq #[(I 0 468),(I 0 469)] 0))
 def a120:=(Y "tuple" (Data.seq #[(I 1 471),(I 0 472)] 0))
 def a121:=qG "counter" 39
 def a122:=qD "counter" 474 118 1 200 477
 def a123:=qF "counter" 39 (U "ballrockers.counters" 462) 203
 def a124:=qT 485 ["_law_script","_law_k"]
 def a125:=qG "_law_cell" 41
 def a126:=qC "_law_cell" 482 133 2 205 487
 def u480:=U "law_ballrockers_k41_counter" 480
 def a127:=qF "_law_cell" 41 u480 210
 def a128:=qT 493 ["_law_script","_law_k","_law_many","_law_number_here"]
 def a129:=qG "_law_mixed" 42
 def a130:=qC "_law_mixed" 490 137 3 212 497
 def a131:=qF "_law_mixed" 42 u480 217
 def a132:=qG "_law_deck" 43
 def a133:=qD "_law_deck" 500 140 1 219 503
 def a134:=qF "_law_deck" 43 u480 222
 def a135:=qT 509 ["_law_deck_here","_law_many","_law_cell_here"]
 def a136:=qG "_law_take" 44
 def a137:=qC "_law_take" 506 142 2 224 512
 def a138:=qF "_law_take" 44 u480 229
 def a139:=qT 518 ["_law_board","_law_leans","_law_feeder","_law_column","_law_columns","_law_turned","_law_came","_law_row","_law_piece"]
 def a140:=qG "_law_fall" 45
 def a141:=qC "_law_fall" 515 151 3 231 527
 def a142:=qF "_law_fall" 45 u480 236
 def a143:=qT 533 ["_law_found","_law_due"]
 def a144:=qG "_law_number" 46
 def a145:=qC "_law_number" 530 169 2 238 535
 def a146:=qF "_law_number" 46 u480 243
 def a147:=qT 541 ["_law_deck_here","_law_lot","_law_near"]
 def a148:=qG "_law_drawn" 47
 def a149:=qC "_law_drawn" 538 171 1 245 544
 def a150:=qF "_law_drawn" 47 u480 250
 def a151:=qT 550 ["_law_number_here","_law_found"]
 def a152:=qG "_law_groups" 48
 def a153:=qC "_law_groups" 547 175 1 252 552
 def a154:=qF "_law_groups" 48 u480 257
 def a155:=qG "_law_walked" 49
 def a156:=qD "_law_walked" 555 180 3 259 558
 def a157:=qF "_law_walked" 49 u480 262
 def a158:=qG "_law_right" 50
 def a159:=qD "_law_right" 561 191 1 264 564
 def a160:=qF "_law_right" 50 u480 267
 def a161:=qT 570 ["_law_script","_law_deck_here","_law_turn"]
 def a162:=qG "law" 51
 def a163:=qC "law" 567 203 1 269 573
 def a164:=qF "law" 51 u480 274
 def vt1:List Obj:=((vt0 P).set 3 (a110 P)).set 12 a111++[a0,a1,a112,a113,a114,a0,a1,a115,a0,a116,a117,a118,a119,a120,a0,a1,a121,a122,a123,a0,a1,a124,a0,a125,a126,a127,a0,a1,a128,a0,a129,a130,a131,a0,a1,a132,a133,a134,a0,a1,a135,a0,a136,a137,a138,a0,a1,a139,a0,a140,a141,a142,a0,a1,a143,a0,a144,a145,a146,a0,a1,a147,a0,a148,a149,a150,a0,a1,a151,a0,a152,a153,a154,a0,a1,a155,a156,a157,a0,a1,a158,a159,a160,a0,a1,a161,a0,a162,a163,a164]
 def t1:=qB 20 (vt1 P)
noncomputable def s1(w:World)(os:OsState):SharedT:=⟨t1 w.params,276,life,(Array.mk []),(Drawn.mk 0 0 0 0),576,os⟩
noncomputable def st1:List Stmt:=(bd.drop 32).take 20
set_option maxHeartbeats 0 in
theorem seg1(w:World)(os:OsState):segRun treeTable p w m0 ann 1 475 (s0 w os).abs (piecesOf st1 env cd (Pos.mk 103 0 104 83) fr)=some (.next,(s1 w os).abs,cd,(Pos.mk 203 0 208 15)):=seg_q (by kernel_rfl)
 def hz:Heap:=Heap.mk (Array.mk (vt1 P)) (Life.mk [] [] [] 0 [] [] false #[] [] 0 false false false 0 [2000,10,10] false 0 true [] [] 0 false)
noncomputable def sz(w:World)(os:OsState):Shared:=⟨hz w.params,(Array.mk []),(Drawn.mk 0 0 0 0),576,os⟩
set_option maxHeartbeats 0 in
theorem fin(w:World)(os:OsState):topRun treeTable p w m0 ann 2 (s1 w os).abs ⟨doneF .next,cd,(Pos.mk 203 0 208 15),fr⟩=some (sz w os):=fin_q (by kernel_rfl)
 def as:List Addr:=[2,3,15,22,23,24,25,28,35,36,37,40,47,49,50,52,53,54,55,56,59,66,67,68,71,73,74,76,77,78,80,81,83,84,85,87,88,90,91,92,94,95,97,98,99,101,102,104,105,106,108,109,111,112,113,115,116,118,119,120,122,123,125,126,127,129,130,132,133,134,136,137,139,140,141,143,144,146,147,148,150,151,153,154,155,157,158,160,161,162,164,165,167,168,169,171,172,174,175,176,179,180,181,184,185,186,189,190,191,193,194,196,197,198,199,200,203,204,205,207,208,210,211,212,214,215,217,218,219,222,223,224,226,227,229,230,231,233,234,236,237,238,240,241,243,244,245,247,248,250,251,252,254,255,257,258,259,262,263,264,267,268,269,271,272,274,275]
 def K:Frag:=as.map λi=>(i,(vt1 P).getD i a0)
noncomputable def M0:Nat:=(12+ (1+ (1493+ (475+2))))
theorem bd_is:bd=st0++(st1++([])):=by kernel_rfl
theorem rest(w:World)(os:OsState):topRun treeTable p w m0 ann (1493+ (475+ (2))) (sb w os).abs (restOf bd env cd (Pos.mk 0 0 0 0) fr)=some (sz w os):=by
 rw[show restOf bd env cd (Pos.mk 0 0 0 0) fr=restOf (st0++(st1++([]))) env cd (Pos.mk 0 0 0 0) fr from vd8 (λb=>restOf b env cd (Pos.mk 0 0 0 0) fr) bd_is]
 exact(piece_app (seg0 w os) (piece_app (seg1 w os) (piece_nil (fin w os))))
theorem run(w:World)(os:OsState):topRun treeTable p w m0 ann M0 ⟨boot_heap w.params,Array.mk [],boot_drawn,boot_toks,os⟩ (topStub p)=some (sz w os):=
 go_top (pre w os) (piece_block (block w os) (rest w os))
noncomputable def lawAt:Nat:=51
noncomputable def zxg:Pos:=(Pos.mk 203 0 208 15)
noncomputable def q:Program:={p with main:={p.main with body:=keep.map (atN p.main.body)}}
theorem as_is:∀P,as=(K P).map (·.1):=λ_=>by kernel_rfl
noncomputable def H:Hook:=kHook K as as_is
noncomputable def Xt(s:Shared):Bool:=xlAt q [] s&&recOk [] s
theorem zxh(w:World)(os:OsState):(staticsOk (importedModules p.main.body) (boot_heap w.params) (hz w.params)&&namesBound p (hz w.params)&&gensDone (sz w os)&&laidKept (boot_heap w.params) (hz w.params))=true:=by
 rw[PySem.W.Fast.te5923862056798008813];kernel_rfl
theorem zxi(w:World)(os:OsState):seen ((recsOf q).map (·.name)) (ownsOf q) [] {sz w os with gens:=#[]}=expectedOf q:=by
 rw[PySem.W.Fast.te5160383126252970620,PySem.W.R.mapR_eq,PySem.W.Fast.te3399658132070893891,PySem.W.Fast.te5991557255702980513];kernel_rfl
theorem l_blt(w:World)(os:OsState):(sz w os).heap.bltView=bltViewBooted:=by kernel_rfl
theorem zxj(w:World)(os:OsState):((sz w os).heap.keysOk (looseW q lo) ((recsOf q).map (·.name)) ((litsOf q).map (·.1)) ((clssOf q (looseW q lo)).map (·.name))&& (sz w os).heap.accountedOkI (importedModules p.main.body)&& (sz w os).heap.isNs mainGlobals&& (sz w os).heap.isNs builtinsNs&&tablesOk q (sz w os).heap&&Xt (sz w os)&& (if true=true then(sz w os).gens.size==0 else !leftWithCleanup (sz w os).gens))=true:=by
 rw[PySem.W.Fast.te10880121769531294198,PySem.W.Fast.te821141287760084731,PySem.W.R.mapR_eq,PySem.W.Fast.te3399658132070893891,PySem.W.Fast.te7409074990110511671,PySem.W.Fast.te13664370479719496447,PySem.W.Fast.te14722251495701143533,PySem.W.Fast.te10994771534591457954,PySem.W.Fast.te5923862056798008813];kernel_rfl
theorem zxk(w:World)(os:OsState):tabsOk q (sz w os)=true:=by rw[PySem.W.Fast.te479339242167458305];kernel_rfl
theorem l_pin(w:World)(os:OsState):pinSeenD q (drecsOf q) (sz w os)=pinGoodD (drecsOf q):=by rw[PySem.W.Fast.te16090120013241838585,PySem.W.Fast.te3247288618530077131];kernel_rfl
theorem l_plE(w:World)(os:OsState):plainSeenE q (looseW q lo) (sz w os)=plainGoodE q (looseW q lo):=by rw[PySem.W.Fast.te2386780881361962483,PySem.W.Fast.te821141287760084731];kernel_rfl
theorem l_plD(w:World)(os:OsState):plainSeenD q lo (sz w os)=plainGoodD q lo:=by rw[PySem.W.Fast.te11698064438423848299];kernel_rfl
theorem zxl(w:World)(os:OsState):wideSeen q (sz w os)=wideGood q:=by rw[PySem.W.Fast.te7317090234206586261];kernel_rfl
theorem l_cls(w:World)(os:OsState):clsSeenW q lo (sz w os)=clsGoodW q lo:=by rw[PySem.W.Fast.te7369524293546568484];kernel_rfl
theorem zxm(w:World)(os:OsState):as.map (sz w os).heap.get?=(K w.params).map λp=>some p.2:=by kernel_rfl
theorem left:LeftO p q lo Xt (Hook.obs H) (Hook.val H) N0 true:=
 LeftO.of_pieces (H₀:=boot_heap) (H₁:=hz) (boot_open (by kernel_rfl) (by kernel_rfl) (λs=>by kernel_rfl)) (λw=>by kernel_rfl) run (by kernel_rfl)
  (λw=>funext λos=>looks_pair (zxh w os) (looks_pair
    (looks_pair (zxi w os) (looks_pair (l_blt w os) (looks_pair (zxj w os) (looks_pair (zxk w os) (looks_pair (l_pin w os) (looks_pair (l_plE w os) (looks_pair (l_plD w os) (looks_pair (zxl w os) (l_cls w os)))))))))
    (zxm w os)))
noncomputable def df:DefRec:=⟨S "law",fa lawAt,fb lawAt,fs lawAt,zxg⟩
theorem df_is:defOf q (S "law")=some (df,[]):=by kernel_rfl
theorem holds(l:OpenLaw)(hp:l.prog=p)(hn:l.name=S "law")(ok:l.wellSaid=true)(hch:(chainsOk q&&opensWell p&& (frees l.row.toRowW&&l.row.within.isEmpty))=true)(hb:l.row.toRowW.prog.bare)(hw:l.row.toRowW.promised)
 (hwr:(!l.row.writes||l.row.records.isEmpty)=true) (hk:p.theDef (S "law")=some (df.params,df.body,df.scope)) (hkw:kwWritten? df.params.kwonlyargs df.params.kw_defaults=some [])
 (call:WalkO q lo (XL q []) (Hook.says H) l.row.toRowW df [] λf vs=>PySem.call f vs):l.Holds:=
 holds_law ok λsaid=>PySem.W.holds_open (q:=q) (loose:=lo) (Xt:=Xt) (XP:=XL q []) (Yf:=Hook.obs H) (Ya:=Hook.val H) (YP:=Hook.says H) (N:=N0) (r:=l.row) (by have h:l.row.toRowW.prog=p:=hp;show LeftO l.row.toRowW.prog q lo Xt (Hook.obs H) (Hook.val H) N0 true;rw[h];exact left) (Hook.of H) (Hook.keeps H) (λs e=>xl_of s (Bool.and_eq_true_iff.mp e).1) XL.keeps
  (by show defOf q l.name=_;rw[hn];exact df_is) (by show l.prog.theDef l.name=_;rw[hp,hn];exact hk) hkw (λs e=>recFacts_of (Bool.and_eq_true_iff.mp e).2) hwr said (by have h:l.row.toRowW.prog=p:=hp;rw[h];exact hch) hb hw call
end
end
end HD
namespace RF
noncomputable def T41:List PySem.Str:=(["is_whole","is_whole_within","_law_cell","_law_deck","_law_mixed","_law_take","is_tuple_within","are_wholes_within","are_doors","are_rows","is_board_but_for_places","is_door","is_feeder_or_none","is_rocker","look_at_board","may_stand"]++vgc 1 "" ++ ["are_leans"]++vgc 4 "" ++ ["is_leans"]++vgc 9 "" ++ ["least_groups","row_of"]++vgc 2 "" ++ ["turning_rows"]++vgc 1 "" ++ ["_law_fall","_law_number"]++vgc 1 "" ++ ["binary"]++vgc 40 "" ++ ["digit_rows"]++vgc 23 "" ++ ["counter"]++vgc 593 "" ++ ["_law_drawn","_law_groups","_law_right","_law_walked","law"]).map vgb
noncomputable def fnNo:Fn:=⟨0,0,.no⟩
noncomputable def zqe:List Fn:=[fn0,fn1,fn2,fn3,fn4,fn5,fn6,fn7,fn8,fn9,fn10,fn11,fn12,fn13,fn14,fn15]++vgc 1 fnNo++[fn17]++vgc 4 fnNo++[fn22]++vgc 9 fnNo++[fn32,fn33]++vgc 2 fnNo++[fn36]++vgc 1 fnNo++[fn38,fn39]++vgc 1 fnNo++[fn41]++vgc 40 fnNo++[fn82]++vgc 23 fnNo++[fn106]++vgc 593 fnNo++[zc3,zc4,zc5,zc6,zc7]
theorem c41:C41w λi=>zqe[i]?:=by repeat' (first|rfl|constructor)
end RF
set_option maxHeartbeats 0 in
theorem RF.pb41(P:PySem.Params):RF.cProg (HD.K P) RF.T41 60 60=some RF.zqe:=by kernel_rfl
open PySem PySem.W PyProof.Rows
set_option maxRecDepth 100000 in
set_option maxHeartbeats 0 in
theorem PySem.Challenge.cw_ballrockers_k41_counter_holds : PySem.Challenge.rw_ballrockers_k41_counter.Holds := by
 refine HD.holds _ rfl rfl RF.pa41 (by kernel_rfl) ⟨rfl,rfl,rfl,rfl,rfl,by decide +kernel⟩ ?hw rfl (by kernel_rfl) (by kernel_rfl) ?call
 (case hw=>w_witness2)
 refine RF.zoj RF.T41 60 60 30 704 rfl (by kernel_rfl) ⟨rfl,by decide,by decide⟩ (λw h Y=>PySem.W.kIn_of Y) (by kernel_rfl) (by decide +kernel) ?b ?c
 (case c=>intro w;kernel_rfl)
 (case b=>
   intro w ns hl
   exact RF.zsa (RF.pb41 _) (RF.zxf RF.c41 hl))
