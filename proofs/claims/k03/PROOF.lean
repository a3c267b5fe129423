import PyProof.Rows.All
import Wide.All
import OpenK.AllK
import Wide.FinOn
import Lean
import PyProof.EqAt
import PyProof.EqKinds
import PyProof.TupleCall
import KE.KUnpack
import PySem.Challenge.RW_ballrockers_k03_mirrored
set_option Elab.async false
set_option linter.all false
set_option genSizeOf false
set_option maxRecDepth 100000
set_option maxHeartbeats 0 in
theorem RF.pa03:PySem.Challenge.rw_ballrockers_k03_mirrored.wellSaid=true:=by kernel_rfl
def vap:=@decide_eq_true_eq
def va2:=@of_decide_eq_true
def vbe:=@if_false
def vbk:=@if_true
def vby:=@decide_eq_false
def vb7:=@beq_iff_eq
def vcz:=@beq_eq_false_iff_ne
def vc5:=@decide_eq_true
def vdh:=@congrArg
def vem:=@or_false
open Bool renaming and_eq_true->vaa,false_eq_true->vak,false_ne_true->va4,or_eq_true->vch,and_eq_true_iff->vct,false_and->vdg,eq_iff_iff->vdr,not_true->vdy,not_eq_true'->vd2,or_true->vd6
open PySem renaming wpAny_bind->vab,wpAny_pure->vae,wpAny_field->va9,wpAny_mono->vbc,wpAny_holding->vbd,wpAny_newObj_type->vbg,wpAny_loadPart_at->vbh,wpAny_standAt->vbj,wpAny_isSubtype_exc->vbq,wpAny_truthy_bool->vbr,wpAny_callSpecial?_slot->vbs,wpAny_Call_Name_kw->vcb,wpAny_pyIter_tuple->vci,wpAny_call_entry->vco,wpAny_setField_rec->vcr,wpAny_seqItems->vcs,wpAny_passesOwn->vcv,wpAny_pyIter_list->vcw,mem_of_lookup->vc1,call_meets->vc4,wpAny_execs_nil->vc8,wpAny_call->vda,codeAny_call_builtin->vdf,wpAny_of_eq->vdl,codeAny_mono->vdp,wpAny_setField->vd4,wpAny_attempt->vd9,wpAny_typeOf->veh,sizeLine_eq->vej,wpAny_onRaise->vel
open PySem.Heap renaming get?_push_of_some->vac,lt_size->vaj,get?_push_size->vat,get?_update_other->vbx,size_push->vb1,get?_update_self->vce
open Nat renaming le_refl->vad,lt_of_lt_of_le->vah,le_trans->vas,ne_of_lt->vau,le_of_ble_eq_true->vay,ne_of_gt->vbp,zero_le->vbu,lt_of_le_of_lt->vbv,lt_succ_self->vb4,not_lt->vb9,eq_of_beq_eq_true->vca,lt_irrefl->vcj,ble_eq->vdc,le_succ_of_le->vdd,le_succ->vdm,add_le_add_left->vdn,le_of_lt->vdo,lt_succ_of_lt->vd1,le_add_right->vd7
open List renaming length_map->vaf,size_toArray->vag,mem_cons_of_mem->vai,length_cons->vam,getElem?_eq_some_iff->van,getElem?_eq_getElem->vao,mem_cons_self->vaq,map_cons->vav,length_append->vaw,lookup_cons->vax,mem_cons->va0,all_eq_true->va1,getElem?_set_self->va5,mem_append_right->va6,append_nil->va7,replicate_succ->vba,getElem?_eq_none_iff->vbb,getElem?_append_right->vbi,length_reverse->vbl,getElem?_map->vbm,all_cons->vbn,zip_cons_cons->vbw,getElem?_append_left->vb0,length_take->vb3,filterMap_cons->vb5,length_replicate->vb8,getElem?_set_ne->vcc,flatten_cons->vcd,nil_append->vcf,find?_cons->vcg,getElem?_cons_succ->vck,not_mem_nil->vcp,length_singleton->vcq,mem_filter->vcu,length_set->vcy,getElem?_replicate->vc2,getElem_mem->vc3,forIn_nil->vc6,map_nil->vc9,reverse_cons->vdb,mem_append_left->vde,mem_map->vdq,nodup_cons->vdt,forIn_cons->vdu,contains_cons->vdv,length_nil->vdw,mem_singleton->vdz,mem_range->vd3,drop_zero->vd5,cons_append->vd8,of_mem_zip->veb,map_append->vef,map_map->vei,any_cons->vek
open PyProof.Rows renaming slot_tuple_getitem->vaz,callWith_type1->vcl
open PySem.AutoSeq1 renaming wpAny_loadPart'->va3
open Int renaming eq_ofNat_of_zero_le->va8,toNat_natCast->vcx,emod_lt_of_pos->vd0,emod_nonneg->veg
open PySem.W renaming kia_one->vbf,callWith_K->vds,mg_of->vea
open Ne renaming symm->vbo
open Array renaming getElem?_eq_some_iff->vbt,length_toList->vc0
open Option.some renaming inj->vbz
open Option renaming map_some->vb2,bind_some->vdi,join_some->vdk
open PySem.W.Fast renaming te14364793385576792824->vb6
open PySem.F renaming excAttr_ValueError->vcm,slot_tuple_iterator_next->vcn,slot_tuple_mul->vdj,slot_int_rmul->vec,slot_zip_next->ved
open PySem.SeqAt renaming canLay_of_shaped->vc7
open PySem.Code renaming quiet_builtin->vdx
open LawfulMonad renaming pure_bind->vee
namespace L2
open PySem PySem.Spec PyProof.Rows
noncomputable abbrev Key:=Sum Int Str
noncomputable def keyIs:Key->Value->Bool
 |.inl k,v=>Value.isInt k v
 |.inr x,v=>Value.isStrOf x v
noncomputable def keyH(w:World):Key->Int
 |.inl k=>hashInt k
 |.inr x=>hashStr w x
theorem zau:∀{k:Key} {v:Value},keyIs k v=true->(∃i t,k=Sum.inl i/\v=Value.int i t)\/(∃x t,k=Sum.inr x/\v=Value.str x t)
 |.inl i,v,h=>by
  obtain⟨t,e⟩:=Value.isInt_shape (k:=i) (v:=v) h
  exact .inl ⟨i,t,rfl,e⟩
 |.inr x,v,h=>by
  obtain⟨t,e⟩:=Value.isStrOf_shape (x:=x) (v:=v) h
  exact .inr ⟨x,t,rfl,e⟩
theorem zkg(i:Int)(t:Tok):keyIs (.inl i) (.int i t)=true:=by simp[keyIs,Value.isInt]
theorem zkh(x:Str)(t:Tok):keyIs (.inr x) (.str x t)=true:=by simp[keyIs,Value.isStrOf]
theorem zst(a b:Int):decide ((Sum.inl a:Key)=Sum.inl b)=(a==b):=by
 by_cases e:a=b
 .subst e;simp
 .have h:¬(Sum.inl a:Key)=Sum.inl b:=λq=>e (Sum.inl.inj q)
  rw[vby h]
  exact(vcz.mpr e).symm
theorem zsu(a b:Str):decide ((Sum.inr a:Key)=Sum.inr b)=decide (a=b):=by
 by_cases e:a=b
 .subst e;simp
 .have h:¬(Sum.inr a:Key)=Sum.inr b:=λq=>e (Sum.inr.inj q)
  rw[vby h,vby e]
theorem zsv(a:Int)(b:Str):decide ((Sum.inl a:Key)=Sum.inr b)=false:=vby (λq=>nomatch q)
theorem zsw(a:Str)(b:Int):decide ((Sum.inr a:Key)=Sum.inl b)=false:=vby (λq=>nomatch q)
noncomputable def zao(prog:Program)(w:World):PySem.KeyKind prog w Key where
 is:=keyIs
 hash:=keyH w
 inj:=λv a b ha hb=>by
  rcases zau ha with⟨i,t,rfl,rfl⟩|⟨x,t,rfl,rfl⟩
  .rcases zau hb with⟨j,u,rfl,e⟩|⟨y,u,rfl,e⟩
   .injection e with e1 _;rw[e1]
   .exact nomatch e
  .rcases zau hb with⟨j,u,rfl,e⟩|⟨y,u,rfl,e⟩
   .exact nomatch e
   .injection e with e1 _;rw[e1]
 byValue:=λk v h=>by
  rcases zau h with⟨i,t,rfl,rfl⟩|⟨x,t,rfl,rfl⟩<;>rfl
 pyHash:=λhv h=>by
  rcases zau hv with⟨i,t,rfl,rfl⟩|⟨x,t,rfl,rfl⟩
  .exact wpAny_pyHash_int h
  .exact wpAny_pyHash_str h
 eqBool:=λhu hv h=>by
  rcases zau hu with⟨i,t,rfl,rfl⟩|⟨x,t,rfl,rfl⟩
  .rcases zau hv with⟨j,u,rfl,rfl⟩|⟨y,u,rfl,rfl⟩
   .rw[zst]at h;exact wpAny_eqBool_int h
   .rw[zsv]at h;exact SeqAt.EqAt.int_str i t y u _ _ _ _ h
  .rcases zau hv with⟨j,u,rfl,rfl⟩|⟨y,u,rfl,rfl⟩
   .rw[zsw]at h;exact SeqAt.EqAt.str_int x t j u _ _ _ _ h
   .rw[zsu]at h;exact wpAny_eqBool_str h
 «strs»:=λk x t v h=>by
  rcases zau h with⟨i,u,rfl,e⟩|⟨y,u,rfl,e⟩
  .exact nomatch e
  .injection e with e1 _
   subst e1
   cases v<;>rfl
theorem zhs(prog:Program)(w:World)(i:Int)(t:Tok):(zao prog w).is (.inl i) (.int i t)=true:=zkg i t
theorem zca(prog:Program)(w:World)(x:Str)(t:Tok):(zao prog w).is (.inr x) (.str x t)=true:=zkh x t
inductive V where
 |non|bl (b:Bool)|int (i:Int)|str (x:Str)|byt (b:Array UInt8)|flt (b:UInt64)|ref (a:Addr)|ty (n:String)
 deriving DecidableEq
noncomputable def RelV:V->Value->Prop
 |.non,u=>u=Value.none
 |.bl b,u=>u=Value.bool b
 |.int i,u=>∃t,u=Value.int i t
 |.str x,u=>∃t,u=Value.str x t
 |.byt b,u=>∃t,u=Value.bytes b t
 |.flt b,u=>∃t,u=Value.float b t
 |.ref a,u=>u=Value.ref a
 |.ty n,u=>u=Value.type n
noncomputable abbrev Vals:List V->List Value->Prop:=Paired RelV
theorem Vals.length{xs:List V}{us:List Value}(r:Vals xs us):xs.length=us.length:=Paired.length r
theorem Vals.get:∀{xs:List V} {us:List Value} {i:Nat} {x:V},Vals xs us->xs[i]?=some x->∃u,us[i]?=some u/\RelV x u
 |_,_,_,_,.nil,e=>by simp at e
 |_,_,0,_,.cons r _,e=>by simp at e;subst e;exact⟨_,rfl,r⟩
 |_,_,i+1,x,.cons _ t,e=>by
  obtain⟨u,h1,h2⟩:=Vals.get (i:=i) (x:=x) t (by simpa using e)
  exact⟨u,by simpa using h1,h2⟩
theorem Vals.set{x:V}{u:Value}(r:RelV x u):∀{xs:List V} {us:List Value} (i:Nat),Vals xs us->Vals (xs.set i x) (us.set i u)
 |_,_,_,.nil=>.nil
 |_,_,0,.cons _ t=>.cons r t
 |_,_,i+1,.cons q t=>.cons q (Vals.set r i t)
theorem Vals.append:∀{xs ys:List V} {us ws:List Value},Vals xs us->Vals ys ws->Vals (xs++ys) (us++ws)
 |_,_,_,_,.nil,s=>s
 |_,_,_,_,.cons r t,s=>.cons r (Vals.append t s)
theorem Vals.take:∀{xs:List V} {us:List Value} (n:Nat),Vals xs us->Vals (xs.take n) (us.take n)
 |_,_,0,_=>.nil
 |_,_,_+1,.nil=>.nil
 |_,_,n+1,.cons r t=>.cons r (Vals.take n t)
theorem Vals.drop:∀{xs:List V} {us:List Value} (n:Nat),Vals xs us->Vals (xs.drop n) (us.drop n)
 |_,_,0,r=>r
 |_,_,_+1,.nil=>.nil
 |_,_,n+1,.cons _ t=>Vals.drop n t
noncomputable def RelO:Option V->Option Value->Prop
 |some v,some u=>RelV v u
 |none,none=>True
 |_,_=>False
noncomputable def KV{κ:Type}:List (κ×V)->List (κ×Value)->Prop:=Paired λ(p:κ×V) (q:κ×Value)=>p.1=q.1/\RelV p.2 q.2
noncomputable def kV:Key->V
 |.inl i=>.int i
 |.inr x=>.str x
inductive HO where
 /-- a list -/
 |lst (xs:List V)
 /-- a tuple (never changes) -/
 |tup (xs:List V)
 /-- a dict whose keys are ints and texts;one whose keys are tuples of ints and texts (the empty one is both) -/
 |dK (kvs:List (Key×V))|dT (kvs:List (List Key×V))
 /-- a set of ints: its members,its size -/
 |set (S:Int->Bool) (n:Nat)
 /-- an instance of the class at C,its dict at dx,its attributes -/
 |ins (C dx:Addr) (fs:List (Str×V))
 /-- the dict of the instance at x -/
 |own (x:Addr)
 /-- the dict of an exception -/
 |xd (fs:List (Str×V))
 /-- a bound method,f of x -/
 |met (f x:Addr)
 /-- a range object lo,lo+1,.. below hi -/
 |rng (lo hi:Int)
 /-- a thing that is known to the object (the script;a dict while a loop walks it): read,never written while it is so -/
 |frz (o:Obj) (u:HO)
 /-- a code object's table -/
 |tbl (ps:Array Value)
 /-- any other thing,by what is true of its one object (a def of one's own: SetO a S n:=HO.ext λh=>..) -/
 |ext (φ:Heap->Prop)
noncomputable abbrev Hp:=Addr->Option HO
noncomputable def upd(H:Hp)(a:Addr)(o:HO):Hp:=λb=>if b=a then some o else H b
theorem zag{H:Hp}{a:Addr}{o:HO}:upd H a o a=some o:=by unfold upd;rw[if_pos rfl]
theorem zae{H:Hp}{a b:Addr}{o:HO}(h:b≠a):upd H a o b=H b:=by unfold upd;rw[if_neg h]
theorem ne_of{H:Hp}{a b:Addr}{o u:HO}(h:H a=some o)(h':H b=some u)(d:o≠u):a≠b:=by
 intro e;subst e;rw[h]at h';exact d (vbz h')
theorem zaf{H:Hp}{a b:Addr}{o:HO}(h:H a=some o)(h':H b=none):a≠b:=by
 intro e;subst e;rw[h]at h';cases h'
noncomputable def zbe(h:Heap)(a:Addr)(items:Array Value):Prop:=∃o,h.get? a=some o/\o.cls=.type "tuple"/\(∃n,o.data=.seq items n)/\o.dict=none
theorem zbe.tup{h:Heap}{a:Addr}{items:Array Value}(x:zbe h a items):IsTup h a items:=let⟨o,e,c,d,_⟩:=x;⟨o,e,c,d⟩
theorem zbe.lt{h:Heap}{a:Addr}{items:Array Value}(x:zbe h a items):a<h.objs.size:=x.tup.lt
theorem zbe.new(h:Heap)(items:Array Value):zbe (h.push {cls:=.type "tuple",data:=.seq items}) h.objs.size items:=⟨_,vat _ rfl,rfl,⟨_,rfl⟩,rfl⟩
section
variable(P:Program)(w:World)
noncomputable def ObjOk(H:Hp)(h:Heap)(a:Addr):HO->Prop
 |.lst xs=>xs.length<=sizeLine/\∃(its:List Value) (n:Nat),Vals xs its/\h.get? a=some {cls:=.type "list",data:=.seq its.toArray n}
 |.tup xs=>xs.length<=sizeLine/\∃its:List Value,Vals xs its/\zbe h a its.toArray
 |.dK kvs=>kvs.length<=sizeLine/\(a==sysModules)=false/\∃vs,KV kvs vs/\h.DictOf (zao P w) a vs
 |.dT kvs=>kvs.length<=sizeLine/\(a==sysModules)=false/\∃xs:List (List Key×Addr×Value),
  Paired (λ(p:List Key×V)(q:List Key×Addr×Value)=>p.1=q.1/\H q.2.1=some (.tup (p.1.map kV))/\RelV p.2 q.2.2) kvs xs/\
  ∃o es ep,h.get? a=some o/\o.ExactDict/\o.data=.dict es ep/\es.toList=xs.map (entryOfKey (tupleKind (zao P w)))/\(xs.map (·.1)).Nodup
 |.set S n=>h.SetOf (intKind P w) a S n
 |.ins C dx fs=>H dx=some (.own a)/\fs.length<=1000/\dx≠a/\h.get? a=some (PySem.W.instObj C dx)/\
  ∃mA,h.Ns1 dx mA/\(∀f,RelO (fs.lookup f) (mA f))/\PySem.Within mA (fs.map (·.1))
 |.own _=>∃o,h.get? a=some o
 |.xd fs=>∃mA,h.Ns1 a mA/\∀f,RelO (fs.lookup f) (mA f)
 |.rng lo hi=>∃t u v,h.get? a=some {cls:=.type "range",data:=.fields #[.int lo t,.int hi u,.int 1 v]}
 |.frz o u=>h.get? a=some o/\ObjOk H h a u
 |.tbl ps=>h.get? a=some {cls:=.none,data:=.fields ps}
 |.met f x=>h.get? a=some (PySem.W.methodObj (.ref f) (.ref x))
 |.ext φ=>φ h/\(∃o,h.get? a=some o)/\∀h1 h2:Heap,φ h1->(∀o,h1.get? a=some o->h2.get? a=some o)->φ h2
noncomputable def HOk(H:Hp)(h:Heap):Prop:=∀a o,H a=some o->ObjOk P w H h a o
end
section
variable{P:Program}{w:World}{H H':Hp}{h h':Heap}{a:Addr}{o:HO}
theorem ObjOk.lt(x:ObjOk P w H h a o):a<h.objs.size:=by
 cases o with
 |lst xs=>obtain⟨_,_,_,_,e⟩:=x;exact vaj e
 |tup xs=>obtain⟨_,_,_,p⟩:=x;exact p.lt
 |dK kvs=>obtain⟨_,_,_,_,o,_,_,e,_⟩:=x;exact vaj e
 |dT kvs=>obtain⟨_,_,_,_,o,_,_,e,_⟩:=x;exact vaj e
 |set S n=>obtain⟨o,_,_,_,e,_⟩:=x;exact vaj e
 |ins C dx fs=>obtain⟨_,_,_,e,_⟩:=x;exact vaj e
 |own y=>obtain⟨_,e⟩:=x;exact vaj e
 |xd fs=>obtain⟨_,⟨_,_,_,e,_⟩,_⟩:=x;exact vaj e
 |rng lo hi=>obtain⟨_,_,_,e⟩:=x;exact vaj e
 |frz ob u=>obtain⟨e,_⟩:=x;exact vaj e
 |tbl ps=>exact vaj (show h.get? a=some _ from x)
 |met f y=>exact vaj (show h.get? a=some _ from x)
 |ext φ=>obtain⟨_,⟨_,e⟩,_⟩:=x;exact vaj e
theorem Paired.mapP{α β:Type}{F G:α->β->Prop}:∀{l₁:List α} {l₂:List β},Paired F l₁ l₂->(∀a b,F a b->G a b)->Paired G l₁ l₂
 |_,_,.nil,_=>.nil
 |_,_,.cons r t,f=>.cons (f _ _ r) (Paired.mapP t f)
theorem ObjOk.stay(x:ObjOk P w H h a o)(k:∀b u,(b=a\/H b=some (.own a))->h.get? b=some u->h'.get? b=some u)
 (ho:∀b,H b=some (.own a)->H' b=some (.own a)) (ht:∀b xs,H b=some (.tup xs)->H' b=some (.tup xs)):ObjOk P w H' h' a o:=by
 induction o with
 |lst xs=>obtain⟨z,its,n,r,e⟩:=x;exact⟨z,its,n,r,k _ _ (.inl rfl) e⟩
 |tup xs=>obtain⟨z,its,r,ob,e,c⟩:=x;exact⟨z,its,r,ob,k _ _ (.inl rfl) e,c⟩
 |dK kvs=>obtain⟨z,y,vs,r,ob,es,ep,e,c⟩:=x;exact⟨z,y,vs,r,ob,es,ep,k _ _ (.inl rfl) e,c⟩
 |dT kvs=>
  obtain⟨z,y,xs,r,ob,es,ep,e,c⟩:=x
  exact⟨z,y,xs,Paired.mapP r λp q z=>⟨z.1,ht _ _ z.2.1,z.2.2⟩,ob,es,ep,k _ _ (.inl rfl) e,c⟩
 |set S n=>obtain⟨ob,es,ep,t,e,c⟩:=x;exact⟨ob,es,ep,t,k _ _ (.inl rfl) e,c⟩
 |ins C dx fs=>
  obtain⟨d,z,ne,e,mA,⟨od,es,ep,e2,c⟩,r⟩:=x
  exact⟨ho _ d,z,ne,k _ _ (.inl rfl) e,mA,⟨od,es,ep,k _ _ (.inr d) e2,c⟩,r⟩
 |own y=>obtain⟨ob,e⟩:=x;exact⟨ob,k _ _ (.inl rfl) e⟩
 |xd fs=>obtain⟨mA,⟨od,es,ep,e,c⟩,r⟩:=x;exact⟨mA,⟨od,es,ep,k _ _ (.inl rfl) e,c⟩,r⟩
 |rng lo hi=>obtain⟨t,u,v,e⟩:=x;exact⟨t,u,v,k _ _ (.inl rfl) e⟩
 |frz ob u ih=>obtain⟨e,q⟩:=x;exact⟨k _ _ (.inl rfl) e,ih q⟩
 |tbl ps=>
  have e:h.get? a=some {cls:=.none,data:=.fields ps}:=x
  show h'.get? a=some {cls:=.none,data:=.fields ps}
  exact k a _ (.inl rfl) e
 |met f y=>
  have e:h.get? a=some (PySem.W.methodObj (.ref f) (.ref y)):=x
  show h'.get? a=some (PySem.W.methodObj (.ref f) (.ref y))
  exact k a _ (.inl rfl) e
 |ext φ=>obtain⟨p,⟨o,e⟩,st⟩:=x;exact⟨st _ _ p λo q=>k _ _ (.inl rfl) q,⟨o,k _ _ (.inl rfl) e⟩,st⟩
theorem HOk.lt(x:HOk P w H h)(e:H a=some o):a<h.objs.size:=(x a o e).lt
theorem HOk.fresh(x:HOk P w H h)(e:h.objs.size<=a):H a=none:=by
 cases q:H a with
 |none=>rfl
 |some u=>exact absurd (vah (x.lt q) e) (vcj _)
theorem HOk.kept(x:HOk P w H h)(k:∀b u,h.get? b=some u->h'.get? b=some u):HOk P w H h':=λa o e=>
 (x a o e).stay (λb u _ q=>k b u q) (λ_ q=>q) λ_ _ q=>q
theorem HOk.laid(x:HOk P w H h)(k:∀b u,h.get? b=some u->h'.get? b=some u)(hp:h.objs.size<=a)(new:ObjOk P w (upd H a o) h' a o):HOk P w (upd H a o) h':=λb u e=>by
 have hn:=x.fresh hp
 by_cases hb:b=a
 .subst hb;rw[zag]at e;cases e;exact new
 .rw[zae hb]at e
  exact(x b u e).stay (λc v _ q=>k c v q) (λc q=>by rw[zae (zaf q hn)];exact q) λc xs q=>by rw[zae (zaf q hn)];exact q
end
noncomputable def Rd(H:Hp)(a:Addr)(u:HO):Prop:=H a=some u\/∃o,H a=some (.frz o u)
theorem Rd.ok{P:Program}{w:World}{H:Hp}{h:Heap}{a:Addr}{u:HO}(r:Rd H a u)(x:HOk P w H h):ObjOk P w H h a u:=by
 rcases r with r|⟨o,r⟩
 .exact x a u r
 .obtain⟨_,q⟩:=x a _ r
  exact q
noncomputable def Mut:Option HO->Prop
 |some (.lst _)=>True
 |some (.dK _)=>True
 |some (.dT _)=>True
 |some (.set _ _)=>True
 |some (.ins _ _ _)=>True
 |some (.ext _)=>True
 |_=>False
section
variable{P:Program}{w:World}{H:Hp}{h h':Heap}{x e:Addr}{o':HO}
theorem HOk.write(ok:HOk P w H h)(mu:Mut (H x))(he:e=x\/H e=some (.own x))(k:∀b u,b≠e->h.get? b=some u->h'.get? b=some u)(heo:∃u,h'.get? e=some u)
 (new:ObjOk P w (upd H x o') h' x o'):HOk P w (upd H x o') h':=λb u q=>by
 have nown:∀c y,H c=some (.own y)->c≠x:=λc y r z=>by subst z;rw[r]at mu;exact mu
 have ntup:∀c xs,H c=some (.tup xs)->c≠x:=λc xs r z=>by subst z;rw[r]at mu;exact mu
 by_cases hb:b=x
 .subst hb;rw[zag]at q;cases q;exact new
 .rw[zae hb]at q
  by_cases hbe:b=e
  .have q':H b=some (.own x):=by
    rcases he with z|z
    .exact absurd (hbe.trans z) hb
    .rw[hbe];exact z
   rw[q]at q';cases q'
   obtain⟨v,hv⟩:=heo
   exact⟨v,by rw[hbe];exact hv⟩
  .refine(ok b u q).stay (λc v hc r=>k c v ?_ r) (λc r=>by rw[zae (nown c b r)];exact r) λc xs r=>by rw[zae (ntup c xs r)];exact r
   rcases hc with rfl|hc
   .exact hbe
   .rintro rfl
    rcases he with z|z
    .exact nown c b hc z
    .rw[hc]at z;cases z;exact hb rfl
end
structure Un(fs ex:List Addr)(H H':Hp)(h h':Heap):Prop where
 keep:∀b o,h.get? b=some o->H b=none->b∉fs->b∉ex->h'.get? b=some o
 slot:∀b o,h.get? b=some o->H b=none->b∈fs->b∉ex->∃sl,h'.get? b=some {o with slots:=sl}
 free:∀b o,h.get? b=some o->H b=none->b∉ex->H' b=none
 there:∀b o,h.get? b=some o->b∉ex->∃o',h'.get? b=some o'
 tups:∀b xs,H b=some (.tup xs)->H' b=some (.tup xs)
 frzs:∀b o u,H b=some (.frz o u)->H' b=some (.frz o u)
 tbls:∀b ps,H b=some (.tbl ps)->∃more,H' b=some (.tbl (ps++more))
section
variable{fs fs' ex ex':List Addr}{H H1 H2:Hp}{h h1 h2 h':Heap}{a x e:Addr}{o:HO}
theorem Un.any(u:Un fs ex H H1 h h1){b:Addr}{ob:Obj}(q:h.get? b=some ob)(n:H b=none)(hx:b∉ex):∃sl,h1.get? b=some {ob with slots:=sl}:=by
 by_cases hb:b∈fs
 .exact u.slot b ob q n hb hx
 .exact⟨ob.slots,u.keep b ob q n hb hx⟩
theorem Un.kept(k:∀b u,h.get? b=some u->h'.get? b=some u):Un fs ex H H h h':=
 ⟨λb ob q _ _ _=>k b ob q,λb ob q _ _ _=>⟨ob.slots,k b ob q⟩,λ_ _ _ n _=>n,λb ob q _=>⟨ob,k b ob q⟩,λ_ _ q=>q,λ_ _ _ q=>q,λ_ ps q=>⟨#[],by rw[q];simp⟩⟩
theorem Un.refl:Un fs ex H H h h:=Un.kept λ_ _ q=>q
theorem Un.laid(k:∀b u,h.get? b=some u->h'.get? b=some u)(hp:h.objs.size<=a)(hn:H a=none):Un fs ex H (upd H a o) h h' where
 keep:=λb u q _ _ _=>k b u q
 slot:=λb u q _ _ _=>⟨u.slots,k b u q⟩
 free:=λb u q n _=>by rw[zae (vau (vah (vaj q) hp))];exact n
 there:=λb u q _=>⟨u,k b u q⟩
 tups:=λb xs q=>by rw[zae (zaf q hn)];exact q
 frzs:=λb u xs q=>by rw[zae (zaf q hn)];exact q
 tbls:=λb ps q=>⟨#[],by rw[zae (zaf q hn),q];simp⟩
theorem Un.write(mu:Mut (H x))(he:e=x\/H e=some (.own x))(k:∀b u,b≠e->h.get? b=some u->h'.get? b=some u)(heo:∃u,h'.get? e=some u):Un fs ex H (upd H x o) h h':=by
 have hx:∀b,H b=none->b≠x:=λb n z=>by subst z;rw[n]at mu;exact mu
 have hb:∀b,H b=none->b≠e:=λb n z=>by
  subst z
  rcases he with r|r
  .exact hx b n r
  .rw[n]at r;cases r
 have hm:∀b u,H b=some u->¬Mut (some u)->b≠x:=λb u q nm z=>by subst z;rw[q]at mu;exact nm mu
 refine⟨λb u q n _ _=>k b u (hb b n) q,λb u q n _ _=>⟨u.slots,k b u (hb b n) q⟩,λb u q n _=>by rw[zae (hx b n)];exact n,λb u q _=>?_,
  λb xs q=>by rw[zae (hm b _ q λz=>z)];exact q,λb u xs q=>by rw[zae (hm b _ q λz=>z)];exact q,λb ps q=>⟨#[],by rw[zae (hm b _ q λz=>z),q];simp⟩⟩
 by_cases hbe:b=e
 .subst hbe;exact heo
 .exact⟨u,k b u hbe q⟩
end
noncomputable def trk(h:Heap)(H:Hp):List Addr:=(List.range h.objs.size).filter λa=>(H a).isSome
noncomputable def hidT(h:Heap)(H:Hp):Heap:=PySem.W.hideAll h (trk h H)
theorem zki(h:Heap)(H:Hp):(hidT h H).objs.size=h.objs.size:=PySem.W.hideAll_size _ _
theorem zni{h:Heap}{H:Hp}{b:Addr}{o:Obj}(e:h.get? b=some o)(n:H b=none):(hidT h H).get? b=some o:=
 PySem.W.hideAll_get _ e λhm=>by
  have q:(H b).isSome=true:=(vcu.mp hm).2
  rw[n]at q;simp at q
theorem zqh{h:Heap}{H:Hp}{b:Addr}{o:Obj}(e:(hidT h H).get? b=some o):h.get? b=some o/\H b=none:=by
 have e':h.get? b=some o:=PySem.W.of_hideAll (trk h H) e
 refine⟨e',?_⟩
 cases q:H b with
 |none=>rfl
 |some x=>
  have hm:b∈trk h H:=vcu.mpr ⟨vd3.mpr (vaj e'),by simp[q]⟩
  have z:(hidT h H).get? b=none:=PySem.W.hideAll_none (trk h H) hm
  rw[z]at e;cases e
structure Mod(K:PySem.W.Frag)(mg:Str->Option Value)(base:Heap):Prop where
 kin:K.In base
 glob:base.Ns mainGlobals mg
 blt:∃mb,base.Ns builtinsNs mb/\∀x:Str,x≠"__name__"->mb x=bootBuiltins x
 nolimit:base.NoLimit
set_option genInjectivity false in
structure Cx where
 prog:Program
 w:World
 K:PySem.W.Frag
 mg:Str->Option Value
 base:Heap
 A:Around
 N:List Str
 s₀:Shared
 H₀:Hp
 env:Env
 outer:List Env
 stack:List Env
 ex:List Addr
 fn:Str->Bool
 calm:Bool
 pn:List (Addr×Obj)
 xe:Value->Shared->Prop
noncomputable def frs(l:List Env):List Addr:=l.filterMap (·.frame)
noncomputable abbrev Cx.fs(X:Cx):List Addr:=frs X.outer
noncomputable def Vis(sc:Scope)(x:Str):Prop:=sc.names.lookup x=some .local\/sc.names.lookup x=some .cell\/sc.names.lookup x=some .free
noncomputable def Loc(sc:Scope)(x:Str):Prop:=sc.names.lookup x=some .local\/sc.names.lookup x=some .cell
noncomputable def Look(env:Env)(h:Heap)(m:Str->Option Value)(x:Str)(u:Value):Prop:=
 (env.kindOf x=some .local/\m x=some u)\/((env.kindOf x=some .cell\/env.kindOf x=some .free)/\∃c,env.cells.lookup x=some c/\h.IsCell c (some u))
structure Cx.Ok(X:Cx):Prop where
 mod:Mod X.K X.mg X.base
 kind:X.env.scope.kind=.function
 glob:X.env.globals=mainGlobals
 blt:X.env.builtins=builtinsNs
 above:X.s₀.heap.objs.size<=X.env.locals
 inj:∀x y c,X.env.cells.lookup x=some c->X.env.cells.lookup y=some c->x=y
 has:∀x,(X.env.kindOf x=some .cell\/X.env.kindOf x=some .free)->∃c,X.env.cells.lookup x=some c
 cab:∀x c,X.fn x=true->X.env.cells.lookup x=some c->X.s₀.heap.objs.size<=c
 hd:X.calm=true->X.A.handled=none
 frames:X.A.frames=some X.stack
 stk:X.stack=X.outer\/(X.stack=X.env::X.outer/\X.env.frame=some X.env.locals)
 exf:∀b∈X.ex,b≠X.env.locals/\∀x c,X.env.cells.lookup x=some c->c≠b
 bs:∀b o,X.base.get? b=some o->X.s₀.heap.get? b=some o/\X.H₀ b=none
 bsz:X.base.objs.size<=X.s₀.heap.objs.size
 noex:∀b o,X.base.get? b=some o->b∉X.ex
 exfs:∀b∈X.ex,b∉X.fs
 funs:X.s₀.heap.FunFrames X.base X.outer
 frf:∀b∈X.fs,X.H₀ b=none
structure Inv(X:Cx)(pins:List (Addr×Obj))(σ:List (Option V))(H:Hp)(s:Shared):Prop where
 ok:X.Ok
 os:s.os=X.s₀.os
 bare:AllBare s.gens
 base:Un X.fs X.ex X.H₀ H X.s₀.heap s.heap
 loc:∃m,s.heap.Ns X.env.locals m/\∀(i:Nat)(x:Str)(v:V),X.N[i]?=some x->σ[i]?=some (some v)->Vis X.env.scope x->∃u,RelV v u/\Look X.env s.heap m x u
 cell:∀x c,X.env.cells.lookup x=some c->∃v,s.heap.IsCell c v
 free:H X.env.locals=none
 freeC:∀x c,X.env.cells.lookup x=some c->H c=none
 pin:∀p∈X.pn++pins,s.heap.get? p.1=some p.2/\H p.1=none/\p.1≠X.env.locals/\p.1∉X.fs/\∀v,p.2.data≠.cell v
 hok:HOk X.prog X.w H s.heap
 len:σ.length=X.N.length
section
variable{X:Cx}{pins:List (Addr×Obj)}{σ:List (Option V)}{H H':Hp}{s:Shared}{h':Heap}
theorem Cx.Ok.nofr(ok:X.Ok){b:Addr}{o:Obj}(e:X.base.get? b=some o):b∉X.fs:=λhb=>by
 have:=(ok.funs.mem hb).1
 rw[e]at this;cases this
theorem Inv.bs(I:Inv X pins σ H s):∀b o,X.base.get? b=some o->s.heap.get? b=some o/\H b=none:=λb o e=>
 ⟨I.base.keep b o (I.ok.bs b o e).1 (I.ok.bs b o e).2 (I.ok.nofr e) (I.ok.noex b o e),I.base.free b o (I.ok.bs b o e).1 (I.ok.bs b o e).2 (I.ok.noex b o e)⟩
theorem Inv.bk(I:Inv X pins σ H s):∀b o,X.base.get? b=some o->s.heap.get? b=some o:=λb o e=>(I.bs b o e).1
theorem Inv.mod(I:Inv X pins σ H s):Mod X.K X.mg X.base:=I.ok.mod
theorem Inv.kIn(I:Inv X pins σ H s):X.K.In s.heap:=I.ok.mod.kin.keeps I.bk
theorem Inv.lt(I:Inv X pins σ H s):X.env.locals<s.heap.objs.size:=let⟨_,hn,_⟩:=I.loc;hn.lt
theorem Inv.sz(I:Inv X pins σ H s):X.s₀.heap.objs.size<=s.heap.objs.size:=vas I.ok.above (vdo I.lt)
theorem Inv.nofs(I:Inv X pins σ H s){a:Addr}(h:s.heap.objs.size<=a):a∉X.fs:=λhb=>by
 obtain⟨_,o,ho,_⟩:=I.ok.funs.mem hb
 exact absurd (vah (vaj ho) (vas I.sz h)) (vcj _)
theorem Inv.cne(I:Inv X pins σ H s):∀x c,X.env.cells.lookup x=some c->c≠X.env.locals:=λx c e z=>by
 obtain⟨v,o,ho,hd⟩:=I.cell x c e
 obtain⟨m,⟨o',es,ep,ho',hd',_⟩,_⟩:=I.loc
 rw[z,ho']at ho;cases ho;rw[hd']at hd;cases hd
theorem Inv.funs(I:Inv X pins σ H s):s.heap.FunFrames X.base X.outer:=by
 have all:∀(l:List Env),(∀b∈frs l,b∈X.fs)->X.s₀.heap.FunFrames X.base l->s.heap.FunFrames X.base l:=by
  intro l
  induction l with
  |nil=>intro _ _;trivial
  |cons env r ih=>
   intro hs hl
   obtain⟨hk,⟨L,o,hf,hn,ho,hd⟩,hr⟩:=hl
   have hL:L∈X.fs:=hs L (by unfold frs;rw[vb5,hf];exact vaq)
   obtain⟨sl,e⟩:=I.base.slot L o ho (I.ok.frf L hL) hL λz=>I.ok.exfs L z hL
   exact⟨hk,⟨L,_,hf,hn,e,hd⟩,ih (λb hb=>hs b (by unfold frs;rw[vb5,hf];exact vai _ hb)) hr⟩
 exact all X.outer (λ_ hb=>hb) I.ok.funs
theorem Inv.stack(I:Inv X pins σ H s):s.heap.FunFrames X.base X.stack:=by
 rcases I.ok.stk with e|⟨e,hf⟩
 .rw[e];exact I.funs
 .rw[e]
  obtain⟨m,hn,_⟩:=I.loc
  refine .cons (by rw[I.ok.kind];decide) hf hn ?_ I.funs
  exact Heap.get?_none_of_le (vas I.ok.bsz I.ok.above)
theorem Inv.stkSub(I:Inv X pins σ H s):∀b∈frs X.stack,b∈X.env.locals::X.fs:=λb hb=>by
 rcases I.ok.stk with e|⟨e,hf⟩
 .rw[e]at hb;exact vai _ hb
 .rw[e]at hb
  unfold frs at hb
  rw[vb5,hf]at hb
  exact hb
theorem Inv.stkFree(I:Inv X pins σ H s):∀b∈frs X.stack,H b=none:=λb hb=>by
 rcases va0.mp (I.stkSub b hb)with e|hb
 .rw[e];exact I.free
 .obtain⟨_,o,ho,_⟩:=I.ok.funs.mem hb
  exact I.base.free b o ho (I.ok.frf b hb) λz=>I.ok.exfs b z hb
theorem Inv.step{g':Array GenState}{t':Nat}{d':Drawn}{ch:List Addr}(I:Inv X pins σ H s)
 (hch:∀b∈ch,(b∈X.ex\/X.s₀.heap.objs.size<=b)/\b≠X.env.locals/\(∀x c,X.env.cells.lookup x=some c->c≠b)/\∀p∈X.pn++pins,p.1≠b)
 (keep:∀b o,b≠X.env.locals->b∉X.fs->b∉ch->s.heap.get? b=some o->H b=none->h'.get? b=some o)
 (slot:∀b o,b≠X.env.locals->b∈X.fs->b∉ch->s.heap.get? b=some o->H b=none->∃sl,h'.get? b=some {o with slots:=sl}) (free:∀b o,b∉ch->s.heap.get? b=some o->H b=none->H' b=none)
 (there:∀b o,b∉ch->s.heap.get? b=some o->∃o',h'.get? b=some o')
 (tups:∀b xs,H b=some (.tup xs)->H' b=some (.tup xs)) (frzs:∀b o u,H b=some (.frz o u)->H' b=some (.frz o u)) (tbls:∀b ps,H b=some (.tbl ps)->∃more,H' b=some (.tbl (ps++more)))
 (ns:∀m,s.heap.Ns X.env.locals m->h'.Ns X.env.locals m) (hok:HOk X.prog X.w H' h') (hg:AllBare g') :
 Inv X pins σ H' {s with heap:=h',gens:=g',drawn:=d',toks:=t'}:=by
 have neL:∀b o,X.s₀.heap.get? b=some o->b≠X.env.locals:=λb o e=>vau (vah (vaj e) I.ok.above)
 have neC:∀b o,X.s₀.heap.get? b=some o->b∉X.ex->b∉ch:=λb o e hx hb=>by
  rcases(hch b hb).1 with z|z
  .exact hx z
  .exact absurd (vah (vaj e) z) (vcj _)
 have cellK:∀x c,X.env.cells.lookup x=some c->∀v,s.heap.IsCell c v->h'.IsCell c v:=λx c e v hq0=>by
  obtain⟨o,ho,hd⟩:=hq0
  have nch:c∉ch:=λz=>(hch c z).2.2.1 x c e rfl
  by_cases hc:c∈X.fs
  .obtain⟨sl,q⟩:=slot c o (I.cne x c e) hc nch ho (I.freeC x c e)
   exact⟨_,q,hd⟩
  .exact⟨o,keep c o (I.cne x c e) hc nch ho (I.freeC x c e),hd⟩
 refine⟨I.ok,I.os,hg,⟨λb o e n hb hx=>?_,λb o e n hb hx=>?_,λb o e n hx=>?_,λb o e hx=>?_,λb xs e=>tups b xs (I.base.tups b xs e),λb o xs e=>frzs b o xs (I.base.frzs b o xs e),λb ps e=>?_⟩,?_,λx c e=>?_,?_,λx c e=>?_,λp hp=>?_,hok,I.len⟩
 .exact keep b o (neL b o e) hb (neC b o e hx) (I.base.keep b o e n hb hx) (I.base.free b o e n hx)
 .obtain⟨sl,e1⟩:=I.base.slot b o e n hb hx
  obtain⟨sl',e2⟩:=slot b _ (neL b o e) hb (neC b o e hx) e1 (I.base.free b o e n hx)
  exact⟨sl',e2⟩
 .obtain⟨o',e1⟩:=I.base.there b o e hx
  exact free b o' (neC b o e hx) e1 (I.base.free b o e n hx)
 .obtain⟨o',e1⟩:=I.base.there b o e hx
  exact there b o' (neC b o e hx) e1
 .obtain⟨m1,e1⟩:=I.base.tbls b ps e
  obtain⟨m2,e2⟩:=tbls b _ e1
  exact⟨m1++m2,by rw[e2,Array.append_assoc]⟩
 .obtain⟨m,hn,hl⟩:=I.loc
  refine⟨m,ns m hn,λi x v e1 e2 e3=>?_⟩
  obtain⟨u,r,l⟩:=hl i x v e1 e2 e3
  refine⟨u,r,?_⟩
  rcases l with l|⟨k,c,e,z⟩
  .exact .inl l
  .exact .inr ⟨k,c,e,cellK x c e _ z⟩
 .obtain⟨v,z⟩:=I.cell x c e
  exact⟨v,cellK x c e v z⟩
 .obtain⟨m,⟨o,_,_,ho,_⟩,_⟩:=I.loc
  exact free _ o (λz=>(hch _ z).2.1 rfl) ho I.free
 .obtain⟨v,o,ho,hd⟩:=I.cell x c e
  exact free c o (λz=>(hch c z).2.2.1 x c e rfl) ho (I.freeC x c e)
 .obtain⟨e,n,ne,nf,d⟩:=I.pin p hp
  have nch:p.1∉ch:=λz=>(hch p.1 z).2.2.2 p hp rfl
  exact⟨keep p.1 p.2 ne nf nch e n,free p.1 p.2 nch e n,ne,nf,d⟩
theorem Inv.un{t':Nat}(I:Inv X pins σ H s)(u:Un X.fs [] H H' s.heap h')(hok:HOk X.prog X.w H' h'):Inv X pins σ H' {s with heap:=h',toks:=t'}:=by
 obtain⟨m,⟨o,es,ep,ho,r⟩,_⟩:=id I.loc
 obtain⟨sl,hL⟩:=u.any ho I.free (by simp)
 exact I.step (g':=s.gens) (d':=s.drawn) (ch:=[]) (λ_ z=>nomatch z) (λb o _ hb _ e n=>u.keep b o e n hb (by simp)) (λb o _ hb _ e n=>u.slot b o e n hb (by simp)) (λb o _ e n=>u.free b o e n (by simp)) (λb o _ e=>u.there b o e (by simp)) u.tups u.frzs u.tbls (λm' hm=>by
  obtain⟨o',es',ep',ho',r'⟩:=hm
  rw[ho]at ho';cases ho'
  exact⟨_,es',ep',hL,r'⟩) hok I.bare
theorem Inv.call{g':Array GenState}{t':Nat}{d':Drawn}{ch:List Addr}(I:Inv X pins σ H s)(u:Un (frs X.stack) ch H H' s.heap h')(hok:HOk X.prog X.w H' h')(hg:AllBare g')
 (hch:∀b∈ch,(b∈X.ex\/X.s₀.heap.objs.size<=b)/\b≠X.env.locals/\(∀x c,X.env.cells.lookup x=some c->c≠b)/\∀p∈X.pn++pins,p.1≠b) :
 Inv X pins σ H' {s with heap:=h',gens:=g',drawn:=d',toks:=t'}:=by
 obtain⟨m,⟨o,es,ep,ho,r⟩,_⟩:=id I.loc
 obtain⟨sl,hL⟩:=u.any ho I.free λz=>(hch _ z).2.1 rfl
 exact I.step (ch:=ch) hch (λb o hL hb hc e n=>u.keep b o e n (λz=>(va0.mp (I.stkSub b z)).elim hL hb) hc) (λb o _ _ hc e n=>u.any e n hc) (λb o hc e n=>u.free b o e n hc) (λb o hc e=>u.there b o e hc) u.tups u.frzs u.tbls (λm' hm=>by
  obtain⟨o',es',ep',ho',r'⟩:=hm
  rw[ho]at ho';cases ho'
  exact⟨_,es',ep',hL,r'⟩) hok hg
theorem Inv.turned{t':Nat}{it:Addr}(I:Inv X pins σ H s)(k:∀b o,b≠it->s.heap.get? b=some o->h'.get? b=some o)(hn:H it=none)(hL:it≠X.env.locals)
 (h1:it∈X.ex\/X.s₀.heap.objs.size<=it) (h2:∀x c,X.env.cells.lookup x=some c->c≠it) (h3:∀p∈X.pn++pins,p.1≠it):Inv X pins σ H {s with heap:=h',toks:=t'}:=by
 have nit:∀b u,H b=some u->b≠it:=λb u e z=>by rw[z,hn]at e;cases e
 refine I.step (g':=s.gens) (d':=s.drawn) (ch:=[it]) (λb hb=>?_) (λb o _ _ hc e _=>k b o (λz=>hc (by simp[z])) e) (λb o _ _ hc e _=>⟨o.slots,k b o (λz=>hc (by simp[z])) e⟩) (λ_ _ _ _ n=>n)
  (λb o hc e=>⟨o,k b o (λz=>hc (by simp[z])) e⟩) (λ_ _ e=>e) (λ_ _ _ e=>e) (λb ps e=>⟨#[],by rw[e];simp⟩) (λm hm=>?_) (λb u e=>?_) I.bare
 .have e:b=it:=by simpa using hb
  subst e
  exact⟨h1,hL,h2,h3⟩
 .obtain⟨o,es,ep,ho,r⟩:=hm
  exact⟨o,es,ep,k _ o (vbo hL) ho,r⟩
 .refine(I.hok b u e).stay (λc v hc q=>k c v ?_ q) (λ_ q=>q) λ_ _ q=>q
  rcases hc with z|z
  .rw[z];exact nit b u e
  .exact nit c _ z
theorem Inv.tok(I:Inv X pins σ H s)(t:Nat):Inv X pins σ H {s with toks:=t}:=I.un (h':=s.heap) (t':=t) Un.refl I.hok
theorem Inv.kept{t':Nat}(I:Inv X pins σ H s)(k:∀b u,s.heap.get? b=some u->h'.get? b=some u):Inv X pins σ H {s with heap:=h',toks:=t'}:=I.un (Un.kept k) (I.hok.kept k)
theorem Inv.laid{a:Addr}{o:HO}{t':Nat}(I:Inv X pins σ H s)(k:∀b u,s.heap.get? b=some u->h'.get? b=some u)(hp:s.heap.objs.size<=a)(new:ObjOk X.prog X.w (upd H a o) h' a o) :
 Inv X pins σ (upd H a o) {s with heap:=h',toks:=t'}:=I.un (Un.laid k hp (I.hok.fresh hp)) (I.hok.laid k hp new)
theorem Inv.write{x e:Addr}{o:HO}{t':Nat}(I:Inv X pins σ H s)(mu:Mut (H x))(he:e=x\/H e=some (.own x))(k:∀b u,b≠e->s.heap.get? b=some u->h'.get? b=some u)(heo:∃u,h'.get? e=some u)
 (new:ObjOk X.prog X.w (upd H x o) h' x o):Inv X pins σ (upd H x o) {s with heap:=h',toks:=t'}:=I.un (Un.write mu he k heo) (I.hok.write mu he k heo new)
theorem Inv.pins_of{pins':List (Addr×Obj)}(I:Inv X pins σ H s)(h:∀p∈pins',s.heap.get? p.1=some p.2/\H p.1=none/\p.1≠X.env.locals/\p.1∉X.fs/\∀v,p.2.data≠.cell v):Inv X pins' σ H s:=
 ⟨I.ok,I.os,I.bare,I.base,I.loc,I.cell,I.free,I.freeC,λp hp=>(List.mem_append.mp hp).elim (λz=>I.pin p (vde _ z)) (h p),I.hok,I.len⟩
theorem zfg{N:List Str}(hN:N.Nodup){i j:Nat}{x:Str}(a:N[i]?=some x)(b:N[j]?=some x):i=j:=by
 obtain⟨h1,e1⟩:=van.mp a
 obtain⟨h2,e2⟩:=van.mp b
 exact(List.getElem_inj hN).mp (e1.trans e2.symm)
theorem zgh{M:Model}{A:Around}{E:Value->Shared->Prop}{i:Nat}{x:Str}{v:V}{u:Value}{Q:Unit->Shared->Prop}(I:Inv X pins σ H s)(hN:X.N.Nodup)(hi:X.N[i]?=some x)(hx:Loc X.env.scope x)(r:RelV v u)
 (h:∀s',Inv X pins (σ.set i (some v)) H s'->(∃a,Heap.SameBut a s.heap s'.heap/\(a=X.env.locals\/X.env.cells.lookup x=some a))->Q () s') (hf:X.fn x=true\/X.env.scope.names.lookup x=some .local:=by first|exact .inl rfl|exact .inr rfl|assumption):wpAny M A (storeName X.env x u) Q E s:=by
 obtain⟨m,hn,hl⟩:=id I.loc
 have hcls:(X.env.scope.kind == .class|| (X.env.scope.kind == .module&&X.env.locals != X.env.globals))=false:=by rw[I.ok.kind];rfl
 have hiσ:i<σ.length:=by rw[I.len];exact(van.mp hi).1
 have cne:=I.cne
 have tracked:∀{a:Addr}{h':Heap},(∃o,s.heap.get? a=some o/\H a=none)->Heap.SameBut a s.heap h'->HOk X.prog X.w H h':=λ{a h'} ha hs b ob e=>by
  obtain⟨_,_,hfree⟩:=ha
  refine(I.hok b ob e).stay (λc w' hc q=>(hs.2 c ?_).trans q) (λ_ q=>q) λ_ _ q=>q
  rintro rfl
  rcases hc with rfl|hc
  .rw[hfree]at e;cases e
  .rw[hfree]at hc;cases hc
 rcases hx with hk|hk
 .refine wpAny_storeName_local hk hn (λh' hn' hs=>?_) hcls
  obtain⟨oL,_,_,hoL,_⟩:=id hn
  refine h _ ⟨I.ok,I.os,I.bare,⟨λb o e n hb hx=>?_,λb o e n hb hx=>?_,I.base.free,λb o e hx=>?_,I.base.tups,I.base.frzs,I.base.tbls⟩,⟨_,hn',λj y v' e1 e2 e3=>?_⟩,λy c e=>?_,I.free,I.freeC,λp hp=>?_,tracked ⟨oL,hoL,I.free⟩ hs,by simpa using I.len⟩ ⟨_,hs,.inl rfl⟩
  .exact(hs.2 b (vau (vah (vaj e) I.ok.above))).trans (I.base.keep b o e n hb hx)
  .obtain⟨sl,e1⟩:=I.base.slot b o e n hb hx
   exact⟨sl,(hs.2 b (vau (vah (vaj e) I.ok.above))).trans e1⟩
  .obtain⟨o',e1⟩:=I.base.there b o e hx
   exact⟨o',(hs.2 b (vau (vah (vaj e) I.ok.above))).trans e1⟩
  .by_cases hj:j=i
   .subst hj
    rw[hi]at e1;cases e1
    rw[va5 hiσ]at e2
    cases e2
    exact⟨u,r,.inl ⟨hk,by simp⟩⟩
   .rw[vcc (vbo hj)]at e2
    obtain⟨u',r',q⟩:=hl j y v' e1 e2 e3
    refine⟨u',r',?_⟩
    rcases q with⟨k,e⟩|⟨k,c,e,z⟩
    .refine .inl ⟨k,?_⟩
     have:y≠x:=λe=>hj (zfg hN e1 (e▸hi))
     simp[this,e]
    .exact .inr ⟨k,c,e,z.sameBut hs (cne y c e)⟩
  .obtain⟨w',z⟩:=I.cell y c e
   exact⟨w',z.sameBut hs (cne y c e)⟩
  .obtain⟨e,n,ne,nf,d⟩:=I.pin p hp
   exact⟨(hs.2 p.1 ne).trans e,n,ne,nf,d⟩
 .have hfn:X.fn x=true:=by
   rcases hf with z|z
   .exact z
   .rw[z]at hk;cases hk
  obtain⟨c,hc⟩:=I.ok.has x (.inl hk)
  obtain⟨w',z⟩:=I.cell x c hc
  refine wpAny_storeName_cell I.ok.kind hk hc z (λh' hc' hs=>?_)
  obtain⟨oc,hoc,hocd⟩:=id z
  refine h {s with heap:=h'} ⟨I.ok,I.os,I.bare,⟨λb o e n hb hx=>?_,λb o e n hb hx=>?_,I.base.free,λb o e hx=>?_,I.base.tups,I.base.frzs,I.base.tbls⟩,⟨m,hn.sameBut hs (vbo (cne x c hc)),λj y v' e1 e2 e3=>?_⟩,λy c' e=>?_,I.free,I.freeC,λp hp=>?_,tracked ⟨oc,hoc,I.freeC x c hc⟩ hs,by simpa using I.len⟩ ⟨c,hs,.inr hc⟩
  .exact(hs.2 b (vau (vah (vaj e) (I.ok.cab x c hfn hc)))).trans (I.base.keep b o e n hb hx)
  .obtain⟨sl,e1⟩:=I.base.slot b o e n hb hx
   exact⟨sl,(hs.2 b (vau (vah (vaj e) (I.ok.cab x c hfn hc)))).trans e1⟩
  .obtain⟨o',e1⟩:=I.base.there b o e hx
   exact⟨o',(hs.2 b (vau (vah (vaj e) (I.ok.cab x c hfn hc)))).trans e1⟩
  .by_cases hj:j=i
   .subst hj
    rw[hi]at e1;cases e1
    rw[va5 hiσ]at e2
    cases e2
    exact⟨u,r,.inr ⟨.inl hk,c,hc,hc'⟩⟩
   .rw[vcc (vbo hj)]at e2
    obtain⟨u',r',q⟩:=hl j y v' e1 e2 e3
    refine⟨u',r',?_⟩
    rcases q with q|⟨k,c',e,z'⟩
    .exact .inl q
    .refine .inr ⟨k,c',e,z'.sameBut hs ?_⟩
     rintro rfl
     exact hj (zfg hN e1 (I.ok.inj _ _ _ e hc▸hi))
  .by_cases hcc:c'=c
   .subst hcc;exact⟨_,hc'⟩
   .obtain⟨w2,z2⟩:=I.cell y c' e
    exact⟨w2,z2.sameBut hs hcc⟩
  .obtain⟨e,n,ne,nf,d⟩:=I.pin p hp
   refine⟨(hs.2 p.1 ?_).trans e,n,ne,nf,d⟩
   intro q
   rw[q,hoc]at e
   have q':oc=p.2:=vbz e
   exact d w' (by rw[<-q'];exact hocd)
theorem zcg{M:Model}{A:Around}{E:Value->Shared->Prop}{i:Nat}{x:Str}{v:V}{u:Value}{Q:Unit->Shared->Prop}(I:Inv X pins σ H s)(hN:X.N.Nodup)(hi:X.N[i]?=some x)(hx:Loc X.env.scope x)(r:RelV v u)
 (h:∀s',Inv X pins (σ.set i (some v)) H s'->Q () s') (hf:X.fn x=true\/X.env.scope.names.lookup x=some .local:=by first|exact .inl rfl|exact .inr rfl|assumption):wpAny M A (storeName X.env x u) Q E s:=
 zgh I hN hi hx r (λs' I' _=>h s' I') hf
theorem Inv.call'{s':Shared}{ch:List Addr}(I:Inv X pins σ H s)(ho:s'.os=s.os)(u:Un (frs X.stack) ch H H' s.heap s'.heap)(hok:HOk X.prog X.w H' s'.heap)(hg:AllBare s'.gens)
 (hch:∀b∈ch,(b∈X.ex\/X.s₀.heap.objs.size<=b)/\b≠X.env.locals/\(∀x c,X.env.cells.lookup x=some c->c≠b)/\∀p∈X.pn++pins,p.1≠b):Inv X pins σ H' s':=by
 obtain⟨h',g',d',t',o'⟩:=s'
 have e:o'=s.os:=ho
 subst e
 exact I.call (g':=g') (t':=t') (d':=d') u hok hg hch
end
noncomputable abbrev XK:=Value->Option Addr->Hp->Prop
noncomputable abbrev St:=List (Option V)
noncomputable abbrev VK:=V->Hp->Prop
noncomputable abbrev TE:=St->Hp->VK->Prop
noncomputable abbrev TT:=St->Hp->(Bool->Hp->Prop)->Prop
noncomputable abbrev TA:=St->Hp->(List V->Hp->Prop)->Prop
set_option genInjectivity false in
structure Ends where
 nx:St->Hp->Prop
 rt:VK
 bk:St->Hp->Prop:=λ_ _=>False
 ct:St->Hp->Prop:=λ_ _=>False
noncomputable abbrev TS:=Ends->St->Hp->Prop
noncomputable def EP(X:Cx)(pins:List (Addr×Obj))(σ:St)(Q:VK)(u:Value)(s':Shared):Prop:=∃v H',Inv X pins σ H' s'/\RelV v u/\Q v H'
noncomputable def TP(X:Cx)(pins:List (Addr×Obj))(σ:St)(Q:Bool->Hp->Prop)(b:Bool)(s':Shared):Prop:=∃H',Inv X pins σ H' s'/\Q b H'
noncomputable def AP(X:Cx)(pins:List (Addr×Obj))(σ:St)(Q:List V->Hp->Prop)(us:List Value)(s':Shared):Prop:=∃vs H',Inv X pins σ H' s'/\Vals vs us/\Q vs H'
theorem EP.el{X:Cx}{pins:List (Addr×Obj)}{σ:St}{Q:VK}{u:Value}{s':Shared}{P:Prop}(q:EP X pins σ Q u s')(k:∀v H',Inv X pins σ H' s'->RelV v u->Q v H'->P):P:=by
 obtain⟨v,H',a,b,c⟩:=q
 exact k v H' a b c
theorem TP.el{X:Cx}{pins:List (Addr×Obj)}{σ:St}{Q:Bool->Hp->Prop}{b:Bool}{s':Shared}{P:Prop}(q:TP X pins σ Q b s')(k:∀H',Inv X pins σ H' s'->Q b H'->P):P:=by
 obtain⟨H',a,c⟩:=q
 exact k H' a c
theorem AP.el{X:Cx}{pins:List (Addr×Obj)}{σ:St}{Q:List V->Hp->Prop}{us:List Value}{s':Shared}{P:Prop}(q:AP X pins σ Q us s')(k:∀vs H',Inv X pins σ H' s'->Vals vs us->Q vs H'->P):P:=by
 obtain⟨v,H',a,b,c⟩:=q
 exact k v H' a b c
noncomputable def SP(X:Cx)(pins:List (Addr×Obj))(D:Ends)(f:Flow)(s':Shared):Prop:=
 match f with
 |.next=>∃σ' H',Inv X pins σ' H' s'/\D.nx σ' H'
 |.brk=>∃σ' H',Inv X pins σ' H' s'/\D.bk σ' H'
 |.cont=>∃σ' H',Inv X pins σ' H' s'/\D.ct σ' H'
 |.ret u=>∃v σ' H',Inv X pins σ' H' s'/\RelV v u/\D.rt v H'
noncomputable def PE(X:Cx)(e:Expr)(t:TE):Prop:=
 ∀(pins:List (Addr×Obj))(s:Shared)(σ:St)(H:Hp)(Q:VK),Inv X pins σ H s->t σ H Q->wpAny (model X.prog X.w) X.A (eval e X.env) (EP X pins σ Q) X.xe s
noncomputable def PT(X:Cx)(e:Expr)(t:TT):Prop:=
 ∀(pins:List (Addr×Obj))(s:Shared)(σ:St)(H:Hp)(Q:Bool->Hp->Prop),Inv X pins σ H s->t σ H Q->wpAny (model X.prog X.w) X.A (isTrue e X.env (eval e X.env)) (TP X pins σ Q) X.xe s
noncomputable def PW(X:Cx)(e:Expr)(t:TT):Prop:=
 ∀(whole:Sem Value)(pins:List (Addr×Obj))(s:Shared)(σ:St)(H:Hp)(Q:Bool->Hp->Prop),Inv X pins σ H s->t σ H Q->wpAny (model X.prog X.w) X.A (isTrue e X.env whole) (TP X pins σ Q) X.xe s
theorem PW.pt{X:Cx}{e:Expr}{t:TT}(h:PW X e t):PT X e t:=h _
noncomputable def PA(X:Cx)(es:List Expr)(t:TA):Prop:=
 ∀(pos:Pos)(pins:List (Addr×Obj))(s:Shared)(σ:St)(H:Hp)(Q:List V->Hp->Prop),Inv X pins σ H s->t σ H Q->wpAny (model X.prog X.w) X.A (spliced (backTo pos (starEach es X.env))) (AP X pins σ Q) X.xe s
noncomputable def PS(X:Cx)(st:Stmt)(t:TS):Prop:=
 ∀(pins:List (Addr×Obj))(s:Shared)(σ:St)(H:Hp)(D:Ends),Inv X pins σ H s->t D σ H->wpAny (model X.prog X.w) X.A (exec st X.env) (SP X pins D) X.xe s
noncomputable def PSs(X:Cx)(st:List Stmt)(t:TS):Prop:=
 ∀(pins:List (Addr×Obj))(s:Shared)(σ:St)(H:Hp)(D:Ends),Inv X pins σ H s->t D σ H->wpAny (model X.prog X.w) X.A (execs st X.env) (SP X pins D) X.xe s
theorem thn{α:Type}{t:Sem α}{Q Q':α->Shared->Prop}{M:Model}{A:Around}{E:Value->Shared->Prop}{s:Shared}(h:wpAny M A t Q E s)(hQ:∀a s,Q a s->Q' a s):wpAny M A t Q' E s:=vbc h hQ λ_ _ x=>x
section
variable{X:Cx}
noncomputable def tVar(i:Nat):TE:=λσ H Q=>∃v,σ[i]?=some (some v)/\Q v H
noncomputable def tC(v:V):TE:=λ_ H Q=>Q v H
theorem zio{i:Nat}{x:Str}{pos:Pos}(hN:X.N[i]?=some x)(hv:Vis X.env.scope x)(hd:(x==("__debug__" : Str))=false:=by decide)(hcd:(x==("__classdict__" : Str))=false:=by decide):PE X (.Name x pos) (tVar i):=by
 intro pins s σ H Q I h
 obtain⟨v,e,h⟩:=h
 obtain⟨m,hn,hl⟩:=I.loc
 obtain⟨u,r,l⟩:=hl i x v hN e hv
 have fin:EP X pins σ Q u s:=⟨v,H,I,r,h⟩
 rcases l with⟨hk,hm⟩|⟨hk,c,hc,hcell⟩
 .exact wpAny_Name (wpAny_loadName_local I.ok.kind hk hn hm fin) hd
 .rcases hk with hk|hk
  .exact wpAny_Name (wpAny_loadName_cell I.ok.kind hk hc hcell fin) hd
  .exact wpAny_Name (wpAny_loadName_free I.ok.kind hk hc hcell fin hcd) hd
theorem ziq{i j pos}:PE X (.Constant (.int i) j pos) (tC (.int i)):=λ_ _ _ H _ I h=>wpAny_Constant_int ⟨.int i,H,I.tok _,⟨_,rfl⟩,h⟩
theorem pe_bl{b j pos}:PE X (.Constant (.bool b) j pos) (tC (.bl b)):=λ_ _ _ H _ I h=>Constant_bool ⟨.bl b,H,I,rfl,h⟩
theorem zsx{j pos}:PE X (.Constant .none j pos) (tC .non):=λ_ _ _ H _ I h=>Constant_none ⟨.non,H,I,rfl,h⟩
theorem zo8{x j pos}:PE X (.Constant (.str x) j pos) (tC (.str x)):=λ_ _ _ H _ I h=>Calls.Constant_str ⟨.str x,H,I.tok _,⟨_,rfl⟩,h⟩
noncomputable def Gl(X:Cx)(x:Str):Prop:=X.env.kindOf x=some .globalImplicit
theorem zbl{E:Value->Shared->Prop}{pins:List (Addr×Obj)}{s:Shared}{σ:St}{H:Hp}{x:Str}{u:Value}{pos:Pos}{Q:Value->Shared->Prop}(I:Inv X pins σ H s)(hg:Gl X x)(hm:X.mg x=some u)(h:Q u s)
 (hd:(x==("__debug__" : Str))=false:=by decide):wpAny (model X.prog X.w) X.A (eval (.Name x pos) X.env) Q E s:=
 Calls.Name_function_global I.ok.kind hg (Calls.loadGlobal_global (by rw[I.ok.glob];exact I.mod.glob.keeps I.bk) hm h) hd
theorem zep{E:Value->Shared->Prop}{pins:List (Addr×Obj)}{s:Shared}{σ:St}{H:Hp}{x:Str}{u:Value}{pos:Pos}{Q:Value->Shared->Prop}(I:Inv X pins σ H s)(hg:Gl X x)(hm:X.mg x=none)(hv:bootBuiltins x=some u)(h:Q u s)
 (hn:x≠"__name__":=by decide) (hd:(x==("__debug__" : Str))=false:=by decide):wpAny (model X.prog X.w) X.A (eval (.Name x pos) X.env) Q E s:=by
 obtain⟨mb,h1,h2⟩:=I.mod.blt
 exact Calls.Name_function_global I.ok.kind hg (Calls.loadGlobal_builtin (by rw[I.ok.glob];exact I.mod.glob.keeps I.bk) hm (by rw[I.ok.blt];exact h1.keeps I.bk) ((h2 x hn).trans hv) h) hd
theorem zht{x:Str}{v:V}{u:Value}{pos:Pos}(hg:Gl X x)(hm:X.mg x=some u)(r:RelV v u)(hd:(x==("__debug__" : Str))=false:=by decide):PE X (.Name x pos) (tC v):=
 λ_ _ _ H _ I h=>zbl I hg hm ⟨v,H,I,r,h⟩ hd
theorem zkj{x:Str}{v:V}{u:Value}{pos:Pos}(hg:Gl X x)(hm:X.mg x=none)(hv:bootBuiltins x=some u)(r:RelV v u)(hn:x≠"__name__":=by decide)(hd:(x==("__debug__" : Str))=false:=by decide):PE X (.Name x pos) (tC v):=
 λ_ _ _ H _ I h=>zep I hg hm hv ⟨v,H,I,r,h⟩ hn hd
variable{a b:Expr}{ta tb:TE}{pos:Pos}
noncomputable def tB(t:TE):TT:=λσ H Q=>t σ H λx H1=>∃c,x=.bl c/\Q c H1
theorem zo9{e:Expr}{t:TE}(h:PE X e t)(he:∀whole,isTrue e X.env whole=(do let v <-whole;standAt e.pos;holding [v] (truthy v)):=by intro _;rfl):PT X e (tB t):=by
 intro pins s σ H Q I hw
 refine isTrue_plain (thn (h pins s σ H _ I hw) λv s1 z9=>z9.el λx H1 I1 r1 q1=>?_) (he _)
 obtain⟨d,rfl,q⟩:=q1
 cases r1
 exact vbr ⟨H1,I1,q⟩
variable{tA tB':TT}{rest:List Expr}
noncomputable def tAnd(t u:TT):TT:=λσ H Q=>t σ H λc H1=>if c=true then u σ H1 Q else Q false H1
noncomputable def tOr(t u:TT):TT:=λσ H Q=>t σ H λc H1=>if c=true then Q true H1 else u σ H1 Q
noncomputable def tNot(t:TT):TT:=λσ H Q=>t σ H λc H1=>Q (!c) H1
theorem zqi(ha:PT X a tA):PW X (.BoolOp .And [a] pos) tA:=by
 intro wh pins s σ H Q I h
 refine isTrue_and (thn (ha pins s σ H Q I h) λc s1 e=>?_)
 cases c with
 |true=>exact isTrue_and_nil e
 |false=>exact e
theorem zpa(ha:PT X a tA):PW X (.BoolOp .Or [a] pos) tA:=by
 intro wh pins s σ H Q I h
 refine isTrue_or (thn (ha pins s σ H Q I h) λc s1 e=>?_)
 cases c with
 |false=>exact isTrue_or_nil e
 |true=>exact e
theorem zsy(ha:PT X a tA)(hb:PW X (.BoolOp .And (b::rest) pos) tB'):PW X (.BoolOp .And (a::b::rest) pos) (tAnd tA tB'):=by
 intro wh pins s σ H Q I h
 refine isTrue_and (thn (ha pins s σ H _ I h) λc s1 z9=>z9.el λH1 I1 q1=>?_)
 cases c with
 |true=>exact hb wh pins s1 σ H1 Q I1 q1
 |false=>exact⟨H1,I1,q1⟩
theorem pw_or(ha:PT X a tA)(hb:PW X (.BoolOp .Or (b::rest) pos) tB'):PW X (.BoolOp .Or (a::b::rest) pos) (tOr tA tB'):=by
 intro wh pins s σ H Q I h
 refine isTrue_or (thn (ha pins s σ H _ I h) λc s1 z9=>z9.el λH1 I1 q1=>?_)
 cases c with
 |true=>exact⟨H1,I1,q1⟩
 |false=>exact hb wh pins s1 σ H1 Q I1 q1
theorem zkk(ha:PT X a tA):PT X (.UnaryOp .Not a pos) (tNot tA):=by
 intro pins s σ H Q I h
 exact isTrue_not (ha pins s σ H (λc H1=>Q (!c) H1) I h)
noncomputable def tAndV(ta tb:TE):TE:=λσ H Q=>ta σ H λx H1=>∃c,x=.bl c/\if c=true then tb σ H1 Q else Q (.bl false) H1
noncomputable def tOrV(ta tb:TE):TE:=λσ H Q=>ta σ H λx H1=>∃c,x=.bl c/\if c=true then Q (.bl true) H1 else tb σ H1 Q
noncomputable def tNotV(ta:TE):TE:=λσ H Q=>ta σ H λx H1=>∃c,x=.bl c/\Q (.bl (!c)) H1
theorem zsz{op}{t:TE}(h:PE X a t):PE X (.BoolOp op [a] pos) t:=λpins s σ H Q I hw=>BoolOp_one (h pins s σ H Q I hw)
theorem zs0(ha:PE X a ta)(hb:PE X (.BoolOp .And (b::rest) pos) tb):PE X (.BoolOp .And (a::b::rest) pos) (tAndV ta tb):=by
 intro pins s σ H Q I h
 refine BoolOp_and (thn (ha pins s σ H _ I h) λv s1 z9=>z9.el λx H1 I1 r1 q1=>?_)
 obtain⟨c,rfl,q1⟩:=q1
 cases r1
 refine vbr ?_
 cases c with
 |true=>exact hb pins s1 σ H1 Q I1 q1
 |false=>exact⟨.bl false,H1,I1,rfl,q1⟩
theorem pe_or(ha:PE X a ta)(hb:PE X (.BoolOp .Or (b::rest) pos) tb):PE X (.BoolOp .Or (a::b::rest) pos) (tOrV ta tb):=by
 intro pins s σ H Q I h
 refine BoolOp_or (thn (ha pins s σ H _ I h) λv s1 z9=>z9.el λx H1 I1 r1 q1=>?_)
 obtain⟨c,rfl,q1⟩:=q1
 cases r1
 refine vbr ?_
 cases c with
 |false=>exact hb pins s1 σ H1 Q I1 q1
 |true=>exact⟨.bl true,H1,I1,rfl,q1⟩
theorem zs1(ha:PE X a ta):PE X (.UnaryOp .Not a pos) (tNotV ta):=by
 intro pins s σ H Q I h
 refine UnaryOp_ (thn (ha pins s σ H _ I h) λv s1 z9=>z9.el λx H1 I1 r1 q1=>?_)
 obtain⟨c,rfl,q1⟩:=q1
 cases r1
 exact not_of (vbr ⟨.bl (!c),H1,I1,rfl,q1⟩)
noncomputable def tIf(t:TT)(ta tb:TE):TE:=λσ H Q=>t σ H λc H1=>if c=true then ta σ H1 Q else tb σ H1 Q
theorem znj{c:Expr}(hc:PT X c tA)(ha:PE X a ta)(hb:PE X b tb):PE X (.IfExp c a b pos) (tIf tA ta tb):=by
 intro pins s σ H Q I h
 refine wpAny_IfExp (thn (hc pins s σ H _ I h) λd s1 z9=>z9.el λH1 I1 q1=>?_)
 cases d with
 |true=>exact ha pins s1 σ H1 Q I1 q1
 |false=>exact hb pins s1 σ H1 Q I1 q1
end
noncomputable def SqL(K:PySem.W.Frag)(H:Hp)(a:Addr)(xs:List V):Prop:=
 Rd H a (.lst xs)\/
  ∃(o:Obj) (its:Array Value) (n:Nat),K.lookup a=some o/\o.cls=.type "list"/\o.dict=none/\o.data=.seq its n/\its.size<=sizeLine/\Vals xs its.toList
noncomputable def SqT(K:PySem.W.Frag)(H:Hp)(a:Addr)(xs:List V):Prop:=
 Rd H a (.tup xs)\/
  ∃(o:Obj) (its:Array Value) (n:Nat),K.lookup a=some o/\o.cls=.type "tuple"/\o.dict=none/\o.data=.seq its n/\its.size<=sizeLine/\Vals xs its.toList
noncomputable def absV:Value->Option V
 |.none=>some .non
 |.bool b=>some (.bl b)
 |.int i _=>some (.int i)
 |.str x _=>some (.str x)
 |.bytes b _=>some (.byt b)
 |.float b _=>some (.flt b)
 |.ref a=>some (.ref a)
 |.type n=>some (.ty n)
 |_=>none
theorem RelV.abs{x:V}{u:Value}(r:RelV x u):absV u=some x:=by
 cases x with
 |non=>cases r;rfl
 |bl _=>cases r;rfl
 |int _=>obtain⟨t,rfl⟩:=r;rfl
 |str _=>obtain⟨t,rfl⟩:=r;rfl
 |byt _=>obtain⟨t,rfl⟩:=r;rfl
 |flt _=>obtain⟨t,rfl⟩:=r;rfl
 |ref _=>cases r;rfl
 |ty _=>cases r;rfl
theorem RelV.inj{x y:V}{u:Value}(r:RelV x u)(q:RelV y u):x=y:=vbz (r.abs.symm.trans q.abs)
theorem Vals.inj:∀{xs ys:List V} {us:List Value},Vals xs us->Vals ys us->xs=ys
 |_,_,_,.nil,.nil=>rfl
 |_,_,_,.cons r t,.cons r' t'=>by rw[r.inj r',Vals.inj t t']
section
variable{X:Cx}{pins:List (Addr×Obj)}{σ:St}{H:Hp}{s:Shared}{a:Addr}{xs ys:List V}
theorem SqL.of{K:PySem.W.Frag}(h:H a=some (.lst xs)):SqL K H a xs:=.inl (.inl h)
theorem SqT.of{K:PySem.W.Frag}(h:H a=some (.tup xs)):SqT K H a xs:=.inl (.inl h)
theorem Inv.list(I:Inv X pins σ H s)(h:SqL X.K H a xs):∃its:List Value,Vals xs its/\PlainL s.heap a its.toArray/\xs.length<=sizeLine:=by
 rcases h with h|⟨o,its,n,hk,hc,hd,hs,hz,r⟩
 .obtain⟨z,its,n,r,e⟩:=h.ok I.hok
  exact⟨its,r,⟨_,n,e,rfl,rfl,rfl⟩,z⟩
 .refine⟨its.toList,r,⟨o,n,I.kIn a o hk,hc,hd,by simpa using hs⟩,?_⟩
  have e:=r.length
  simp only[vc0]at e
  omega
theorem Inv.tupleD(I:Inv X pins σ H s)(h:SqT X.K H a xs):∃its:List Value,Vals xs its/\zbe s.heap a its.toArray/\xs.length<=sizeLine:=by
 rcases h with h|⟨o,its,n,hk,hc,hd,hs,hz,r⟩
 .obtain⟨z,its,r,p⟩:=h.ok I.hok
  exact⟨its,r,p,z⟩
 .refine⟨its.toList,r,⟨o,I.kIn a o hk,hc,⟨n,by simpa using hs⟩,hd⟩,?_⟩
  have e:=r.length
  simp only[vc0]at e
  omega
theorem Inv.tuple(I:Inv X pins σ H s)(h:SqT X.K H a xs):∃its:List Value,Vals xs its/\IsTup s.heap a its.toArray/\xs.length<=sizeLine:=by
 obtain⟨its,r,p,z⟩:=I.tupleD h
 exact⟨its,r,p.tup,z⟩
theorem Inv.list_inj(I:Inv X pins σ H s)(h:SqL X.K H a xs)(h':SqL X.K H a ys):xs=ys:=by
 obtain⟨its,r,⟨o,n,e,_,_,d⟩,_⟩:=I.list h
 obtain⟨its',r',⟨o',n',e',_,_,d'⟩,_⟩:=I.list h'
 rw[e]at e';cases e'
 rw[d]at d'
 injection d' with d1 _
 have:its=its':=by simpa using vdh Array.toList d1
 subst this
 exact r.inj r'
theorem Inv.tuple_inj(I:Inv X pins σ H s)(h:SqT X.K H a xs)(h':SqT X.K H a ys):xs=ys:=by
 obtain⟨its,r,⟨o,e,_,n,d⟩,_⟩:=I.tuple h
 obtain⟨its',r',⟨o',e',_,n',d'⟩,_⟩:=I.tuple h'
 rw[e]at e';cases e'
 rw[d]at d'
 injection d' with d1 _
 have:its=its':=by simpa using vdh Array.toList d1
 subst this
 exact r.inj r'
end
noncomputable abbrev Cx.wish(X:Cx)(E:Value->Shared->Prop):Cx:={X with xe:=E}
noncomputable abbrev Cx.nox(X:Cx):Cx:=X.wish λ_ _=>False
theorem Cx.Ok.wish{X:Cx}(ok:X.Ok)(E:Value->Shared->Prop):(X.wish E).Ok:=
 ⟨ok.mod,ok.kind,ok.glob,ok.blt,ok.above,ok.inj,ok.has,ok.cab,ok.hd,ok.frames,ok.stk,ok.exf,ok.bs,ok.bsz,ok.noex,ok.exfs,ok.funs,ok.frf⟩
theorem Cx.Ok.unwish{X:Cx}{E:Value->Shared->Prop}(ok:(X.wish E).Ok):X.Ok:=
 ⟨ok.mod,ok.kind,ok.glob,ok.blt,ok.above,ok.inj,ok.has,ok.cab,ok.hd,ok.frames,ok.stk,ok.exf,ok.bs,ok.bsz,ok.noex,ok.exfs,ok.funs,ok.frf⟩
section
variable{X:Cx}{pins:List (Addr×Obj)}{σ:St}{H:Hp}{s:Shared}{E:Value->Shared->Prop}
theorem Inv.wish(I:Inv X pins σ H s)(E:Value->Shared->Prop):Inv (X.wish E) pins σ H s:=⟨I.ok.wish E,I.os,I.bare,I.base,I.loc,I.cell,I.free,I.freeC,I.pin,I.hok,I.len⟩
theorem Inv.unwish(I:Inv (X.wish E) pins σ H s):Inv X pins σ H s:=⟨I.ok.unwish,I.os,I.bare,I.base,I.loc,I.cell,I.free,I.freeC,I.pin,I.hok,I.len⟩
theorem SP.unwish{D:Ends}{f:Flow}{s':Shared}(h:SP (X.wish E) pins D f s'):SP X pins D f s':=by
 cases f with
 |next=>obtain⟨σ',H',I,q⟩:=h;exact⟨σ',H',I.unwish,q⟩
 |brk=>obtain⟨σ',H',I,q⟩:=h;exact⟨σ',H',I.unwish,q⟩
 |cont=>obtain⟨σ',H',I,q⟩:=h;exact⟨σ',H',I.unwish,q⟩
 |ret u=>obtain⟨v,σ',H',I,r,q⟩:=h;exact⟨v,σ',H',I.unwish,r,q⟩
theorem PE.nox{e:Expr}{t:TE}(h:PE X.nox e t):PE X e t:=λpins s σ H Q I hw=>
 vbc (h pins s σ H Q (I.wish _) hw) (λ_ _ ⟨v,H',I',r,q⟩=>⟨v,H',I'.unwish,r,q⟩) λ_ _ z=>False.elim z
theorem PT.nox{e:Expr}{t:TT}(h:PT X.nox e t):PT X e t:=λpins s σ H Q I hw=>
 vbc (h pins s σ H Q (I.wish _) hw) (λ_ _ ⟨H',I',q⟩=>⟨H',I'.unwish,q⟩) λ_ _ z=>False.elim z
theorem PSs.nox{st:List Stmt}{t:TS}(h:PSs X.nox st t):PSs X st t:=λpins s σ H D I hw=>
 vbc (h pins s σ H D (I.wish _) hw) (λ_ _ q=>q.unwish) λ_ _ z=>False.elim z
end
section
variable{X:Cx}{st:Stmt}{rest:List Stmt}{t u:TS}{e:Expr}{te:TE}{pos:Pos}
noncomputable def tNext:TS:=λD σ H=>D.nx σ H
noncomputable def tSeq(t u:TS):TS:=λD σ H=>t {D with nx:=u D} σ H
theorem zhu:PSs X [] tNext:=λ_ _ σ H _ I h=>vc8 ⟨σ,H,I,h⟩
theorem zch(h1:PS X st t)(h2:PSs X rest u):PSs X (st::rest) (tSeq t u):=by
 intro pins s σ H D I h
 refine wpAny_execs_cons (thn (h1 pins s σ H {D with nx:=u D} I h) λf s1 q=>?_)
 cases f with
 |next=>
  obtain⟨σ',H',I',q⟩:=q
  exact h2 pins s1 σ' H' D I' q
 |ret v=>exact q
 |brk=>exact q
 |cont=>exact q
theorem zfh(h1:PS X st t):PSs X [st] t:=by
 intro pins s σ H D I h
 refine wpAny_execs_cons (thn (h1 pins s σ H D I h) λf s1 q=>?_)
 cases f with
 |next=>exact vc8 q
 |ret v=>exact q
 |brk=>exact q
 |cont=>exact q
noncomputable def zs2:TS:=λD σ H=>D.bk σ H
noncomputable def tCont:TS:=λD σ H=>D.ct σ H
theorem zqj:PS X (.Pass pos) tNext:=λ_ _ σ H _ I h=>wpAny_Pass ⟨σ,H,I,h⟩
theorem znk:PS X (.Break pos) zs2:=λ_ _ σ H _ I h=>wpAny_Break ⟨σ,H,I,h⟩
theorem zhv:PS X (.Continue pos) tCont:=λ_ _ σ H _ I h=>wpAny_Continue ⟨σ,H,I,h⟩
theorem Inv.quiet{pins:List (Addr×Obj)}{σ:St}{H:Hp}{s:Shared}(I:Inv X pins σ H s):interactive X.env=false:=by simp[interactive,I.ok.kind]
noncomputable def tDrop(te:TE):TS:=λD σ H=>te σ H λ_ H1=>D.nx σ H1
theorem zkl(he:PE X e te)(hs:swapsWith e none pos.line X.env=pure false:=by rfl):PS X (.Expr e pos) (tDrop te):=by
 intro pins s σ H D I h
 exact wpAny_Expr_any (thn (he pins s σ H _ I h) λv s1 z9=>z9.el λx H1 I1 r1 q1=>⟨σ,H1,I1,q1⟩) I.quiet hs
noncomputable def tRet(te:TE):TS:=λD σ H=>te σ H D.rt
theorem zgi(he:PE X e te):PS X (.Return (some e) pos) (tRet te):=by
 intro pins s σ H D I h
 exact wpAny_Return_some (thn (he pins s σ H _ I h) λv s1 z9=>z9.el λx H1 I1 r1 q1=>⟨x,σ,H1,I1,r1,q1⟩)
noncomputable def tRetN:TS:=λD _ H=>D.rt .non H
theorem zqk:PS X (.Return none pos) tRetN:=λ_ _ σ H _ I h=>wpAny_Return_none ⟨.non,σ,H,I,rfl,h⟩
noncomputable def tIfS(c:TT)(t u:TS):TS:=λD σ H=>c σ H λb H1=>if b=true then t D σ H1 else u D σ H1
theorem ps_if{c:Expr}{a b:List Stmt}{tc:TT}(hc:PT X c tc)(ha:PSs X a t)(hb:PSs X b u):PS X (.If c a b pos) (tIfS tc t u):=by
 intro pins s σ H D I h
 refine wpAny_If (thn (hc pins s σ H _ I h) λd s1 z9=>z9.el λH1 I1 q1=>?_)
 cases d with
 |true=>exact ha pins s1 σ H1 D I1 q1
 |false=>exact hb pins s1 σ H1 D I1 q1
noncomputable def zs3:TS:=λ_ _ _=>False
theorem znl:PS X st zs3:=λ_ _ _ _ _ _ h=>h.elim
end
noncomputable abbrev TG:=V->St->Hp->(St->Hp->Prop)->Prop
noncomputable abbrev TGs:=List V->St->Hp->(St->Hp->Prop)->Prop
noncomputable def PG(X:Cx)(target:Expr)(t:TG):Prop:=
 ∀(pins:List (Addr×Obj))(s:Shared)(σ:St)(H:Hp)(v:V)(u:Value)(Q:St->Hp->Prop),Inv X pins σ H s->RelV v u->t v σ H Q->
  wpAny (model X.prog X.w) X.A (assign target X.env u) (λ_ s'=>∃σ' H',Inv X pins σ' H' s'/\Q σ' H') X.xe s
noncomputable def PGs(X:Cx)(ts:List Expr)(t:TGs):Prop:=
 ∀(pins:List (Addr×Obj))(s:Shared)(σ:St)(H:Hp)(vs:List V)(us:List Value)(Q:St->Hp->Prop),Inv X pins σ H s->Vals vs us->t vs σ H Q->
  wpAny (model X.prog X.w) X.A (assignInOrder ((assignEach ts X.env).map (·.2)) us) (λ_ s'=>∃σ' H',Inv X pins σ' H' s'/\Q σ' H') X.xe s
noncomputable abbrev TSet:=V->V->V->Hp->(Hp->Prop)->Prop
noncomputable def PSet(X:Cx)(t:TSet):Prop:=
 ∀(pins:List (Addr×Obj))(s:Shared)(σ:St)(H:Hp)(o i v:V)(ov iv u:Value)(Q:Hp->Prop),Inv X pins σ H s->RelV o ov->RelV i iv->RelV v u->t o i v H Q->
  wpAny (model X.prog X.w) X.A (setItem ov iv u) (λ_ s'=>∃H',Inv X pins σ H' s'/\Q H') X.xe s
noncomputable abbrev TIp:=V->V->Hp->VK->Prop
noncomputable def PIp(X:Cx)(op:Operator)(t:TIp):Prop:=
 ∀(pins:List (Addr×Obj))(s:Shared)(σ:St)(H:Hp)(x y:V)(v u:Value)(Q:VK),Inv X pins σ H s->RelV x v->RelV y u->t x y H Q->
  wpAny (model X.prog X.w) X.A (inplaceOp op v u) (EP X pins σ Q) X.xe s
section
variable{X:Cx}{pos:Pos}
noncomputable def gName(i:Nat):TG:=λv σ H Q=>Q (σ.set i (some v)) H
theorem zkm{i:Nat}{x:Str}(hN:X.N.Nodup)(hi:X.N[i]?=some x)(hx:Loc X.env.scope x)(hf:X.fn x=true\/X.env.scope.names.lookup x=some .local:=by first|exact .inl rfl|exact .inr rfl|assumption):PG X (.Name x pos) (gName i):=by
 intro pins s σ H v u Q I r h
 exact wpAny_assign_Name (zcg I hN hi hx r (λs' I'=>⟨_,H,I',h⟩) hf)
noncomputable def gNil:TGs:=λvs σ H Q=>vs=[]/\Q σ H
noncomputable def gCons(t:TG)(u:TGs):TGs:=λvs σ H Q=>∃v r,vs=v::r/\t v σ H λσ' H'=>u r σ' H' Q
theorem zql:PGs X [] gNil:=by
 intro pins s σ H vs us Q I r h
 obtain⟨e,h⟩:=h
 subst e
 cases r
 exact assignInOrder_nil ⟨σ,H,I,h⟩
theorem znm{e:Expr}{es:List Expr}{t:TG}{u:TGs}(h1:PG X e t)(h2:PGs X es u)
 (hs:(assignEach (e::es) X.env).map (·.2)=assign e X.env:: (assignEach es X.env).map (·.2):=by rfl):PGs X (e::es) (gCons t u):=by
 intro pins s σ H vs us Q I r h
 obtain⟨v,vr,e1,h⟩:=h
 subst e1
 cases r with
 |cons r rr=>
  rw[hs]
  refine assignInOrder_cons (thn (h1 pins s σ H _ _ _ I r h) λ_ s1 hq0=>?_)
  obtain⟨σ1,H1,I1,q1⟩:=hq0
  exact h2 pins s1 σ1 H1 _ _ Q I1 rr q1
noncomputable def gTup(K:PySem.W.Frag)(n:Nat)(t:TGs):TG:=λv σ H Q=>∃a xs,v=.ref a/\SqT K H a xs/\xs.length=n/\t xs σ H Q
theorem zs4{es:List Expr}{k:Nat}{t:TGs}{n:Nat}(hc:X.calm=true)(h:PGs X es t)
 (hn:(assignEach es X.env).length=n:=by rfl) (hst:(assignEach es X.env).findIdx? (·.1)=none:=by rfl):PG X (.Tuple es k pos) (gTup X.K n t):=by
 intro pins s σ H v u Q I r hw
 obtain⟨a,xs,e1,hq,hl,hw⟩:=hw
 subst e1
 cases r
 obtain⟨its,rv,ht,hz⟩:=I.tuple hq
 refine assign_Tuple_tuple (I.ok.hd hc) ht (by simp[hn,<-hl,rv.length]) hst λh' hx=>?_
 have I1:Inv X pins σ H {s with heap:=h'}:=I.kept (t':=s.toks) λb o e=>hx b o (vau (vaj e)) e
 exact h pins _ σ H xs _ Q I1 (by simpa using rv) hw
noncomputable def gSub(to ti:TE)(t:TSet):TG:=λv σ H Q=>to σ H λo H1=>ti σ H1 λi H2=>t o i v H2 λH3=>Q σ H3
theorem zs5{o i:Expr}{to ti:TE}{t:TSet}(ho:PE X o to)(hi:PE X i ti)(hs:PSet X t)
 (ha:∀v,assign (.Subscript o i pos) X.env v=(do
   let ov <-holding [v] (eval o X.env)
   let iv <-holding [v,ov] (eval i X.env)
   standAt pos
   holding [v,ov,iv] (setItem ov iv v)
   release [v,ov,iv] []):=by intro _;rfl):PG X (.Subscript o i pos) (gSub to ti t):=by
 intro pins s σ H v u Q I r h
 rw[ha]
 refine vab (vbd (thn (ho pins s σ H _ I h) λov s1 z9=>z9.el λx H1 I1 r1 q1=>?_))
 refine vab (vbd (thn (hi pins s1 σ H1 _ I1 q1) λiv s2 z9=>z9.el λy H2 I2 r2 q2=>?_))
 refine vab (vbj (vab (vbd (thn (hs pins s2 σ H2 x y v ov iv u _ I2 r1 r2 r q2) λ_ s3 hq0=>?_))))
 obtain⟨H3,I3,q3⟩:=hq0
 exact wpAny_release ⟨σ,H3,I3,q3⟩
noncomputable def tAsg(te:TE)(g:TG):TS:=λD σ H=>te σ H λx H1=>g x σ H1 D.nx
theorem zpb{tg e:Expr}{te:TE}{g:TG}(he:PE X e te)(hg:PG X tg g)(hs:swapsWithSole [tg] e pos.line X.env=pure false:=by rfl)(hw:swappedStores [tg] e X.env=pure none:=by rfl)
 (h1:(assignEach [tg] X.env).map (·.2)=[assign tg X.env]:=by rfl):PS X (.Assign [tg] e pos) (tAsg te g):=by
 intro pins s σ H D I h
 refine wpAny_Assign_stores (thn (he pins s σ H _ I h) λv s1 z9=>z9.el λx H1 I1 r1 q1=>?_) hs hw
 rw[h1]
 exact thn (hg pins s1 σ H1 x v _ I1 r1 q1) λ_ s2 q=>q
theorem zpc{i:Nat}{x:Str}{e:Expr}{te:TE}{pos':Pos}(hN:X.N.Nodup)(hi:X.N[i]?=some x)(hx:Loc X.env.scope x)(he:PE X e te)(hs:swapsWith e (some (.Name x pos')) pos.line X.env=pure false:=by rfl)(hf:X.fn x=true\/X.env.scope.names.lookup x=some .local:=by first|exact .inl rfl|exact .inr rfl|assumption) :
 PS X (.Assign [.Name x pos'] e pos) (tAsg te (gName i)):=by
 intro pins s σ H D I h
 refine wpAny_Assign_Name (thn (he pins s σ H _ I h) λv s1 z9=>z9.el λy H1 I1 r1 q1=>?_) hs
 exact zcg I1 hN hi hx r1 (λs2 I2=>⟨_,H1,I2,q1⟩) hf
noncomputable def tAug(i:Nat)(te:TE)(ti:TIp):TS:=λD σ H=>∃x,σ[i]?=some (some x)/\te σ H λy H1=>ti x y H1 λz H2=>D.nx (σ.set i (some z)) H2
theorem zs6{i:Nat}{x:Str}{e:Expr}{te:TE}{op:Operator}{ti:TIp}{pos':Pos}(hN:X.N.Nodup)(hi:X.N[i]?=some x)(hx:Loc X.env.scope x)(he:PE X e te)(ho:PIp X op ti)(hf:X.fn x=true\/X.env.scope.names.lookup x=some .local:=by first|exact .inl rfl|exact .inr rfl|assumption) :
 PS X (.AugAssign (.Name x pos') op e pos) (tAug i te ti):=by
 intro pins s σ H D I h
 obtain⟨v,e1,h⟩:=h
 obtain⟨m,hn,hl⟩:=I.loc
 have vis:Vis X.env.scope x:=by rcases hx with k|k;exact .inl k;exact .inr (.inl k)
 obtain⟨u,r,l⟩:=hl i x v hi e1 vis
 refine wpAny_AugAssign_Name ?_
 have go:wpAny (model X.prog X.w) X.A (eval e X.env) (λw s₂=>wpAny (model X.prog X.w) X.A (inplaceOp op u w) (λr s₃=>wpAny (model X.prog X.w) X.A (storeName X.env x r) (λ_=>SP X pins D .next) X.xe s₃) X.xe s₂) X.xe s:=by
  refine thn (he pins s σ H _ I h) λw s1 z9=>z9.el λy H1 I1 r1 q1=>?_
  refine thn (ho pins s1 σ H1 v y u w _ I1 r r1 q1) λz s2 z9=>z9.el λzv H2 I2 r2 q2=>?_
  exact zcg I2 hN hi hx r2 (λs3 I3=>⟨_,H2,I3,q2⟩) hf
 rcases l with⟨hk,hm⟩|⟨hk,c,hc,hcell⟩
 .exact wpAny_loadName_local I.ok.kind hk hn hm go
 .rcases hk with hk|hk
  .exact wpAny_loadName_cell I.ok.kind hk hc hcell go
  .rcases hx with k|k
   .have:X.env.scope.names.lookup x=some .free:=hk
    rw[k]at this;cases this
   .have:X.env.scope.names.lookup x=some .free:=hk
    rw[k]at this;cases this
noncomputable def ipI(f:Int->Int->Int):TIp:=λx y H Q=>∃i j,x=.int i/\y=.int j/\Q (.int (f i j)) H
theorem zs7:PIp X .Add (ipI λi j=>i+j):=by
 intro pins s σ H x y v u Q I r1 r2 h
 obtain⟨i,j,e1,e2,q⟩:=h
 subst e1;subst e2
 obtain⟨t,rfl⟩:=r1
 obtain⟨t',rfl⟩:=r2
 exact iadd_int ⟨.int _,H,I.tok _,⟨_,rfl⟩,q⟩
theorem zs8:PIp X .Sub (ipI λi j=>i-j):=by
 intro pins s σ H x y v u Q I r1 r2 h
 obtain⟨i,j,e1,e2,q⟩:=h
 subst e1;subst e2
 obtain⟨t,rfl⟩:=r1
 obtain⟨t',rfl⟩:=r2
 exact isub_int ⟨.int _,H,I.tok _,⟨_,rfl⟩,q⟩
end
section
variable{X:Cx}{pos:Pos}
noncomputable def zs9(c:TT)(tb:TS):TS:=λD σ H=>∃W:Nat->St->Hp->Prop,(∃m,W m σ H)/\∀m σ H,W m σ H->
 c σ H λb H1=>if b=true then ∃N:St->Hp->Prop,(∀σ' H',N σ' H'->∃m',m'<m/\W m' σ' H')/\tb {D with nx:=N,ct:=N,bk:=D.nx} σ H1 else D.nx σ H1
theorem znn{c:Expr}{body:List Stmt}{tc:TT}{tb:TS}(hp:PassesOwn (model X.prog X.w) X.A X.env X.xe)(hc:PT X c tc)(hb:PSs X body tb):PS X (.While c body [] pos) (zs9 tc tb):=by
 intro pins s σ H D I h
 obtain⟨W,⟨m0,w0⟩,turn⟩:=h
 refine wpAny_While (codeAny_whileLoop (λn s'=>∃σ' H',Inv X pins σ' H' s'/\W n σ' H') ?_ m0 ⟨σ,H,I,w0⟩)
 rintro n s1 ⟨σ1,H1,I1,w1⟩
 refine vcv hp (thn (hc pins s1 σ1 H1 _ I1 (turn n σ1 H1 w1)) λb s2 z9=>z9.el λH2 I2 q2=>?_)
 cases b with
 |true=>
  obtain⟨N,hN,q2⟩:=q2
  rw[if_pos rfl]
  refine vcv hp (thn (hb pins s2 σ1 H2 _ I2 q2) λf s3 q3=>?_)
  cases f with
  |next=>
   obtain⟨σ3,H3,I3,n3⟩:=q3
   obtain⟨m',hm,w3⟩:=hN σ3 H3 n3
   exact⟨m',hm,σ3,H3,I3,w3⟩
  |cont=>
   obtain⟨σ3,H3,I3,n3⟩:=q3
   obtain⟨m',hm,w3⟩:=hN σ3 H3 n3
   exact⟨m',hm,σ3,H3,I3,w3⟩
  |brk=>exact q3
  |ret v=>exact q3
 |false=>
  rw[if_neg va4]
  exact vc8 ⟨σ1,H2,I2,q2⟩
end
set_option genInjectivity false in
structure It where
 go:Nat->Hp->Prop
 yld:Nat->Hp->V->Hp->Prop
 stop:Nat->Hp->Prop
noncomputable def FpOk(X:Cx)(pins:List (Addr×Obj))(H:Hp)(b:Addr):Prop:=
 H b=none/\b≠X.env.locals/\b∉X.fs/\(b∈X.ex\/X.s₀.heap.objs.size<=b)/\(∀x c,X.env.cells.lookup x=some c->c≠b)/\∀p∈X.pn++pins,p.1≠b
theorem Inv.fpOk{X:Cx}{pins:List (Addr×Obj)}{σ:St}{H H':Hp}{s:Shared}{b:Addr}(I:Inv X pins σ H s)(hb:s.heap.objs.size<=b)(hn:H' b=none):FpOk X pins H' b:=by
 refine⟨hn,vbp (vah I.lt hb),I.nofs hb,.inr (vas I.sz hb),λx c e z=>?_,λp hp z=>?_⟩
 .obtain⟨v,q⟩:=I.cell x c e
  exact absurd (vah q.lt (by rw[z];exact hb)) (vcj _)
 .exact absurd (vah (vaj (I.pin p hp).1) (by rw[z];exact hb)) (vcj _)
structure Turn(P:Program)(w:World)(K:PySem.W.Frag)(tg:Expr)(J:It)(fp:List Addr)(it:Addr)(tn:Nat->Heap->Prop):Prop where
 mem:it∈fp
 obj:∀i h,tn i h->∀b∈fp,∃o,h.get? b=some o/\∀v,o.data≠.cell v
 keep:∀i h h',tn i h->(∀b∈fp,∀o,h.get? b=some o->h'.get? b=some o)->tn i h'
 item:∀(X:Cx),X.prog=P->X.w=w->X.K=K->X.calm=true->∀(i:Nat)(pins:List (Addr×Obj))(s:Shared)(σ:St)(H:Hp)(E:Value->Shared->Prop),Inv X pins σ H s->(∀b∈fp,FpOk X pins H b)->tn i s.heap->J.go i H->
  wpAny (model P w) X.A (pyNext (.ref it)) (λr s1=>∃u,r=some u/\
   wpAny (model P w) X.A (letOwnedTupleGo tg (.ref it) u) (λ_ s2=>∃x H',Inv X pins σ H' s2/\RelV x u/\J.yld i H x H'/\tn (i+1) s2.heap/\∀b∈fp,H' b=none) E s1) E s
 done:∀(X:Cx),X.prog=P->X.w=w->X.K=K->X.calm=true->∀(i:Nat)(pins:List (Addr×Obj))(s:Shared)(σ:St)(H:Hp)(E:Value->Shared->Prop),Inv X pins σ H s->(∀b∈fp,FpOk X pins H b)->tn i s.heap->J.stop i H->
  wpAny (model P w) X.A (pyNext (.ref it)) (λr s1=>r=none/\Inv X pins σ H s1) E s
 self:∀(A:Around)(i:Nat)(s:Shared)(Q:Value->Shared->Prop)(E:Value->Shared->Prop),tn i s.heap->Q (.ref it) s->wpAny (model P w) A (pyIter (.ref it)) Q E s
noncomputable abbrev TI:=St->Hp->(It->Hp->Prop)->Prop
noncomputable def PIE(X:Cx)(pins:List (Addr×Obj))(σ:St)(tg:Expr)(R:It->Hp->Prop)(itv:Value)(s2:Shared):Prop:=
 ∃(it:Addr) (fp:List Addr) (tn:Nat->Heap->Prop) (J:It) (H':Hp),itv=.ref it/\Inv X pins σ H' s2/\Turn X.prog X.w X.K tg J fp it tn/\tn 0 s2.heap/\(∀b∈fp,FpOk X pins H' b)/\R J H'
noncomputable def PI(X:Cx)(tg iter:Expr)(wi:TI):Prop:=
 ∀(pins:List (Addr×Obj))(s:Shared)(σ:St)(H:Hp)(R:It->Hp->Prop),Inv X pins σ H s->wi σ H R->
  wpAny (model X.prog X.w) X.A (eval iter X.env) (λv s1=>wpAny (model X.prog X.w) X.A (pyIter v) (PIE X pins σ tg R) X.xe s1) X.xe s
theorem go_of{M:Model}{A:Around}{E:Value->Shared->Prop}{s:Shared}{tg:Expr}{it:Addr}{u:Value}{o:Obj}{n:String}{vs:Array Value}{Q:Unit->Shared->Prop}(ho:s.heap.get? it=some o)(hc:o.cls=.type n)(hd:o.data=.fields vs)
 (hn:["enumerate","zip","dict_itemiterator","dict_reverseitemiterator","odict_iterator","itertools.zip_longest","itertools.pairwise"].contains n=false) (hQ:Q () s):wpAny M A (letOwnedTupleGo tg (.ref it) u) Q E s:=by
 unfold letOwnedTupleGo
 cases tg<;>first
  |exact vae hQ
  |(cases u<;>first
     |exact vae hQ
     |(refine vab (wpAny_load ho ?_)
       rw[hc,hd]
       show wpAny M A (if(["enumerate","zip","dict_itemiterator","dict_reverseitemiterator","odict_iterator","itertools.zip_longest","itertools.pairwise"].contains n&&vs[0]? == some (rawInt _))=true then _ else _) Q E s
       rw[if_neg (by intro h;rw[hn,vdg]at h;cases h)]
       exact vae hQ))
noncomputable def Itl(K:PySem.W.Frag)(a:Addr):It:=
 ⟨λi H=>∃xs x,SqL K H a xs/\xs[i]?=some x,λi H x H'=>H'=H/\∀xs,SqL K H a xs->xs[i]?=some x,λi H=>∃xs,SqL K H a xs/\xs.length<=i⟩
noncomputable def Itt(K:PySem.W.Frag)(a:Addr):It:=
 ⟨λi H=>∃xs x,SqT K H a xs/\xs[i]?=some x,λi H x H'=>H'=H/\∀xs,SqT K H a xs->xs[i]?=some x,λi H=>∃xs,SqT K H a xs/\xs.length<=i⟩
noncomputable def Itr(lo:Int)(n:Nat):It:=⟨λi _=>i<n,λi H x H'=>H'=H/\x=.int (lo+i),λi _=>n<=i⟩
theorem zkn{P:Program}{w:World}{K:PySem.W.Frag}{tg:Expr}(a it:Addr):Turn P w K tg (Itl K a) [it] it (λi h=>h.IsListIter it a i)where
 mem:=by simp
 obj:=λi h st b hb=>by
  have e:b=it:=by simpa using hb
  subst e
  obtain⟨o,e,c,d⟩:=st
  exact⟨o,e,λv z=>by rw[d]at z;cases z⟩
 keep:=λi h h' st k=>st.at λo e=>k it (by simp) o e
 item:=by
  intro X hP hw hK hc i pins s σ H E I hf st hg
  subst hP hw hK
  obtain⟨xs,x,hq,hx⟩:=hg
  obtain⟨its,rv,p,hz⟩:=I.list hq
  obtain⟨u,hu,ru⟩:=rv.get hx
  obtain⟨f0,f1,f2,f3,f4,f5⟩:=hf it (by simp)
  refine wpAny_pyNext_list_item st p.isList (x:=u) (by simpa using hu) λh' st' sb=>?_
  have I1:Inv X pins σ H {s with heap:=h'}:=I.turned (t':=s.toks) (λb o hb e=>(sb.2 b hb).trans e) f0 f1 f3 f4 f5
  obtain⟨o,e,c,d⟩:=id st'
  exact⟨u,rfl,go_of (s:={s with heap:=h'}) e c d (by decide) ⟨x,H,I1,ru,⟨rfl,λys hy=>by rw[I.list_inj hy hq];exact hx⟩,st',λb hb=>(hf b hb).1⟩⟩
 done:=by
  intro X hP hw hK hc i pins s σ H E I hf st hg
  subst hP hw hK
  obtain⟨xs,hq,hx⟩:=hg
  obtain⟨its,rv,p,hz⟩:=I.list hq
  obtain⟨f0,f1,f2,f3,f4,f5⟩:=hf it (by simp)
  have hl:=rv.length
  exact wpAny_pyNext_list_end (I.ok.hd hc) st p.isList (by simp;omega) λh' eb=>⟨rfl,I.turned (t':=s.toks) (λb o hb e=>eb b o hb e) f0 f1 f3 f4 f5⟩
 self:=λ_ _ _ _ _ st h=>wpAny_pyIter_listiter st h
theorem zjt{P:Program}{w:World}{K:PySem.W.Frag}{tg:Expr}(a it:Addr):Turn P w K tg (Itt K a) [it] it (λi h=>h.IsTupleIter it a i)where
 mem:=by simp
 obj:=λi h st b hb=>by
  have e:b=it:=by simpa using hb
  subst e
  obtain⟨o,e,c,d⟩:=st
  exact⟨o,e,λv z=>by rw[d]at z;cases z⟩
 keep:=λi h h' st k=>st.at λo e=>k it (by simp) o e
 item:=by
  intro X hP hw hK hc i pins s σ H E I hf st hg
  subst hP hw hK
  obtain⟨xs,x,hq,hx⟩:=hg
  obtain⟨its,rv,p,hz⟩:=I.tuple hq
  obtain⟨u,hu,ru⟩:=rv.get hx
  obtain⟨f0,f1,f2,f3,f4,f5⟩:=hf it (by simp)
  refine wpAny_pyNext_tuple_item st (show s.heap.IsTuple a its.toArray from p) (x:=u) (by simpa using hu) λh' st' sb=>?_
  have I1:Inv X pins σ H {s with heap:=h'}:=I.turned (t':=s.toks) (λb o hb e=>(sb.2 b hb).trans e) f0 f1 f3 f4 f5
  obtain⟨o,e,c,d⟩:=id st'
  exact⟨u,rfl,go_of (s:={s with heap:=h'}) e c d (by decide) ⟨x,H,I1,ru,⟨rfl,λys hy=>by rw[I.tuple_inj hy hq];exact hx⟩,st',λb hb=>(hf b hb).1⟩⟩
 done:=by
  intro X hP hw hK hc i pins s σ H E I hf st hg
  subst hP hw hK
  obtain⟨xs,hq,hx⟩:=hg
  obtain⟨its,rv,p,hz⟩:=I.tuple hq
  obtain⟨f0,f1,f2,f3,f4,f5⟩:=hf it (by simp)
  have hl:=rv.length
  exact wpAny_pyNext_tuple_end (I.ok.hd hc) st (show s.heap.IsTuple a its.toArray from p) (by simp;omega) λh' eb=>⟨rfl,I.turned (t':=s.toks) (λb o hb e=>eb b o hb e) f0 f1 f3 f4 f5⟩
 self:=λ_ _ _ _ _ st h=>wpAny_pyIter_tupleiter st h
theorem zju{P:Program}{w:World}{K:PySem.W.Frag}{tg:Expr}(it:Addr)(lo:Int)(n:Nat):Turn P w K tg (Itr lo n) [it] it (λi h=>IsRangeIter h it (lo+ (i:Nat)*1) ((n:Int)- (i:Nat)) 1)where
 mem:=by simp
 obj:=λi h st b hb=>by
  have e:b=it:=by simpa using hb
  subst e
  exact⟨_,st,λv z=>by
   have z':Data.fields _=Data.cell v:=z
   cases z'⟩
 keep:=λi h h' st k=>k it (by simp) _ st
 item:=by
  intro X hP hw hK hc i pins s σ H E I hf st hg
  subst hP hw hK
  obtain⟨f0,f1,f2,f3,f4,f5⟩:=hf it (by simp)
  have W:=Walks.range (prog:=X.prog) (w:=X.w) (I.ok.hd hc) it lo 1 n
  refine W.item i s _ _ hg st λv h' tk hv st' kk=>?_
  obtain⟨t,rfl⟩:=hv
  have I1:Inv X pins σ H {s with heap:=h',toks:=tk}:=I.turned (λb o hb e=>kk b o (by simpa using hb) e) f0 f1 f3 f4 f5
  refine⟨_,rfl,go_of (s:={s with heap:=h',toks:=tk}) (n:="range_iterator") st' rfl rfl (by decide) ⟨.int (lo+i),H,I1,⟨t,?_⟩,⟨rfl,rfl⟩,st',λb hb=>(hf b hb).1⟩⟩
  rw[Int.mul_one]
 done:=by
  intro X hP hw hK hc i pins s σ H E I hf st hg
  subst hP hw hK
  obtain⟨f0,f1,f2,f3,f4,f5⟩:=hf it (by simp)
  exact wpAny_pyNext_range_end (I.ok.hd hc) st (by have:n<=i:=hg;omega) λh' eb=>⟨rfl,I.turned (t':=s.toks) (λb o hb e=>eb b o hb e) f0 f1 f3 f4 f5⟩
 self:=λ_ _ _ _ _ st h=>wpAny_pyIter_rangeiter st h
section
variable{X:Cx}{tg:Expr}
noncomputable def iList(K:PySem.W.Frag)(tl:TE):TI:=λσ H R=>tl σ H λx H1=>∃a,x=.ref a/\(∃xs,SqL K H1 a xs)/\R (Itl K a) H1
noncomputable def iTup(K:PySem.W.Frag)(tl:TE):TI:=λσ H R=>tl σ H λx H1=>∃a,x=.ref a/\(∃xs,SqT K H1 a xs)/\R (Itt K a) H1
theorem zko{l:Expr}{tl:TE}(hl:PE X l tl):PI X tg l (iList X.K tl):=by
 intro pins s σ H R I h
 refine thn (hl pins s σ H _ I h) λv s1 z9=>z9.el λx H1 I1 r1 q1=>?_
 obtain⟨a,e,⟨xs,hq⟩,q⟩:=q1
 subst e
 cases r1
 obtain⟨its,rv,p,hz⟩:=I1.list hq
 refine vcw p.isList ?_
 refine⟨s1.heap.objs.size,[s1.heap.objs.size],_,_,H1,rfl,I1.kept (t':=s1.toks) λb o e=>vac _ e,zkn a _,⟨_,vat _ rfl,rfl,rfl⟩,λb hb=>?_,q⟩
 have e:b=s1.heap.objs.size:=by simpa using hb
 subst e
 exact I1.fpOk (vad _) (I1.hok.fresh (vad _))
theorem zta{l:Expr}{tl:TE}(hl:PE X l tl):PI X tg l (iTup X.K tl):=by
 intro pins s σ H R I h
 refine thn (hl pins s σ H _ I h) λv s1 z9=>z9.el λx H1 I1 r1 q1=>?_
 obtain⟨a,e,⟨xs,hq⟩,q⟩:=q1
 subst e
 cases r1
 obtain⟨its,rv,p,hz⟩:=I1.tuple hq
 refine vci (show s1.heap.IsTuple a its.toArray from p) ?_
 refine⟨s1.heap.objs.size,[s1.heap.objs.size],_,_,H1,rfl,I1.kept (t':=s1.toks) λb o e=>vac _ e,zjt a _,⟨_,vat _ rfl,rfl,rfl⟩,λb hb=>?_,q⟩
 have e:b=s1.heap.objs.size:=by simpa using hb
 subst e
 exact I1.fpOk (vad _) (I1.hok.fresh (vad _))
theorem zno{pins:List (Addr×Obj)}{σ:St}{H:Hp}{s:Shared}{R:It->Hp->Prop}{E:Value->Shared->Prop}{lo hi:Int}{t u v:Tok}{tk:Nat}(I:Inv X pins σ H s)(h1:-(2 ^ 62)<=lo)(h2:lo<2 ^ 62)(h3:-(2 ^ 62)<=hi)(h4:hi<2 ^ 62)
 (q:R (Itr lo (hi-lo).toNat) H):wpAny (model X.prog X.w) X.A (pyIter (.ref s.heap.objs.size)) (PIE X pins σ tg R) E {s with heap:=s.heap.push {cls:=.type "range",data:=.fields #[.int lo t,.int hi u,.int 1 v]},toks:=tk}:=by
 refine wpAny_pyIter_range (IsRange.new ..) (small_one h1 h2 h3 h4) ?_
 have I1:Inv X pins σ H {s with heap:=s.heap.push {cls:=.type "range",data:=.fields #[.int lo t,.int hi u,.int 1 v]},toks:=tk}:=I.kept λb o e=>vac _ e
 refine⟨(s.heap.push {cls:=.type "range",data:=.fields #[.int lo t,.int hi u,.int 1 v]}).objs.size,[(s.heap.push {cls:=.type "range",data:=.fields #[.int lo t,.int hi u,.int 1 v]}).objs.size],_,_,H,rfl,
  I1.kept (t':=tk) λb o e=>vac _ e,zju _ lo (hi-lo).toNat,?_,λb hb=>?_,q⟩
 .have e1:lo+ ((0:Nat):Int)*1=lo:=by simp
  have e2:(((hi-lo).toNat:Nat):Int)- ((0:Nat):Int)=Builtin.Range.rangeSize lo hi 1:=by rw[rangeSize_one];split<;>omega
  show IsRangeIter _ _ (lo+ ((0:Nat):Int)*1) ((((hi-lo).toNat:Nat):Int)- ((0:Nat):Int)) 1
  rw[e1,e2]
  exact vat _ rfl
 .have e:b=(s.heap.push {cls:=.type "range",data:=.fields #[.int lo t,.int hi u,.int 1 v]}).objs.size:=by simpa using hb
  subst e
  exact I1.fpOk (vad _) (I1.hok.fresh (vad _))
noncomputable def iRng1(ta:TA):TI:=λσ H R=>ta σ H λvs H1=>∃j:Int,vs=[.int j]/\-(2 ^ 62)<=j/\j<2 ^ 62/\R (Itr 0 j.toNat) H1
theorem zkp{a:Expr}{ta:TA}{p pos:Pos}(hg:Gl X "range")(hm:X.mg "range" = none)(ha:PA X [a] ta)(hs:starEach [a] X.env=[(false,eval a X.env)]:=by rfl):PI X tg (.Call (.Name "range" p) [a] [] pos) (iRng1 ta):=by
 intro pins s σ H R I h
 refine Call_ (zep I hg hm boot_range (vcl (thn (ha pos pins s σ H _ I h) λus s1 z9=>z9.el λvs H1 I1 r1 q1=>?_) hs rfl))
 obtain⟨j,e,q1,q2,q⟩:=q1
 subst e
 cases r1 with
 |cons r rr=>
  cases rr
  obtain⟨t,rfl⟩:=r
  exact call_range_1 (zno I1 (by omega) (by omega) q1 q2 (by simpa using q))
noncomputable def tFor(wi:TI)(g:TG)(tb:TS):TS:=λD σ H=>wi σ H λJ H1=>∃W:Nat->Nat->St->Hp->Prop,(∃m,W 0 m σ H1)/\∀i m σ H,W i m σ H->
 (J.stop i H/\D.nx σ H)\/(J.go i H/\∃N:St->Hp->Prop,(∀σ' H',N σ' H'->∃m',m'<m/\W (i+1) m' σ' H')/\∀x H',J.yld i H x H'->g x σ H' λσ2 H2=>tb {D with nx:=N,ct:=N,bk:=D.nx} σ2 H2)
noncomputable def zgj(fp:List Addr)(h:Heap):List (Addr×Obj):=fp.filterMap λb=>(h.get? b).map λo=>(b,o)
theorem zb1{fp:List Addr}{h:Heap}{b:Addr}{o:Obj}(hb:b∈fp)(e:h.get? b=some o):(b,o)∈zgj fp h:=List.mem_filterMap.mpr ⟨b,hb,by rw[e];rfl⟩
theorem zkq{fp:List Addr}{h:Heap}{p:Addr×Obj}(hp:p∈zgj fp h):p.1∈fp/\h.get? p.1=some p.2:=by
 obtain⟨b,hb,e⟩:=List.mem_filterMap.mp hp
 cases q:h.get? b with
 |none=>rw[q]at e;cases e
 |some o=>
  rw[q]at e
  have e':(b,o)=p:=vbz e
  subst e'
  exact⟨hb,q⟩
theorem Inv.pinned{pins:List (Addr×Obj)}{σ:St}{H:Hp}{s:Shared}{fp:List Addr}(I:Inv X pins σ H s)(hf:∀b∈fp,FpOk X pins H b)(ho:∀b∈fp,∃o,s.heap.get? b=some o/\∀v,o.data≠.cell v):Inv X (pins++zgj fp s.heap) σ H s:=
 I.pins_of λp hp=>(List.mem_append.mp hp).elim (λz=>I.pin p (va6 _ z)) λz=>by
  obtain⟨hb,e⟩:=zkq z
  obtain⟨f0,f1,f2,_⟩:=hf p.1 hb
  obtain⟨o,e',d⟩:=ho p.1 hb
  rw[e]at e';cases e'
  exact⟨e,f0,f1,f2,d⟩
theorem Inv.unpinned{pins pl:List (Addr×Obj)}{σ:St}{H:Hp}{s:Shared}(I:Inv X (pins++pl) σ H s):Inv X pins σ H s:=I.pins_of λp hp=>I.pin p (va6 _ (vde _ hp))
theorem ztb{iter:Expr}{body:List Stmt}{wi:TI}{g:TG}{tb:TS}{pos:Pos}(hp:PassesOwn (model X.prog X.w) X.A X.env X.xe)(hc:X.calm=true)(hi:PI X tg iter wi)(hg:PG X tg g)(hb:PSs X body tb)
 (hs:∀x,foldedSetIterable iter X.env x=pure x:=by intro _;rfl):PS X (.For tg iter body [] pos) (tFor wi g tb):=by
 intro pins s σ H D I h
 refine wpAny_For (thn (hi pins s σ H _ I h) λv s1 h1=>thn h1 λitv s2 h2=>?_) hs
 obtain⟨it,fp,tn,J,H2,e,I2,T,st2,f2,W,⟨m0,w0⟩,turn⟩:=h2
 subst e
 have stat:∀{H':Hp},(∀b∈fp,H' b=none)->∀b∈fp,FpOk X pins H' b:=λhn b hb=>⟨hn b hb,(f2 b hb).2⟩
 refine codeAny_forLoop_any (λn s'=>∃i σ' H',Inv X pins σ' H' s'/\tn i s'.heap/\(∀b∈fp,H' b=none)/\W i n σ' H') ?_ m0 ⟨0,σ,H2,I2,st2,λb hb=>(f2 b hb).1,w0⟩
 rintro n s3 ⟨i,σ3,H3,I3,st3,fr3,w3⟩
 rcases turn i n σ3 H3 w3 with⟨stop,qn⟩|⟨go,N,hN,step⟩
 .refine vcv hp (thn (T.done X rfl rfl rfl hc i pins s3 σ3 H3 X.xe I3 (stat fr3) st3 stop) λr s4 hq0=>?_)
  obtain⟨hr,I4⟩:=hq0
  subst hr
  exact vc8 ⟨σ3,H3,I4,qn⟩
 .refine vcv hp (thn (T.item X rfl rfl rfl hc i pins s3 σ3 H3 X.xe I3 (stat fr3) st3 go) λr s4 hq0=>?_)
  obtain⟨u,hr,h4⟩:=hq0
  subst hr
  refine vcv hp (thn h4 λ_ s5 hq0=>?_)
  obtain⟨x,H5,I5,r5,y5,st5,fr5⟩:=hq0
  have I5':=I5.pinned (stat fr5) (T.obj _ _ st5)
  refine vcv hp (thn (hg _ s5 σ3 H5 x u _ I5' r5 (step x H5 y5)) λ_ s6 hq0=>?_)
  obtain⟨σ6,H6,I6,q6⟩:=hq0
  refine vcv hp (thn (hb _ s6 σ6 H6 _ I6 q6) λf s7 q7=>?_)
  have again:∀{σ7:St}{H7:Hp},Inv X (pins++zgj fp s5.heap) σ7 H7 s7->N σ7 H7->∃m,m<n/\∃i σ' H',Inv X pins σ' H' s7/\tn i s7.heap/\(∀b∈fp,H' b=none)/\W i m σ' H':=λ{σ7 H7} I7 n7=>by
   obtain⟨m',hm,w7⟩:=hN σ7 H7 n7
   refine⟨m',hm,i+1,σ7,H7,I7.unpinned,T.keep _ _ _ st5 λb hb o e=>(I7.pin (b,o) (va6 _ (va6 _ (zb1 hb e)))).1,λb hb=>?_,w7⟩
   obtain⟨o,e,d⟩:=T.obj _ _ st5 b hb
   exact(I7.pin (b,o) (va6 _ (va6 _ (zb1 hb e)))).2.1
  cases f with
  |next=>obtain⟨σ7,H7,I7,n7⟩:=q7;exact again I7 n7
  |cont=>obtain⟨σ7,H7,I7,n7⟩:=q7;exact again I7 n7
  |brk=>obtain⟨σ7,H7,I7,q7⟩:=q7;exact⟨σ7,H7,I7.unpinned,q7⟩
  |ret v=>obtain⟨x7,σ7,H7,I7,r7,q7⟩:=q7;exact⟨x7,σ7,H7,I7.unpinned,r7,q7⟩
end
noncomputable abbrev R2:=V->V->Hp->VK->Prop
noncomputable def OpR(X:Cx)(f:Value->Value->Sem Value)(r:R2):Prop:=
 ∀(pins:List (Addr×Obj))(s:Shared)(σ:St)(H:Hp)(x y:V)(v u:Value)(Q:VK),Inv X pins σ H s->RelV x v->RelV y u->r x y H Q->
  wpAny (model X.prog X.w) X.A (f v u) (EP X pins σ Q) X.xe s
noncomputable def UnR(X:Cx)(f:Value->Sem Value)(r:V->Hp->VK->Prop):Prop:=
 ∀(pins:List (Addr×Obj))(s:Shared)(σ:St)(H:Hp)(x:V)(v:Value)(Q:VK),Inv X pins σ H s->RelV x v->r x H Q->
  wpAny (model X.prog X.w) X.A (f v) (EP X pins σ Q) X.xe s
noncomputable def CallR(X:Cx)(f:Value)(r:List V->Hp->VK->Prop):Prop:=
 ∀(pins:List (Addr×Obj))(s:Shared)(σ:St)(H:Hp)(xs:List V)(us:List Value)(Q:VK),Inv X pins σ H s->Vals xs us->r xs H Q->
  wpAny (model X.prog X.w) X.A (call f us) (EP X pins σ Q) X.xe s
noncomputable def TruR(X:Cx)(r:V->Hp->(Bool->Hp->Prop)->Prop):Prop:=
 ∀(pins:List (Addr×Obj))(s:Shared)(σ:St)(H:Hp)(x:V)(v:Value)(Q:Bool->Hp->Prop),Inv X pins σ H s->RelV x v->r x H Q->
  wpAny (model X.prog X.w) X.A (truthy v) (TP X pins σ Q) X.xe s
noncomputable def tOp(r:R2)(ta tb:TE):TE:=λσ H Q=>ta σ H λx H1=>tb σ H1 λy H2=>r x y H2 Q
noncomputable def tUn(r:V->Hp->VK->Prop)(ta:TE):TE:=λσ H Q=>ta σ H λx H1=>r x H1 Q
noncomputable def rI(C:Int->Int->Prop)(g:Int->Int->V):R2:=λx y H Q=>∃i j,x=.int i/\y=.int j/\C i j/\Q (g i j) H
noncomputable def rI0(g:Int->Int->V):R2:=λx y H Q=>∃i j,x=.int i/\y=.int j/\Q (g i j) H
noncomputable def rU(g:Int->V):V->Hp->VK->Prop:=λx H Q=>∃i,x=.int i/\Q (g i) H
section
variable{X:Cx}{a b c:Expr}{ta tb tc:TE}{pos:Pos}
theorem binT(ha:PE X a ta)(hb:PE X b tb){pins:List (Addr×Obj)}{s:Shared}{σ:St}{H:Hp}{R:V->V->Hp->Prop}(I:Inv X pins σ H s)
 (h:ta σ H λx H1=>tb σ H1 λy H2=>R x y H2) {Q:Value->Shared->Prop} {f:Value->Value->Sem Value}
 (hf:∀v u s2 x y H2,Inv X pins σ H2 s2->RelV x v->RelV y u->R x y H2->wpAny (model X.prog X.w) X.A (f v u) Q X.xe s2) :
 wpAny (model X.prog X.w) X.A (eval a X.env) (λv s₁=>wpAny (model X.prog X.w) X.A (eval b X.env) (λu s₂=>wpAny (model X.prog X.w) X.A (f v u) Q X.xe s₂) X.xe s₁) X.xe s:=by
 refine thn (ha pins s σ H _ I h) λv s1 z9=>z9.el λx H1 I1 r1 q1=>?_
 refine thn (hb pins s1 σ H1 _ I1 q1) λu s2 z9=>z9.el λy H2 I2 r2 q2=>?_
 exact hf v u s2 x y H2 I2 r1 r2 q2
theorem pe_op{op:Operator}{r:R2}(ho:OpR X (binaryOp op) r)(ha:PE X a ta)(hb:PE X b tb):PE X (.BinOp a op b pos) (tOp r ta tb):=by
 intro pins s σ H Q I h
 exact wpAny_BinOp (binT ha hb I h λv u s2 x y H2 I2 rx ry q=>ho pins s2 σ H2 x y v u Q I2 rx ry q)
theorem pe_un{op:UnaryOp}{r:V->Hp->VK->Prop}(ho:UnR X (unaryOp op) r)(ha:PE X a ta):PE X (.UnaryOp op a pos) (tUn r ta):=by
 intro pins s σ H Q I h
 exact UnaryOp_ (thn (ha pins s σ H _ I h) λv s1 z9=>z9.el λx H1 I1 r1 q1=>ho pins s1 σ H1 x v Q I1 r1 q1)
theorem opI{f:Value->Value->Sem Value}{C:Int->Int->Prop}{g:Int->Int->Int}
 (rule:∀(i j:Int)(t u:Tok)(s:Shared)(Q:Value->Shared->Prop)(E:Value->Shared->Prop),C i j->Q (.int (g i j) s.toks) {s with toks:=s.toks+1}->wpAny (model X.prog X.w) X.A (f (.int i t) (.int j u)) Q E s) :
 OpR X f (rI C λi j=>.int (g i j)):=by
 intro pins s σ H x y v u Q I rx ry h
 obtain⟨i,j,rfl,rfl,hc,q⟩:=h
 obtain⟨t,rfl⟩:=rx
 obtain⟨t',rfl⟩:=ry
 exact rule i j t t' s _ _ hc ⟨.int (g i j),H,I.tok _,⟨_,rfl⟩,q⟩
theorem opI0{f:Value->Value->Sem Value}{g:Int->Int->Int}
 (rule:∀(i j:Int)(t u:Tok)(s:Shared)(Q:Value->Shared->Prop)(E:Value->Shared->Prop),Q (.int (g i j) s.toks) {s with toks:=s.toks+1}->wpAny (model X.prog X.w) X.A (f (.int i t) (.int j u)) Q E s) :
 OpR X f (rI0 λi j=>.int (g i j)):=by
 intro pins s σ H x y v u Q I rx ry h
 obtain⟨i,j,rfl,rfl,q⟩:=h
 obtain⟨t,rfl⟩:=rx
 obtain⟨t',rfl⟩:=ry
 exact rule i j t t' s _ _ ⟨.int (g i j),H,I.tok _,⟨_,rfl⟩,q⟩
theorem opB0{f:Value->Value->Sem Value}{g:Int->Int->Bool}
 (rule:∀(i j:Int)(t u:Tok)(s:Shared)(Q:Value->Shared->Prop)(E:Value->Shared->Prop),Q (.bool (g i j)) s->wpAny (model X.prog X.w) X.A (f (.int i t) (.int j u)) Q E s) :
 OpR X f (rI0 λi j=>.bl (g i j)):=by
 intro pins s σ H x y v u Q I rx ry h
 obtain⟨i,j,rfl,rfl,q⟩:=h
 obtain⟨t,rfl⟩:=rx
 obtain⟨t',rfl⟩:=ry
 exact rule i j t t' s _ _ ⟨.bl (g i j),H,I,rfl,q⟩
noncomputable def CDiv(i j:Int):Prop:=0<j/\j<1073741824
noncomputable def CPow(i j:Int):Prop:=0<=j/\j<=1000000/\i.natAbs<2 ^ 64
noncomputable def CMul(i j:Int):Prop:=(-(2 ^ 64)<i/\i<2 ^ 64)\/(-(2 ^ 64)<j/\j<2 ^ 64)
theorem CMul.ok{i j:Int}(h:CMul i j):IntMulOk i j:=by
 rcases h with⟨h1,h2⟩|⟨h1,h2⟩
 .exact .of_left (intBits_le_64 h1 h2)
 .exact .of_right (intBits_le_64 h1 h2)
theorem zjv(k:Nat):(0:Int)<=2 ^ k:=by
 rw[two_pow_cast]
 exact Int.natCast_nonneg _
theorem ztc:OpR X (binaryOp .Add) (rI0 λi j=>.int (i+j)):=opI0 λ_ _ _ _ _ _ _ q=>add_int q
theorem ztd:OpR X (binaryOp .Sub) (rI0 λi j=>.int (i-j)):=opI0 λ_ _ _ _ _ _ _ q=>sub_int q
theorem zte:OpR X (binaryOp .Mult) (rI CMul λi j=>.int (i*j)):=opI λ_ _ _ _ _ _ _ hc q=>mul_int q hc.ok
theorem zqm:OpR X (binaryOp .FloorDiv) (rI CDiv λi j=>.int (i/j)):=opI λi j _ _ _ _ _ hc q=>by
 have h1:(0:Int)<j:=hc.1
 have h2:j<1073741824:=hc.2
 exact floordiv_int (by omega) (by rw[Int.fdiv_eq_ediv_of_nonneg i (by omega)];exact q) (.inl (PyProof.noPylong_small (by omega)))
theorem ztf:OpR X (binaryOp .Mod) (rI (λ_ j=>0<j) λi j=>.int (i % j)):=opI λi j _ _ _ _ _ hc q=>by
 have h1:(0:Int)<j:=hc
 exact mod_int' (by omega) (by rw[Int.fmod_eq_emod_of_nonneg i (by omega)];exact q)
theorem ztg:OpR X (binaryOp .Pow) (rI CPow λi j=>.int (i ^ j.toNat)):=opI λ_ _ _ _ _ _ _ hc q=>pow_int_small hc.1 hc.2.1 hc.2.2 q
theorem zth:OpR X (binaryOp .RShift) (rI (λ_ j=>0<=j) λi j=>.int (i/2 ^ j.toNat)):=opI λi j _ _ _ _ _ hc q=>
 rshift_int hc (by rw[Int.fdiv_eq_ediv_of_nonneg i (zjv _)];exact q)
theorem zti:OpR X (binaryOp .BitAnd) (rI0 λi j=>.int (Builtin.bitAnd i j)):=opI0 λ_ _ _ _ _ _ _ q=>and_int q
theorem zqn:OpR X (inplaceOp .Mult) (rI CMul λi j=>.int (i*j)):=opI λ_ _ _ _ _ _ _ hc q=>imul_int q hc.ok
theorem znp:OpR X (inplaceOp .FloorDiv) (rI CDiv λi j=>.int (i/j)):=opI λi j _ _ _ _ _ hc q=>by
 have h1:(0:Int)<j:=hc.1
 have h2:j<1073741824:=hc.2
 exact ifloordiv_int (by omega) (by rw[Int.fdiv_eq_ediv_of_nonneg i (by omega)];exact q) (.inl (PyProof.noPylong_small (by omega)))
theorem unI{f:Value->Sem Value}{g:Int->Int}
 (rule:∀(i:Int)(t:Tok)(s:Shared)(Q:Value->Shared->Prop)(E:Value->Shared->Prop),Q (.int (g i) s.toks) {s with toks:=s.toks+1}->wpAny (model X.prog X.w) X.A (f (.int i t)) Q E s) :
 UnR X f (rU λi=>.int (g i)):=by
 intro pins s σ H x v Q I rx h
 obtain⟨i,rfl,q⟩:=h
 obtain⟨t,rfl⟩:=rx
 exact rule i t s _ _ ⟨.int (g i),H,I.tok _,⟨_,rfl⟩,q⟩
theorem ztj:UnR X (unaryOp .USub) (rU λi=>.int (-i)):=unI λ_ _ _ _ _ q=>neg_int q
end
noncomputable def scal:V->V->Bool
 |.non,.non=>true|.non,.int _=>true|.int _,.non=>true|.non,.bl _=>true|.bl _,.non=>true|.non,.str _=>true|.str _,.non=>true
 |.int _,.int _=>true|.bl _,.bl _=>true|.str _,.str _=>true|.byt _,.byt _=>true
 |.int _,.str _=>true|.str _,.int _=>true|.bl _,.str _=>true|.str _,.bl _=>true
 |_,_=>false
noncomputable def rNe:R2:=λx y H Q=>scal x y=true/\Q (.bl (!decide (x=y))) H
theorem zqo{i j:Int}:decide (V.int i=V.int j)=(i==j):=by
 rw[vdr]
 simp
theorem ztk{i j:Bool}:decide (V.bl i=V.bl j)=(i==j):=by
 rw[vdr]
 simp
theorem zqp{i j:Str}:decide (V.str i=V.str j)=(i==j):=by
 rw[vdr]
 simp
theorem zqq{i j:Array UInt8}:decide (V.byt i=V.byt j)=(i.toList==j.toList):=by
 rw[vdr]
 cases i
 cases j
 simp
section
variable{X:Cx}{a b c:Expr}{ta tb tc:TE}{pos:Pos}
theorem za3{pins:List (Addr×Obj)}{σ:St}{H:Hp}{s:Shared}{Q:VK}{k k':Bool}(I:Inv X pins σ H s)(q:Q (.bl k) H)(e:k=k'):EP X pins σ Q (.bool k') s:=by
 subst e
 exact⟨.bl k,H,I,rfl,q⟩
theorem op_ne:OpR X (compareOp .NotEq) rNe:=by
 intro pins s σ H x y v u Q I rx ry h
 obtain⟨hs,q⟩:=h
 cases x with
 |non=>
  cases rx
  cases y with
  |non=>cases ry;exact PySem.EqNone.ne_none_none (za3 I q (by simp))
  |bl j=>cases ry;exact PySem.EqNone.ne_none_bool (za3 I q (by simp))
  |int j=>obtain⟨t',rfl⟩:=ry;exact PySem.EqNone.ne_none_int (za3 I q (by simp))
  |str j=>obtain⟨t',rfl⟩:=ry;exact PySem.EqNone.ne_none_str (za3 I q (by simp))
  |_=>exact absurd (show false=true from hs) va4
 |bl i=>
  cases rx
  cases y with
  |non=>cases ry;exact PySem.EqNone.ne_bool_none (za3 I q (by simp))
  |bl j=>cases ry;exact ne_bool (za3 I q (vdh not ztk))
  |str j=>obtain⟨t',rfl⟩:=ry;exact PySem.EqMixed.ne_bool_str (za3 I q (by simp))
  |_=>exact absurd (show false=true from hs) va4
 |int i=>
  obtain⟨t,rfl⟩:=rx
  cases y with
  |non=>cases ry;exact PySem.EqNone.ne_int_none (za3 I q (by simp))
  |int j=>obtain⟨t',rfl⟩:=ry;exact ne_int (za3 I q (vdh not zqo))
  |str j=>obtain⟨t',rfl⟩:=ry;exact PySem.EqMixed.ne_int_str (za3 I q (by simp))
  |_=>exact absurd (show false=true from hs) va4
 |str i=>
  obtain⟨t,rfl⟩:=rx
  cases y with
  |non=>cases ry;exact PySem.EqNone.ne_str_none (za3 I q (by simp))
  |bl j=>cases ry;exact PySem.EqMixed.ne_str_bool (za3 I q (by simp))
  |int j=>obtain⟨t',rfl⟩:=ry;exact PySem.EqMixed.ne_str_int (za3 I q (by simp))
  |str j=>obtain⟨t',rfl⟩:=ry;exact ne_str (za3 I q (vdh not zqp))
  |_=>exact absurd (show false=true from hs) va4
 |byt i=>
  obtain⟨t,rfl⟩:=rx
  cases y with
  |byt j=>obtain⟨t',rfl⟩:=ry;exact PySem.W.ne_bytes (za3 I q (vdh not zqq))
  |_=>exact absurd (show false=true from hs) va4
 |_=>cases y<;>exact absurd (show false=true from hs) va4
theorem op_lt:OpR X (compareOp .Lt) (rI0 λi j=>.bl (decide (i<j))):=opB0 λ_ _ _ _ _ _ _ q=>lt_int q
theorem op_le:OpR X (compareOp .LtE) (rI0 λi j=>.bl (decide (i<=j))):=opB0 λ_ _ _ _ _ _ _ q=>le_int q
theorem op_gt:OpR X (compareOp .Gt) (rI0 λi j=>.bl (decide (j<i))):=opB0 λ_ _ _ _ _ _ _ q=>gt_int q
theorem op_ge:OpR X (compareOp .GtE) (rI0 λi j=>.bl (decide (j<=i))):=opB0 λ_ _ _ _ _ _ _ q=>ge_int q
theorem ztl:OpR X (compareOp .Is) (λx y H Q=>y=.non/\Q (.bl (decide (x=.non))) H):=by
 intro pins s σ H x y v u Q I rx ry h
 obtain⟨rfl,q⟩:=h
 cases ry
 refine is_none_gen (za3 I q ?_)
 cases x<;>first
  |(cases rx;rfl)
  |(obtain⟨t,rfl⟩:=rx;rfl)
theorem zqr:OpR X (compareOp .IsNot) (λx y H Q=>y=.non/\Q (.bl (!decide (x=.non))) H):=by
 intro pins s σ H x y v u Q I rx ry h
 obtain⟨rfl,q⟩:=h
 cases ry
 refine isnot_none_gen (za3 I q ?_)
 cases x<;>first
  |(cases rx;rfl)
  |(obtain⟨t,rfl⟩:=rx;rfl)
theorem OpR.or{f:Value->Value->Sem Value}{r r':R2}(h:OpR X f r)(h':OpR X f r'):OpR X f (λx y H Q=>r x y H Q\/r' x y H Q):=by
 intro pins s σ H x y v u Q I rx ry q
 rcases q with q|q
 .exact h pins s σ H x y v u Q I rx ry q
 .exact h' pins s σ H x y v u Q I rx ry q
theorem zqs{op:CmpOp}{r:R2}(ho:OpR X (compareOp op) r)(ha:PE X a ta)(hb:PE X b tb)(hm:behindInMarks op b=false):PE X (.Compare a [op] [b] pos) (tOp r ta tb):=by
 intro pins s σ H Q I h
 exact wpAny_Compare1 (binT ha hb I h λv u s2 x y H2 I2 rx ry q=>ho pins s2 σ H2 x y v u Q I2 rx ry q) hm
noncomputable def tTest(t:TE):TT:=λσ H Q=>t σ H λx H'=>∃k,x=.bl k/\Q k H'
theorem zkr{op:CmpOp}{r:R2}(ho:OpR X (compareOp op) r)(ha:PE X a ta)(hb:PE X b tb)(hm:behindInMarks op b=false):PT X (.Compare a [op] [b] pos) (tTest (tOp r ta tb)):=by
 intro pins s σ H Q I h
 refine wpAny_isTrue_Compare1 (thn (ha pins s σ H _ I h) λv s1 z9=>z9.el λx H1 I1 r1 q1=>thn (hb pins s1 σ H1 _ I1 q1) λu s2 z9=>z9.el λy H2 I2 r2 q2=>
  thn (ho pins s2 σ H2 x y v u _ I2 r1 r2 q2) λc s3 z9=>z9.el λz H3 I3 r3 ⟨k,e,q3⟩=>?_) hm
 subst e
 cases r3
 exact vbr ⟨H3,I3,q3⟩
noncomputable def zks(r r':R2)(ta tb tc:TE):TE:=λσ H Q=>ta σ H λx H1=>tb σ H1 λy H2=>r x y H2 λz H3=>∃k,z=.bl k/\
 (if k=true then tc σ H3 λw' H4=>r' y w' H4 Q else Q (.bl false) H3)
theorem znq{op op':CmpOp}{r r':R2}(ho:OpR X (compareOp op) r)(ho':OpR X (compareOp op') r')(ha:PE X a ta)(hb:PE X b tb)(hc:PE X c tc)
 (hm:lastMarks [op,op'] [b,c]=false:=by with_unfolding_all rfl):PE X (.Compare a [op,op'] [b,c] pos) (zks r r' ta tb tc):=by
 intro pins s σ H Q I h
 refine Compare_chain (thn (ha pins s σ H _ I h) λv s1 z9=>z9.el λx H1 I1 r1 q1=>chain_link (thn (hb pins s1 σ H1 _ I1 q1) λu s2 z9=>z9.el λy H2 I2 r2 q2=>
  thn (ho pins s2 σ H2 x y v u _ I2 r1 r2 q2) λd s3 z9=>z9.el λz H3 I3 r3 ⟨k,e,q3⟩=>?_)) hm
 subst e
 cases r3
 refine vbr ?_
 cases k with
 |false=>exact ite_ff ⟨.bl false,H3,I3,rfl,q3⟩
 |true=>exact ite_tt (chain_last (thn (hc pins s3 σ H3 _ I3 q3) λw' s4 z9=>z9.el λz' H4 I4 r4 q4=>ho' pins s4 σ H4 y z' u w' Q I4 r2 r4 q4))
theorem znr{op op':CmpOp}{r r':R2}(ho:OpR X (compareOp op) r)(ho':OpR X (compareOp op') r')(ha:PE X a ta)(hb:PE X b tb)(hc:PE X c tc)
 (hm:lastMarks [op,op'] [b,c]=false:=by with_unfolding_all rfl):PT X (.Compare a [op,op'] [b,c] pos) (tTest (zks r r' ta tb tc)):=by
 intro pins s σ H Q I h
 refine isTrue_chain (thn (ha pins s σ H _ I h) λv s1 z9=>z9.el λx H1 I1 r1 q1=>test_link (thn (hb pins s1 σ H1 _ I1 q1) λu s2 z9=>z9.el λy H2 I2 r2 q2=>
  thn (ho pins s2 σ H2 x y v u _ I2 r1 r2 q2) λd s3 z9=>z9.el λz H3 I3 r3 ⟨k,e,q3⟩=>?_)) hm
 subst e
 cases r3
 refine vbr ?_
 cases k with
 |false=>
  obtain⟨k',e',q'⟩:=q3
  cases e'
  exact ite_ff ⟨H3,I3,q'⟩
 |true=>
  refine ite_tt (test_last (thn (hc pins s3 σ H3 _ I3 q3) λw' s4 z9=>z9.el λz' H4 I4 r4 q4=>thn (ho' pins s4 σ H4 y z' u w' _ I4 r2 r4 q4) λd' s5 z9=>z9.el λz2 H5 I5 r5 hq0=>?_))
  obtain⟨k2,e2,q5⟩:=hq0
  subst e2
  cases r5
  exact vbr ⟨H5,I5,q5⟩
noncomputable def TruV(K:PySem.W.Frag)(x:V)(H:Hp)(k:Bool):Prop:=
 match x with
 |.non=>k=false
 |.bl b=>k=b
 |.int i=>k=(i != 0)
 |.str y=>y.length<=sizeLine/\k=((y.length:Int) != 0)
 |.byt y=>y.size<=sizeLine/\k=((y.size:Int) != 0)
 |.ref p=>(∃xs,SqL K H p xs/\k=!xs.isEmpty)\/(∃xs,SqT K H p xs/\k=!xs.isEmpty)\/∃kvs,H p=some (.dK kvs)/\k=!kvs.isEmpty
 |_=>False
theorem zjw{κ:Type}{kvs:List (κ×V)}{vs:List (κ×Value)}(r:KV kvs vs):(!vs.isEmpty)=!kvs.isEmpty:=by
 cases r<;>rfl
theorem zeq{xs:List V}{its:List Value}(r:Vals xs its):(!its.toArray.isEmpty)=!xs.isEmpty:=by
 cases r<;>simp
theorem zgk:(sizeLine:Nat)<2 ^ 63:=by rw[vej];decide
theorem ztm:TruR X (λx H Q=>∃k,TruV X.K x H k/\Q k H):=by
 intro pins s σ H x v Q I rx h
 obtain⟨k,e,q⟩:=h
 have hl:=zgk
 have hs:sizeLine=16777216:=vej
 cases x with
 |non=>
  cases rx
  have e':k=false:=e
  subst e'
  exact truthy_none ⟨H,I,q⟩
 |bl b=>
  cases rx
  have e':k=b:=e
  subst e'
  exact vbr ⟨H,I,q⟩
 |int i=>
  obtain⟨t,rfl⟩:=rx
  have e':k=(i != 0):=e
  subst e'
  exact PySem.P.truthy_int ⟨H,I,q⟩
 |str y=>
  obtain⟨t,rfl⟩:=rx
  obtain⟨hy,e'⟩:y.length<=sizeLine/\k=((y.length:Int) != 0):=e
  subst e'
  exact PySem.P.truthy_str (by omega) ⟨H,I.tok _,q⟩
 |byt y=>
  obtain⟨t,rfl⟩:=rx
  obtain⟨hy,e'⟩:y.size<=sizeLine/\k=((y.size:Int) != 0):=e
  subst e'
  exact PySem.W.truthy_bytes (by omega) ⟨H,I.tok _,q⟩
 |ref p=>
  cases rx
  have e':(∃xs,SqL X.K H p xs/\k=!xs.isEmpty)\/(∃xs,SqT X.K H p xs/\k=!xs.isEmpty)\/∃kvs,H p=some (.dK kvs)/\k=!kvs.isEmpty:=e
  rcases e' with⟨xs,hx,e'⟩|⟨xs,hx,e'⟩|⟨kvs,hx,e'⟩
  .subst e'
   obtain⟨its,r,pl,hz⟩:=I.list hx
   have hlen:=r.length
   exact wpAny_truthy_list pl.isList (by simp only[vag];omega) ⟨H,I.tok _,by rw[zeq r];exact q⟩
  .subst e'
   obtain⟨its,r,pl,hz⟩:=I.tuple hx
   have hlen:=r.length
   exact truthy_tuple pl (by simp only[vag];omega) ⟨H,I.tok _,by rw[zeq r];exact q⟩
  .subst e'
   obtain⟨hz,hS,vs,r,m⟩:kvs.length<=sizeLine/\(p==sysModules)=false/\∃vs,KV kvs vs/\s.heap.DictOf (zao X.prog X.w) p vs:=I.hok p _ hx
   have hlen:kvs.length=vs.length:=Paired.length r
   exact wpAny_truthy_dict hS m (by omega) ⟨H,I.tok _,by rw[zjw r];exact q⟩
 |_=>exact(show False from e).elim
theorem zns(ha:PE X a ta)(he:∀whole,isTrue a X.env whole=(do let v <-whole;standAt a.pos;holding [v] (truthy v))) :
 PT X a (λσ H Q=>ta σ H λx H'=>∃k,TruV X.K x H' k/\Q k H'):=by
 intro pins s σ H Q I h
 exact isTrue_plain (thn (ha pins s σ H _ I h) λv s1 z9=>z9.el λx H1 I1 r1 q1=>ztm pins s1 σ H1 x v Q I1 r1 q1) (he _)
theorem vals1{x:V}{us:List Value}(r:Vals [x] us):∃u,us=[u]/\RelV x u:=by
 cases r with
 |cons r1 r2=>cases r2;exact⟨_,rfl,r1⟩
theorem vals2{x y:V}{us:List Value}(r:Vals [x,y] us):∃u w',us=[u,w']/\RelV x u/\RelV y w':=by
 cases r with
 |cons r1 r2=>
  cases r2 with
  |cons r3 r4=>cases r4;exact⟨_,_,rfl,r1,r3⟩
theorem znt:CallR X (.builtin "abs") (λxs H Q=>∃i,xs=[.int i]/\Q (.int (if i<0 then -i else i)) H):=by
 intro pins s σ H xs us Q I r h
 obtain⟨i,rfl,q⟩:=h
 obtain⟨u,rfl,t,rfl⟩:=vals1 r
 exact call_abs_int λu tk=>⟨.int (if i<0 then -i else i),H,I.tok _,⟨_,rfl⟩,q⟩
theorem zkt(hc:X.calm=true):CallR X (.builtin "min") (λxs H Q=>∃i j,xs=[.int i,.int j]/\Q (.int (if j<i then j else i)) H):=by
 intro pins s σ H xs us Q I r h
 obtain⟨i,j,rfl,q⟩:=h
 obtain⟨u,w',rfl,⟨t,rfl⟩,⟨t',rfl⟩⟩:=vals2 r
 refine min_two_ints (I.ok.hd hc) λh' tk k=>⟨_,H,I.kept k,?_,q⟩
 by_cases hj:j<i
 .rw[if_pos hj,if_pos hj];exact⟨_,rfl⟩
 .rw[if_neg hj,if_neg hj];exact⟨_,rfl⟩
theorem zku:CallR X (.type "int") (λxs H Q=>(∃i,xs=[.int i]/\Q (.int i) H)\/∃k,xs=[.bl k]/\Q (.int (if k then 1 else 0)) H):=by
 intro pins s σ H xs us Q I r h
 rcases h with⟨i,rfl,q⟩|⟨k,rfl,q⟩
 .obtain⟨u,rfl,t,rfl⟩:=vals1 r
  exact call_int_int ⟨.int i,H,I,⟨_,rfl⟩,q⟩
 .obtain⟨u,rfl,r1⟩:=vals1 r
  cases r1
  exact call_int_bool ⟨.int (if k then 1 else 0),H,I.tok _,⟨_,rfl⟩,q⟩
end
structure ObjM(h:Heap)(x dx C:Addr)(mA:Str->Option Value):Prop where
 obj:h.get? x=some (PySem.W.instObj C dx)
 ns:h.Ns1 dx mA
 ne:dx≠x
theorem zci{h:Heap}{dx:Addr}{mA:Str->Option Value}(n:h.Ns1 dx mA):∃od,h.get? dx=some od/\∀name,PySem.W.lookIn name od=some (mA name):=by
 obtain⟨o,es,ep,ho,hd,hk,_,hm⟩:=n
 refine⟨o,ho,λname=>?_⟩
 have e:=hm name
 unfold nsFind findBy at e
 rw[<-Array.find?_toList]at e
 unfold PySem.W.lookIn
 rw[hd]
 dsimp only
 split
 .rename_i y q
  rw[q]at e
  exact vdh some e
 .rename_i q
  rw[q]at e
  have a:es.toList.any (·.refKey)=false:=by
   rw[List.any_eq_false]
   intro y hy
   obtain⟨z,t,hkey⟩:=hk y (Array.mem_toList_iff.mp hy)
   simp[DictEntry.refKey,hkey]
  have a':¬es.toList.any (·.refKey)=true:=by rw[a];exact va4
  rw[if_neg a']
  exact vdh some e
theorem ObjM.look{h:Heap}{x dx C:Addr}{mA:Str->Option Value}(I:ObjM h x dx C mA):∃od,PySem.W.InstAt h x (PySem.W.instObj C dx) C (some od)/\∀name,PySem.W.lookIn name od=some (mA name):=
 let⟨od,ho,hl⟩:=zci I.ns
 ⟨od,⟨I.obj,rfl,rfl,ho⟩,hl⟩
noncomputable def putF(f:Str)(v:V):List (Str×V)->List (Str×V)
 |[]=>[(f,v)]
 |(g,x)::r=>if g=f then(g,v)::r else(g,x)::putF f v r
theorem zdx(f g:Str)(v:V):∀fs:List (Str×V),(putF f v fs).lookup g=if g=f then some v else fs.lookup g
 |[]=>by
  show List.lookup g [(f,v)]=_
  by_cases h:g=f
  .have hb:(g==f)=true:=vb7.mpr h
   simp only[List.lookup,hb,if_pos h]
  .have hb:(g==f)=false:=vcz.mpr h
   simp only[List.lookup,hb,if_neg h]
 |(k,x)::r=>by
  have ih:=zdx f g v r
  rw[show putF f v ((k,x)::r)=(if k=f then(k,v)::r else(k,x)::putF f v r)from rfl]
  by_cases hk:k=f
  .rw[if_pos hk]
   by_cases h:g=k
   .have hb:(g==k)=true:=vb7.mpr h
    simp only[List.lookup,hb,if_pos (h.trans hk)]
   .have hb:(g==k)=false:=vcz.mpr h
    simp only[List.lookup,hb,if_neg (λe:g=f=>h (e.trans hk.symm))]
  .rw[if_neg hk]
   by_cases h:g=k
   .have hb:(g==k)=true:=vb7.mpr h
    simp only[List.lookup,hb,if_neg (λe:g=f=>hk (h.symm.trans e))]
   .have hb:(g==k)=false:=vcz.mpr h
    simp only[List.lookup,hb]
    exact ih
theorem zdy(f:Str)(v:V):∀fs:List (Str×V),f∈(putF f v fs).map (·.1)/\∀g,g∈fs.map (·.1)->g∈(putF f v fs).map (·.1)
 |[]=>⟨by simp[putF],λg h=>by simp at h⟩
 |(k,x)::r=>by
  obtain⟨i1,i2⟩:=zdy f v r
  rw[show putF f v ((k,x)::r)=(if k=f then(k,v)::r else(k,x)::putF f v r)from rfl]
  by_cases hk:k=f
  .rw[if_pos hk]
   subst hk
   exact⟨by simp,λg h=>by simpa using h⟩
  .rw[if_neg hk]
   refine⟨?_,λg h=>?_⟩
   .rw[vav]
    exact vai _ i1
   .rw[vav]at h ⊢
    rcases va0.mp h with e|e
    .exact va0.mpr (.inl e)
    .exact vai _ (i2 g e)
theorem zdz(f:Str)(v:V):∀fs:List (Str×V),(putF f v fs).length<=fs.length+1
 |[]=>by simp[putF]
 |(k,x)::r=>by
  have ih:=zdz f v r
  rw[show putF f v ((k,x)::r)=(if k=f then(k,v)::r else(k,x)::putF f v r)from rfl]
  by_cases hk:k=f
  .rw[if_pos hk,vam,vam];omega
  .rw[if_neg hk,vam,vam];omega
theorem RelO.some_of{v:V}{o:Option Value}(r:RelO (some v) o):∃u,o=some u/\RelV v u:=by
 cases o with
 |none=>exact(show False from r).elim
 |some u=>exact⟨u,rfl,r⟩
theorem zkv{v:V}{u:Value}(r:RelV v u):PySem.W.handedIn u=true:=by
 cases v with
 |non=>cases(show u=Value.none from r);rfl
 |bl b=>cases(show u=Value.bool b from r);rfl
 |int i=>obtain⟨t,e⟩:=(show ∃t,u=Value.int i t from r);cases e;rfl
 |str x=>obtain⟨t,e⟩:=(show ∃t,u=Value.str x t from r);cases e;rfl
 |byt b=>obtain⟨t,e⟩:=(show ∃t,u=Value.bytes b t from r);cases e;rfl
 |flt b=>obtain⟨t,e⟩:=(show ∃t,u=Value.float b t from r);cases e;rfl
 |ref a=>cases(show u=Value.ref a from r);rfl
 |ty n=>cases(show u=Value.type n from r);rfl
section
variable{P:Program}{w:World}{H H':Hp}{h h':Heap}{a C dx:Addr}{fs fs':List (Str×V)}
theorem zqt(hok:HOk P w H h)(e:H a=some (.ins C dx fs)):∃mA,ObjM h a dx C mA/\(∀f,RelO (fs.lookup f) (mA f))/\PySem.Within mA (fs.map (·.1))/\fs.length<=1000/\H dx=some (.own a):=by
 obtain⟨d,z,ne,ob,mA,n,r,q⟩:=(show ObjOk P w H h a (.ins C dx fs)from hok a _ e)
 exact⟨mA,⟨ob,n,ne⟩,r,q,z,d⟩
end
structure Cls(K:PySem.W.Frag)(C:Addr):Prop where
 pg:PySem.W.plainGet K C Str.empty=true
 hd:PySem.W.hasDictIn K C=true
 po:PySem.W.plainOver K C=true
 sa:PySem.W.findIn K (.ref C) "__setattr__" = some (some (.builtin "object.__setattr__"))
theorem Cls.get{K:PySem.W.Frag}{C:Addr}(c:Cls K C)(f:Str):PySem.W.plainGet K C f=true:=c.pg
noncomputable def zgl(K:PySem.W.Frag)(C:Addr)(f:Str):Prop:=PySem.W.findIn K (.ref C) f=some none
section
variable{X:Cx}{pins:List (Addr×Obj)}{σ:St}{H:Hp}{s:Shared}{a C dx:Addr}{fs:List (Str×V)}{f:Str}{v:V}{A:Around}{E:Value->Shared->Prop}
theorem zqu{prog:Program}{w:World}{env:Env}{e:Expr}{f:Str}{pos:Pos}{s:Shared}{Q:Value->Shared->Prop}(hb:attributeBase e f env (eval e env)=eval e env)
 (h:wpAny (model prog w) A (eval e env) (λo s₁=>wpAny (model prog w) A (getAttr o f true) Q E s₁) E s):wpAny (model prog w) A (eval (.Attribute e f pos) env) Q E s:=
 Attribute_any_ h (by rw[arm_eval_Attribute,hb])
end
section
variable{X:Cx}{pins:List (Addr×Obj)}{σ:St}{H:Hp}{s:Shared}{A:Around}{E:Value->Shared->Prop}{Q:Value->Shared->Prop}{c:Value}{b:Bool}
inductive TyOf(K:PySem.W.Frag)(H:Hp):V->Value->Prop where
 |non:TyOf K H .non (.type "NoneType")
 |bl (x:Bool):TyOf K H (.bl x) (.type "bool")
 |int (i:Int):TyOf K H (.int i) (.type "int")
 |str (x:Str):TyOf K H (.str x) (.type "str")
 |flt (x:UInt64):TyOf K H (.flt x) (.type "float")
 |lst {a:Addr} {xs:List V} (e:H a=some (.lst xs)):TyOf K H (.ref a) (.type "list")
 |frz {a:Addr} {o:Obj} {xs:List V} (e:H a=some (.frz o (.lst xs))):TyOf K H (.ref a) (.type "list")
 |tup {a:Addr} {xs:List V} (e:H a=some (.tup xs)):TyOf K H (.ref a) (.type "tuple")
 |dK {a:Addr} {kvs:List (Key×V)} (e:H a=some (.dK kvs)):TyOf K H (.ref a) (.type "dict")
 |dT {a:Addr} {kvs:List (List Key×V)} (e:H a=some (.dT kvs)):TyOf K H (.ref a) (.type "dict")
 |ins {a C dx:Addr} {fs:List (Str×V)} (e:H a=some (.ins C dx fs)) (cl:Cls K C) (ha:PySem.W.findIn K (.ref C) "__class__" = some (some (.builtin "object.__class__")))
   (hn:PySem.W.specialIn K (.builtin "object.__class__") "__get__" = some (some (.builtin "getset_descriptor.__get__"))) (htk:PySem.W.takesIn K (.builtin "object.__class__")=some true)
   (hm:PySem.W.mroIn K C (.type "object")=some true):TyOf K H (.ref a) (.ref C)
theorem zkw{x:V}{u t:Value}(I:Inv X pins σ H s)(rx:RelV x u)(ty:TyOf X.K H x t)(e:PySem.W.kitOne X.K t c=some b)(h:∀tk,Q (.bool b) {s with toks:=tk}) :
 wpAny (model X.prog X.w) A (call (.builtin "isinstance") [u,c]) Q E s:=by
 cases ty with
 |non=>cases(show u=Value.none from rx);exact vbf PySem.W.kitx_none I.kIn True.intro e (λz=>nomatch z) h
 |bl y=>cases(show u=Value.bool y from rx);exact vbf PySem.W.kitx_bool I.kIn True.intro e (λz=>nomatch z) h
 |int i=>obtain⟨t,q⟩:=(show ∃t,u=Value.int i t from rx);cases q;exact vbf PySem.W.kitx_int I.kIn True.intro e (λz=>nomatch z) h
 |str y=>obtain⟨t,q⟩:=(show ∃t,u=Value.str y t from rx);cases q;exact vbf PySem.W.kitx_str I.kIn True.intro e (λz=>nomatch z) h
 |flt y=>obtain⟨t,q⟩:=(show ∃t,u=Value.float y t from rx);cases q;exact vbf PySem.W.kitx_float I.kIn True.intro e (λz=>nomatch z) h
 | @lst a xs ea=>
  cases(show u=Value.ref a from rx)
  obtain⟨_,_,n,_,h1⟩:=(show ObjOk X.prog X.w H s.heap a (.lst xs)from I.hok a _ ea)
  exact vbf PySem.W.kitx_list I.kIn ⟨_,h1,rfl⟩ e (λz=>nomatch z) h
 | @frz a ob xs ea=>
  cases(show u=Value.ref a from rx)
  obtain⟨_,_,_,n,_,h1⟩:=(show ObjOk X.prog X.w H s.heap a (.frz ob (.lst xs))from I.hok a _ ea)
  exact vbf PySem.W.kitx_list I.kIn ⟨_,h1,rfl⟩ e (λz=>nomatch z) h
 | @tup a xs ea=>
  cases(show u=Value.ref a from rx)
  obtain⟨_,_,_,p⟩:=(show ObjOk X.prog X.w H s.heap a (.tup xs)from I.hok a _ ea)
  obtain⟨o,h1,h2,_⟩:=p
  exact vbf PySem.W.kitx_tuple I.kIn ⟨o,h1,h2⟩ e (λz=>nomatch z) h
 | @dK a kvs ea=>
  cases(show u=Value.ref a from rx)
  obtain⟨_,_,vs,_,p⟩:=(show ObjOk X.prog X.w H s.heap a (.dK kvs)from I.hok a _ ea)
  obtain⟨o,es,ep,h1,h2,_⟩:=p
  exact vbf PySem.W.kitx_dict I.kIn ⟨o,h1,h2.1⟩ e (λz=>nomatch z) h
 | @dT a kvs ea=>
  cases(show u=Value.ref a from rx)
  obtain⟨_,_,xs,_,o,es,ep,h1,h2,_⟩:=(show ObjOk X.prog X.w H s.heap a (.dT kvs)from I.hok a _ ea)
  exact vbf PySem.W.kitx_dict I.kIn ⟨o,h1,h2.1⟩ e (λz=>nomatch z) h
 | @ins a C dx fs ea cl ha hn htk hm=>
  cases(show u=Value.ref a from rx)
  obtain⟨mA,O,_⟩:=zqt I.hok ea
  obtain⟨od,J,_⟩:=O.look
  exact vbf (PySem.W.kitx_own (cl.get _) cl.hd ha hn htk hm) I.kIn J e (λz=>nomatch z) h
end
structure Room(k:Nat)(A:Around):Prop where
 hd:A.handled=none
 dp:A.depth+3*k+5<recursionLimit
 un:A.units+16*k+200<cLine
theorem Room.deeper{k:Nat}{A:Around}(r:Room (k+1) A)(env:Env):Room k (A.deeper env):=
 ⟨r.hd,by have:=r.dp;show A.depth+1+3*k+5<_;omega,by have:=r.un;show A.units+3+16*k+200<_;omega⟩
theorem zjx{A:Around}{C:Addr}{us:List Value}{kw:List (Str×Value)}:(A.under (.builtin "type.__call__" ⟨.ref C::us,kw⟩)).depth=A.depth+1:=by
 first|rfl|simp[Around.under,Code.weight,Code.isCreation,Code.isGuard,Code.isCaller,Code.frames,Code.isFrame,guardIds]
theorem zjy{A:Around}{C:Addr}{us:List Value}{kw:List (Str×Value)}:(A.under (.builtin "type.__call__" ⟨.ref C::us,kw⟩)).units=A.units+1:=by
 first|rfl|simp[Around.under,Code.cUnits,Code.frames,Code.isFrame]
theorem Room.depth{k:Nat}{A:Around}(r:Room k A):A.depth<recursionLimit:=by have:=r.dp;omega
theorem Room.units{k:Nat}{A:Around}(r:Room k A):A.units+64<cLine:=by have:=r.un;omega
noncomputable def tNil:TA:=λ_ H Q=>Q [] H
noncomputable def tCons(ta:TE)(tr:TA):TA:=λσ H Q=>ta σ H λx H1=>tr σ H1 λxs H2=>Q (x::xs) H2
section
variable{X:Cx}{e:Expr}{es:List Expr}{te:TE}{t:TA}{pos:Pos}
theorem zbn:PA X [] tNil:=λ_ _ _ _ H Q I h=>Calls.spliced_nil ⟨[],H,I,.nil,h⟩
theorem zav(ha:PE X e te)(hr:PA X es t)(hs:starEach (e::es) X.env=(false,eval e X.env)::starEach es X.env:=by rfl):PA X (e::es) (tCons te t):=by
 intro pos pins s σ H Q I h
 rw[hs]
 show wpAny _ _ (spliced ((false,eval e X.env)::backTo pos (starEach es X.env))) _ _ s
 refine Calls.spliced_cons (thn (ha pins s σ H _ I h) λu s1 z9=>z9.el λx H1 I1 r1 q1=>?_)
 exact thn (hr pos pins s1 σ H1 _ I1 q1) λus s2 z9=>z9.el λxs H2 I2 r2 q2=>⟨x::xs,H2,I2,.cons r1 r2,q2⟩
noncomputable def tTup(t:TA):TE:=λσ H Q=>t σ H λxs H1=>xs.length<=sizeLine/\∀p,H1 p=none->Q (.ref p) (upd H1 p (.tup xs))
noncomputable def tLst(t:TA):TE:=λσ H Q=>t σ H λxs H1=>xs.length<=sizeLine/\∀p,H1 p=none->Q (.ref p) (upd H1 p (.lst xs))
theorem zkx{x1}(h:PA X es t):PE X (.Tuple es x1 pos) (tTup t):=by
 intro pins s σ H Q I hq
 refine wpAny_Tuple_spliced (thn (h pos pins s σ H _ I hq) λus s1 z9=>z9.el λxs H1 I1 r ⟨z,q⟩=>⟨by rw[<-r.length];exact z,?_⟩)
 have hf:H1 s1.heap.objs.size=none:=I1.hok.fresh (vad _)
 refine⟨.ref s1.heap.objs.size,upd H1 s1.heap.objs.size (.tup xs),I1.laid (t':=s1.toks) (λb u e=>vac _ e) (vad _) ?_,rfl,q _ hf⟩
 exact⟨z,us,r,zbe.new _ _⟩
theorem zky(h:PA X es t):PE X (.List es pos) (tLst t):=by
 intro pins s σ H Q I hq
 refine wpAny_List_spliced (thn (h pos pins s σ H _ I hq) λus s1 z9=>z9.el λxs H1 I1 r ⟨z,q⟩=>⟨by rw[<-r.length];exact z,?_⟩)
 have hf:H1 s1.heap.objs.size=none:=I1.hok.fresh (vad _)
 refine⟨.ref s1.heap.objs.size,upd H1 s1.heap.objs.size (.lst xs),I1.laid (t':=s1.toks) (λb u e=>vac _ e) (vad _) ?_,rfl,q _ hf⟩
 exact⟨z,us,0,r,vat _ rfl⟩
end
noncomputable abbrev Sp:=List V->Hp->VK->XK->Prop
noncomputable abbrev CXT:=List Env->Hp->Shared->XK->Value->Shared->Prop
structure Env0(P:Program)(w:World)(K:PySem.W.Frag)(mg:Str->Option Value)(base:Heap)(A:Around)(outer:List Env)(s:Shared)(H:Hp):Prop where
 frames:A.frames=some outer
 mod:Mod K mg base
 bs:∀b o,base.get? b=some o->s.heap.get? b=some o/\H b=none
 bsz:base.objs.size<=s.heap.objs.size
 funs:s.heap.FunFrames base outer
 frf:∀b∈frs outer,H b=none
 hok:HOk P w H s.heap
 bare:AllBare s.gens
noncomputable def CE(outer:List Env)(P:Program)(w:World)(H:Hp)(s:Shared)(Q:VK)(u:Value)(s':Shared):Prop:=
 ∃v H',s'.os=s.os/\AllBare s'.gens/\Un (frs outer) [] H H' s.heap s'.heap/\HOk P w H' s'.heap/\RelV v u/\Q v H'
noncomputable def CR(CX:CXT)(outer:List Env)(P:Program)(w:World)(H:Hp)(s:Shared)(Q:VK)(E:XK)(r:Result)(s':Shared):Prop:=
 match r with
 |.ok (.ret u)=>CE outer P w H s Q u s'
 |.ok _=>False
 |.error e=>CX outer H s E e s'
structure FnOk(P:Program)(w:World)(K:PySem.W.Frag)(mg:Str->Option Value)(base:Heap)(CX:CXT)(k:Nat)(f:Addr)(fd:FuncData)(ps:List Str)(sp:Sp):Prop where
 len:∀vs H Q E,sp vs H Q E->vs.length=ps.length
 run:∀(A:Around)(outer:List Env)(s:Shared)(H:Hp)(args:Args)(us:List Value)(vs:List V)(Q:VK)(E:XK),Room k A->Env0 P w K mg base A outer s H->BindsTo s fd args (ps.zip us)->Vals vs us->sp vs H Q E->
  codeAny (model P w) A (.call (.ref f) args) (CR CX outer P w H s Q E) s
theorem Env0.make{P:Program}{w:World}{K:PySem.W.Frag}{mg:Str->Option Value}{base:Heap}{A:Around}{outer:List Env}{s:Shared}{H:Hp}(e:Env0 P w K mg base A outer s H)(C:Addr)(us:List Value)(kw:List (Str×Value)) :
 Env0 P w K mg base (A.under (.builtin "type.__call__" ⟨.ref C::us,kw⟩)) outer s H:=⟨by first|exact e.frames|(simpa[Around.under,Code.envs,Code.isFrame,pushEnvs]using e.frames),e.mod,e.bs,e.bsz,e.funs,e.frf,e.hok,e.bare⟩
section
variable{X:Cx}{pins:List (Addr×Obj)}{σ:St}{H:Hp}{s s':Shared}
theorem Inv.env0(I:Inv X pins σ H s):Env0 X.prog X.w X.K X.mg X.base X.A X.stack s H:=
 ⟨I.ok.frames,I.ok.mod,I.bs,vas I.ok.bsz I.sz,I.stack,I.stkFree,I.hok,I.bare⟩
theorem Inv.after{Q:VK}{u:Value}(I:Inv X pins σ H s)(h:CE X.stack X.prog X.w H s Q u s'):EP X pins σ Q u s':=by
 obtain⟨v,H',os,bare,un,hok,r,q⟩:=h
 obtain⟨hh,g,d,t,os'⟩:=s'
 obtain rfl:os'=s.os:=os
 exact⟨v,H',I.call (h':=hh) (g':=g) (d':=d) (t':=t) (ch:=[]) un hok bare (λb z=>absurd z (by simp)),r,q⟩
end
noncomputable def tCall(sp:Sp)(dvs:List V)(E:XK)(t:TA):TE:=λσ H Q=>t σ H λvs H1=>sp (vs++dvs) H1 Q E
noncomputable def Binds(K:PySem.W.Frag)(fd:FuncData)(ps:List Str)(ds:List Value):Prop:=
 ∀(s:Shared)(us:List Value),K.In s.heap->(us++ds).length=ps.length->BindsTo s fd ⟨us,[]⟩ (ps.zip (us++ds))
theorem Binds.all{K:PySem.W.Frag}{fd:FuncData}{ps:List Str}(h:∀us:List Value,us.length=ps.length->bindArgs fd ⟨us,[]⟩=pure (ps.zip us)):Binds K fd ps []:=λs us _ hl=>by
 rw[va7]at hl ⊢
 exact .of_eq (h us hl)
noncomputable def zer(CX:CXT)(X:Cx)(E:XK):Prop:=∀(pins:List (Addr×Obj)) (σ:St) (H:Hp) (s:Shared) (e:Value) (s':Shared),Inv X pins σ H s->CX X.stack H s E e s'->X.xe e s'
section
variable{X:Cx}{CX:CXT}{k:Nat}{f C:Addr}{fd:FuncData}{ps:List Str}{sp:Sp}{dvs:List V}{ds:List Value}{E:XK}{x m:Str}{p pos apos:Pos}{e o:Expr}{es:List Expr}{ta:TE}{t:TA}
theorem zpd{pins:List (Addr×Obj)}{σ:St}{H:Hp}{s:Shared}{Q:VK}{us:List Value}{vs:List V}(F:FnOk X.prog X.w X.K X.mg X.base CX k f fd ps sp)(hr:Room k X.A)(hb:Binds X.K fd ps ds)(hd:Vals dvs ds)(hx:zer CX X E)
 (I:Inv X pins σ H s) (r:Vals vs us) (h:sp (vs++dvs) H Q E):wpAny (model X.prog X.w) X.A (call (.ref f) us) (EP X pins σ Q) X.xe s:=by
 have r2:Vals (vs++dvs) (us++ds):=r.append hd
 have hl:(us++ds).length=ps.length:=by rw[<-r2.length];exact F.len _ _ _ _ h
 refine vda (vdp (F.run X.A X.stack s H ⟨us,[]⟩ (us++ds) (vs++dvs) Q E hr I.env0 (hb s us I.kIn hl) r2 h) λr s' hq=>?_)
 cases r with
 |error e=>exact hx pins σ H s e s' I hq
 |ok fl=>
  cases fl with
  |ret u=>exact I.after hq
  |next=>exact False.elim hq
  |brk=>exact False.elim hq
  |cont=>exact False.elim hq
theorem zfi(F:FnOk X.prog X.w X.K X.mg X.base CX k f fd ps sp)(hr:Room k X.A)(hg:Gl X x)(hm:X.mg x=some (.ref f))(hk:PySem.W.keepIn X.K (.ref f)=true)(hb:Binds X.K fd ps ds)(hd:Vals dvs ds)(hx:zer CX X E)
 (ha:PA X (e::es) t) (hdb:(x==("__debug__" : Str))=false:=by decide) (he:starEach (e::es) X.env=(false,eval e X.env)::starEach es X.env:=by rfl) (hpl:(backTo pos (starEach es X.env)).any (·.1)=false:=by rfl) :
 PE X (.Call (.Name x p) (e::es) [] pos) (tCall sp dvs E t):=by
 intro pins s σ H Q I h
 refine vcb (zbl I hg hm ?_ hdb)
 refine vds (h₀:=X.base) I.ok.mod.kin hk (thn (ha pos pins s σ H _ I h) λus s1 z9=>z9.el λvs H1 I1 r q=>⟨I1.kIn,?_⟩) he hpl
 exact zpd F hr hb hd hx I1 r q
theorem znu(F:FnOk X.prog X.w X.K X.mg X.base CX k f fd ps sp)(hr:Room k X.A)(hg:Gl X x)(hm:X.mg x=some (.ref f))(hk:PySem.W.keepIn X.K (.ref f)=true)(hb:Binds X.K fd ps ds)(hd:Vals dvs ds)(hx:zer CX X E)
 (hdb:(x==("__debug__" : Str))=false:=by decide):PE X (.Call (.Name x p) [] [] pos) (tCall sp dvs E tNil):=by
 intro pins s σ H Q I h
 refine vcb (zbl I hg hm ?_ hdb)
 exact PySem.W.callWith_K0 I.kIn hk (zpd (us:=[]) F hr hb hd hx I .nil h)
end
structure FnScope(N P:List Str)(sc:Scope):Prop where
 kind:sc.kind=.function
 co:sc.isCoroutine=false
 gen:sc.isGenerator=false
 nd:N.Nodup
 pre:N.take P.length=P
 par:∀x∈P,sc.names.lookup x=some .local\/sc.names.lookup x=some .cell
 nofree:∀y∈sc.names,y.2≠.free
theorem zgm{kindOf:Str->Option NameKind}{x:Str}:∀{binds:List (Str×Value)} {m:Str->Option Value},(∀v,(x,v)∉binds)->bindL kindOf binds m x=m x
 |[],_,_=>rfl
 |(n,v)::r,m,h=>by
  unfold bindL
  rw[zgm λw hw=>h w (vai _ hw)]
  split
  .have:x≠n:=by rintro rfl;exact h v vaq
   simp[this]
  .rfl
theorem zgn{kindOf:Str->Option NameKind}{x:Str}:∀{binds:List (Str×Value)} {m:Str->Option Value},(∀v,(x,v)∉binds)->bindC kindOf binds m x=m x
 |[],_,_=>rfl
 |(n,v)::r,m,h=>by
  unfold bindC
  rw[zgn λw hw=>h w (vai _ hw)]
  split
  .rfl
  .have:x≠n:=by rintro rfl;exact h v vaq
   simp[this]
theorem zgo{kindOf:Str->Option NameKind}{x:Str}{v:Value}:∀{P:List Str} {vs:List Value} {i:Nat} {m:Str->Option Value},P.Nodup->P[i]?=some x->vs[i]?=some v->kindOf x=some .local->
 bindL kindOf (P.zip vs) m x=some v
 |[],_,_,_,_,h,_,_=>by simp at h
 |_::_,[],_,_,_,_,h,_=>by simp at h
 |p::P,w::vs,0,m,nd,h1,h2,hk=>by
  simp at h1 h2;subst h1;subst h2
  show bindL kindOf ((p,w)::P.zip vs) m p=_
  unfold bindL
  rw[zgm λv hv=>(vdt.mp nd).1 (veb hv).1,if_pos hk]
  simp
 |p::P,w::vs,i+1,m,nd,h1,h2,hk=>by
  show bindL kindOf ((p,w)::P.zip vs) m x=_
  unfold bindL
  exact zgo (i:=i) (vdt.mp nd).2 (by simpa using h1) (by simpa using h2) hk
theorem zgp{kindOf:Str->Option NameKind}{x:Str}{v:Value}:∀{P:List Str} {vs:List Value} {i:Nat} {m:Str->Option Value},P.Nodup->P[i]?=some x->vs[i]?=some v->kindOf x≠some .local->
 bindC kindOf (P.zip vs) m x=some v
 |[],_,_,_,_,h,_,_=>by simp at h
 |_::_,[],_,_,_,_,h,_=>by simp at h
 |p::P,w::vs,0,m,nd,h1,h2,hk=>by
  simp at h1 h2;subst h1;subst h2
  show bindC kindOf ((p,w)::P.zip vs) m p=_
  unfold bindC
  rw[zgn λv hv=>(vdt.mp nd).1 (veb hv).1,if_neg hk]
  simp
 |p::P,w::vs,i+1,m,nd,h1,h2,hk=>by
  show bindC kindOf ((p,w)::P.zip vs) m x=_
  unfold bindC
  exact zgp (i:=i) (vdt.mp nd).2 (by simpa using h1) (by simpa using h2) hk
noncomputable def start(N:List Str)(vs:List V):St:=vs.map some++List.replicate (N.length-vs.length) none
noncomputable def cxOf(CX:CXT)(P:Program)(w:World)(K:PySem.W.Frag)(mg:Str->Option Value)(base:Heap)(N:List Str)(qual:Str)(scope:Scope)(f:Addr)(cd:Value)(A:Around)(outer:List Env)(s:Shared)(H:Hp)(E:XK):Cx where
 prog:=P
 w:=w
 K:=K
 mg:=mg
 base:=base
 A:=A.deeper (envOfC qual scope s.heap.objs.size f cd)
 N:=N
 s₀:=s
 H₀:=H
 env:=envOfC qual scope s.heap.objs.size f cd
 outer:=outer
 stack:=envOfC qual scope s.heap.objs.size f cd::outer
 ex:=[]
 calm:=true
 fn:=λ_=>true
 pn:=[]
 xe:=λe s'=>wpAny (model P w) (A.deeper (envOfC qual scope s.heap.objs.size f cd)) (leaving (envOfC qual scope s.heap.objs.size f cd) e) (λ_ s''=>CX outer H s E e s'') (λe' s''=>CX outer H s E e' s'') s'
theorem zir{sc:Scope}{n:Nat}{x:Str}(h:sc.names.lookup x=some .cell):∃c,(cellsFrom n sc.names []).lookup x=some c:=by
 have q:=PySem.W.cellsFrom_some sc.names n [] (.inl h)
 exact Option.isSome_iff_exists.mp q
theorem zgq{CX:CXT}{P:Program}{w:World}{K:PySem.W.Frag}{mg:Str->Option Value}{base:Heap}{N ps:List Str}{qual:Str}{scope:Scope}{f:Addr}{cd:Value}{A:Around}{outer:List Env}{s s1:Shared}{H:Hp}{E:XK}{us:List Value}{vs:List V}
 (S:FnScope N ps scope) (hd:A.handled=none) (e0:Env0 P w K mg base A outer s H) (hl:vs.length=ps.length) (r:Vals vs us)
 (x:InCallC s s.heap.objs.size (bindL (envOfC qual scope s.heap.objs.size f cd).kindOf (ps.zip us) λ_=>none) (cellsFrom (s.heap.objs.size+1) scope.names []) (bindC (envOfC qual scope s.heap.objs.size f cd).kindOf (ps.zip us) λ_=>none) s1) :
 Inv (cxOf CX P w K mg base N qual scope f cd A outer s H E) [] (start N vs) H s1:=by
 have hpl:ps.length<=N.length:=by have:=vdh List.length S.pre;rw[vb3]at this;omega
 obtain⟨h1,tk,rfl,hk⟩:=x.done
 have noA:∀b:Addr,b∉(cxOf CX P w K mg base N qual scope f cd A outer s H E).ex:=λb z=>absurd (show b∈([]:List Addr)from z) (by simp)
 refine⟨⟨e0.mod,S.kind,rfl,rfl,vad _,λy z c h1 h2=>?_,λy hy=>?_,λy c _ h=>?_,λ_=>hd,Around.frames_deeper e0.frames,.inr ⟨rfl,rfl⟩,λb z=>absurd z (noA b),e0.bs,e0.bsz,λb _ _=>noA b,λb z=>absurd z (noA b),e0.funs,e0.frf⟩,
  rfl,e0.bare,Un.kept hk,⟨_,x.toInCall.ns,λi y v h1 h2 h3=>?_⟩,λy c h=>⟨_,x.cell y c h⟩,e0.hok.fresh (vad _),λy c h=>?_,λp hp=>absurd (show p∈([]:List (Addr×Obj))from hp) (by simp),e0.hok.kept hk,?_⟩
 .exact name_of_addr x.apart (vc1 h1) (vc1 h2)
 .have hy:scope.names.lookup y=some .cell\/scope.names.lookup y=some .free:=hy
  rcases hy with hy|hy
  .exact zir hy
  .exact absurd rfl (S.nofree _ (vc1 hy))
 .exact vdo (x.above y c (vc1 h))
 .have hi:i<vs.length:=by
   unfold start at h2
   by_cases hi:i<vs.length
   .exact hi
   .rw[vbi (by simpa using hi)]at h2
    rw[vc2]at h2
    split at h2<;>cases h2
  have ha:vs[i]?=some v:=by
   unfold start at h2
   rw[vb0 (by simpa using hi),vbm]at h2
   cases e:vs[i]? with
   |none=>rw[e]at h2;cases h2
   |some a=>rw[e]at h2;cases h2;rfl
  obtain⟨u,hu,rv⟩:=r.get ha
  have hp:ps[i]?=some y:=by
   rw[<-S.pre,List.getElem?_take_of_lt (by omega)];exact h1
  have ndP:ps.Nodup:=by rw[<-S.pre];exact S.nd.sublist (List.take_sublist _ _)
  refine⟨u,rv,?_⟩
  rcases S.par y (List.mem_of_getElem? hp)with k|k
  .exact .inl ⟨k,zgo ndP hp hu k⟩
  .obtain⟨c,e⟩:=zir (n:=s.heap.objs.size+1) k
   refine .inr ⟨.inl k,c,e,?_⟩
   have q:=x.cell y c e
   rw[zgp ndP hp hu (by show scope.names.lookup y≠_;rw[k];decide)]at q
   exact q
 .exact e0.hok.fresh (vdo (x.above y c (vc1 h)))
 .unfold start
  show _=N.length
  rw[vaw,vaf,vb8]
  omega
theorem fn_of{CX:CXT}{P:Program}{w:World}{K:PySem.W.Frag}{mg:Str->Option Value}{base:Heap}{k:Nat}{f:Addr}{name qual:Str}{params:Arguments}{body:List Stmt}{scope:Scope}{dV kV doc pm cdv ct oc:Value}{an od:Option Addr}
 {osl:Array (Option Value)} {N ps:List Str} {sp:Sp} (lk:K.lookup f=some ⟨oc,od,.func (PySem.W.fnOf name qual params body scope dV kV doc pm an cdv ct),osl⟩) (hcd:PySem.W.codeIn K cdv qual=true) (S:FnScope N ps scope)
 (len:∀vs H Q E,sp vs H Q E->vs.length=ps.length)
 (hbody:∀(A:Around)(outer:List Env)(s:Shared)(H:Hp)(vs:List V)(Q:VK)(E:XK),Room k (A.deeper (envOfC qual scope s.heap.objs.size f cdv))->sp vs H Q E->
   ∃t,PSs (cxOf CX P w K mg base N qual scope f cdv A outer s H E) body t/\t {nx:=λ_ H'=>Q .non H',rt:=Q} (start N vs) H) :
 FnOk P w K mg base CX (k+1) f (PySem.W.fnOf name qual params body scope dV kV doc pm an cdv ct) ps sp:=by
 refine⟨len,λA outer s H args us vs Q E hr e0 hb r hsp=>?_⟩
 have hl:=len _ _ _ _ hsp
 have KX:K.In s.heap:=e0.mod.kin.keeps λb o e=>(e0.bs b o e).1
 have lim:s.heap.NoLimit:=e0.mod.nolimit.keeps λb o e=>(e0.bs b o e).1
 have hkind:∀y∈ps.zip us,scope.names.lookup y.1=some .local\/(scope.names.lookup y.1=some .cell/\((cellsFrom (s.heap.objs.size+1) scope.names []).lookup y.1).isSome=true):=λhq0 hy=>by
  obtain⟨n,v⟩:=hq0
  rcases S.par n (veb hy).1 with q|q
  .exact .inl q
  .exact .inr ⟨q,PySem.W.cellsFrom_some _ _ _ (.inl q)⟩
 refine codeAny_call_function hr.depth (KX _ _ lk) rfl S.co S.gen rfl (PySem.W.codeRec_of KX hcd) (hb _ _ _ _ ?_)
 refine wpAny_newFunctionEnv_cells S.kind hkind λenv he s1 x=>?_
 subst he
 refine⟨lim.keeps x.toInCall.keep,codeAny_func ?_⟩
 obtain⟨t,ht,hq⟩:=hbody A outer s H vs Q E (hr.deeper _) hsp
 have I:Inv (cxOf CX P w K mg base N qual scope f cdv A outer s H E) [] (start N vs) H s1:=zgq S hr.hd e0 hl r x
 refine vbc (ht [] s1 (start N vs) H _ I hq) (λfl s' hs=>?_) λe s' hs=>hs
 have fin:∀{σ':St}{H':Hp}{v:V}{u:Value},Inv (cxOf CX P w K mg base N qual scope f cdv A outer s H E) [] σ' H' s'->RelV v u->Q v H'->CE outer P w H s Q u s':=
  λ{σ' H' v u} J rv q=>⟨v,H',J.os,J.bare,J.base,J.hok,rv,q⟩
 cases fl with
 |ret u=>
  obtain⟨v,σ',H',J,rv,q⟩:=hs
  exact fin J rv q
 |next=>
  obtain⟨σ',H',J,q⟩:=hs
  exact fin (v:=V.non) (u:=Value.none) J rfl q
 |brk=>
  obtain⟨_,_,_,q⟩:=hs
  exact False.elim q
 |cont=>
  obtain⟨_,_,_,q⟩:=hs
  exact False.elim q
section
variable{X:Cx}{x:Str}{p pos:Pos}{e:Expr}{es:List Expr}{t:TA}{id T:String}{r:List V->Hp->VK->Prop}
noncomputable def tCB(r:List V->Hp->VK->Prop)(t:TA):TE:=λσ H Q=>t σ H λvs H1=>r vs H1 Q
theorem zfj(hc:CallR X (.builtin id) r)(hg:Gl X x)(hm:X.mg x=none)(hv:bootBuiltins x=some (.builtin id))(ha:PA X (e::es) t)(hn:x≠"__name__":=by decide)(hdb:(x==("__debug__" : Str))=false:=by decide)
 (he:starEach (e::es) X.env=(false,eval e X.env)::starEach es X.env:=by rfl) (hpl:(backTo pos (starEach es X.env)).any (·.1)=false:=by rfl):PE X (.Call (.Name x p) (e::es) [] pos) (tCB r t):=by
 intro pins s σ H Q I h
 refine vcb (zep I hg hm hv ?_ hn hdb)
 exact PyProof.Rows.callWith_builtin1 (thn (ha pos pins s σ H _ I h) λus s1 z9=>z9.el λvs H1 I1 r1 q1=>hc pins s1 σ H1 vs us Q I1 r1 q1) he hpl
theorem zkz(hc:CallR X (.type T) r)(hg:Gl X x)(hm:X.mg x=none)(hv:bootBuiltins x=some (.type T))(ha:PA X (e::es) t)(hn:x≠"__name__":=by decide)(hdb:(x==("__debug__" : Str))=false:=by decide)
 (he:starEach (e::es) X.env=(false,eval e X.env)::starEach es X.env:=by rfl) (hpl:(backTo pos (starEach es X.env)).any (·.1)=false:=by rfl):PE X (.Call (.Name x p) (e::es) [] pos) (tCB r t):=by
 intro pins s σ H Q I h
 refine vcb (zep I hg hm hv ?_ hn hdb)
 exact vcl (thn (ha pos pins s σ H _ I h) λus s1 z9=>z9.el λvs H1 I1 r1 q1=>hc pins s1 σ H1 vs us Q I1 r1 q1) he hpl
end
end L2
namespace HT
open PySem PyProof.Rows
section
variable{prog:Program}{w:World}{A:Around}{E:Value->Shared->Prop}{s:Shared}
theorem cat_tup{t b:Addr}{vs ws:List Value}{Q:Value->Shared->Prop}(ht:IsTup s.heap t vs.toArray)(hb:IsTup s.heap b ws.toArray)(hv:vs≠[])
 (h1:ws=[]->Q (.ref t) s) (h2:ws≠[]->Q (.ref s.heap.objs.size) {s with heap:=s.heap.push {cls:=.type "tuple",data:=.seq (vs++ws).toArray}})
 (hsz:vs.length+ws.length<=sizeLine):wpAny (model prog w) A (binaryOp .Add (.ref t) (.ref b)) Q E s:=by
 obtain⟨⟨cls,dd,data,sl⟩,ho,hc,n,hd⟩:=id ht
 obtain⟨⟨cls2,dd2,data2,sl2⟩,ho2,hc2,n2,hd2⟩:=id hb
 simp only at hc hd hc2 hd2
 subst hc hd hc2 hd2
 have e:vs.toArray++ws.toArray=(vs++ws).toArray:=by simp
 by_cases hw:ws=[]
 .exact concat_meets ⟨_,ho,rfl⟩ ⟨_,ho2,rfl⟩ noFill_tuple_add seq_tuple_add PySem.F.slot_tuple_add PySem.F.entry_tuple_add (PySem.F.args_tuple_add_2 _ _)
   (tuple_addW1 t b vs.toArray ws.toArray n n2 dd dd2 sl sl2 (by simpa using hv) (by simp[hw])) ⟨ho,ho2,h1 hw⟩
 .refine concat_meets ⟨_,ho,rfl⟩ ⟨_,ho2,rfl⟩ noFill_tuple_add seq_tuple_add PySem.F.slot_tuple_add PySem.F.entry_tuple_add (PySem.F.args_tuple_add_2 _ _)
   (tuple_addW2 t b vs.toArray ws.toArray n n2 dd dd2 sl sl2 (by simpa using hv) (by simpa using hw) (by rw[vag,vag];exact hsz)) ⟨ho,ho2,?_⟩
  rw[e]
  exact h2 hw
noncomputable def sIx(n d:Nat):Option Int->Nat
 |none=>d
 |some v=>if v<0 then(v+ (n:Int)).toNat else min v.toNat n
theorem sIx_none(n d:Nat):sIx n d none=d:=rfl
theorem sIx_nat(n d k:Nat):sIx n d (some (k:Int))=min k n:=by
 show(if(k:Int)<0 then((k:Int)+ (n:Int)).toNat else min (k:Int).toNat n)=min k n
 rw[if_neg (by omega),vcx]
theorem ztn(n d:Nat)(hd:d<=n)(o:Option Int):sIx n d o<=n:=by
 cases o with
 |none=>exact hd
 |some v=>
  show(if v<0 then(v+ (n:Int)).toNat else min v.toNat n)<=n
  by_cases hv:v<0
  .rw[if_pos hv];omega
  .rw[if_neg hv];exact Nat.min_le_right _ _
theorem zk0(v:Int)(n d:Nat):(if v<0 then max (v+ (n:Int)) 0 else min v (n:Int))=((sIx n d (some v):Nat):Int):=by
 show(if v<0 then max (v+ (n:Int)) 0 else min v (n:Int))=(((if v<0 then(v+ (n:Int)).toNat else min v.toNat n):Nat):Int)
 by_cases hv:v<0
 .simp only[if_pos hv];omega
 .simp only[if_neg hv];omega
theorem zjz(lo hi:Option Int)(n:Nat):Builtin.Slice.sliceAdjust lo hi 1 (n:Int)=(((sIx n 0 lo:Nat):Int),((sIx n n hi:Nat):Int)):=by
 have h1:¬((1:Int)<0):=by omega
 unfold Builtin.Slice.sliceAdjust
 simp only[h1,vbe]
 refine Prod.ext ?_ ?_
 .cases lo with
  |none=>rfl
  |some v=>exact zk0 v n 0
 .cases hi with
  |none=>rfl
  |some v=>exact zk0 v n n
theorem zj0(i j:Nat):Builtin.Slice.slicePlaces (i:Int) (j:Int) 1=j-i:=by
 unfold Builtin.Slice.slicePlaces
 have h1:(1:Int)>0:=by omega
 simp only[h1,vbk,Int.ediv_one]
 split<;>omega
theorem zbo{v:Value}{o:Option Int}{Q:Option Int->Shared->Prop}(p:IsPart v o)(h:Q o s):wpAny (model prog w) A (Builtin.Slice.slicePartIndex v) Q E s:=by
 cases p with
 |none=>exact slicePart_none h
 |int i t=>exact slicePart_int h
theorem zbv{sl:Addr}{vl vu:Value}{lo hi:Option Int}{n:Nat}{Q:Int×Int×Nat->Shared->Prop}(hs:s.heap.IsSliceOf sl vl vu .none)(pl:IsPart vl lo)(pu:IsPart vu hi)
 (h:Q (((sIx n 0 lo:Nat):Int),1,sIx n n hi-sIx n 0 lo) s):wpAny (model prog w) A (Builtin.Slice.sliceApplied (.ref sl) (pure (n:Int))) Q E s:=by
 obtain⟨os,hos,hcs,hds⟩:=id hs
 unfold Builtin.Slice.sliceApplied Builtin.Slice.sliceFields
 refine vab (vab (va9 hos hds (x:=vl) rfl (vab (va9 hos hds (x:=vu) rfl (vab (va9 hos hds (x:=.none) rfl (vae ?_)))))))
 refine vab (slicePart_none ?_)
 show wpAny _ _ (if((1:Int)==0)=true then _ else _) _ _ s
 rw[if_neg (by decide)]
 refine vab (zbo pl (vab (zbo pu (vab (vae ?_)))))
 show wpAny _ _ (match Builtin.Slice.sliceAdjust lo hi 1 (n:Int)with|(lo,hi)=>pure (lo,(1:Int),Builtin.Slice.slicePlaces lo hi 1)) _ _ s
 rw[zjz lo hi n]
 show wpAny _ _ (pure (((sIx n 0 lo:Nat):Int),(1:Int),Builtin.Slice.slicePlaces ((sIx n 0 lo:Nat):Int) ((sIx n n hi:Nat):Int) 1)) _ _ s
 rw[zj0]
 exact vae h
theorem znv(xs:Array Value)(i k:Nat):((List.range k).filterMap λ(m:Nat)=>xs[((i:Int)+ (m:Int)*1).toNat]?).toArray=((xs.toList.drop i).take k).toArray:=by
 have e:(λ(m:Nat)=>xs[((i:Int)+ (m:Int)*1).toNat]?)=λm=>xs[i+m]?:=by
  funext m
  have:((i:Int)+ (m:Int)*1).toNat=i+m:=by omega
  rw[this]
 rw[e]
 have:=pick_run xs i k
 rw[List.filterMap_map]at this
 have e2:((λx=>xs[x]?)∘λx=>i+x)=λm=>xs[i+m]?:=rfl
 rw[e2]at this
 rw[this]
theorem getItem_tuple_cut{t sl:Addr}{items:Array Value}{vl vu:Value}{lo hi:Option Int}{Q:Value->Shared->Prop}(ht:IsTup s.heap t items)(hs:s.heap.IsSliceOf sl vl vu .none)(pl:IsPart vl lo)(pu:IsPart vu hi)
 (hw:¬(sIx items.size 0 lo=0/\sIx items.size items.size hi=items.size))
 (h:Q (.ref s.heap.objs.size) {s with heap:=s.heap.push {cls:=.type "tuple",data:=.seq ((items.toList.drop (sIx items.size 0 lo)).take (sIx items.size items.size hi-sIx items.size 0 lo)).toArray}})
 (hsz:items.size<=sizeLine):wpAny (model prog w) A (getItem (.ref t) (.ref sl)) Q E s:=by
 have htake:sizeOk (.seq ((items.toList.drop (sIx items.size 0 lo)).take (sIx items.size items.size hi-sIx items.size 0 lo)).toArray):=by
  show((items.toList.drop (sIx items.size 0 lo)).take (sIx items.size items.size hi-sIx items.size 0 lo)).toArray.size<=sizeLine
  rw[vag,vb3,List.length_drop,vc0]
  omega
 have hj:sIx items.size items.size hi<=items.size:=ztn _ _ (vad _) hi
 obtain⟨os,hos,hcs,hds⟩:=id hs
 have hTs:s.TypeIs (.ref sl) "slice":=⟨os,hos,hcs⟩
 unfold getItem
 try with_reducible refine vbd ?_
 first|refine vab (vae ?_)|skip
 refine vab (wpAny_sequenceKey ht.typeIs (by decide) ?_)
 refine vab (vbs (name:=Str.ofString "__getitem__") ht.typeIs vaz
  (vco vaz ht.typeIs entry_tuple_getitem ?_ (args_tuple_getitem _ _)))
 show wpAny _ _ (Builtin.Tuple.tupleItemsOf (.ref t) >>= _) _ _ s
 refine vab (tupleItemsOf_ ht ?_)
 refine vab (veh hTs ?_)
 rw[if_pos (by decide)]
 refine vab (zbv hs pl pu ?_)
 have hno:¬((((sIx items.size 0 lo:Nat):Int)==0&& (1:Int)==1&& (sIx items.size items.size hi-sIx items.size 0 lo)==items.size)=true):=by
  intro q
  rw[vaa,vaa]at q
  have q1:((sIx items.size 0 lo:Nat):Int)=0:=eq_of_beq q.1.1
  have q2:sIx items.size items.size hi-sIx items.size 0 lo=items.size:=eq_of_beq q.2
  exact hw ⟨by omega,by omega⟩
 show wpAny _ _ (if(((sIx items.size 0 lo:Nat):Int)==0&& (1:Int)==1&& (sIx items.size items.size hi-sIx items.size 0 lo)==items.size)=true then _ else _) _ _ s
 rw[if_neg hno,znv]
 first
  |exact vab (m:=Builtin.Tuple.tupleExact _) (vbg (vae ⟨_,rfl,vae h⟩) htake)
  |exact vab (m:=Builtin.Tuple.tupleExact _) (vbg (vab (vae (vae ⟨_,rfl,vae h⟩))) htake)
  |exact vab (vab (m:=Builtin.Tuple.tupleExact _) (vbg (vae (vae ⟨_,rfl,vae h⟩)) htake))
  |exact vab (vab (m:=Builtin.Tuple.tupleExact _) (vbg (vae ⟨_,rfl,vae h⟩) htake))
end
end HT
namespace L2
open PySem PySem.Spec PyProof.Rows
noncomputable abbrev TO:=St->Hp->(Option Int->Hp->Prop)->Prop
noncomputable def PO(X:Cx)(e:Option Expr)(t:TO):Prop:=
 ∀(pins:List (Addr×Obj))(s:Shared)(σ:St)(H:Hp)(Q:Option Int->Hp->Prop),Inv X pins σ H s->t σ H Q->
  wpAny (model X.prog X.w) X.A (evalPart e X.env) (λu s'=>∃o H',Inv X pins σ H' s'/\IsPart u o/\Q o H') X.xe s
noncomputable def zqv:TO:=λ_ H Q=>Q none H
noncomputable def tPart(t:TE):TO:=λσ H Q=>t σ H λx H1=>∃i,x=.int i/\Q (some i) H1
section
variable{X:Cx}{e:Expr}{te:TE}{lo hi:Option Expr}{tl th:TO}{pos p2:Pos}
theorem zqw:PO X none zqv:=by
 intro pins s σ H Q I h
 rw[evalPart_none]
 exact vae ⟨none,H,I,.none,h⟩
theorem zqx(h:PE X e te):PO X (some e) (tPart te):=by
 intro pins s σ H Q I hw
 rw[evalPart_some]
 refine thn (h pins s σ H _ I hw) λu s1 z9=>z9.el λx H1 I1 r1 q1=>?_
 obtain⟨i,rfl,q⟩:=q1
 obtain⟨t,rfl⟩:=r1
 exact⟨some i,H1,I1,.int i t,q⟩
noncomputable def SlR(X:Cx)(r:V->Option Int->Option Int->Hp->VK->Prop):Prop:=
 ∀(pins:List (Addr×Obj))(s:Shared)(σ:St)(H:Hp)(x:V)(v vl vu:Value)(lo hi:Option Int)(sl:Addr)(Q:VK),Inv X pins σ H s->RelV x v->s.heap.IsSliceOf sl vl vu .none->IsPart vl lo->IsPart vu hi->r x lo hi H Q->
  ∃T id,typeLookup (.type T) "__getitem__" = pure (some (.builtin id))/\s.TypeIs v T/\wpAny (model X.prog X.w) X.A (getItem v (.ref sl)) (EP X pins σ Q) X.xe s
theorem SlR.or{r r':V->Option Int->Option Int->Hp->VK->Prop}(h:SlR X r)(h':SlR X r'):SlR X (λx lo hi H Q=>r x lo hi H Q\/r' x lo hi H Q):=by
 intro pins s σ H x v vl vu lo hi sl Q I rx hs pl pu q
 rcases q with q|q
 .exact h pins s σ H x v vl vu lo hi sl Q I rx hs pl pu q
 .exact h' pins s σ H x v vl vu lo hi sl Q I rx hs pl pu q
noncomputable def tSl(r:V->Option Int->Option Int->Hp->VK->Prop)(te:TE)(tl th:TO):TE:=λσ H Q=>te σ H λx H1=>tl σ H1 λl H2=>th σ H2 λu H3=>r x l u H3 Q
theorem znw{r:V->Option Int->Option Int->Hp->VK->Prop}(hr:SlR X r)(he:PE X e te)(hl:PO X lo tl)(hu:PO X hi th):PE X (.Subscript e (.Slice lo hi none p2) pos) (tSl r te tl th):=by
 intro pins s σ H Q I h
 refine Subscript_ (thn (he pins s σ H _ I h) λv s1 z9=>z9.el λx H1 I1 r1 q1=>?_)
 refine wpAny_Slice (thn (hl pins s1 σ H1 _ I1 q1) λvl s2 ⟨l,H2,I2,pl,q2⟩=>thn (hu pins s2 σ H2 _ I2 q2) λvu s3 hq0=>?_)
 obtain⟨u,H3,I3,pu,q3⟩:=hq0
 rw[evalPart_none]
 refine vae ?_
 have I4:Inv X pins σ H3 {s3 with heap:=s3.heap.push {cls:=.type "slice",data:=.fields #[vl,vu,.none]}}:=I3.kept (t':=s3.toks) λb ob q=>vac _ q
 obtain⟨T,id,hT,ht,hg⟩:=hr pins {s3 with heap:=s3.heap.push {cls:=.type "slice",data:=.fields #[vl,vu,.none]}} σ H3 x v vl vu l u s3.heap.objs.size Q I4 r1 (Heap.IsSliceOf.new ..) pl pu q3
 show wpAny (model X.prog X.w) X.A (subscriptTail e (.Slice lo hi none p2) v (.ref s3.heap.objs.size)) (EP X pins σ Q) X.xe {s3 with heap:=s3.heap.push {cls:=.type "slice",data:=.fields #[vl,vu,.none]}}
 exact tail_any (ops:=[.ref s3.heap.objs.size,v]) ht hT hg (by with_unfolding_all rfl)
noncomputable def cutV(xs:List V)(lo hi:Option Int):List V:=(xs.drop (HT.sIx xs.length 0 lo)).take (HT.sIx xs.length xs.length hi-HT.sIx xs.length 0 lo)
theorem zd0(xs:List V)(lo hi:Option Int):(cutV xs lo hi).length<=xs.length:=by
 unfold cutV
 rw[vb3,List.length_drop]
 omega
noncomputable def rSlT(K:PySem.W.Frag):V->Option Int->Option Int->Hp->VK->Prop:=λx lo hi H Q=>∃a xs,x=.ref a/\SqT K H a xs/\
 ¬(HT.sIx xs.length 0 lo=0/\HT.sIx xs.length xs.length hi=xs.length)/\∀p,H p=none->Q (.ref p) (upd H p (.tup (cutV xs lo hi)))
theorem zto:SlR X (rSlT X.K):=by
 intro pins s σ H x v vl vu lo hi sl Q I rx hs pl pu h
 obtain⟨a,xs,rfl,hx,hw,q⟩:=h
 cases rx
 obtain⟨its,r,ht,hz⟩:=I.tuple hx
 have hlen:its.toArray.size=xs.length:=by rw[vag];exact r.length.symm
 refine⟨"tuple",_,vaz.lookup,ht.typeIs,?_⟩
 refine HT.getItem_tuple_cut ht hs pl pu (by rw[hlen];exact hw) ?_ (by rw[hlen];exact hz)
 rw[hlen]
 refine⟨.ref s.heap.objs.size,_,I.laid (t':=s.toks) (o:=.tup (cutV xs lo hi)) (λb ob q=>vac _ q) (vad _) ?_,rfl,q _ (I.hok.fresh (vad _))⟩
 exact⟨vas (zd0 xs lo hi) hz,_,(r.drop (HT.sIx xs.length 0 lo)).take (HT.sIx xs.length xs.length hi-HT.sIx xs.length 0 lo),zbe.new _ _⟩
noncomputable def rCatT(K:PySem.W.Frag):R2:=λx y H Q=>∃a b xs ys,x=.ref a/\y=.ref b/\SqT K H a xs/\SqT K H b ys/\xs≠[]/\xs.length+ys.length<=sizeLine/\
 (ys=[]->Q (.ref a) H)/\(ys≠[]->∀p,H p=none->Q (.ref p) (upd H p (.tup (xs++ys))))
theorem Vals.nil_iff{xs:List V}{us:List Value}(r:Vals xs us):us=[]↔xs=[]:=by
 cases r with
 |nil=>simp
 |cons _ _=>simp
theorem zqy:OpR X (binaryOp .Add) (rCatT X.K):=by
 intro pins s σ H x y v u Q I rx ry h
 obtain⟨a,b,xs,ys,rfl,rfl,ha,hb,hx,hz,q1,q2⟩:=h
 cases rx
 cases ry
 obtain⟨its,r1,p1,_⟩:=I.tuple ha
 obtain⟨its2,r2,p2,_⟩:=I.tuple hb
 refine HT.cat_tup p1 p2 (λz=>hx (r1.nil_iff.mp z)) (λz=>⟨.ref a,H,I,rfl,q1 (r2.nil_iff.mp z)⟩) (λz=>?_) (by rw[<-r1.length,<-r2.length];exact hz)
 refine⟨.ref s.heap.objs.size,_,I.laid (t':=s.toks) (o:=.tup (xs++ys)) (λb ob q=>vac _ q) (vad _) ?_,rfl,q2 (λw=>z (r2.nil_iff.mpr w)) _ (I.hok.fresh (vad _))⟩
 exact⟨by rw[vaw];exact hz,_,r1.append r2,zbe.new _ _⟩
end
noncomputable def ixN(n:Nat)(i:Int):Option Nat:=if 0<=i then(if i<n then some i.toNat else none)else if -(n:Int)<=i then some (i+n).toNat else none
noncomputable def atI{α:Type}(xs:List α)(i:Int):Option α:=(ixN xs.length i).bind λj=>xs[j]?
theorem zk1{n:Nat}{i:Int}{j:Nat}(h:ixN n i=some j):seqIndex? i n=some j/\j<n/\-(n:Int)<=i/\i<n:=by
 unfold ixN at h
 by_cases h0:0<=i
 .rw[if_pos h0]at h
  by_cases h1:i<n
  .rw[if_pos h1]at h
   have e:i.toNat=j:=vbz h
   exact⟨by rw[seqIndex_of h0 h1,e],by omega,by omega,h1⟩
  .rw[if_neg h1]at h;cases h
 .rw[if_neg h0]at h
  by_cases h1:-(n:Int)<=i
  .rw[if_pos h1]at h
   have e:(i+n).toNat=j:=vbz h
   exact⟨by rw[seqIndex_neg (by omega) h1,e],by omega,h1,by omega⟩
  .rw[if_neg h1]at h;cases h
theorem zk2{α:Type}{xs:List α}{i:Int}{v:α}(h:atI xs i=some v):∃j,seqIndex? i xs.length=some j/\xs[j]?=some v/\j<xs.length/\-(xs.length:Int)<=i/\i<xs.length:=by
 unfold atI at h
 cases e:ixN xs.length i with
 |none=>rw[e]at h;cases h
 |some j=>
  rw[e]at h
  obtain⟨h1,h2,h3,h4⟩:=zk1 e
  exact⟨j,h1,h,h2,h3,h4⟩
theorem zd1{α:Type}{xs:List α}{j:Nat}{v:α}(h:xs[j]?=some v):atI xs (j:Int)=some v:=by
 have hj:j<xs.length:=(van.mp h).1
 have e:ixN xs.length (j:Int)=some j:=by
  unfold ixN
  rw[if_pos (by omega),if_pos (by omega)];simp
 unfold atI;rw[e];exact h
noncomputable def zfk(b:Expr):Prop:=∀o i,subscripted b false o i=operate [o,i] (getItem o i)
noncomputable def IxR(X:Cx)(r:R2):Prop:=
 ∀(value slice:Expr)(pins:List (Addr×Obj))(s:Shared)(σ:St)(H:Hp)(x y:V)(v u:Value)(Q:VK),Inv X pins σ H s->RelV x v->RelV y u->r x y H Q->
  subscripted slice false v u=operate [v,u] (getItem v u)->wpAny (model X.prog X.w) X.A (subscriptTail value slice v u) (EP X pins σ Q) X.xe s
noncomputable def MtR(X:Cx)(id:String)(r:V->List V->Hp->VK->Prop):Prop:=
 ∀(pins:List (Addr×Obj))(s:Shared)(σ:St)(H:Hp)(x:V)(xs:List V)(v:Value)(us:List Value)(Q:VK),Inv X pins σ H s->RelV x v->Vals xs us->r x xs H Q->
  wpAny (model X.prog X.w) X.A (call (.builtin id) (v::us)) (EP X pins σ Q) X.xe s
section
variable{X:Cx}{a b:Expr}{ta tb:TE}{pos:Pos}
theorem IxR.or{r r':R2}(h:IxR X r)(h':IxR X r'):IxR X (λx y H Q=>r x y H Q\/r' x y H Q):=by
 intro value slice pins s σ H x y v u Q I rx ry q hs
 rcases q with q|q
 .exact h value slice pins s σ H x y v u Q I rx ry q hs
 .exact h' value slice pins s σ H x y v u Q I rx ry q hs
theorem pe_ix{r:R2}(hr:IxR X r)(ha:PE X a ta)(hb:PE X b tb)(hs:zfk b):PE X (.Subscript a b pos) (tOp r ta tb):=by
 intro pins s σ H Q I h
 exact Subscript_ (binT ha hb I h λv u s2 x y H2 I2 rx ry q=>hr a b pins s2 σ H2 x y v u Q I2 rx ry q (hs _ _))
noncomputable def rIxL(K:PySem.W.Frag):R2:=λx y H Q=>∃p xs i v,x=.ref p/\y=.int i/\SqL K H p xs/\atI xs i=some v/\Q v H
noncomputable def rIxT(K:PySem.W.Frag):R2:=λx y H Q=>∃p xs i v,x=.ref p/\y=.int i/\SqT K H p xs/\atI xs i=some v/\Q v H
theorem zk3:IxR X (rIxL X.K):=by
 intro value slice pins s σ H x y v u Q I rx ry h hs
 obtain⟨p,xs,i,z,rfl,rfl,hq,he,q⟩:=h
 cases rx
 obtain⟨t,rfl⟩:=ry
 obtain⟨its,r,pl,hz⟩:=I.list hq
 obtain⟨j,h1,h2,h3,h4,h5⟩:=zk2 he
 obtain⟨w,ew,rw'⟩:=r.get h2
 have hl:=r.length
 have hn:=zgk
 have fin:EP X pins σ Q w s:=⟨z,H,I,rw',q⟩
 by_cases h0:0<=i
 .have hj:i.toNat=j:=by
   rw[seqIndex_of h0 h5]at h1
   exact vbz h1
  exact item_listR pl.isList h0 (by omega) (by rw[hj];simpa using ew) fin hs
 .have hj:(i+ (its.toArray.size:Int)).toNat=j:=by
   rw[seqIndex_neg (by omega) h4]at h1
   rw[vag,<-hl]
   exact vbz h1
  exact subscriptTail_builtinR (x:=w) pl.isList.typeIs slot_list_getitem.lookup
   (wpAny_getItem_list_neg (Q:=λr s'=>r=w/\EP X pins σ Q r s') pl.isList (by omega) (by rw[vag]<;>omega) (by omega) (by rw[hj];simpa using ew) ⟨rfl,fin⟩) hs
theorem ztp:IxR X (rIxT X.K):=by
 intro value slice pins s σ H x y v u Q I rx ry h hs
 obtain⟨p,xs,i,z,rfl,rfl,hq,he,q⟩:=h
 cases rx
 obtain⟨t,rfl⟩:=ry
 obtain⟨its,r,pl,hz⟩:=I.tuple hq
 obtain⟨j,h1,h2,h3,h4,h5⟩:=zk2 he
 obtain⟨w,ew,rw'⟩:=r.get h2
 have hl:=r.length
 have hn:=zgk
 have fin:EP X pins σ Q w s:=⟨z,H,I,rw',q⟩
 exact subscriptTail_builtinR (x:=w) pl.typeIs slot_tuple_getitem.lookup
  (getItem_tuple (j:=j) (Q:=λr s'=>r=w/\EP X pins σ Q r s') pl (by omega) (by omega) (by rw[vag,<-hl];exact h1) (by simpa using ew) ⟨rfl,fin⟩) hs
theorem zj1(its:List Value)(n j:Nat)(u:Value):Obj.mapSeq (·.setIfInBounds j u) {cls:=.type "list",data:=.seq its.toArray n} ={cls:=.type "list",data:=.seq (its.set j u).toArray n}:=by
 simp[Obj.mapSeq]
theorem Inv.lst{pins:List (Addr×Obj)}{σ:St}{H:Hp}{s:Shared}{p:Addr}{xs:List V}(I:Inv X pins σ H s)(h:H p=some (.lst xs)) :
 ∃(its:List Value) (n:Nat),Vals xs its/\s.heap.get? p=some {cls:=.type "list",data:=.seq its.toArray n}/\xs.length<=sizeLine:=by
 obtain⟨z,its,n,r,e⟩:=I.hok p _ h
 exact⟨its,n,r,e,z⟩
theorem Inv.lstUpd{pins:List (Addr×Obj)}{σ:St}{H:Hp}{s:Shared}{p:Addr}{xs ys:List V}{its its':List Value}{n n':Nat}{f:Obj->Obj}(I:Inv X pins σ H s)(h:H p=some (.lst xs))
 (ho:s.heap.get? p=some {cls:=.type "list",data:=.seq its.toArray n}) (hf:f {cls:=.type "list",data:=.seq its.toArray n} ={cls:=.type "list",data:=.seq its'.toArray n'}) (r:Vals ys its') (hz:ys.length<=sizeLine) (t:Nat) :
 Inv X pins σ (upd H p (.lst ys)) {s with heap:=s.heap.update p f,toks:=t}:=by
 have e:(s.heap.update p f).get? p=some {cls:=.type "list",data:=.seq its'.toArray n'}:=by
  rw[vce f ho (by rw[hf]<;>rfl),hf]
 refine I.write (x:=p) (e:=p) (by rw[h];trivial) (.inl rfl) (λb u hb q=>(vbx _ _ (vbo hb)).trans q) ⟨_,e⟩ ?_
 exact⟨hz,its',n',r,e⟩
noncomputable def rSetL:V->V->V->Hp->(Hp->Prop)->Prop:=λo i v H Q=>∃p xs k j,o=.ref p/\i=.int k/\H p=some (.lst xs)/\ixN xs.length k=some j/\Q (upd H p (.lst (xs.set j v)))
theorem znx:PSet X rSetL:=by
 intro pins s σ H o i v ov iv u Q I ro ri rv h
 obtain⟨p,xs,k,j,rfl,rfl,hp,hj,q⟩:=h
 cases ro
 obtain⟨t,rfl⟩:=ri
 obtain⟨its,n,r,ho,hz⟩:=I.lst hp
 obtain⟨h1,h2,h3,h4⟩:=zk1 hj
 have hl:=r.length
 have hn:=zgk
 have I':Inv X pins σ (upd H p (.lst (xs.set j v))) {s with heap:=s.heap.update p (Obj.mapSeq (·.setIfInBounds j u))}:=
  I.lstUpd hp ho (zj1 its n j u) (r.set rv j) (by rw[vcy];exact hz) s.toks
 by_cases h0:0<=k
 .have hk:k.toNat=j:=by
   rw[seqIndex_of h0 h4]at h1
   exact vbz h1
  exact PySem.W.ki_setAt ho h0 (by omega) (by rw[vag,<-hl];exact h4) (by rw[hk];exact⟨_,I',q⟩)
 .have hk:(k+ (its.toArray.size:Int)).toNat=j:=by
   rw[seqIndex_neg (by omega) h3]at h1
   rw[vag,<-hl]
   exact vbz h1
  exact PySem.W.ki_setBack ho (by omega) (by rw[vag,<-hl];exact h3) (by omega) (by rw[hk];exact⟨_,I',q⟩)
theorem zgr(lo hi:Option Int)(n:Nat):(sliceBounds lo hi none n).1=((HT.sIx n 0 lo:Nat):Int)/\(sliceBounds lo hi none n).2.1=((HT.sIx n n hi:Nat):Int)/\(sliceBounds lo hi none n).2.2=1:=by
 refine⟨?_,?_,rfl⟩
 .cases lo with
  |none=>simp[sliceBounds,HT.sIx]
  |some i=>
   simp only[sliceBounds,HT.sIx,Option.getD_none,show(1:Int)>0 by decide,vbk]
   by_cases h:i<0
   .simp only[h,vbk]<;>omega
   .simp only[h,vbe]<;>omega
 .cases hi with
  |none=>simp[sliceBounds,HT.sIx]
  |some i=>
   simp only[sliceBounds,HT.sIx,Option.getD_none,show(1:Int)>0 by decide,vbk]
   by_cases h:i<0
   .simp only[h,vbk]<;>omega
   .simp only[h,vbe]<;>omega
theorem zfl(its:List Value)(lo hi:Option Int):slicePick its.toArray lo hi none=((its.drop (HT.sIx its.length 0 lo)).take (HT.sIx its.length its.length hi-HT.sIx its.length 0 lo)).toArray:=by
 obtain⟨h1,h2,h3⟩:=zgr lo hi its.toArray.size
 unfold slicePick
 rw[h1,h2,h3]
 simp only[sliceRange_one,pick_run,vag]<;>rfl
noncomputable def rSlL(K:PySem.W.Frag):V->Option Int->Option Int->Hp->VK->Prop:=λx lo hi H Q=>∃a xs,x=.ref a/\SqL K H a xs/\∀p,H p=none->Q (.ref p) (upd H p (.lst (cutV xs lo hi)))
theorem zqz:SlR X (rSlL X.K):=by
 intro pins s σ H x v vl vu lo hi sl Q I rx hs pl pu h
 obtain⟨a,xs,rfl,hx,q⟩:=h
 cases rx
 obtain⟨its,r,ht,hz⟩:=I.list hx
 have hlen:=r.length
 refine⟨"list",_,slot_list_getitem.lookup,ht.isList.typeIs,?_⟩
 refine wpAny_getItem_list_slice ht.isList hs pl pu .none (by simp) ?_ (by rw[vag]<;>omega)
 rw[zfl,<-hlen]
 refine⟨.ref s.heap.objs.size,_,I.laid (t':=s.toks) (o:=.lst (cutV xs lo hi)) (λb ob q=>vac _ q) (vad _) ?_,rfl,q _ (I.hok.fresh (vad _))⟩
 exact⟨vas (zd0 xs lo hi) hz,_,0,(r.drop (HT.sIx xs.length 0 lo)).take (HT.sIx xs.length xs.length hi-HT.sIx xs.length 0 lo),vat _ rfl⟩
theorem zgs:CallR X (.builtin "len") (λxs H Q=>∃p ys,xs=[.ref p]/\(SqL X.K H p ys\/SqT X.K H p ys)/\Q (.int ys.length) H):=by
 intro pins s σ H xs us Q I r h
 obtain⟨p,ys,rfl,hq,q⟩:=h
 obtain⟨u,rfl,rx⟩:=vals1 r
 cases rx
 have hn:=zgk
 rcases hq with hq|hq
 .obtain⟨its,r',pl,hz⟩:=I.list hq
  have hlen:=r'.length
  exact Calls.call_len_list pl.isList (by simp only[vag]<;>omega) ⟨.int ys.length,H,I.tok _,⟨s.toks+1,by rw[vag,hlen]⟩,q⟩
 .obtain⟨its,r',pl,hz⟩:=I.tuple hq
  have hlen:=r'.length
  exact len_tuple pl (by simp only[vag]<;>omega) ⟨.int ys.length,H,I.tok _,⟨s.toks+1,by rw[vag,hlen]⟩,q⟩
theorem zgt:CallR X (.type "list") (λxs H Q=>∃p ys,xs=[.ref p]/\(SqL X.K H p ys\/SqT X.K H p ys)/\∀l,H l=none->Q (.ref l) (upd H l (.lst ys))):=by
 intro pins s σ H xs us Q I r h
 obtain⟨p,ys,rfl,hq,q⟩:=h
 obtain⟨u,rfl,rx⟩:=vals1 r
 cases rx
 have fin:∀(its:List Value),Vals ys its->ys.length<=sizeLine->∀(h':Heap)(c':Nat),(∀b o',s.heap.get? b=some o'->h'.get? b=some o')->
  h'.get? s.heap.objs.size=some {cls:=.type "list",dict:=none,data:=.seq its.toArray c',slots:=#[]}->EP X pins σ Q (.ref s.heap.objs.size) {s with heap:=h'}:=λits r' hz h' c' kp e=>
  ⟨.ref s.heap.objs.size,_,I.laid (t':=s.toks) kp (vad _) (show ObjOk X.prog X.w _ h' _ (.lst ys)from⟨hz,its,c',r',e⟩),rfl,q _ (I.hok.fresh (vad _))⟩
 rcases hq with hq|hq
 .obtain⟨its,r',pl,hz⟩:=I.list hq
  have hlen:=r'.length
  obtain⟨o,ho,hc,n,hd⟩:=pl.isList
  exact call_list_seq p (.inl rfl) ho hc hd (λh' c' kp e=>fin its r' hz h' c' kp e) (by simp only[vag]<;>omega)
 .obtain⟨its,r',pl,hz⟩:=I.tuple hq
  have hlen:=r'.length
  obtain⟨o,ho,hc,n,hd⟩:=pl
  exact call_list_seq p (.inr rfl) ho hc hd (λh' c' kp e=>fin its r' hz h' c' kp e) (by simp only[vag]<;>omega)
theorem zfm:CallR X (.type "tuple") (λxs H Q=>∃p ys,xs=[.ref p]/\((SqL X.K H p ys/\∀l,H l=none->Q (.ref l) (upd H l (.tup ys)))\/(SqT X.K H p ys/\Q (.ref p) H))):=by
 intro pins s σ H xs us Q I r h
 obtain⟨p,ys,rfl,h⟩:=h
 obtain⟨u,rfl,rx⟩:=vals1 r
 cases rx
 rcases h with⟨hq,q⟩|⟨hq,q⟩
 .obtain⟨its,r',pl,hz⟩:=I.list hq
  have hlen:=r'.length
  refine call_tuple_list pl.isList (λh' kp=>?_) (by simp only[vag]<;>omega)
  have I1:Inv X pins σ H {s with heap:=h'}:=I.kept (t':=s.toks) kp
  have I2:Inv X pins σ (upd H h'.objs.size (.tup ys)) {s with heap:=h'.push {cls:=.type "tuple",data:=.seq its.toArray}}:=
   I1.laid (t':=s.toks) (λb o e=>vac _ e) (vad _) (show ObjOk X.prog X.w _ _ _ (.tup ys)from⟨hz,its,r',zbe.new _ _⟩)
  exact⟨.ref h'.objs.size,_,I2,rfl,q _ (I1.hok.fresh (vad _))⟩
 .obtain⟨its,r',pl,hz⟩:=I.tuple hq
  exact call_tuple_same pl ⟨.ref p,H,I,rfl,q⟩
noncomputable def tyV(K:PySem.W.Frag)(T:String)(x:V)(H:Hp):Prop:=match x with
 |.str _=>T = "str"
 |.int _=>T = "int"
 |.ref p=>(T = "list"/\∃xs,SqL K H p xs)\/(T = "tuple"/\∃xs,SqT K H p xs)\/
  (T = "dict"/\((∃kvs,H p=some (.dK kvs))\/∃kvs,H p=some (.dT kvs)))\/(T = "set"/\∃S n,H p=some (.set S n))
 |_=>False
theorem ztq{pins:List (Addr×Obj)}{σ:St}{H:Hp}{s:Shared}{T:String}{x:V}{v:Value}(I:Inv X pins σ H s)(r:RelV x v)(ty:tyV X.K T x H) :
 s.TypeIs v T/\∀a,v=.ref a->∃ob,s.heap.get? a=some ob/\ob.dict=none:=by
 cases x with
 |str z=>
  obtain⟨t,rfl⟩:=r
  cases(show T = "str"from ty)
  exact⟨typeIs_str s z t,λ_ e=>nomatch e⟩
 |int i=>
  obtain⟨t,rfl⟩:=r
  cases(show T = "int"from ty)
  exact⟨typeIs_int s i t,λ_ e=>nomatch e⟩
 |ref p=>
  cases r
  rcases ty with⟨rfl,xs,hq⟩|⟨rfl,xs,hq⟩|⟨rfl,hk⟩|⟨rfl,S,n,hk⟩
  .obtain⟨its,_,pl,_⟩:=I.list hq
   refine⟨pl.isList.typeIs,λa e=>?_⟩
   cases e
   obtain⟨o,n,e,c,hd,_⟩:=pl
   exact⟨o,e,hd⟩
  .obtain⟨its,_,⟨o,h1,h2,_,h3⟩,_⟩:=I.tupleD hq
   refine⟨⟨o,h1,h2⟩,λa e=>?_⟩
   cases e
   exact⟨o,h1,h3⟩
  .have z:∃o,s.heap.get? p=some o/\o.ExactDict:=by
    rcases hk with⟨kvs,hk⟩|⟨kvs,hk⟩
    .obtain⟨_,_,_,_,o,_,_,e,ex,_⟩:=I.hok p _ hk
     exact⟨o,e,ex⟩
    .obtain⟨_,_,_,_,o,_,_,e,ex,_⟩:=I.hok p _ hk
     exact⟨o,e,ex⟩
   obtain⟨o,e,ex⟩:=z
   refine⟨⟨o,e,ex.1⟩,λa e2=>?_⟩
   cases e2
   exact⟨o,e,ex.2.1⟩
  .obtain⟨o,_,_,_,e,ex,_⟩:=I.hok p _ hk
   refine⟨⟨o,e,ex.1⟩,λa e2=>?_⟩
   cases e2
   exact⟨o,e,ex.2.1⟩
 |_=>exact False.elim ty
noncomputable def tBM(K:PySem.W.Frag)(T:String)(r:V->List V->Hp->VK->Prop)(to:TE)(t:TA):TE:=λσ H Q=>to σ H λx H1=>tyV K T x H1/\t σ H1 λxs H2=>r x xs H2 Q
variable{o e:Expr}{es:List Expr}{to:TE}{t:TA}{name:Str}{apos cpos:Pos}{T id:String}{r:V->List V->Hp->VK->Prop}
theorem pe_bm(pa:PlainAttrs T)(slot:Slot T name id)(hty:typeOf (.builtin id)=pure (.type "method_descriptor"))(hm:MtR X id r)(ho:PE X o to)(ha:PA X (e::es) t)
 (hbase:attributeBase o name X.env (eval o X.env)=eval o X.env:=by rfl)
 (hfew:((backTo cpos (starEach (e::es) X.env)).all (λx=>!x.1)&& (backToKw cpos (keywordEach [] X.env)).all (λx=>x.1.isSome)
   && decide ((e::es).length+ ([]:List Keyword).length+ (if([]:List Keyword).isEmpty then 0 else 1)<30))=true:=by rfl)
 (hline:(apos.endLine==cpos.line)=true:=by rfl) (hs:starEach (e::es) X.env=(false,eval e X.env)::starEach es X.env:=by rfl) (hplain:(backTo cpos (starEach es X.env)).any (·.1)=false:=by rfl) :
 PE X (.Call (.Attribute o name apos) (e::es) [] cpos) (tBM X.K T r to t):=by
 intro pins s σ H Q I h
 refine wpAny_Call_method_late hbase hfew hline rfl (thn (ho pins s σ H _ I h) λv s1 z9=>z9.el λx H1 I1 r1 hq0=>?_)
 obtain⟨ty,q1⟩:=hq0
 obtain⟨h1,h2⟩:=ztq I1 r1 ty
 refine⟨T,id,pa,slot,hty,h1,h2,?_⟩
 have hA:=ha cpos pins s1 σ H1 _ I1 q1
 rw[hs]at hA ⊢
 refine Calls.callWith_builtin (by show(false|| (backTo cpos (starEach es X.env)).any (·.1))=false;rw[hplain]<;>rfl) (Calls.evalArgs_plain ?_)
 exact thn hA λus s2 z9=>z9.el λvs H2 I2 r2 q2=>hm pins s2 σ H2 x vs v us Q I2 r1 r2 q2
/- xs.append(e),list.index on a module's tuple .. are MtR facts of 06m -/
end
noncomputable def MtM(X:Cx)(id:String)(r:V->List V->Hp->VK->Prop):Prop:=
 ∀(pins:List (Addr×Obj))(s:Shared)(σ:St)(H:Hp)(x:V)(xs:List V)(v:Value)(us:List Value)(Q:VK),Inv X pins σ H s->RelV x v->Vals xs us->r x xs H Q->
  wpAny (model X.prog X.w) X.A (call (.builtin id) (v::us)) (EP X pins σ Q) X.xe s
theorem Vals.one:∀{x:V} {us:List Value},Vals [x] us->∃u,us=[u]/\RelV x u
 |_,_,.cons r .nil=>⟨_,rfl,r⟩
theorem Vals.reverse{xs:List V}{us:List Value}(h:Vals xs us):Vals xs.reverse us.reverse:=by
 induction h with
 |nil=>exact .nil
 |cons r t ih=>rw[vdb,vdb];exact Vals.append ih (.cons r .nil)
theorem Vals.rep{xs:List V}{us:List Value}(h:Vals xs us):∀k:Nat,Vals (List.replicate k xs).flatten (List.replicate k us).flatten
 |0=>.nil
 |k+1=>by
  rw[vba,vba,vcd,vcd]
  exact Vals.append h (Vals.rep h k)
theorem zd2(its:List Value):∀(k:Nat) (acc:List Value),
 List.foldl (λx1 x2=>x1++x2) acc.toArray (List.replicate k its.toArray)=(acc++(List.replicate k its).flatten).toArray
 |0,acc=>by simp
 |k+1,acc=>by
  have e:acc.toArray++its.toArray=(acc++its).toArray:=by simp
  have e2:(acc++its)++(List.replicate k its).flatten=acc++(List.replicate (k+1) its).flatten:=by
   rw[vba,vcd,List.append_assoc]
  rw[<-e2,<-zd2 its k (acc++its),<-e,vba,List.foldl_cons]
section
variable{X:Cx}{pins:List (Addr×Obj)}{σ:St}{H:Hp}{s:Shared}{l b:Addr}{xs ys zs:List V}
theorem Inv.lset{its its':List Value}{n:Nat}{f:Array Value->Array Value}{t':Nat}(I:Inv X pins σ H s)(hH:H l=some (.lst xs))
 (e:s.heap.get? l=some {cls:=.type "list",data:=.seq its.toArray n}) (hf:f its.toArray=its'.toArray) (hv:Vals ys its') (hz:ys.length<=sizeLine) :
 Inv X pins σ (upd H l (.lst ys)) {s with heap:=s.heap.update l (Obj.mapSeq f),toks:=t'}:=by
 have q:=PySem.IsL.update e f
 rw[hf]at q
 refine I.write (x:=l) (e:=l) (by rw[hH];exact trivial) (.inl rfl) (λb' u hb hu=>(vbx s.heap (Obj.mapSeq f) (vbo hb)).trans hu) ⟨_,q⟩ ?_
 exact⟨hz,its',_,hv,q⟩
theorem Inv.lnew{its:List Value}{t':Nat}(I:Inv X pins σ H s)(hv:Vals ys its)(hz:ys.length<=sizeLine) :
 Inv X pins σ (upd H s.heap.objs.size (.lst ys)) {s with heap:=s.heap.push {cls:=.type "list",data:=.seq its.toArray},toks:=t'}:=
 I.laid (λ_ _ q=>vac _ q) (vad _) ⟨hz,its,0,hv,vat _ rfl⟩
theorem Inv.fresh(I:Inv X pins σ H s):H s.heap.objs.size=none:=I.hok.fresh (vad _)
theorem Inv.lstM(I:Inv X pins σ H s)(hH:H l=some (.lst xs)):xs.length<=sizeLine/\∃(its:List Value) (n:Nat),Vals xs its/\xs.length=its.length/\s.heap.get? l=some {cls:=.type "list",data:=.seq its.toArray n}:=by
 obtain⟨z,its,n,r,e⟩:=I.hok l _ hH
 exact⟨z,its,n,r,r.length,e⟩
theorem zfn{n:Nat}(h:n<=sizeLine):Builtin.List.listTooLong n=false:=by
 unfold Builtin.List.listTooLong
 exact vby (by omega)
end
section
variable{X:Cx}
noncomputable def zq0:V->List V->Hp->VK->Prop:=λx vs H Q=>∃l xs y,x=.ref l/\vs=[y]/\H l=some (.lst xs)/\xs.length<sizeLine/\Q .non (upd H l (.lst (xs++[y])))
theorem zgu:MtM X "list.append" zq0:=by
 intro pins s σ H x vs v us Q I rx rv h
 obtain⟨l,xs,y,rfl,rfl,hH,hz,q⟩:=h
 cases rx
 obtain⟨u,rfl,ru⟩:=rv.one
 obtain⟨z,its,n,r,hl,e⟩:=I.lstM hH
 refine vc4 F.slot_list_append ⟨_,e,rfl⟩ F.entry_list_append (F.args_list_append_2 _ _) (PySem.list_append l its.toArray n u (by rw[vag];omega)) ⟨e,?_⟩
 refine⟨.non,_,I.lset (its':=its++[u]) hH e (by simp) (r.append (.cons ru .nil)) ?_,rfl,q⟩
 rw[vaw,vcq]
 omega
noncomputable def zq1:V->List V->Hp->VK->Prop:=λx vs H Q=>∃l b xs zs,x=.ref l/\vs=[.ref b]/\H l=some (.lst xs)/\H b=some (.lst zs)/\xs.length+zs.length<=sizeLine/\Q .non (upd H l (.lst (xs++zs)))
theorem ztr:MtM X "list.extend" zq1:=by
 intro pins s σ H x vs v us Q I rx rv h
 obtain⟨l,b,xs,zs,rfl,rfl,hH,hB,hz,q⟩:=h
 cases rx
 obtain⟨u,rfl,ru⟩:=rv.one
 cases ru
 obtain⟨z,its,n,r,hl,e⟩:=I.lstM hH
 obtain⟨z2,its2,n2,r2,hl2,e2⟩:=I.lstM hB
 have hsz:its.toArray.size+its2.toArray.size<=sizeLine:=by rw[vag,vag];omega
 have hlong:¬(!its.toArray.isEmpty&&Builtin.List.listTooLong (its.toArray.size+its2.toArray.size))=true:=by
  rw[zfn hsz,Bool.and_false]
  exact va4
 refine vc4 F.slot_list_extend ⟨_,e,rfl⟩ F.entry_list_extend (F.args_list_extend_2 _ _)
  (AutoSeq1.list_extend_list_list_0 l its.toArray n b its2.toArray n2 hlong (by rw[vag];omega) (by omega)) ⟨e,e2,?_⟩
 refine⟨.non,_,I.lset (its':=its++its2) hH e (by simp) (r.append r2) ?_,rfl,q⟩
 rw[vaw]
 omega
noncomputable def rCat:R2:=λx y H Q=>∃l b xs zs,x=.ref l/\y=.ref b/\H l=some (.lst xs)/\H b=some (.lst zs)/\xs.length+zs.length<=sizeLine/\∀p,H p=none->Q (.ref p) (upd H p (.lst (xs++zs)))
theorem zk4:OpR X (binaryOp .Add) rCat:=by
 intro pins s σ H x y v u Q I rx ry h
 obtain⟨l,b,xs,zs,rfl,rfl,hH,hB,hz,q⟩:=h
 cases rx
 cases ry
 obtain⟨z,its,n,r,hl,e⟩:=I.lstM hH
 obtain⟨z2,its2,n2,r2,hl2,e2⟩:=I.lstM hB
 refine PySem.P.add_list e e2 ?_ (by rw[vag,vag];omega)
 have ea:its.toArray++its2.toArray=(its++its2).toArray:=by simp
 rw[ea]
 exact⟨.ref _,_,I.lnew (t':=s.toks) (r.append r2) (by rw[vaw];omega),rfl,q _ I.fresh⟩
noncomputable def rRep:R2:=λx y H Q=>∃l k xs,x=.ref l/\y=.int k/\H l=some (.lst xs)/\-(2 ^ 63)<=k/\k<2 ^ 63/\xs.length*k.toNat<=sizeLine/\
 ∀p,H p=none->Q (.ref p) (upd H p (.lst (List.replicate k.toNat xs).flatten))
theorem zhw{α:Type}(xs:List α)(k:Nat):(List.replicate k xs).flatten.length=k*xs.length:=by
 induction k with
 |zero=>simp
 |succ k ih=>rw[vba,vcd,vaw,ih,Nat.succ_mul,Nat.add_comm]
theorem zts:OpR X (binaryOp .Mult) rRep:=by
 intro pins s σ H x y v u Q I rx ry h
 obtain⟨l,k,xs,rfl,rfl,hH,h1,h2,hz,q⟩:=h
 cases rx
 obtain⟨t,rfl⟩:=ry
 obtain⟨z,its,n,r,hl,e⟩:=I.lstM hH
 have hlen:its.toArray.size*k.toNat<=sizeLine:=by rw[vag,<-hl];exact hz
 have hcap:¬its.toArray.size*k.toNat> (2 ^ 63-1)/8:=by
  have:(sizeLine:Nat)<=(2 ^ 63-1)/8:=by decide
  omega
 have hfit:¬(!Builtin.List.listFitsIndex k)=true:=by
  rw[fitsIndex_both h1 h2]
  exact va4
 have hlong:¬Builtin.List.listTooLong (its.toArray.size*k.toNat)=true:=by
  rw[zfn hlen]
  exact va4
 have hnew:List.foldl (λx1 x2=>x1++x2) #[] (List.replicate (if its.toArray.isEmpty=true then 0 else k.toNat) its.toArray)=(List.replicate k.toNat its).flatten.toArray:=by
  have f0:∀m:Nat,List.foldl (λx1 x2=>x1++x2) #[] (List.replicate m its.toArray)=(List.replicate m its).flatten.toArray:=λm=>by
   have:=zd2 its m []
   rw[vcf]at this
   exact this
  rw[f0]
  cases its with
  |nil=>simp
  |cons a r'=>rw[if_neg (by simp)]
 refine wpAny_binaryOp_repeat_ref (T:="list") (U:="int") (by decide) ⟨_,e,rfl⟩ (λs'=>typeIs_int s' k t) noFill_list_mul F.fills_int_mul vec repeat_list F.slot_int_index.lookup
  (vc4 vec (typeIs_int s k t) F.entry_int_rmul (F.args_int_rmul_2 _ _) (int___rmul___int_list k t l its.toArray n)
    ⟨e,rfl,⟨_,e,rfl⟩,vc4 F.slot_list_mul ⟨_,e,rfl⟩ F.entry_list_mul (F.args_list_mul_2 _ _) (AutoListH.list___mul___list_int_3 l its.toArray n k t hfit hcap hlong) ⟨e,?_⟩⟩)
 rw[hnew]
 exact⟨.ref _,_,I.lnew (t':=s.toks) (r.rep k.toNat) (by rw[zhw,Nat.mul_comm];exact hz),rfl,q _ I.fresh⟩
end
end L2
namespace Att
open PySem PySem.W PySem.Calls PyProof.Rows
theorem zd3{P:Params}{h:Heap}:∀(ns:List Int) (vs:List Value),WellAll P h vs (ns.map WData.int)->IntsAre vs ns:=by
 intro ns
 induction ns with
 |nil=>
  intro vs w
  rw[vc9]at w
  cases w
  exact .nil
 |cons n ns ih=>
  intro vs w
  rw[vav]at w
  cases w with
  |cons a b=>
   cases a
   exact .cons _ _ (ih _ b)
theorem zk5{l:OpenLaw}{n:Nat}(hn:l.most=some n){P:Params}{h:Heap}{args:List WData}{vals:List Value}
 (hpre:l.row.toRowW.claim.pre args=true) (hwl:WellAll P h vals args) :
 ∃a vs ns,vals=[Value.ref a]/\args=[WData.list (ns.map WData.int)]/\h.get? a=some {cls:=.type "list",data:=.seq vs.toArray}/\IntsAre vs ns/\ns.length<=n:=by
 have hsh:WShape.hasAll [] args [.list .int]=true:=(pre_splitW hpre).1
 have hc:l.pre.holds [] {args:=args}=true:=(pre_splitW hpre).2
 obtain⟨d,r,rfl,h1,h2⟩:=hasAllW_cons hsh
 obtain rfl:=hasAllW_nil h2
 obtain⟨xs,rfl,h3⟩:=hasW_list h1
 obtain⟨ns,rfl⟩:=items_int h3
 have hlen:ns.length<=n:=by
  unfold OpenLaw.pre at hc
  have h4:(WTm.not (.lt (.lit (.int (n:Int))) (.len (.arg 0)))).holds [] {args:=[.list (ns.map .int)]}=true:=by
   have h4:=(holds_andW hc).1
   rw[hn]at h4
   exact h4
  have h5:=condW_of h4 (w_not (w_lt w_lit (w_len_list (w_arg rfl))))
  rw[vaf]at h5
  refine Nat.le_of_not_lt λq=>?_
  have q':(n:Int)< ((ns.length:Nat):Int):=by omega
  first
   |(rw[vc5 q']at h5;exact absurd h5 (by decide))
   |(simp at h5;omega)
 cases hwl with
 |cons w1 w2=>
  cases w2
  cases w1 with
  |list ho hall=>exact⟨_,_,ns,rfl,rfl,ho,zd3 ns _ hall,hlen⟩
theorem zk6(l:OpenLaw)(args:List WData):l.row.toRowW.claim.post args (.bool true) args=true:=
 postW_of (r:=l.row.toRowW) (X:=(true==true))
  (show WShape.has [] (.bool true) .bool=true by first|rfl|decide|simp[WShape.has,WShape.arms,WShape.armsAll])
  (show(WTm.eq .res (.lit (.bool true))).value [] {args:=args,res:=some (.bool true),after:=args}=some (.bool (true==true))from w_eq_bool (w_res rfl) w_lit) rfl
theorem attach_call{l:OpenLaw}{n:Nat}{q:Program}{loose:List Str}{XP:(Str->Option Value)->Heap->Prop}{YP:World->Heap->Prop}{d:DefRec}
 (hn:l.most=some n) (hdf:d.params.defaults=[])
 (call:∀(w:World)(s₀ s₁:Shared)(mg mb:Str->Option Value)(fa:Addr)(o:Obj)(pm cd doc:Value)(a:Addr)(vs:List Value)(ns:List Int),
   Ground q loose [] XP w s₀ mg mb s₁.heap->YP w s₁.heap->
   s₁.heap.get? fa=some o->o.data=.func (docDef d.name d.params d.body d.scope pm cd doc)->s₁.heap.CodeRec cd d.name->mg d.name=some (.ref fa)->
   s₁.heap.get? a=some {cls:=.type "list",data:=.seq vs.toArray}->IntsAre vs ns->ns.length<=n->s₁.gens = #[]->
   codeAny (model l.prog w) callerA (.call (.ref fa) ⟨[.ref a],[]⟩) (λr s'=>r=.ok (.ret (.bool true))/\OldK s₁.heap s'.heap/\s'.os=s₁.os/\AllBare s'.gens) s₁) :
 WalkO q loose XP YP l.row.toRowW d [] (λf vs=>PySem.call f vs):=by
 intro w s₀ s₁ mg mb G Y fa o pm cd doc dV kV ho hd hcd hD hmg hg args vals as hpre hlay hrd hwl hlo
 obtain rfl:dV=.none:=Dflts.none hD hdf
 obtain rfl:kV=.none:=Dflts.noKw hD
 obtain⟨a,vs,ns,rfl,rfl,hobj,hints,hlen⟩:=zk5 hn hpre hwl
 refine enter_call (vdp (call w s₀ s₁ mg mb fa o pm cd doc a vs ns G Y ho (fd_plain hd) hcd hmg hobj hints hlen hg) λr s' hq=>?_)
 obtain⟨rfl,h2,h3,h4⟩:=hq
 exact⟨.inl ⟨.bool true,.bool true,[],rfl,λ_=>rfl,.bool true,zk6 l _,λ_=>⟨List.Pairwise.nil,λ_ hm=>(nomatch hm)⟩⟩,h2,h3,h4⟩
end Att
namespace L2
open PySem PySem.Spec PyProof.Rows
theorem zgv:∀{vs:List Value} {ns:List Int},IntsAre vs ns->Vals (ns.map V.int) vs
 |_,_,.nil=>.nil
 |_,_,.cons n t h=>.cons ⟨t,rfl⟩ (zgv h)
noncomputable def Only(H:Hp):Prop:=∀b,H b=none\/∃o xs,H b=some (.frz o (.lst xs))
theorem zny{P:Program}{w:World}{K:PySem.W.Frag}{mg mb:Str->Option Value}{CX:CXT}{k:Nat}{fa a:Addr}{fd:FuncData}{x:Str}{sp:Sp}{s₁:Shared}{vs:List Value}{ns:List Int}
 (KX:K.In s₁.heap) (hns:s₁.heap.Ns mainGlobals mg) (hb:s₁.heap.Ns builtinsNs mb) (hbb:∀x:Str,x≠"__name__"->mb x=bootBuiltins x) (hlim:s₁.heap.NoLimit) (hg:s₁.gens = #[])
 (ha:s₁.heap.get? a=some {cls:=.type "list",data:=.seq vs.toArray}) (hi:IntsAre vs ns) (hl:ns.length<=sizeLine) (hr:Room k callerA)
 (F:∀base:Heap,K.In base->base.Ns mainGlobals mg->FnOk P w K mg base CX k fa fd [x] sp) (hbind:∀(s:Shared)(u:Value),BindsTo s fd ⟨[u],[]⟩ [(x,u)])
 (hsp:∀H:Hp,Only H->SqL K H a (ns.map V.int)->sp [.ref a] H (λv _=>v=.bl true) λ_ _ _=>False)
 (hCX:∀H e s',CX [] H s₁ (λ_ _ _=>False) e s'->False) :
 codeAny (model P w) callerA (.call (.ref fa) ⟨[.ref a],[]⟩) (λr s'=>r=.ok (.ret (.bool true))/\OldK s₁.heap s'.heap/\s'.os=s₁.os/\AllBare s'.gens) s₁:=by
 have rv:=zgv hi
 have lenV:=hi.length
 have core:∀H:Hp,Only H->SqL K H a (ns.map V.int)->HOk P w H s₁.heap->(∀b,H b≠none->b=a)->(H a≠none->K.lookup a=none)->
  codeAny (model P w) callerA (.call (.ref fa) ⟨[.ref a],[]⟩) (λr s'=>r=.ok (.ret (.bool true))/\OldK s₁.heap s'.heap/\s'.os=s₁.os/\AllBare s'.gens) s₁:=by
  intro H hO hS hok hA hK
  have base_of:∀{b:Addr}{o:Obj},s₁.heap.get? b=some o->H b=none->(hidT s₁.heap H).get? b=some o:=λe n=>zni e n
  have noA:∀{b:Addr}{o:Obj}{es:Array DictEntry}{ep:Nat},s₁.heap.get? b=some o->o.data=.dict es ep->H b=none:=λ{b o es ep} e d=>by
   cases q:H b with
   |none=>rfl
   |some u=>
    have e':b=a:=hA b (by rw[q];simp)
    subst e'
    rw[ha]at e;cases e
    have d':Data.seq vs.toArray _=Data.dict es ep:=d
    cases d'
  have nsK:∀{b:Addr}{m:Str->Option Value},s₁.heap.Ns b m->(hidT s₁.heap H).Ns b m:=λ{b m}⟨o,es,ep,e,d,r⟩=>⟨o,es,ep,base_of e (noA e d),d,r⟩
  have hKb:K.In (hidT s₁.heap H):=λb o e=>base_of (KX b o e) (by
   cases q:H b with
   |none=>rfl
   |some u=>
    have e':b=a:=hA b (by rw[q];simp)
    subst e'
    rw[hK (by rw[q];simp)]at e;cases e)
  have hM:Mod K mg (hidT s₁.heap H):=⟨hKb,nsK hns,⟨mb,nsK hb,hbb⟩,let⟨mc,h1,h2⟩:=hlim;⟨mc,nsK h1,h2⟩⟩
  have e0:Env0 P w K mg (hidT s₁.heap H) callerA [] s₁ H:=⟨rfl,hM,λb o e=>zqh e,Nat.le_of_eq (zki _ _),trivial,λb hb=>absurd (show b∈([]:List Addr)from hb) (by simp),hok,.of_eq hg⟩
  refine vdp ((F _ hKb (nsK hns)).run callerA [] s₁ H ⟨[.ref a],[]⟩ [.ref a] [.ref a] _ _ hr e0 (hbind s₁ (.ref a)) (.cons rfl .nil) (hsp H hO hS)) λr s' h=>?_
  cases r with
  |error e=>exact(hCX H e s' h).elim
  |ok fl=>
   cases fl with
   |next=>exact False.elim h
   |brk=>exact False.elim h
   |cont=>exact False.elim h
   |ret u=>
    obtain⟨v,H',os,bare,un,hok',r',q⟩:=h
    have q':v=.bl true:=q
    subst q'
    obtain rfl:u=Value.bool true:=r'
    refine⟨rfl,OldK.of_keep λb o e=>?_,os,bare⟩
    cases q:H b with
    |none=>exact un.keep b o e q (by intro z;exact absurd (show b∈([]:List Addr)from z) (by simp)) (by simp)
    |some u=>
     rcases hO b with z|⟨ob,xs,z⟩
     .rw[q]at z;cases z
     .have z2:=un.frzs b ob _ z
      obtain⟨e1,_⟩:=hok b _ z
      obtain⟨e2,_⟩:=hok' b _ z2
      rw[e]at e1;cases e1
      exact e2
 cases hk:K.lookup a with
 |some o=>
  have e:=KX a o hk
  rw[ha]at e
  cases e
  refine core (λ_=>none) (λ_=>.inl rfl) (.inr ⟨_,vs.toArray,_,hk,rfl,rfl,rfl,by rw[vag,lenV];exact hl,by simpa using rv⟩) (λb u z=>by have z':(none:Option HO)=some u:=z;cases z') (λb z=>absurd rfl z) λz=>absurd rfl z
 |none=>
  refine core (λb=>if b=a then some (.frz {cls:=.type "list",data:=.seq vs.toArray} (.lst (ns.map V.int)))else none) (λb=>?_) (.inl (.inr ⟨{cls:=.type "list",data:=.seq vs.toArray},if_pos rfl⟩)) (λb u z=>?_) (λb z=>?_) λ_=>hk
  .by_cases hb:b=a
   .exact .inr ⟨_,_,if_pos hb⟩
   .exact .inl (if_neg hb)
  .by_cases hb:b=a
   .have z':=(if_pos hb).symm.trans z
    cases z'
    subst hb
    exact⟨ha,by rw[vaf];exact hl,vs,_,rv,ha⟩
   .have z':=(if_neg hb).symm.trans z
    cases z'
  .by_cases hb:b=a
   .exact hb
   .exact absurd (if_neg hb) z
theorem zq2{l:PySem.W.OpenLaw}{n k:Nat}{q:Program}{loose:List Str}{XP:(Str->Option Value)->Heap->Prop}{YP:World->Heap->Prop}{d:DefRec}{K:Params->PySem.W.Frag}{CX:World->CXT}{sp:World->Sp}{x:Str}
 (hn:l.most=some n) (hn2:n<=sizeLine) (hdf:d.params.defaults=[]) (hr:Room k callerA)
 (hY:∀(w:World)(h:Heap),YP w h->(K w.params).In h)
 (F:∀(w:World)(mg:Str->Option Value)(fa:Addr)(h:Heap),(K w.params).In h->h.Ns mainGlobals mg->mg d.name=some (.ref fa)->
   ∃fd:FuncData,(∀(s:Shared)(u:Value),BindsTo s fd ⟨[u],[]⟩ [(x,u)])/\
    ∀base:Heap,(K w.params).In base->base.Ns mainGlobals mg->FnOk l.prog w (K w.params) mg base (CX w) k fa fd [x] (sp w))
 (hsp:∀(w:World)(H:Hp)(a:Addr)(ns:List Int),ns.length<=n->Only H->SqL (K w.params) H a (ns.map V.int)->sp w [.ref a] H (λv _=>v=.bl true) λ_ _ _=>False)
 (hCX:∀(w:World)(H:Hp)(s:Shared)(e:Value)(s':Shared),CX w [] H s (λ_ _ _=>False) e s'->False) :
 PySem.W.WalkO q loose XP YP l.row.toRowW d [] (λf vs=>PySem.call f vs):=by
 refine Att.attach_call hn hdf λw s₀ s₁ mg mb fa o pm cd doc a vs ns G Y ho hd hcd hmg hobj hints hlen hg=>?_
 have KX:=hY w _ Y
 obtain⟨fd,hb,hF⟩:=F w mg fa _ KX G.T.g hmg
 exact zny KX G.T.g G.T.b G.T.builtins G.T.nolimit hg hobj hints (vas hlen hn2) hr hF hb (λH hO hS=>hsp w H a ns hlen hO hS) λH e s'=>hCX w H s₁ e s'
noncomputable def zq3(s:Stmt):Arguments:=match s with
 |.FunctionDef _ a _ _ _ _ _ _ _ _=>a
 |_=>{posonlyargs:=[],args:=[],vararg:=none,kwonlyargs:=[],kw_defaults:=[],kwarg:=none,defaults:=[]}
noncomputable def zc2(s:Stmt):List Stmt:=match s with
 |.FunctionDef _ _ b _ _ _ _ _ _ _=>b
 |_=>[]
noncomputable def zai(s:Stmt):Scope:=match s with
 |.FunctionDef _ _ _ _ _ _ sc _ _ _=>sc
 |_=>{kind:=.function,names:=[],isGenerator:=false,isCoroutine:=false}
noncomputable abbrev CX0:CXT:=λ_ _ _ _ _ _=>False
noncomputable abbrev E0:XK:=λ_ _ _=>False
theorem pass0{X:Cx}:zer CX0 X E0:=λ_ _ _ _ _ _ _ h=>h.elim
theorem zd4{n:Nat}(h:n<=1000):n<sizeLine:=vbv h (by decide)
theorem iteF{A B:Prop}(h:B):if false=true then A else B:=by
 rw[if_neg va4]
 exact h
theorem iteT{A B:Prop}(h:A):if true=true then A else B:=by
 rw[if_pos rfl]
 exact h
noncomputable def zbw(cells:List (Str×Addr)):List (Str×NameKind)->List (Str×Addr)->List (Str×Addr)
 |[],cs=>cs
 |(n,k)::r,cs=>zbw cells r (if k == .free then(match cells.lookup n with|some c=>(n,c)::cs|none=>cs)else cs)
theorem zcj{scope:Scope}{env:Env}(hf:∀y∈scope.names,y.2=.free->∃c,env.cells.lookup y.1=some c):closureFor scope env=pure (zbw env.cells scope.names []):=by
 have go:∀(l:List (Str×NameKind))(cs:List (Str×Addr)),(∀y∈l,y.2=.free->∃c,env.cells.lookup y.1=some c)->
  (forIn l cs λ(x:Str×NameKind)(r:List (Str×Addr))=>(match x with
    |(name,kind)=>if(kind==NameKind.free)=true then(do let a <-cellOf env name;pure (ForInStep.yield ((name,a)::r)))else pure (ForInStep.yield r):Sem (ForInStep (List (Str×Addr)))))=(pure (zbw env.cells l cs):Sem (List (Str×Addr))):=by
  intro l
  induction l with
  |nil=>intro cs _;rfl
  |cons x r ih=>
   intro cs h
   obtain⟨n,k⟩:=x
   rw[vdu]
   by_cases hk:(k==NameKind.free)=true
   .have hk':k=.free:=by simpa using hk
    obtain⟨c,hc⟩:=h (n,k) vaq hk'
    have hc':env.cells.lookup n=some c:=hc
    simp only[hk,vbk,cellOf,hc',zbw]
    exact ih _ λy hy=>h y (vai _ hy)
   .have hk':(k==NameKind.free)=false:=by simpa using hk
    simp only[hk',vak,vbe,zbw]
    exact ih _ λy hy=>h y (vai _ hy)
 have e:=go scope.names [] hf
 unfold closureFor
 refine Eq.trans (vdh (λt=>t >>= λcs=>pure cs) e) ?_
 rfl
theorem zes{cells:List (Str×Addr)}:∀(l:List (Str×NameKind)) (cs:List (Str×Addr)),(∀x c,cs.lookup x=some c->cells.lookup x=some c)->∀x c,(zbw cells l cs).lookup x=some c->cells.lookup x=some c
 |[],cs,h=>h
 |(n,k)::r,cs,h=>zes r _ λx c e=>by
  by_cases hk:(k==NameKind.free)=true
  .simp only[hk,vbk]at e
   cases hc:cells.lookup n with
   |none=>rw[hc]at e;exact h x c e
   |some d=>
    rw[hc]at e
    simp only[vax]at e
    by_cases hx:(x==n)=true
    .simp only[hx]at e
     cases e
     rw[show x=n by simpa using hx];exact hc
    .have hx':(x==n)=false:=by simpa using hx
     simp only[hx']at e
     exact h x c e
  .have hk':(k==NameKind.free)=false:=by simpa using hk
   simp only[hk',vak,vbe]at e
   exact h x c e
theorem zd5{cells:List (Str×Addr)}{x:Str}{c:Addr}(hc:cells.lookup x=some c):∀(l:List (Str×NameKind)) (cs:List (Str×Addr)),cs.lookup x=some c->(zbw cells l cs).lookup x=some c
 |[],cs,h=>h
 |(n,k)::r,cs,h=>zd5 hc r _ (by
  by_cases hk:(k==NameKind.free)=true
  .simp only[hk,vbk]
   cases hn:cells.lookup n with
   |none=>exact h
   |some d=>
    simp only[vax]
    by_cases hx:(x==n)=true
    .have:x=n:=by simpa using hx
     subst this
     rw[hc]at hn;cases hn
     simp
    .have hx':(x==n)=false:=by simpa using hx
     simp only[hx'];exact h
  .have hk':(k==NameKind.free)=false:=by simpa using hk
   simp only[hk',vak,vbe]
   exact h)
theorem zc3{cells:List (Str×Addr)}{x:Str}{c:Addr}(hc:cells.lookup x=some c):∀(l:List (Str×NameKind)) (cs:List (Str×Addr)),(x,NameKind.free)∈l->(zbw cells l cs).lookup x=some c
 |[],cs,h=>by cases h
 |(n,k)::r,cs,h=>by
  rcases va0.mp h with e|e
  .cases e
   refine zd5 hc r _ ?_
   rw[hc]
   simp[vax]
  .exact zc3 hc r _ e
noncomputable abbrev Cx.comp(X:Cx)(N:List Str)(scope:Scope)(C:Addr)(s₀:Shared)(H₀:Hp)(ex:List Addr):Cx:=
 {X with N:=N,s₀:=s₀,H₀:=H₀,env:=compEnvC scope (zbw X.env.cells scope.names []) C X.env,outer:=X.stack,stack:=X.stack,ex:=ex,fn:=λ_=>false,pn:=[],xe:=λ_ _=>False}
structure CompScope(X:Cx)(ow fr:List Str)(ix:List Nat)(scope:Scope):Prop where
 kind:scope.kind=.function
 nocell:∀y∈scope.names,y.2≠.cell
 names:∀y∈scope.names,y.2=.local->scope.names.lookup y.1=some .local
 own:∀x∈ow,scope.names.lookup x=some .local
 free:∀y∈scope.names,y.2=.free->X.env.kindOf y.1=some .cell\/X.env.kindOf y.1=some .free
 at_:∀(k:Nat)(x:Str),fr[k]?=some x->∃j,ix[k]?=some j/\X.N[j]?=some x/\scope.names.lookup x=some .free
 len:ix.length=fr.length
noncomputable def cσ(ow fr:List Str)(ix:List Nat)(σ:St):St:=ow.map (λ_=>none)++ix.map λj=>(σ[j]?).join
theorem zet{x:Str}{k:NameKind}:∀{l:List (Str×NameKind)},l.lookup x=some k->(x,k)∈l
 |[],h=>by cases h
 |(n,j)::r,h=>by
  simp only[vax]at h
  by_cases hx:(x==n)=true
  .simp only[hx]at h
   cases h
   rw[show x=n by simpa using hx];exact vaq
  .have hx':(x==n)=false:=by simpa using hx
   simp only[hx']at h
   exact vai _ (zet h)
theorem zbx{env:Env}:∀{l:List (Str×NameKind)} {x:Str} {k:NameKind},
 (l.map λ(n,k)=>if(k==NameKind.free&&env.scope.kind == .function&&env.kindOf n==some .cell)then(n,NameKind.cell)else(n,k)).lookup x=some k->k≠.local->(∀y∈l,y.2≠.cell)->k=.cell\/k=.free->(x,NameKind.free)∈l
 |[],x,k,h,_,_,_=>by cases h
 |(n,j)::r,x,k,h,hk,hc,hh=>by
  have ih:=@zbx env r x k
  rw[vav]at h
  by_cases hc':(j==NameKind.free&&env.scope.kind == .function&&env.kindOf n==some .cell)=true
  .simp only[hc',vbk,vax]at h
   have hj:j=.free:=by
    simp only[vaa,vb7]at hc'
    exact hc'.1.1
   by_cases hx:(x==n)=true
   .rw[show x=n by simpa using hx,hj];exact vaq
   .have hx':(x==n)=false:=by simpa using hx
    simp only[hx']at h
    exact vai _ (ih h hk (λy hy=>hc y (vai _ hy)) hh)
  .have hcf:(j==NameKind.free&&env.scope.kind == .function&&env.kindOf n==some .cell)=false:=by simpa using hc'
   simp only[hcf,vak,vbe,vax]at h
   by_cases hx:(x==n)=true
   .simp only[hx]at h
    cases h
    rcases hh with z|z
    .exact absurd z (hc _ vaq)
    .rw[show x=n by simpa using hx,z];exact vaq
   .have hx':(x==n)=false:=by simpa using hx
    simp only[hx']at h
    exact vai _ (ih h hk (λy hy=>hc y (vai _ hy)) hh)
theorem zbj{env:Env}(hkf:env.scope.kind=.function):∀{l:List (Str×NameKind)} {x:Str},l.lookup x=some .free->
 (l.map λ(n,k)=>if(k==NameKind.free&&env.scope.kind == .function&&env.kindOf n==some .cell)then(n,NameKind.cell)else(n,k)).lookup x=some (if env.kindOf x=some .cell then .cell else .free)
 |[],x,h=>by cases h
 |(n,j)::r,x,h=>by
  have ih:=@zbj env hkf r x
  rw[vav]
  simp only[vax]at h
  by_cases hx:(x==n)=true
  .simp only[hx]at h
   cases h
   have e:x=n:=by simpa using hx
   subst e
   by_cases hq:env.kindOf x=some .cell
   .simp[hkf,hq,vax]
   .simp[hq,vax]
  .have hx':(x==n)=false:=by simpa using hx
   simp only[hx']at h
   by_cases hc':(j==NameKind.free&&env.scope.kind == .function&&env.kindOf n==some .cell)=true
   .simp only[hc',vbk,vax,hx'];exact ih h
   .have hcf:(j==NameKind.free&&env.scope.kind == .function&&env.kindOf n==some .cell)=false:=by simpa using hc'
    simp only[hcf,vak,vbe,vax,hx'];exact ih h
section
variable{X:Cx}{pins:List (Addr×Obj)}{σ:St}{H:Hp}{s:Shared}{ow fr:List Str}{ix:List Nat}{scope:Scope}{fp:List Addr}
theorem znz(S:CompScope X ow fr ix scope)(I:Inv X pins σ H s)(hfp:∀b∈fp,FpOk X pins H b)(hlt:∀b∈fp,b<s.heap.objs.size){h':Heap}{tk:Nat}{m:Str->Option Value}(hn:h'.Ns s.heap.objs.size m)(hk:∀b o,s.heap.get? b=some o->h'.get? b=some o) :
 Inv (X.comp (ow++fr) scope s.heap.objs.size s H fp) [] (cσ ow fr ix σ) H {s with heap:=h',toks:=tk}:=by
 have sub:=zes (cells:=X.env.cells) scope.names [] (λx c e=>by cases e)
 have kf:=I.ok.kind
 have ncell:∀x c,X.env.cells.lookup x=some c->c≠s.heap.objs.size:=λx c e z=>by
  obtain⟨v,q⟩:=I.cell x c e
  exact absurd q.lt (by rw[z];exact vcj _)
 have hasC:∀x,(x,NameKind.free)∈scope.names->∃c,(zbw X.env.cells scope.names []).lookup x=some c/\X.env.cells.lookup x=some c:=λx hx=>by
  obtain⟨c,hc⟩:=I.ok.has x (S.free _ hx rfl)
  exact⟨c,zc3 hc _ _ hx,hc⟩
 refine⟨⟨I.ok.mod,?_,I.ok.glob,I.ok.blt,vad _,λx y c a b=>I.ok.inj x y c (sub x c a) (sub y c b),λx hx=>?_,λx c e=>?_,I.ok.hd,I.ok.frames,.inl rfl,λb hb=>?_,λb o e=>?_,?_,λb o e hb=>?_,λb hb hz=>?_,I.stack,λb hb=>I.stkFree b hb⟩,
  rfl,I.bare,Un.kept hk,⟨m,hn,λi x v e1 e2 e3=>?_⟩,λx c e=>?_,I.hok.fresh (vad _),λx c e=>I.freeC x c (sub x c e),λp hp=>?_,I.hok.kept hk,?_⟩
 .exact S.kind
 .have hx':(relabel scope X.env).names.lookup x=some .cell\/(relabel scope X.env).names.lookup x=some .free:=hx
  have hm:(x,NameKind.free)∈scope.names:=by
   rcases hx' with z|z
   .exact zbx (env:=X.env) z (by decide) S.nocell (.inl rfl)
   .exact zbx (env:=X.env) z (by decide) S.nocell (.inr rfl)
  obtain⟨c,hc,_⟩:=hasC x hm
  exact⟨c,hc⟩
 .cases e
 .obtain⟨f0,f1,f2,f3,f4,f5⟩:=hfp b hb
  refine⟨λz=>?_,λx c e=>f4 x c (sub x c e)⟩
  have q:=hlt b hb
  rw[z]at q
  exact absurd q (vcj _)
 .exact⟨(I.bs b o e).1,(I.bs b o e).2⟩
 .exact vas I.ok.bsz I.sz
 .obtain⟨f0,f1,f2,f3,f4,f5⟩:=hfp b hb
  rcases f3 with z|z
  .exact I.ok.noex b o e z
  .exact absurd (vah (vaj (I.ok.bs b o e).1) z) (vcj _)
 .obtain⟨f0,f1,f2,f3,f4,f5⟩:=hfp b hb
  rcases va0.mp (I.stkSub b hz)with z|z
  .exact f1 z
  .exact f2 z
 .have hlen:ow.length<=i:=by
   by_cases hi:i<ow.length
   .unfold cσ at e2
    rw[vb0 (by simpa using hi),vbm]at e2
    cases q:ow[i]? with
    |none=>rw[q]at e2;cases e2
    |some y=>rw[q]at e2;cases e2
   .omega
  have e1':fr[i-ow.length]?=some x:=by
   have e1:(ow++fr)[i]?=some x:=e1
   rw[vbi hlen]at e1
   exact e1
  have e2':(ix.map λj=>(σ[j]?).join)[i-ow.length]?=some (some v):=by
   unfold cσ at e2
   rw[vbi (by simpa using hlen)]at e2
   simpa using e2
  obtain⟨j,hj,hN,hl⟩:=S.at_ _ _ e1'
  rw[vbm,hj]at e2'
  have e2'':(σ[j]?).join=some v:=vbz e2'
  have hσ:σ[j]?=some (some v):=by
   cases q:σ[j]? with
   |none=>rw[q]at e2'';cases e2''
   |some o=>rw[q]at e2'';cases o with
    |none=>cases e2''
    |some w=>cases e2'';rfl
  obtain⟨m0,hm0,hl0⟩:=I.loc
  have hmem:=zet hl
  have hkf:=S.free _ hmem rfl
  have hvis:Vis X.env.scope x:=hkf.elim (λz=>.inr (.inl z)) λz=>.inr (.inr z)
  obtain⟨u,ru,lk⟩:=hl0 j x v hN hσ hvis
  refine⟨u,ru,.inr ?_⟩
  have hcell:∃c,X.env.cells.lookup x=some c/\s.heap.IsCell c (some u):=by
   rcases lk with⟨z,_⟩|⟨_,c,e,z⟩
   .rcases hkf with q|q
    .rw[show X.env.kindOf x=some .local from z]at q;cases q
    .rw[show X.env.kindOf x=some .local from z]at q;cases q
   .exact⟨c,e,z⟩
  obtain⟨c,hc,o,ho,hd⟩:=hcell
  refine⟨?_,c,zc3 hc _ _ hmem,o,hk _ _ ho,hd⟩
  show(relabel scope X.env).names.lookup x=some .cell\/(relabel scope X.env).names.lookup x=some .free
  have q:=zbj (env:=X.env) kf hl
  by_cases z:X.env.kindOf x=some .cell
  .rw[if_pos z]at q;exact .inl q
  .rw[if_neg z]at q;exact .inr q
 .obtain⟨v,q⟩:=I.cell x c (sub x c e)
  obtain⟨o,ho,hd⟩:=q
  exact⟨v,o,hk _ _ ho,hd⟩
 .cases(show p∈([]:List (Addr×Obj))from hp)
 .show(cσ ow fr ix σ).length=(ow++fr).length
  unfold cσ
  rw[vaw,vaf,vaf,vaw,S.len]
end
theorem zk7{α:Type}{M:Model}{A:Around}{t:Sem α}{Q:α->Shared->Prop}{E:Value->Shared->Prop}{s:Shared}(h:wpAny M A t Q (λ_ _=>False) s):wpAny M A t Q E s:=vbc h (λ_ _ q=>q) λ_ _ z=>z.elim
noncomputable abbrev noX:Value->Shared->Prop:=λ_ _=>False
noncomputable abbrev zk8(ifs:List Expr)(env:Env):Sem Bool:=forIn ifs true λc r=>if r=true then do let ok <-isTrue c env (eval c env);pure (ForInStep.yield ok)else pure (ForInStep.yield r)
theorem zb7{prog:Program}{w:World}{A:Around}{R:Result->Shared->Prop}{s:Shared}{elt target iter:Expr}{ifs:List Expr}{scope:Scope}{pos:Pos}{it acc:Value}{env:Env}(I:Nat->Shared->Prop)
 (turn:∀n s,I n s->wpAny (model prog w) A (pyNext it) (λr s₁=>match r with
   |none=>R (.ok .next) s₁
   |some v=>wpAny (model prog w) A (letOwnedTupleGo target it v) (λ_ s₀=>wpAny (model prog w) A (assign target env v) (λ_ s₂=>
    wpAny (model prog w) A (zk8 ifs env) (λok s₃=>
     if ok=true then wpAny (model prog w) A (eval elt env) (λx s₄=>
      wpAny (model prog w) A (call (.builtin "list.append") [acc,x]) (λ_ s₅=>∃m,m<n/\I m s₅) noX s₄) noX s₃
     else ∃m,m<n/\I m s₃) noX s₂) noX s₀) noX s₁) noX s)
 (n:Nat) (h:I n s) :
 codeAny (model prog w) A (.compLoop (.ListComp elt [⟨target,iter,ifs,0⟩] scope pos) 0 it acc env) R s:=by
 refine codeAny_loop rfl I (λn s hI=>?_) n h
 show wpAny _ A ((compTurn (.ListComp elt [⟨target,iter,ifs,0⟩] scope pos) 0 it acc env).onRaise (λx=>do noteFrame x env;theTreesLotGoes x)) _ _ s
 refine wpAny_noted (zk7 ?_)
 rw[compTurn_list]
 refine vab (vbj (vab (vbc (turn n s hI) (λr s₁ h₁=>?_) λ_ _ h'=>h')))
 cases r with
 |none=>exact vae h₁
 |some v=>
  refine vab (vbc h₁ (λ_ s₀ h₀=>?_) λ_ _ h'=>h')
  refine vab (vbc h₀ (λ_ s₂ h₂=>vab (vbc h₂ (λok s₃ h₃=>?_) λ_ _ h'=>h')) λ_ _ h'=>h')
  cases ok with
  |true=>
   simp only[vbk]at h₃ ⊢
   exact vab (vab (vbc h₃ (λx s₄ h₄=>vab (vbc h₄ (λ_ s₅ h₅=>vae (vae ⟨rfl,h₅⟩)) λ_ _ h'=>h')) λ_ _ h'=>h'))
  |false=>
   simp only[vak,vbe]at h₃ ⊢
   exact vae ⟨rfl,h₃⟩
noncomputable def PTs(X:Cx)(ifs:List Expr)(t:TT):Prop:=
 ∀(pins:List (Addr×Obj))(s:Shared)(σ:St)(H:Hp)(Q:Bool->Hp->Prop),Inv X pins σ H s->t σ H Q->wpAny (model X.prog X.w) X.A (zk8 ifs X.env) (TP X pins σ Q) X.xe s
noncomputable def tYes:TT:=λ_ H Q=>Q true H
theorem zq4{X:Cx}:PTs X [] tYes:=λpins s σ H Q I h=>wpAny_tests_nil ⟨H,I,h⟩
theorem zq5{X:Cx}{c:Expr}{t:TT}(h:PT X c t):PTs X [c] t:=λpins s σ H Q I q=>wpAny_tests_one (h pins s σ H Q I q)
noncomputable def tLC(K:PySem.W.Frag)(f:St->St)(wi:TI)(g:TG)(tc:TT)(te:TE):TE:=λσ H Q=>wi σ H λJ H1=>∀D,H1 D=none->K.lookup D=none->
 ∃W:Nat->Nat->St->Hp->List V->Prop,(∃m,W 0 m (f σ) (upd H1 D (.lst [])) [])/\∀i m σ' H' ys,W i m σ' H' ys->H' D=some (.lst ys)/\
  ((J.stop i H'/\Q (.ref D) H')\/(J.go i H'/\∀x H2,J.yld i H' x H2->g x σ' H2 λσ2 H3=>tc σ2 H3 λb H4=>
    if b=true then te σ2 H4 λy H5=>H5 D=some (.lst ys)/\ys.length<sizeLine/\∃m',m'<m/\W (i+1) m' σ2 (upd H5 D (.lst (ys++[y]))) (ys++[y])
    else ∃m',m'<m/\W (i+1) m' σ2 H4 ys))
section
variable{X:Cx}{ow fr:List Str}{ix:List Nat}{scope:Scope}{tg iter elt:Expr}{ifs:List Expr}{pos:Pos}{wi:TI}{g:TG}{tc:TT}{te:TE}
theorem zeu{pins:List (Addr×Obj)}{s:Shared}{σ:St}{Q:VK}{RR:Value->Addr->Result->Shared->Prop}(S:CompScope X ow fr ix scope)(hc:X.calm=true)
 (hg:∀C s₀ H₀ ex,PG (X.comp (ow++fr) scope C s₀ H₀ ex) tg g) (ht:∀C s₀ H₀ ex,PTs (X.comp (ow++fr) scope C s₀ H₀ ex) ifs tc) (he:∀C s₀ H₀ ex,PE (X.comp (ow++fr) scope C s₀ H₀ ex) elt te)
 {itv:Value} {E:Value->Shared->Prop}
 (h:PIE X pins σ tg (λJ H1=>∀D,H1 D=none->X.K.lookup D=none->
   ∃W:Nat->Nat->St->Hp->List V->Prop,(∃m,W 0 m (cσ ow fr ix σ) (upd H1 D (.lst [])) [])/\∀i m σ' H' ys,W i m σ' H' ys->H' D=some (.lst ys)/\
    ((J.stop i H'/\Q (.ref D) H')\/(J.go i H'/\∀x H2,J.yld i H' x H2->g x σ' H2 λσ2 H3=>tc σ2 H3 λb H4=>
      if b=true then te σ2 H4 λy H5=>H5 D=some (.lst ys)/\ys.length<sizeLine/\∃m',m'<m/\W (i+1) m' σ2 (upd H5 D (.lst (ys++[y]))) (ys++[y])
      else ∃m',m'<m/\W (i+1) m' σ2 H4 ys))) itv s)
 (fin:∀D C H' s' m,FpOk X pins H' C->s'.heap.Ns C m->(∀h'',Heap.SameBut C s'.heap h''->Inv X pins σ H' {s' with heap:=h''})->Q (.ref D) H'->RR (.ref D) C (.ok .next) s') :
 wpAny (model X.prog X.w) X.A (newList []) (λacc s₃=>wpAny (model X.prog X.w) X.A (newFunctionEnv scope X.env.globals (zbw X.env.cells scope.names []) [] X.env.qual none .none (some X.env)) (λcenv s₄=>
  codeAny (model X.prog X.w) X.A (.compStart (.ListComp elt [⟨tg,iter,ifs,0⟩] scope pos) 0 itv acc {cenv with scope:=relabel scope X.env}) (RR acc cenv.locals) s₄) E s₃) E s:=by
 obtain⟨it,fp,tn,J,H1,e,I1,T,st1,f1,hq⟩:=h
 subst e
 have hD:H1 s.heap.objs.size=none:=I1.hok.fresh (vad _)
 have hKD:X.K.lookup s.heap.objs.size=none:=by
  cases e:X.K.lookup s.heap.objs.size with
  |none=>rfl
  |some o=>exact absurd (vaj (I1.kIn _ _ e)) (vcj _)
 obtain⟨W,⟨m0,w0⟩,turn⟩:=hq _ hD hKD
 have I3:Inv X pins σ (upd H1 s.heap.objs.size (.lst [])) {s with heap:=s.heap.push {cls:=.type "list",dict:=none,data:=.seq ([]:List Value).toArray}}:=
  I1.laid (t':=s.toks) (o:=.lst []) (λb u q=>vac _ q) (vad _) ⟨vbu _,[],0,.nil,vat _ rfl⟩
 have hlt1:∀b∈fp,b<s.heap.objs.size:=λb hb=>by
  obtain⟨o,ho,_⟩:=T.obj _ _ st1 b hb
  exact vaj ho
 have f3:∀b∈fp,FpOk X pins (upd H1 s.heap.objs.size (.lst [])) b:=λb hb=>⟨by rw[zae (vau (hlt1 b hb))];exact(f1 b hb).1,(f1 b hb).2⟩
 refine vbg (wpAny_newFunctionEnv S.nocell (by intro y hy;simp at hy) (λh₁ hns hsb=>?_) S.kind)
 dsimp only at hns hsb ⊢
 generalize hS3:({s with heap:=s.heap.push {cls:=.type "list",dict:=none,data:=.seq ([]:List Value).toArray}}:Shared)=s3 at I3
 have hh3:s3.heap=s.heap.push {cls:=.type "list",dict:=none,data:=.seq ([]:List Value).toArray}:=by rw[<-hS3]
 rw[<-hh3]at hns hsb ⊢
 have hk:∀b o,s3.heap.get? b=some o->h₁.get? b=some o:=λb o e=>hsb.extBut b o (vau (vaj e)) (vac _ e)
 have hlt3:∀b∈fp,b<s3.heap.objs.size:=λb hb=>by rw[hh3,vb1];exact vd1 (hlt1 b hb)
 have J3:=znz S I3 f3 hlt3 (tk:=s.toks) hns hk
 have st3:tn 0 h₁:=T.keep _ _ _ st1 λb hb o e=>hk b o (by rw[hh3];exact vac _ e)
 have ex3:∀b∈fp,(X.comp (ow++fr) scope s3.heap.objs.size s3 (upd H1 s.heap.objs.size (.lst [])) fp).Ok->∀{H':Hp},H' b=none->FpOk (X.comp (ow++fr) scope s3.heap.objs.size s3 (upd H1 s.heap.objs.size (.lst [])) fp) [] H' b:=λb hb ok H' hn=>
  ⟨hn,(ok.exf b hb).1,ok.exfs b hb,.inl hb,(ok.exf b hb).2,λp hp=>by cases(show p∈([]:List (Addr×Obj))from hp)⟩
 have back:∀{σ':St}{H':Hp}{s':Shared},Inv (X.comp (ow++fr) scope s3.heap.objs.size s3 (upd H1 s.heap.objs.size (.lst [])) fp) [] σ' H' s'->∀h'',Heap.SameBut s3.heap.objs.size s'.heap h''->Inv X pins σ H' {s' with heap:=h''}:=λ{σ' H' s'} I' h'' hs=>by
  have neC:∀b o,s3.heap.get? b=some o->b≠s3.heap.objs.size:=λb o e=>vau (vaj e)
  have un:Un (frs X.stack) fp (upd H1 s.heap.objs.size (.lst [])) H' s3.heap h'':=
   ⟨λb o e n hb hx=>(hs.2 b (neC b o e)).trans (I'.base.keep b o e n hb hx),λb o e n hb hx=>by
    obtain⟨sl,q⟩:=I'.base.slot b o e n hb hx
    exact⟨sl,(hs.2 b (neC b o e)).trans q⟩,I'.base.free,λb o e hx=>by
    obtain⟨o',q⟩:=I'.base.there b o e hx
    exact⟨o',(hs.2 b (neC b o e)).trans q⟩,I'.base.tups,I'.base.frzs,I'.base.tbls⟩
  have hok:HOk X.prog X.w H' h'':=λb ob e=>by
   refine(I'.hok b ob e).stay (λc w' hcc q=>(hs.2 c ?_).trans q) (λ_ q=>q) λ_ _ q=>q
   rintro rfl
   have hfree:=I'.free
   rcases hcc with rfl|hcc
   .rw[show H' s3.heap.objs.size=none from hfree]at e;cases e
   .rw[show H' s3.heap.objs.size=none from hfree]at hcc;cases hcc
  have hos:s'.os=s3.os:=I'.os
  exact I3.call' (s':={s' with heap:=h''}) (ch:=fp) hos un hok I'.bare λb hb=>by
   obtain⟨_,a1,a2,a3,a4,a5⟩:=f1 b hb
   exact⟨a3,a1,a4,a5⟩
 have loop:∀s4:Shared,Inv (X.comp (ow++fr) scope s3.heap.objs.size s3 (upd H1 s.heap.objs.size (.lst [])) fp) [] (cσ ow fr ix σ) (upd H1 s.heap.objs.size (.lst [])) s4->tn 0 s4.heap->
  codeAny (model X.prog X.w) X.A (.compLoop (.ListComp elt [⟨tg,iter,ifs,0⟩] scope pos) 0 (.ref it) (.ref s.heap.objs.size) (X.comp (ow++fr) scope s3.heap.objs.size s3 (upd H1 s.heap.objs.size (.lst [])) fp).env)
   (RR (.ref s.heap.objs.size) s3.heap.objs.size) s4:=by
  intro s4 I4 st4
  refine zb7 (λn s'=>∃i σ' H' ys,Inv (X.comp (ow++fr) scope s3.heap.objs.size s3 (upd H1 s.heap.objs.size (.lst [])) fp) [] σ' H' s'/\tn i s'.heap/\(∀b∈fp,H' b=none)/\W i n σ' H' ys) ?_ m0 ⟨0,_,_,[],I4,st4,λb hb=>(f3 b hb).1,w0⟩
  rintro n s5 ⟨i,σ5,H5,ys,I5,st5,fr5,w5⟩
  obtain⟨hDl,alt⟩:=turn i n σ5 H5 ys w5
  rcases alt with⟨stop,q⟩|⟨go,step⟩
  .refine thn (T.done (X.comp (ow++fr) scope s3.heap.objs.size s3 (upd H1 s.heap.objs.size (.lst [])) fp) rfl rfl rfl hc i [] s5 σ5 H5 noX I5 (λb hb=>ex3 b hb I5.ok (fr5 b hb)) st5 stop) λr s6 hq0=>?_
   obtain⟨hr,I6⟩:=hq0
   subst hr
   obtain⟨m6,hn6,_⟩:=I6.loc
   exact fin _ _ H5 s6 m6 (I3.fpOk (vad _) I6.free) hn6 (back I6) q
  .refine thn (T.item (X.comp (ow++fr) scope s3.heap.objs.size s3 (upd H1 s.heap.objs.size (.lst [])) fp) rfl rfl rfl hc i [] s5 σ5 H5 noX I5 (λb hb=>ex3 b hb I5.ok (fr5 b hb)) st5 go) λr s6 hq0=>?_
   obtain⟨u,hr,h6⟩:=hq0
   subst hr
   refine thn h6 λ_ s7 hq0=>?_
   obtain⟨x,H7,I7,r7,y7,st7,fr7⟩:=hq0
   have I7':=I7.pinned (λb hb=>ex3 b hb I7.ok (fr7 b hb)) (T.obj _ _ st7)
   have again:∀{σ8:St}{H8:Hp}{s8:Shared}{zs:List V}{m':Nat},Inv (X.comp (ow++fr) scope s3.heap.objs.size s3 (upd H1 s.heap.objs.size (.lst [])) fp) ([]++zgj fp s7.heap) σ8 H8 s8->m'<n->W (i+1) m' σ8 H8 zs->
    ∃m,m<n/\∃i σ' H' ys,Inv (X.comp (ow++fr) scope s3.heap.objs.size s3 (upd H1 s.heap.objs.size (.lst [])) fp) [] σ' H' s8/\tn i s8.heap/\(∀b∈fp,H' b=none)/\W i m σ' H' ys:=λ{σ8 H8 s8 zs m'} I8 hm w8=>by
    refine⟨m',hm,i+1,σ8,H8,zs,I8.unpinned,T.keep _ _ _ st7 λb hb o e=>(I8.pin (b,o) (va6 _ (va6 _ (zb1 hb e)))).1,λb hb=>?_,w8⟩
    obtain⟨o,e,d⟩:=T.obj _ _ st7 b hb
    exact(I8.pin (b,o) (va6 _ (va6 _ (zb1 hb e)))).2.1
   refine thn (hg _ _ _ _ _ s7 σ5 H7 x u _ I7' r7 (step x H7 y7)) λ_ s8 hq0=>?_
   obtain⟨σ8,H8,I8,q8⟩:=hq0
   refine thn (ht _ _ _ _ _ s8 σ8 H8 _ I8 q8) λok s9 z9=>z9.el λH9 I9 q9=>?_
   cases ok with
   |false=>
    simp only[vak,vbe]at q9 ⊢
    obtain⟨m',hm,w9⟩:=q9
    exact again I9 hm w9
   |true=>
    simp only[vbk]at q9 ⊢
    refine thn (he _ _ _ _ _ s9 σ8 H9 _ I9 q9) λy s10 hq0=>?_
    obtain⟨vy,H10,I10,ry,hD10,hz,m',hm,w10⟩:=hq0
    refine thn (zgu _ s10 σ8 H10 (.ref s.heap.objs.size) [vy] (.ref s.heap.objs.size) [y] (λv H'=>H'=upd H10 s.heap.objs.size (.lst (ys++[vy]))) I10 rfl (.cons ry .nil) ⟨_,ys,vy,rfl,rfl,hD10,hz,rfl⟩) λ_ s11 hq0=>?_
    obtain⟨v11,H11,I11,_,e11⟩:=hq0
    subst e11
    exact again I11 hm w10
 have J3':Inv (X.comp (ow++fr) scope s3.heap.objs.size s3 (upd H1 s.heap.objs.size (.lst [])) fp) [] (cσ ow fr ix σ) (upd H1 s.heap.objs.size (.lst [])) {s with heap:=h₁,toks:=s.toks}:=by
  rw[<-hS3]at J3 ⊢
  exact J3
 exact codeAny_compStart_list (loop _ J3' st3) (T.self _ 0 _ _ _ st3 (loop _ J3' st3))
theorem pe_lc(S:CompScope X ow fr ix scope)(hc:X.calm=true)(hi:PI X tg iter wi)
 (hg:∀C s₀ H₀ ex,PG (X.comp (ow++fr) scope C s₀ H₀ ex) tg g) (ht:∀C s₀ H₀ ex,PTs (X.comp (ow++fr) scope C s₀ H₀ ex) ifs tc) (he:∀C s₀ H₀ ex,PE (X.comp (ow++fr) scope C s₀ H₀ ex) elt te)
 (hs:∀x,foldedSetIterable iter X.env x=pure x:=by intro _;rfl):PE X (.ListComp elt [⟨tg,iter,ifs,0⟩] scope pos) (tLC X.K (cσ ow fr ix) wi g tc te):=by
 intro pins s σ H Q I h
 rw[eval_ListComp]
 refine wpAny_comprehension_free (use:=none) rfl hs (zcj λy hy e=>I.ok.has _ (S.free y hy e)) S.kind S.names (thn (hi pins s σ H _ I h) λv s1 h1=>thn h1 λitv s2 h2=>?_)
 exact zeu (RR:=λacc C=>compPost (model X.prog X.w) X.A X.xe none (EP X pins σ Q) acc C) S hc hg ht he h2 λD C H' s' m _ hn hI q=>⟨m,hn,λh'' hs''=>⟨.ref D,H',hI h'' hs'',rfl,q⟩⟩
theorem zn0{i:Nat}{y:Str}{py spos:Pos}(hN:X.N.Nodup)(hiy:X.N[i]?=some y)(hy:Loc X.env.scope y)(S:CompScope X ow fr ix scope)(hc:X.calm=true)(hi:PI X tg iter wi)
 (hg:∀C s₀ H₀ ex,PG (X.comp (ow++fr) scope C s₀ H₀ ex) tg g) (ht:∀C s₀ H₀ ex,PTs (X.comp (ow++fr) scope C s₀ H₀ ex) ifs tc) (he:∀C s₀ H₀ ex,PE (X.comp (ow++fr) scope C s₀ H₀ ex) elt te)
 (hsw:swapsWith (.ListComp elt [⟨tg,iter,ifs,0⟩] scope pos) (some (.Name y py)) spos.line X.env=pure true:=by rfl)
 (hf:X.fn y=true\/X.env.scope.names.lookup y=some .local:=by first|exact .inl rfl|exact .inr rfl|assumption)
 (hs:∀x,foldedSetIterable iter X.env x=pure x:=by intro _;rfl):PS X (.Assign [.Name y py] (.ListComp elt [⟨tg,iter,ifs,0⟩] scope pos) spos) (tAsg (tLC X.K (cσ ow fr ix) wi g tc te) (gName i)):=by
 intro pins s σ H D I h
 rw[exec_Assign_Name_used _ _ _ _ hsw]
 refine vab (vbj (vab ?_))
 show wpAny _ X.A (do let _ <-comprehension (.ListComp elt [⟨tg,iter,ifs,0⟩] scope pos) scope X.env _ (newList []) false (eval iter X.env) (some (assign (.Name y py) X.env))) _ _ s
 refine vab (vbc (wpAny_comprehension_free (use:=some (assign (.Name y py) X.env)) (Q:=λ_ s'=>SP X pins D .next s') rfl hs (zcj λy hy e=>I.ok.has _ (S.free y hy e)) S.kind S.names
  (thn (hi pins s σ H _ I h) λv s1 h1=>thn h1 λitv s2 h2=>?_)) (λ_ s' hq=>vae (vae hq)) λ_ _ e=>e)
 refine zeu (Q:=λx H1=>gName i x σ H1 D.nx) (RR:=λacc C=>compPost (model X.prog X.w) X.A X.xe (some (assign (.Name y py) X.env)) (λ_ s'=>SP X pins D .next s') acc C) S hc hg ht he h2 λd C H' s' m hC hn hI q=>?_
 show wpAny _ X.A (assign (.Name y py) X.env (.ref d)) _ _ _
 have I':Inv X pins σ H' s':=by
  have z:=hI s'.heap (.refl ..)
  exact z
 refine wpAny_assign_Name (zgh I' hN hiy hy (v:=.ref d) rfl (λs'' I'' ⟨a,hsb,ha⟩=>?_) hf)
 obtain⟨c0,c1,c2,c3,c4,c5⟩:=hC
 have hCa:C≠a:=by
  rcases ha with rfl|ha
  .exact c1
  .exact λz=>c4 _ _ ha z.symm
 refine⟨m,hn.sameBut hsb hCa,λh'' hs''=>⟨_,H',I''.turned (t':=s''.toks) (it:=C) (λb o hb e=>(hs''.2 b hb).trans e) c0 c1 c3 c4 c5,q⟩⟩
end
end L2
set_option maxHeartbeats 4000000
namespace XL
open PySem PySem.W PySem.Spec PyProof.Rows
noncomputable def onlyVE:List Value->Bool
 |[.type a,.type b,.type c,.type d]=>a == "ValueError" && b == "Exception" && c == "BaseException" && d == "object"
 |.ref _::r=>onlyVE r
 |_=>false
theorem zd6{l:List Value}{n:String}(h:onlyVE (.type n::l)=true):Value.type n::l=[.type "ValueError",.type "Exception",.type "BaseException",.type "object"]:=by
 unfold onlyVE at h
 split at h
 .rename_i a b c d e
  cases e
  simp only[vaa,vb7]at h
  obtain⟨⟨⟨rfl,rfl⟩,rfl⟩,rfl⟩:=h
  rfl
 .rename_i e;cases e
 .cases h
theorem zgw(self:Value):∀{l:List Value},onlyVE l=true->refuseLoop self "__setattr__" l=pure ()
 |.ref c::r,e=>by rw[refuseLoop_ref];exact zgw self (by unfold onlyVE at e;exact e)
 |.type n::r,e=>by rw[zd6 e];exact PySem.F.store_ValueError.passes self
theorem zk9{T:String}(hT:([.type "ValueError",.type "Exception",.type "BaseException",.type "object"]:List Value).contains (.type T)=true):∀{l:List Value},onlyVE l=true->l.contains (.type T)=true
 |.ref c::r,e=>by rw[vdv,zk9 hT (l:=r) (by unfold onlyVE at e;exact e),vd6]
 |.type n::r,e=>by rw[zd6 e];exact hT
structure ExcK(K:Frag)(C:Addr):Prop where
 ov:(clsIn K C).any (λcd=>onlyVE cd.mro)=true
 ga:findIn K (.ref C) "__getattribute__" = some (some (.builtin "BaseException.__getattribute__"))
 gt:findIn K (.ref C) "__getattr__" = some none
 sa:findIn K (.ref C) "__setattr__" = some (some (.builtin "object.__setattr__"))
 hd:hasDictIn K C=true
section
variable{prog:Program}{w:World}{A:Around}{E:Value->Shared->Prop}{s:Shared}{K:Frag}{x C:Addr}{ox:Obj}{od:Option Obj}{name:Str}{expr:Bool}
theorem zhx(k:ExcK K C)(X:K.In s.heap)(I:InstAt s.heap x ox C od){T:String}(hT:([.type "ValueError",.type "Exception",.type "BaseException",.type "object"]:List Value).contains (.type T)=true) :
 Looks (model prog w) s.heap (isInstance (.ref x) (.type T)) true:=by
 obtain⟨cd,hc,ho⟩:=any_some k.ov
 have ne:cd.mro.isEmpty=false:=by cases q:cd.mro with|nil=>rw[q]at ho;cases ho|cons _ _=>rfl
 exact I.type.andThen (looks_mroIn X (by unfold mroIn;rw[hc,vdi,if_neg (by rw[ne];decide),zk9 hT ho]))
theorem exc_get{v:Value}{Q:Value->Shared->Prop}(k:ExcK K C)(X:K.In s.heap)(I:InstAt s.heap x ox C od)(hf:findObj K C od name=some (.value v))(hh:handedIn v=true)
 (h:Q v {s with toks:=s.toks+1}):wpAny (model prog w) A (getAttr (.ref x) name expr) Q E s:=by
 have S:=zhx (prog:=prog) (w:=w) k X I (T:="BaseException") (by decide +kernel)
 obtain⟨h0,g,d,t,os⟩:=s
 have L0:=I.type (M:=model prog w)
 have L1:=looks_findIn (M:=model prog w) X k.ga
 have L2:=looks_findIn (M:=model prog w) X k.gt
 have L3:=looks_find (M:=model prog w) X I hf
 have ho:=handedOut_of hh
 have hx0:(expr&&onTheHeap (Value.builtin "BaseException.__getattribute__"))=false:=by cases expr<;>rfl
 have hx1:(onTheHeap (Value.ref C)&&Value.builtin "BaseException.__getattribute__" == Value.builtin "object.__getattribute__")=false:=by
  rw[show(Value.builtin "BaseException.__getattribute__" == Value.builtin "object.__getattribute__")=false from by decide +kernel];rfl
 unfold getAttr getAttrBy
 refine vab (wpAny_mkText (vbd (vab (L0.at (vab (L1.at ?_))))))
 dsimp only
 rw[hx1]
 simp only[vak,vbe]
 unfold getAttrByItsOwn hookBefore
 refine vab ?_
 rw[if_pos (show onTheHeap (Value.ref C)=true from rfl)]
 refine L2.at ?_
 refine vab (vd9 (vbd ?_))
 unfold callGetattribute
 rw[hx0]
 simp only[vak,vbe]
 unfold boundAndCalled
 rw[vcm.ga.bind (.ref x)]
 refine vab (vae ?_)
 dsimp only
 show wpAny (model prog w) A (call (.builtin "BaseException.__getattribute__") [.ref x,.str name t]) _ _ _
 have hk:builtinKind "BaseException.__getattribute__" = some .slot:=by decide +kernel
 have hsp:splitId "BaseException.__getattribute__" = some ("BaseException","__getattribute__"):=by decide +kernel
 refine vda (vdf vcm.ga.plain PySem.F.entry_bexc_ga ?_)
 refine @check_slot (model prog w) _ _ ⟨h0,g,d,t+1,os⟩ "BaseException.__getattribute__" "BaseException" "__getattribute__" (.ref x) [.str name t] [] _ hk hsp S (PySem.F.args_bexc_ga _ _) ?_
 unfold Builtin.«object.__getattribute__»
 refine vab (vdl (a:=(Value.ref x,[Value.str name t])) rfl ?_)
 dsimp only
 refine vab (vdl (a:=name) rfl ?_)
 refine vab (L0.at (vab (L3.at ?_)))
 dsimp only
 refine vae ?_
 dsimp only
 rw[ho]
 exact vae h
theorem zla{R:Result->Shared->Prop}{tk:Tok}{v:Value}(k:ExcK K C)(X:K.In s.heap)(I:InstAt s.heap x ox C od)(ha:findIn K (.ref C) name=some none)
 (h:∀b,wpAny (model prog w) A.in1 (Builtin.ObjectAttr.storeInOwnDict (.ref x) (.ref C) (.str name tk) name v b)
   (λfin s'=>match fin with|.done f=>R (.ok f) s'|.again c'=>c'.quiet=true/\codeAny (model prog w) A c' R s') (λe s'=>R (.error e) s') s) :
 codeAny (model prog w) A (.call (.builtin "object.__setattr__") ⟨[.ref x,.str name tk,v],[]⟩) R s:=by
 have SF:=PySem.F.store_object
 obtain⟨cd,hc,ho⟩:=any_some k.ov
 refine vdf SF.slot.plain SF.entry (@check_slot (model prog w) _ _ s "object.__setattr__" "object" "__setattr__" (.ref x) [.str name tk,v] [] _ SF.kind SF.split (zhx k X I (by decide +kernel)) (SF.args (.ref x) (.str name tk) v) ?_)
 have hm:Looks (model prog w) s.heap (mroOf (.ref C)) cd.mro:=(looks_clsIn X hc).andThen .now
 rw[osa_eq,refuse_eq]
 refine vab (vab (I.type.here (vab (hm.here ?_))))
 rw[zgw _ ho]
 refine vae (vab (I.type.here (vab ((looks_findIn X ha).here (vab ?_)))))
 exact vae (h _)
theorem exc_set0{v:Value}{vs:Array Value}{sl:Array (Option Value)}{Q:Unit->Shared->Prop}(k:ExcK K C)(X:K.In s.heap)(ho:s.heap.get? x=some ⟨.ref C,none,.fields vs,sl⟩)(ha:findIn K (.ref C) name=some none)
 (h:∀h' tk,h'.get? x=some ⟨.ref C,some s.heap.objs.size,.fields vs,sl⟩->h'.Ns1 s.heap.objs.size (λy=>if y=name then some v else none)->(∀b o,b≠x->s.heap.get? b=some o->h'.get? b=some o)->Q () {s with heap:=h',toks:=tk}) :
 wpAny (model prog w) A (setAttr (.ref x) name v) Q E s:=by
 have I:InstAt s.heap x ⟨.ref C,none,.fields vs,sl⟩ C none:=⟨ho,rfl,rfl,trivial⟩
 obtain⟨cd,hc,hd'⟩:=any_some k.hd
 refine set_plain X I k.sa (zla (s:={s with toks:=s.toks+1}) k X I ha λb=>?_)
 refine vab (vae (vab (vab (wpAny_loadPart ho (vab (Looks.here (s:={s with toks:=s.toks+1}) (looks_clsIn X hc) ?_))))))
 rw[hd']
 show wpAny (model prog w) A.in1 (do
  let d <-alloc {cls:=Value.type "dict",data:=Data.dict #[]}
  update x λo=>{cls:=o.cls,dict:=some d,data:=o.data,slots:=o.slots}
  dictMade (.ref C) x d) _ _ _
 have hx₁:(s.heap.push {cls:=.type "dict",data:=.dict #[]}).get? x=some ⟨.ref C,none,.fields vs,sl⟩:=vac _ ho
 have hxs:x≠s.heap.objs.size:=vau (vaj ho)
 refine vab (wpAny_alloc ?_)
 refine vab (wpAny_update hx₁ ?_)
 refine vae (a:=some s.heap.objs.size) ?_
 dsimp only
 generalize hH:((s.heap.push {cls:=Value.type "dict",data:=Data.dict #[]}).update x λo=>{cls:=o.cls,dict:=some s.heap.objs.size,data:=o.data,slots:=o.slots})=H1
 have hgd:H1.get? s.heap.objs.size=some {cls:=.type "dict",data:=.dict #[]}:=by
  rw[<-hH];exact(Heap.get?_update_ne _ _ _ _ hxs.symm).trans (Heap.get?_push_at rfl rfl)
 have hgx:H1.get? x=some ⟨.ref C,some s.heap.objs.size,.fields vs,sl⟩:=by
  rw[<-hH];exact vce _ hx₁ rfl
 have hgk:∀b o,b≠x->s.heap.get? b=some o->H1.get? b=some o:=λb o hb e=>by
  rw[<-hH];exact(Heap.get?_update_ne _ _ _ _ hb).trans (vac _ e)
 have hnd:H1.Ns s.heap.objs.size (λ_=>none):=⟨_,#[],_,hgd,rfl,λe he=>absurd he (by simp),λ_=>rfl⟩
 show wpAny _ _ (Builtin.ObjectAttr.storeInDict s.heap.objs.size (.str name s.toks) name v) _ _ _
 unfold Builtin.ObjectAttr.storeInDict Builtin.ObjectAttr.newKeyGuard
 refine vab (vae (vab (wpAny_nsSet1 (Heap.Ns1.of_empty hnd) λh' hn' hs=>?_)))
 obtain⟨oD,esD,epD,hoD,hdD,hcD⟩:=hn'.count (Within.cons name v Within.nil)
 refine vab (wpAny_lookBehind hoD (by rw[hdD];exact pastItsLine_dict (vas hcD (by rw[vam,vdw,vej];omega))) ?_)
 refine vae ?_
 exact h h' _ ((hs.2 x hxs).trans hgx) hn' λb o hb e=>(hs.2 b (vau (vaj e))).trans (hgk b o hb e)
theorem exc_set1{v:Value}{vs:Array Value}{sl:Array (Option Value)}{dx:Addr}{mA:Str->Option Value}{ns:List Str}{Q:Unit->Shared->Prop}(k:ExcK K C)(X:K.In s.heap)(ho:s.heap.get? x=some ⟨.ref C,some dx,.fields vs,sl⟩)
 (hn:s.heap.Ns1 dx mA) (hw:Within mA ns) (hz:ns.length<=1000) (ha:findIn K (.ref C) name=some none)
 (h:∀h' tk,h'.Ns1 dx (λy=>if y=name then some v else mA y)->Heap.SameBut dx s.heap h'->Q () {s with heap:=h',toks:=tk}) :
 wpAny (model prog w) A (setAttr (.ref x) name v) Q E s:=by
 obtain⟨od,hod,_⟩:=L2.zci hn
 have I:InstAt s.heap x ⟨.ref C,some dx,.fields vs,sl⟩ C (some od):=⟨ho,rfl,rfl,hod⟩
 obtain⟨cd,hc,hd'⟩:=any_some k.hd
 refine set_plain X I k.sa (zla (s:={s with toks:=s.toks+1}) k X I ha λb=>?_)
 refine vab (vae (vab (vab (wpAny_loadPart ho (vab (Looks.here (s:={s with toks:=s.toks+1}) (looks_clsIn X hc) ?_))))))
 rw[hd']
 refine vae (a:=some dx) ?_
 show wpAny _ _ (Builtin.ObjectAttr.storeInDict dx (.str name s.toks) name v) _ _ _
 unfold Builtin.ObjectAttr.storeInDict Builtin.ObjectAttr.newKeyGuard
 refine vab (vae (vab (wpAny_nsSet1 (s:={s with toks:=s.toks+1}) hn λh' hn' hs=>?_)))
 obtain⟨oD,esD,epD,hoD,hdD,hcD⟩:=hn'.count (Within.cons name v hw)
 refine vab (wpAny_lookBehind hoD (by rw[hdD];exact pastItsLine_dict (vas hcD (by rw[vam,vej];omega))) ?_)
 exact vae (h h' _ hn' hs)
end
end XL
namespace XL
open PySem PySem.W PySem.Spec PyProof.Rows
noncomputable abbrev bmV:List Value:=[.type "ValueError",.type "Exception",.type "BaseException",.type "object"]
noncomputable abbrev excObj(C:Addr)(dx:Option Addr)(t:Addr):Obj:={cls:=.ref C,dict:=dx,data:=.fields #[.ref t,.none,.none,.none,.bool false,.none]}
noncomputable def excCls(K:Frag)(C:Addr):Bool:=match K.lookup C with
 |some ⟨.type "type",_,.cls cd,sl⟩=>(match cd.mro,sl.toList with
  |.ref C'::bm,[_,_,_,_,some (.builtin n),_]=>C'==C&&n == "ValueError.__new__" && !cd.hasDel&&tailIn K bmV bm
  |_,_=>false)
 |_=>false
theorem excCls_of{K:Frag}{C:Addr}{h:Heap}(X:K.In h)(q:excCls K C=true) :
 ∃nm qn N bs bm hd sn sub ab col dd k0 k1 k2 k3 k5,h.get? C=some (excClassObj nm qn C N bs bm hd sn sub ab col dd k0 k1 k2 k3 k5 "ValueError.__new__")/\OwnTail h bmV bm:=by
 unfold excCls at q
 split at q
 .rename_i dd cd sl ho
  split at q
  .rename_i C' bm k0 k1 k2 k3 n k5 hm hs
   simp only[vaa,vb7,vd2]at q
   obtain⟨⟨⟨rfl,rfl⟩,hdel⟩,ht⟩:=q
   obtain⟨nm,bs,mro,ns,qn,hd,sn,sub,ab,col,del⟩:=cd
   dsimp only at hm hdel
   subst hm hdel
   have hsl:sl = #[k0,k1,k2,k3,some (.builtin "ValueError.__new__"),k5]:=by
    obtain⟨l⟩:=sl
    simp only at hs
    rw[hs]
   subst hsl
   exact⟨nm,qn,ns,bs,bm,hd,sn,sub,ab,col,dd,k0,k1,k2,k3,k5,X _ _ ho,tail_of_in X ht⟩
  .cases q
 .cases q
section
variable{prog:Program}{w:World}{A:Around}{s:Shared}{K:Frag}{C f:Addr}{rest:List Value}{R:Result->Shared->Prop}
theorem make_excI(X:K.In s.heap)(hc:excCls K C=true)(hi:findIn K (.ref C) "__init__" = some (some (.ref f)))(hf:typeIn K (.ref f)=some (.type "function"))(hz:rest.length<=sizeLine)
 (hq:codeAny (model prog w) (A.under (.builtin "type.__call__" ⟨.ref C::rest,[]⟩)) (.call (.ref f) ⟨.ref (s.heap.objs.size+1)::rest,[]⟩) (InitBack (s.heap.objs.size+1) R)
   {s with heap:=(s.heap.push {cls:=.type "tuple",data:=.seq rest.toArray}).push (excObj C none s.heap.objs.size)}) :
 codeAny (model prog w) A (.call (.ref C) ⟨rest,[]⟩) R s:=by
 obtain⟨h,g,d,t,os⟩:=s
 obtain⟨nm,qn,N,bs,bm,hdd,sn,sub,ab,col,dd,k0,k1,k2,k3,k5,hC,T⟩:=excCls_of X hc
 have F:=PySem.F.excBase_ValueError
 have f1:=tc_lookup
 have f2:=tc_bind (.ref C)
 have hT:(⟨h,g,d,t,os⟩:Shared).TypeIs (.ref C) "type":=⟨_,hC,rfl⟩
 refine codeAny_of_tree ?_
 show wpAny _ _ (callAny (.ref C) _) _ _ _
 repeat(any_goals (first|assumption|with_reducible refine vbh hC ?_|wp_step))
 refine⟨rfl,?_⟩
 refine codeAny_call_builtin_at (vdx _ (by decide +kernel)) entry_typeCall (wpAny_check_type_call_sub hC ?_)
 repeat(first|with_reducible refine vbh hC ?_|with_reducible refine wpAny_madeBy_exc hC ?_|wp_step)
 refine codeAny_call_builtin_code (vdx _ F.quiet) (wpAny_check_new_subT F T hC ?_)
 refine codeAny_exc_new_subT F T hC ?_ hz
 have kk:∀b o,h.get? b=some o->((h.push {cls:=.type "tuple",data:=.seq rest.toArray}).push (excObj C none h.objs.size)).get? b=some o:=λb o e=>vac _ (vac _ e)
 have i1:=(looks_findIn (M:=model prog w) X hi).keeps kk
 have b1:=(bind_fn (M:=model prog w) X (.ref (h.objs.size+1)) hf).keeps kk
 have hC1:=kk _ _ hC
 have hget:((h.push {cls:=.type "tuple",data:=.seq rest.toArray}).push (excObj C none h.objs.size)).get? (h.objs.size+1)=some (excObj C none h.objs.size):=by heap_get
 have hcC:(Value.ref C::bm).contains (.ref C)=true:=by simp
 show wpAny _ _ _ _ _ _
 unfold isInstance
 repeat(first|with_reducible refine vbh hget ?_|(with_reducible refine vbq hC1 ?_;rw[hcC])|wp_step)
 have t1:Looks (model prog w) ((h.push {cls:=.type "tuple",data:=.seq rest.toArray}).push (excObj C none h.objs.size)) (typeOf (.ref (h.objs.size+1))) (.ref C):=(Looks.ld hget).andThen .now
 refine vbq (h:=(h.push {cls:=.type "tuple",data:=.seq rest.toArray}).push (excObj C none h.objs.size)) hC1 ?_
 rw[hcC]
 simp only[vdy,vak,vbe]
 refine vab (vbd ?_)
 unfold callSpecial? specialOf
 refine vab (vab (t1.at (i1.at (vbd ?_))))
 refine vab (b1.at (vab (vda (vdp hq λr s' z=>?_))))
 rcases r with e|(v|_|_|_)<;>first|exact z|exact z.elim|skip
 obtain⟨e,z⟩:=z
 subst e
 exact vae (vae z)
theorem make_exc0{Q:Value->Shared->Prop}{E:Value->Shared->Prop}(X:K.In s.heap)(hc:excCls K C=true)(hi:findIn K (.ref C) "__init__" = some (some (.builtin "ValueError.__init__")))(hz:rest.length<=sizeLine)
 (hq:∀h' t,(∀b o,s.heap.get? b=some o->h'.get? b=some o)->h'.get? (s.heap.objs.size+1)=some (excObj C none t)->Q (.ref (s.heap.objs.size+1)) {s with heap:=h'}) :
 wpAny (model prog w) A (call (.ref C) rest) Q E s:=by
 refine vda ?_
 obtain⟨h,g,d,t,os⟩:=s
 obtain⟨nm,qn,N,bs,bm,hdd,sn,sub,ab,col,dd,k0,k1,k2,k3,k5,hC,T⟩:=excCls_of X hc
 have F:=PySem.F.excBase_ValueError
 have f1:=tc_lookup
 have f2:=tc_bind (.ref C)
 have hT:(⟨h,g,d,t,os⟩:Shared).TypeIs (.ref C) "type":=⟨_,hC,rfl⟩
 refine codeAny_of_tree ?_
 show wpAny _ _ (callAny (.ref C) _) _ _ _
 repeat(any_goals (first|assumption|with_reducible refine vbh hC ?_|wp_step))
 refine⟨rfl,?_⟩
 refine codeAny_call_builtin_at (vdx _ (by decide +kernel)) entry_typeCall (wpAny_check_type_call_sub hC ?_)
 repeat(first|with_reducible refine vbh hC ?_|with_reducible refine wpAny_madeBy_exc hC ?_|wp_step)
 refine codeAny_call_builtin_code (vdx _ F.quiet) (wpAny_check_new_subT F T hC ?_)
 refine codeAny_exc_new_subT F T hC ?_ hz
 have kk:∀b o,h.get? b=some o->((h.push {cls:=.type "tuple",data:=.seq rest.toArray}).push (excObj C none h.objs.size)).get? b=some o:=λb o e=>vac _ (vac _ e)
 have i1:=(looks_findIn (M:=model prog w) X hi).keeps kk
 have hC1:=kk _ _ hC
 have hget:((h.push {cls:=.type "tuple",data:=.seq rest.toArray}).push (excObj C none h.objs.size)).get? (h.objs.size+1)=some (excObj C none h.objs.size):=by heap_get
 have hcC:(Value.ref C::bm).contains (.ref C)=true:=by simp
 show wpAny _ _ _ _ _ _
 unfold isInstance
 repeat(first|with_reducible refine vbh hget ?_|(with_reducible refine vbq hC1 ?_;rw[hcC])|wp_step)
 have t1:Looks (model prog w) ((h.push {cls:=.type "tuple",data:=.seq rest.toArray}).push (excObj C none h.objs.size)) (typeOf (.ref (h.objs.size+1))) (.ref C):=(Looks.ld hget).andThen .now
 refine vbq (h:=(h.push {cls:=.type "tuple",data:=.seq rest.toArray}).push (excObj C none h.objs.size)) hC1 ?_
 rw[hcC]
 simp only[vdy,vak,vbe]
 refine vab (vbd ?_)
 unfold callSpecial? specialOf
 refine vab (vab (t1.at (i1.at (vbd ?_))))
 refine vab (vdl (F.init.bind _) ?_)
 refine vab (vda (vdf F.init.plain F.initEntry (wpAny_check_init_subT F (T.keeps kk) hC1 hget rfl ?_)))
 wp_walk
 refine hq _ (h.objs.size+2) (λb o hb=>?_) ?_
 .rw[vbx _ _ (vbp (vd1 (vaj hb)))]
  exact vac _ (kk b o hb)
 .rw[vce _ (vac _ hget) rfl]
  simp only[vb1]
  rfl
end
end XL
namespace XL
open PySem PySem.W PySem.Spec PyProof.Rows
structure ExcI(K:Frag)(C:Addr):Prop extends ExcK K C where
 ca:findIn K (.ref C) "__class__" = some (some (.builtin "object.__class__"))
 hn:specialIn K (.builtin "object.__class__") "__get__" = some (some (.builtin "getset_descriptor.__get__"))
 htk:takesIn K (.builtin "object.__class__")=some true
section
variable{prog:Program}{w:World}{A:Around}{E:Value->Shared->Prop}{s:Shared}{K:Frag}{x C:Addr}{ox:Obj}{od:Option Obj}{name:Str}{expr:Bool}
theorem ExcI.mro(k:ExcI K C):mroIn K C (.type "object")=some true:=by
 obtain⟨cd,hc,ho⟩:=any_some k.ov
 have ne:cd.mro.isEmpty=false:=by cases q:cd.mro with|nil=>rw[q]at ho;cases ho|cons _ _=>rfl
 unfold mroIn
 rw[hc,vdi,if_neg (by rw[ne];decide),zk9 (by decide +kernel) ho]
theorem zlb{Q:Option Value->Shared->Prop}(k:ExcI K C)(X:K.In s.heap)(I:InstAt s.heap x ox C od)(h:Q (some (.ref C)) {s with toks:=s.toks+1}):wpAny (model prog w) A (getAttr? (.ref x) "__class__") Q E s:=by
 have hf:findObj K C od "__class__" = some (.bind (.builtin "getset_descriptor.__get__") (.builtin "object.__class__")):=by
  obtain⟨cd,hc,_⟩:=any_some k.hd
  unfold findObj
  rw[hc,vdi,k.ca,vdi]
  simp only[k.hn,k.htk,vdi]
 have S:=zhx (prog:=prog) (w:=w) k.toExcK X I (T:="BaseException") (by decide +kernel)
 obtain⟨h0,g,d,t,os⟩:=s
 have L0:=I.type (M:=model prog w)
 have L1:=looks_findIn (M:=model prog w) X k.ga
 have L2:=looks_findIn (M:=model prog w) X k.gt
 have L3:=looks_find (M:=model prog w) X I hf
 have hx1:(onTheHeap (Value.ref C)&&Value.builtin "BaseException.__getattribute__" == Value.builtin "object.__getattribute__")=false:=by
  rw[show(Value.builtin "BaseException.__getattribute__" == Value.builtin "object.__getattribute__")=false from by decide +kernel];rfl
 unfold getAttr?
 refine vab (wpAny_mkText ?_)
 unfold getAttrBy?
 refine vab (vd9 ?_)
 unfold getAttrBy
 refine vbd (vab (L0.at (vab (L1.at ?_))))
 dsimp only
 rw[hx1]
 simp only[vak,vbe]
 unfold getAttrByItsOwn hookBefore
 refine vab ?_
 rw[if_pos (show onTheHeap (Value.ref C)=true from rfl)]
 refine L2.at ?_
 refine vab (vd9 (vbd ?_))
 unfold callGetattribute
 simp only[vdg,vak,vbe]
 unfold boundAndCalled
 rw[vcm.ga.bind (.ref x)]
 refine vab (vae ?_)
 show wpAny (model prog w) A (call (.builtin "BaseException.__getattribute__") [.ref x,.str "__class__" t]) _ _ _
 have hk:builtinKind "BaseException.__getattribute__" = some .slot:=by decide +kernel
 have hsp:splitId "BaseException.__getattribute__" = some ("BaseException","__getattribute__"):=by decide +kernel
 refine vda (vdf vcm.ga.plain PySem.F.entry_bexc_ga ?_)
 refine @check_slot (model prog w) _ _ ⟨h0,g,d,t+1,os⟩ "BaseException.__getattribute__" "BaseException" "__getattribute__" (.ref x) [.str "__class__" t] [] _ hk hsp S (PySem.F.args_bexc_ga _ _) ?_
 unfold Builtin.«object.__getattribute__»
 refine vab (vdl (a:=(Value.ref x,[Value.str "__class__" t])) rfl ?_)
 dsimp only
 refine vab (vdl (a:=("__class__" : Str)) rfl ?_)
 refine vab (L0.at (vab (L3.at ?_)))
 dsimp only
 show wpAny _ _ (holding [.builtin "object.__class__"] (call (.builtin "getset_descriptor.__get__") [.builtin "object.__class__",.ref x,.ref C]) >>= ret) _ _ _
 refine vab (vbd (vda (class_get (s:=⟨h0,g,d,t+1,os⟩) (ox:=ox) (od:=od) X I k.mro ?_)))
 dsimp only
 refine vae ?_
 dsimp only
 exact handed_on rfl (vae h)
theorem kitx_exc(k:ExcI K C):KitX K (.ref x) (.ref C) (λh=>InstAt h x ox C od)where
 ty:=λ_ _ _ I=>I.type
 it:=λ_ _ X _=>by
  obtain⟨cdD,hcD,_⟩:=any_some k.hd
  unfold clsIn at hcD
  split at hcD
  .rename_i c' d' cd' sl' ho
   intro A' Q' E' s' kk q
   unfold isType loadHead
   exact vab (wpAny_loadPart (kk _ _ (X _ _ ho)) (vae q))
  .cases hcD
 ne:=λh tp dd its n sl X htp=>by
  obtain⟨cdD,hcD,_⟩:=any_some k.hd
  refine Bool.eq_false_iff.mpr λq=>?_
  have e:C=tp:=Value.ref.inj (vb7.mp q)
  subst e
  unfold clsIn at hcD
  split at hcD
  .rename_i c' d' cd' sl' ho
   have z:=(X _ _ ho).symm.trans htp
   cases z
  .cases hcD
 ca:=λX I q=>zlb k X I q
end
end XL
namespace L2
open PySem PySem.Spec PyProof.Rows
noncomputable def excH(C:Addr)(dx:Option Addr)(a:Addr):HO:=.ext λh=>∃t,h.get? a=some (XL.excObj C dx t)
noncomputable def xdH(fs:List (Str×V))(dx:Addr):HO:=.ext λh=>∃mA,h.Ns1 dx mA/\(∀f,RelO (fs.lookup f) (mA f))/\PySem.Within mA (fs.map (·.1))/\fs.length<=1000
section
variable{P:Program}{w:World}{H:Hp}{h:Heap}{a C dx:Addr}{o:Option Addr}{t:Addr}{fs:List (Str×V)}
theorem zlc(e:h.get? a=some (XL.excObj C o t)):ObjOk P w H h a (excH C o a):=⟨⟨t,e⟩,⟨_,e⟩,λ_ _ ⟨t',q⟩ k=>⟨t',k _ q⟩⟩
theorem zhy(ok:HOk P w H h)(e:H a=some (excH C o a)):∃t,h.get? a=some (XL.excObj C o t):=(ok a _ e).1
theorem zpe{mA:Str->Option Value}(n:h.Ns1 dx mA)(r:∀f,RelO (fs.lookup f) (mA f))(wi:PySem.Within mA (fs.map (·.1)))(l:fs.length<=1000):ObjOk P w H h dx (xdH fs dx):=by
 refine⟨⟨mA,n,r,wi,l⟩,let⟨o,_,_,e,_⟩:=n;⟨o,e⟩,?_⟩
 rintro h1 h2 ⟨m,n1,r1,w1,l1⟩ k
 exact⟨m,n1.at λo q=>k o q,r1,w1,l1⟩
theorem zld(ok:HOk P w H h)(e:H dx=some (xdH fs dx)):∃mA,h.Ns1 dx mA/\(∀f,RelO (fs.lookup f) (mA f))/\PySem.Within mA (fs.map (·.1))/\fs.length<=1000:=(ok dx _ e).1
end
section
variable{X:Cx}{CX:CXT}{k:Nat}{f C:Addr}{fd:FuncData}{ps:List Str}{sp:Sp}{E:XK}{x:Str}{p pos:Pos}{e:Expr}{es:List Expr}{t:TA}
structure MkE(K:PySem.W.Frag)(C:Addr):Prop where
 cls:XL.excCls K C=true
 init:PySem.W.findIn K (.ref C) "__init__" = some (some (.builtin "ValueError.__init__"))
 kp:PySem.W.keepIn K (.ref C)=true
structure MkI(K:PySem.W.Frag)(C f:Addr):Prop where
 cls:XL.excCls K C=true
 init:PySem.W.findIn K (.ref C) "__init__" = some (some (.ref f))
 fn:PySem.W.isFn K (.ref f)=true
 kp:PySem.W.keepIn K (.ref C)=true
end
section
variable{X:Cx}{o e value:Expr}{f:Str}{pos pos':Pos}{ta tv:TE}
noncomputable def sXFld(K:PySem.W.Frag)(ta tv:TE)(f:Str):TS:=λD σ H=>tv σ H λy H1=>ta σ H1 λx H2=>∃a C,x=.ref a/\XL.ExcK K C/\zgl K C f/\
 ((H2 a=some (excH C none a)/\∀dx,H2 dx=none->D.nx σ (upd (upd H2 dx (xdH [(f,y)] dx)) a (excH C (some dx) a)))\/
  ∃dx fs,H2 a=some (excH C (some dx) a)/\H2 dx=some (xdH fs dx)/\fs.length<1000/\D.nx σ (upd H2 dx (xdH (putF f y fs) dx)))
theorem zle(ha:PE X o ta)(hv:PE X value tv)(hs:swapsWith value (some (.Attribute o f pos')) pos.line X.env=pure false):PS X (.Assign [.Attribute o f pos'] value pos) (sXFld X.K ta tv f):=by
 intro pins s σ H D I h
 refine plainObj_wpAny_Assign_Attribute (thn (hv pins s σ H _ I h) λu s1 z9=>z9.el λy H1 I1 ry q=>thn (ha pins s1 σ H1 _ I1 q) λov s2 z9=>z9.el λx H2 I2 rx ⟨a,C,ex,kk,n,alt⟩=>?_) hs
 subst ex
 obtain rfl:ov=Value.ref a:=rx
 rcases alt with⟨ea,q2⟩|⟨dx,fs,ea,ed,hl,q2⟩
 .obtain⟨t,ht⟩:=zhy I2.hok ea
  refine XL.exc_set0 kk I2.kIn ht n λh' tk hx hn kp=>⟨σ,_,?_,q2 s2.heap.objs.size (I2.hok.fresh (vad _))⟩
  have hne:a≠s2.heap.objs.size:=vau (vaj ht)
  have hself:(h'.update a λ_=>XL.excObj C none t).get? a=some (XL.excObj C none t):=vce _ hx rfl
  have hother:∀b,b≠a->(h'.update a λ_=>XL.excObj C none t).get? b=h'.get? b:=λb hb=>Heap.get?_update_ne _ _ _ _ hb
  have hn1:(h'.update a λ_=>XL.excObj C none t).Ns1 s2.heap.objs.size (λg=>if g=f then some u else none):=hn.at λo q=>(hother _ (vbo hne)).trans q
  have I3:=I2.laid (h':=h'.update a λ_=>XL.excObj C none t) (t':=tk) (o:=xdH [(f,y)] s2.heap.objs.size) (λb q z=>by
   by_cases hb:b=a
   .subst hb;rw[ht]at z;cases z;exact hself
   .exact(hother b hb).trans (kp b q hb z)) (vad _) (zpe hn1 (λg=>by
    show RelO (List.lookup g [(f,y)]) (if g=f then some u else none)
    by_cases q:g=f
    .subst q;simp only[vax,beq_self_eq_true,vbk];exact ry
    .have q':(g==f)=false:=by simpa using q
     simp only[vax,q',List.lookup_nil,q,vbe];trivial) (λg hg=>by
    by_cases q:g=f
    .simp[q]
    .exact absurd (if_neg q) hg) (by simp))
  exact I3.write (h':=h') (t':=tk) (x:=a) (e:=a) (by rw[zae hne,ea];exact True.intro) (.inl rfl) (λb q hb z=>(hother b hb).symm.trans z) ⟨_,hx⟩ (zlc hx)
 .obtain⟨t,ht⟩:=zhy I2.hok ea
  obtain⟨mA,n1,r1,w1,l1⟩:=zld I2.hok ed
  refine XL.exc_set1 kk I2.kIn ht n1 w1 (by rw[vaf];exact l1) n λh' tk hn hs'=>⟨σ,_,?_,q2⟩
  refine I2.write (x:=dx) (e:=dx) (by rw[ed];exact True.intro) (.inl rfl) (λb q hb z=>(hs'.2 b hb).trans z) (let⟨o,_,_,e',_⟩:=hn;⟨o,e'⟩) (zpe hn (λg=>?_) (λg hg=>?_) ?_)
  .show RelO ((putF f y fs).lookup g) (if g=f then some u else mA g)
   rw[zdx]
   by_cases q:g=f
   .rw[if_pos q,if_pos q];exact ry
   .rw[if_neg q,if_neg q];exact r1 g
  .by_cases q:g=f
   .rw[q];exact(zdy f y fs).1
   .refine(zdy f y fs).2 g (w1 g λz=>hg ?_)
    show(if g=f then some u else mA g)=none
    rw[if_neg q];exact z
  .have:=zdz f y fs;omega
noncomputable def tyVal:V->Option Value
 |.ty n=>some (.type n)
 |.ref a=>some (.ref a)
 |_=>none
end
mutual
inductive Rp(K:PySem.W.Frag)(M:Addr->Prop)(H:Hp):V->PyData->Prop
 |non:Rp K M H .non .none
 |bl (b:Bool):Rp K M H (.bl b) (.bool b)
 |int (i:Int):Rp K M H (.int i) (.int i)
 |str (x:Str):Rp K M H (.str x) (.str x)
 |tup {a:Addr} {xs:List V} {ds:List PyData}:SqT K H a xs->¬M a->Rps K M H xs ds->Rp K M H (.ref a) (.tuple ds)
 |lst {a:Addr} {xs:List V} {ds:List PyData}:SqL K H a xs->¬M a->Rps K M H xs ds->Rp K M H (.ref a) (.list ds)
inductive Rps(K:PySem.W.Frag)(M:Addr->Prop)(H:Hp):List V->List PyData->Prop
 |nil:Rps K M H [] []
 |cons {x:V} {d:PyData} {xs:List V} {ds:List PyData}:Rp K M H x d->Rps K M H xs ds->Rps K M H (x::xs) (d::ds)
end
section
variable{X:Cx}{pins:List (Addr×Obj)}{σ:St}{H:Hp}{s:Shared}{M:Addr->Prop}
mutual
theorem Rp.reads(I:Inv X pins σ H s):∀{x:V} {d:PyData} {u:Value},Rp X.K M H x d->RelV x u->∃as,Reads s.heap u d as
 |_,_,_,.non,r=>by cases r;exact⟨_,.none⟩
 |_,_,_,.bl b,r=>by cases r;exact⟨_,.bool b⟩
 |_,_,_,.int i,r=>by obtain⟨t,rfl⟩:=r;exact⟨_,.int i t⟩
 |_,_,_,.str x,r=>by obtain⟨t,rfl⟩:=r;exact⟨_,.str x t⟩
 |_,_,_,.tup h n rr,r=>by
  cases r
  obtain⟨its,rv,p,_⟩:=I.tuple h
  obtain⟨o,ho,hc,m,hd⟩:=p
  obtain⟨as,ra⟩:=Rps.reads I rr rv
  exact⟨_,.tuple ho hc hd (by simpa using ra)⟩
 |_,_,_,.lst h n rr,r=>by
  cases r
  obtain⟨its,rv,p,_⟩:=I.list h
  obtain⟨o,m,ho,hc,_,hd⟩:=p
  obtain⟨as,ra⟩:=Rps.reads I rr rv
  exact⟨_,.list ho hc hd (by simpa using ra)⟩
theorem Rps.reads(I:Inv X pins σ H s):∀{xs:List V} {ds:List PyData} {us:List Value},Rps X.K M H xs ds->Vals xs us->∃as,ReadsAll s.heap us ds as
 |_,_,_,.nil,.nil=>⟨_,.nil⟩
 |_,_,_,.cons r t,.cons q v=>by
  obtain⟨as,h1⟩:=Rp.reads I r q
  obtain⟨bs,h2⟩:=Rps.reads I t v
  exact⟨_,.cons h1 h2⟩
end
noncomputable def rEqD(K:PySem.W.Frag):R2:=λx y H Q=>∃d e,Rp K (λ_=>False) H x d/\Rp K (λ_=>False) H y e/\SeqAt.shaped d=true/\SeqAt.shaped e=true/\Q (.bl (PyData.eqv d e)) H
noncomputable def rNeD(K:PySem.W.Frag):R2:=λx y H Q=>∃d e,Rp K (λ_=>False) H x d/\Rp K (λ_=>False) H y e/\SeqAt.shaped d=true/\SeqAt.shaped e=true/\Q (.bl (!PyData.eqv d e)) H
theorem ztt(hu:X.A.units+64<cLine):OpR X (compareOp .Eq) (rEqD X.K):=by
 intro pins s σ H x y v u Q I rx ry h
 obtain⟨d,e,r1,r2,s1,s2,q⟩:=h
 obtain⟨as,ra⟩:=r1.reads I rx
 obtain⟨bs,rb⟩:=r2.reads I ry
 exact PyProof.Rows.eq_dataH ra rb s1 s2 hu ⟨.bl _,H,I,rfl,q⟩
theorem ztu(hu:X.A.units+64<cLine):OpR X (compareOp .NotEq) (rNeD X.K):=by
 intro pins s σ H x y v u Q I rx ry h
 obtain⟨d,e,r1,r2,s1,s2,q⟩:=h
 obtain⟨as,ra⟩:=r1.reads I rx
 obtain⟨bs,rb⟩:=r2.reads I ry
 exact PyProof.Rows.ne_dataH ra rb s1 s2 hu ⟨.bl _,H,I,rfl,q⟩
end
section
variable{prog:Program}{w:World}{A:Around}{E:Value->Shared->Prop}{s:Shared}
theorem zev{I t:Addr}{k:Nat}{its:Array Value}{y:Value}{Q:Value->Shared->Prop}(hi:s.heap.IsTupleIter I t k)(ht:s.heap.IsTuple t its)(hy:its[k]?=some y)
 (q:∀g,g.IsTupleIter I t (k+1)->Heap.SameBut I s.heap g->Q y {s with heap:=g}):wpAny (model prog w) A (Builtin.SmallTypes.nextOf (.ref I)) Q E s:=by
 obtain⟨oi,e1,e2,e3⟩:=id hi
 obtain⟨ot,e4,_,kt,e5⟩:=ht
 unfold Builtin.SmallTypes.nextOf
 refine vab (vbs (name:=Str.ofString "__next__") hi.typeIs vcn (vco vcn hi.typeIs F.entry_tuple_iterator_next ?_ (F.args_tuple_iterator_next_1 _)))
 show wpAny _ _ (field (.ref I) 0 >>= _) _ _ s
 refine vab (va9 e1 e3 (x:=.ref t) rfl ?_)
 show wpAny _ _ (if(Value.ref t==Value.none)=true then _ else _) _ _ s
 rw[if_neg (show ¬((Value.ref t==Value.none)=true)from λz=>nomatch z)]
 show wpAny _ _ (field (.ref I) 1 >>= _) _ _ s
 refine vab (va9 e1 e3 (x:=.int k 0) rfl ?_)
 show wpAny _ _ (seqItems? (.ref t) >>= _) _ _ s
 refine vab (vcs e4 e5 ?_)
 simp only[vcx,hy]
 refine vab (vd4 e1 e3 (by simp) (vae ⟨y,rfl,vae (q _ ?_ (Heap.SameBut.update ..))⟩))
 refine⟨_,vce _ e1 (Obj.isFreed_of_fields (Obj.data_mapFields e3 _)),(Obj.cls_mapFields ..).trans e2,?_⟩
 rw[Obj.data_mapFields e3]
 simp[rawInt]
theorem zd7{I t:Addr}{k:Nat}{its:Array Value}{Q:Value->Shared->Prop}(hA:A.handled=none)(hi:s.heap.IsTupleIter I t k)(ht:s.heap.IsTuple t its)(hy:its[k]?=none)
 (q:∀g e,Heap.ExtBut I s.heap g->(∃o,g.get? e=some o/\o.cls=.type "StopIteration")->E (.ref e) {s with heap:=g}):wpAny (model prog w) A (Builtin.SmallTypes.nextOf (.ref I)) Q E s:=by
 obtain⟨oi,e1,e2,e3⟩:=id hi
 obtain⟨ot,e4,_,kt,e5⟩:=ht
 unfold Builtin.SmallTypes.nextOf
 refine vab (vbs (name:=Str.ofString "__next__") hi.typeIs vcn (vco vcn hi.typeIs F.entry_tuple_iterator_next ?_ (F.args_tuple_iterator_next_1 _)))
 show wpAny _ _ (field (.ref I) 0 >>= _) _ _ s
 refine vab (va9 e1 e3 (x:=.ref t) rfl ?_)
 show wpAny _ _ (if(Value.ref t==Value.none)=true then _ else _) _ _ s
 rw[if_neg (show ¬((Value.ref t==Value.none)=true)from λz=>nomatch z)]
 show wpAny _ _ (field (.ref I) 1 >>= _) _ _ s
 refine vab (va9 e1 e3 (x:=.int k 0) rfl ?_)
 show wpAny _ _ (seqItems? (.ref t) >>= _) _ _ s
 refine vab (vcs e4 e5 ?_)
 simp only[vcx,hy]
 refine vab (wpAny_rule (vab (vd4 e1 e3 (by simp) ?_)))
 show wpAny _ _ (newExc (.type "StopIteration") [] >>= _) _ _ _
 refine vab ?_
 simp only[newExc,newTuple]
 refine vab (vbg ?_ (by size_fits))
 refine vab (m:=firstArgMember _ _) (vdl (a:=Value.none) (by first|rfl|(simp only[firstArgMember];rfl)) ?_)
 refine vbg ?_ (by size_fits)
 simp only[raiseNew]
 refine vab (wpAny_handled ?_)
 first|rw[show A.in1.handled=none from hA]|rw[hA]
 refine vab (vae (wpAny_throw ?_))
 exact q _ _ (((Heap.SameBut.update ..).extBut.push _).push _) ⟨_,vat _ rfl,rfl⟩
end
theorem zis{h h':Heap}{a:Addr}{its:Array Value}(x:h.IsTuple a its)(e:∀o,h.get? a=some o->h'.get? a=some o):h'.IsTuple a its:=let⟨o,ho,r⟩:=x;⟨o,e _ ho,r⟩
theorem ztv{prog:Program}{w:World}{A:Around}(hA:A.handled=none)(I t:Addr)(hne:t≠I)(its:Array Value) :
 Draws prog w A I [I,t] its.size (λi v=>its[i]?=some v) (λi h=>h.IsTupleIter I t i/\h.IsTuple t its)where
 live:=λ_ _ st=>let⟨o,ho,_⟩:=st.1;⟨o,ho⟩
 frame:=λ_ _ _ st hk=>⟨st.1.at λo e=>hk I (by simp) o e,zis st.2 λo e=>hk t (by simp) o e⟩
 item:=λi s Q E hi st q=>zev st.1 st.2 (y:=its[i]) (by simp[hi]) λg a b=>q _ g s.toks (by simp[hi]) ⟨a,st.2.extBut b.extBut hne⟩ b
 done:=λs Q E st q=>zd7 hA st.1 st.2 (by simp) q
theorem zhz(l:Addr)(its:Array Value)(n:Nat)(dc:Option Addr)(sl:Array (Option Value)) :
 Meets (Builtin.«enumerate.__new__» ⟨[.type "enumerate",.ref l],[]⟩) (λ_ R s=>s.heap.get? l=some {cls:=.type "tuple",dict:=dc,data:=.seq its n,slots:=sl}/\
  R (.ok (.ret (.ref (s.heap.push {cls:=.type "tuple_iterator",data:=.fields #[.ref l,.int 0 0]}).objs.size)))
   {s with heap:=(s.heap.push {cls:=.type "tuple_iterator",data:=.fields #[.ref l,.int 0 0]}).push {cls:=.type "enumerate",data:=.fields #[.none,.bool false,.ref s.heap.objs.size,rawInt 0,.none,.none]}}):=
 .of_wp λprog w A R s h=>by
  obtain⟨hp,g,d,tk,os⟩:=s
  obtain⟨e,h⟩:=h
  have hsub:=sub_enumerate
  have hT:Heap.IsTuple (Shared.heap ⟨hp,g,d,tk,os⟩) l its:=⟨_,e,rfl,n,rfl⟩
  wp_walk using va3 e
  refine wpAny_stack_any λst=>vae ?_
  split
  .rename_i c _ _ _ _ _
   cases(c==Value.type "enumerate")<;> (wp_walk using va3 e,vci hT;exact⟨_,rfl,h⟩)
  .wp_walk using va3 e,vci hT
   exact⟨_,rfl,h⟩
theorem zj2{prog:Program}{w:World}{A:Around}{E:Value->Shared->Prop}{s:Shared}{l:Addr}{its:Array Value}{Q:Value->Shared->Prop}(hL:s.heap.IsTuple l its)
 (h:∀g,IsEnum g (s.heap.objs.size+1) s.heap.objs.size 0 .none->g.IsTupleIter s.heap.objs.size l 0->g.objs.size=s.heap.objs.size+2->(∀b o,s.heap.get? b=some o->g.get? b=some o)->Q (.ref (s.heap.objs.size+1)) {s with heap:=g}) :
 wpAny (model prog w) A (call (.type "enumerate") [.ref l]) Q E s:=by
 obtain⟨⟨c,dc,dt,sl⟩,e1,e2,n,e3⟩:=hL
 replace e2:c=.type "tuple":=e2
 replace e3:dt=.seq its n:=e3
 subst e2 e3
 refine callType_new F.called_enumerate (by decide) (F.typeCall_enumerate_1 _) (F.newCall_enumerate_1 _) (λobj=>F.args_object_init_2 obj _) F.entry_enumerate_new (zhz l its n dc sl) ⟨e1,?_⟩
 have hz:(s.heap.push {cls:=.type "tuple_iterator",data:=.fields #[.ref l,.int 0 0]}).objs.size=s.heap.objs.size+1:=vb1 ..
 show _/\_
 rw[hz]
 have he:IsEnum ((s.heap.push {cls:=.type "tuple_iterator",data:=.fields #[.ref l,.int 0 0]}).push {cls:=.type "enumerate",data:=.fields #[.none,.bool false,.ref s.heap.objs.size,rawInt 0,.none,.none]}) (s.heap.objs.size+1) s.heap.objs.size 0 .none:=by
  rw[<-hz]
  exact vat _ rfl
 exact⟨⟨_,he,rfl⟩,h _ he ⟨_,vac _ (vat _ rfl),rfl,rfl⟩ (by rw[vb1,hz]) λb o x=>vac _ (vac _ x)⟩
noncomputable def IteT(K:PySem.W.Frag)(a:Addr):It:=
 ⟨λi H=>∃xs x,SqT K H a xs/\xs[i]?=some x,λi H x H'=>∃T v,x=.ref T/\H T=none/\H'=upd H T (.tup [.int i,v])/\∀xs,SqT K H a xs->xs[i]?=some v,λi H=>∃xs,SqT K H a xs/\xs.length<=i⟩
theorem zj3{P:Program}{w:World}{K:PySem.W.Frag}{elts:List Expr}{kx:Nat}{tp:Pos}(a e it:Addr)(hei:e≠it)(hae:a≠e)(hai:a≠it) :
 Turn P w K (.Tuple elts kx tp) (IteT K a) [e,it] e (λi h=>(∃old,IsEnum h e it i old)/\h.IsTupleIter it a i)where
 mem:=by simp
 obj:=λi h st b hb=>by
  obtain⟨⟨old,he⟩,o,ho,hc,hd⟩:=st
  rcases va0.mp hb with rfl|hb
  .exact⟨_,he,λv z=>by
    have z':Data.fields _=Data.cell v:=z
    cases z'⟩
  .have e':b=it:=by simpa using hb
   subst e'
   exact⟨o,ho,λv z=>by rw[hd]at z;cases z⟩
 keep:=λi h h' st k=>by
  obtain⟨⟨old,he⟩,st⟩:=st
  exact⟨⟨old,k e (by simp) _ he⟩,st.at λo q=>k it (by simp) o q⟩
 item:=by
  intro X hP hw hK hc i pins s σ H E I hf st hg
  subst hP hw hK
  obtain⟨xs,x,hq,hx⟩:=hg
  obtain⟨⟨old,he⟩,st⟩:=st
  obtain⟨its,rv,p,hz⟩:=I.tuple hq
  obtain⟨u,hu,ru⟩:=rv.get hx
  have hd:X.A.in1.handled=none:=I.ok.hd hc
  have p:s.heap.IsTuple a its.toArray:=p
  refine wpAny_pyNext_enum_itemD (ztv hd it a hai its.toArray) he ⟨st,p⟩ (by
   have:i<its.length:=by
    rw[<-rv.length]
    exact(van.mp hx).1
   simpa using this) hei (by simp[hei,vbo hae]) λx' h1 tk hx' ho hit hT hsz hk=>?_
  obtain rfl:u=x':=by
   have:its[i]?=some x':=by simpa using hx'
   rw[hu]at this
   cases this;rfl
  refine⟨_,rfl,wpAny_letOwnedTupleGo_enum ho λh2 he2 hs2=>?_⟩
  have hTn:H s.heap.objs.size=none:=I.hok.fresh (vad _)
  have hTe:s.heap.objs.size≠e:=vbp (vaj he)
  have hTi:s.heap.objs.size≠it:=by
   obtain⟨o,q,_⟩:=st
   exact vbp (vaj q)
  have hs2:Heap.SameBut e h1 h2:=hs2
  have kk:∀b o,b≠e->b≠it->s.heap.get? b=some o->h2.get? b=some o:=λb o h1 h2 q=>(hs2.2 b h1).trans (hk b o h1 h2 q)
  have f0:=λb hb=>(hf b hb).1
  have nE:∀b o,H b=some o->b≠e/\b≠it:=λb o q=>⟨λz=>(by rw[z,f0 e (by simp)]at q;cases q),λz=>(by rw[z,f0 it (by simp)]at q;cases q)⟩
  have hT2:h2.get? s.heap.objs.size=some {cls:=.type "tuple",data:=.seq #[.int i tk,u]}:=(hs2.2 _ hTe).trans hT
  have I2:Inv X pins σ (upd H s.heap.objs.size (.tup [.int i,x])) {s with heap:=h2,gens:=s.gens,drawn:=s.drawn,toks:=tk+1}:=by
   refine I.step (ch:=[e,it]) (λb hb=>?_) (λb o _ _ hc e1 _=>kk b o (λz=>hc (by simp[z])) (λz=>hc (by simp[z])) e1) (λb o _ _ hc e1 _=>⟨o.slots,kk b o (λz=>hc (by simp[z])) (λz=>hc (by simp[z])) e1⟩)
    (λb o hc e1 n=>by rw[zae (vau (vaj e1))];exact n) (λb o hc e1=>⟨o,kk b o (λz=>hc (by simp[z])) (λz=>hc (by simp[z])) e1⟩)
    (λb ys q=>by rw[zae (zaf q hTn)];exact q) (λb o u q=>by rw[zae (zaf q hTn)];exact q) (λb ps q=>⟨#[],by rw[zae (zaf q hTn),q];simp⟩) (λm hm=>?_) (λb ob q=>?_) I.bare
   .obtain⟨_,a1,a2,a3,a4,a5⟩:=hf b hb
    exact⟨a3,a1,a4,a5⟩
   .obtain⟨o,es,ep,ho',r⟩:=hm
    exact⟨o,es,ep,kk _ o (vbo (hf e (by simp)).2.1) (vbo (hf it (by simp)).2.1) ho',r⟩
   .by_cases hb:b=s.heap.objs.size
    .subst hb
     rw[zag]at q;cases q
     exact⟨by show 2<=sizeLine;decide,[.int i tk,u],.cons ⟨_,rfl⟩ (.cons ru .nil),⟨_,hT2,rfl,⟨_,rfl⟩,rfl⟩⟩
    .rw[zae hb]at q
     refine(I.hok b ob q).stay (λc v hc z=>kk c v ?_ ?_ z) (λc z=>by rw[zae (zaf z hTn)];exact z) λc ys z=>by rw[zae (zaf z hTn)];exact z
     .rcases hc with rfl|hc
      .exact(nE c ob q).1
      .exact(nE c _ hc).1
     .rcases hc with rfl|hc
      .exact(nE c ob q).2
      .exact(nE c _ hc).2
  refine⟨.ref s.heap.objs.size,_,I2,rfl,⟨_,x,rfl,hTn,rfl,λys hy=>by rw[I.tuple_inj hy hq];exact hx⟩,⟨⟨u,by simpa using he2⟩,hit.1.at λo q=>(hs2.2 it (vbo hei)).trans q⟩,λb hb=>?_⟩
  rw[zae ?_]
  .exact f0 b hb
  .rcases va0.mp hb with rfl|hb
   .exact vbo hTe
   .have e':b=it:=by simpa using hb
    subst e'
    exact vbo hTi
 done:=by
  intro X hP hw hK hc i pins s σ H E I hf st hg
  subst hP hw hK
  obtain⟨xs,hq,hx⟩:=hg
  obtain⟨⟨old,he⟩,st⟩:=st
  obtain⟨its,rv,p,hz⟩:=I.tuple hq
  obtain⟨f0,f1,f2,f3,f4,f5⟩:=hf it (by simp)
  have hl:=rv.length
  have hd:X.A.in1.handled=none:=I.ok.hd hc
  have p:s.heap.IsTuple a its.toArray:=p
  refine PySem.wpAny_pyNext_enum_endD (n:=0) (P:=λ_ _=>True) (St:=λ_ h=>h.IsTupleIter it a i/\h.IsTuple a its.toArray) (fp:=[it,a]) ⟨?_,?_,?_,?_⟩ he ⟨st,p⟩ λh' eb=>⟨rfl,I.turned (t':=s.toks) (λb o hb q=>eb b o hb q) f0 f1 f3 f4 f5⟩
  .exact λ_ _ st=>let⟨o,ho,_⟩:=st.1;⟨o,ho⟩
  .exact λ_ _ _ st hk=>⟨st.1.at λo e=>hk it (by simp) o e,zis st.2 λo e=>hk a (by simp) o e⟩
  .exact λj s' Q' E' hj=>absurd hj (Nat.not_lt_zero _)
  .exact λs' Q' E' st' q'=>zd7 hd st'.1 st'.2 (by simp;omega) q'
 self:=λ_ _ _ _ _ st h=>by
  obtain⟨⟨old,he⟩,_⟩:=st
  exact wpAny_pyIter_enum he h
section
variable{κ:Type}[DecidableEq κ]
noncomputable def valV(kvs:List (κ×V))(k:κ):Option V:=(kvs.find? λkv=>decide (kv.1=k)).map (·.2)
noncomputable def putK(kvs:List (κ×V))(k:κ)(v:V):List (κ×V):=
 if(kvs.any λkv=>decide (kv.1=k))=true then kvs.map (λkv=>if kv.1=k then(kv.1,v)else kv)else kvs++[(k,v)]
theorem zfo{p:κ×V}{r:List (κ×V)}{k:κ}(e:p.1=k):valV (p::r) k=some p.2:=by simp[valV,vcg,e]
theorem zdo{p:κ×V}{r:List (κ×V)}{k:κ}(e:¬p.1=k):valV (p::r) k=valV r k:=by simp[valV,vcg,e]
theorem zh0(kvs:List (κ×V))(k:κ)(v:V):(putK kvs k v).length<=kvs.length+1:=by
 unfold putK
 split
 .rw[vaf];omega
 .rw[vaw,vam,vdw];omega
theorem RelO.getD{o:Option V}{u:Option Value}{d:V}{d':Value}(r:RelO o u)(rd:RelV d d'):RelV (o.getD d) (u.getD d'):=by
 cases o with
 |none=>cases u with
  |none=>exact rd
  |some _=>exact(show False from r).elim
 |some _=>cases u with
  |none=>exact(show False from r).elim
  |some _=>exact r
theorem KV.val{kvs:List (κ×V)}{vs:List (κ×Value)}(r:KV kvs vs)(k:κ):RelO (valV kvs k) (valueAt vs k):=by
 unfold KV at r
 induction r with
 |nil=>exact True.intro
 | @cons p q ps qs h t ih=>
  obtain⟨h1,h2⟩:=h
  by_cases e:p.1=k
  .have e':q.1=k:=h1.symm.trans e
   have b:valueAt (q::qs) k=some q.2:=by simp[valueAt,vcg,e']
   rw[zfo e,b];exact h2
  .have e':¬q.1=k:=λz=>e (h1.trans z)
   have b:valueAt (q::qs) k=valueAt qs k:=by simp[valueAt,vcg,e']
   rw[zdo e,b];exact ih
theorem KV.any{kvs:List (κ×V)}{vs:List (κ×Value)}(r:KV kvs vs)(k:κ):(kvs.any λkv=>decide (kv.1=k))=vs.any λkv=>decide (kv.1=k):=by
 unfold KV at r
 induction r with
 |nil=>rfl
 |cons h t ih=>rw[vek,vek,ih,h.1]
theorem KV.repl{kvs:List (κ×V)}{vs:List (κ×Value)}(r:KV kvs vs)(k:κ){y:V}{u:Value}(ry:RelV y u) :
 KV (kvs.map λkv=>if kv.1=k then(kv.1,y)else kv) (vs.map λkv=>if kv.1=k then(kv.1,u)else kv):=by
 unfold KV at r ⊢
 induction r with
 |nil=>exact .nil
 | @cons p q ps qs h t ih=>
  rw[vav,vav]
  refine .cons ?_ ih
  obtain⟨h1,h2⟩:=h
  by_cases e:p.1=k
  .rw[if_pos e,if_pos (h1.symm.trans e)];exact⟨h1,ry⟩
  .rw[if_neg e,if_neg (λz=>e (h1.trans z))];exact⟨h1,h2⟩
theorem KV.put{kvs:List (κ×V)}{vs:List (κ×Value)}(r:KV kvs vs)(k:κ){y:V}{u:Value}(ry:RelV y u):KV (putK kvs k y) (stored vs k u):=by
 unfold putK stored
 rw[r.any k]
 by_cases e:(vs.any λkv=>decide (kv.1=k))=true
 .rw[if_pos e,if_pos e];exact r.repl k ry
 .rw[if_neg e,if_neg e];exact Paired.snoc r ⟨rfl,ry⟩
end
theorem kV_is{P:Program}{w:World}{k:Key}{u:Value}(r:RelV (kV k) u):(zao P w).is k u=true:=by
 cases k with
 |inl i=>obtain⟨t,e⟩:=(show ∃t,u=Value.int i t from r);subst e;exact zhs P w i t
 |inr x=>obtain⟨t,e⟩:=(show ∃t,u=Value.str x t from r);subst e;exact zca P w x t
theorem zgx{P:Program}{w:World}:∀{ks:List Key} {us:List Value},Vals (ks.map kV) us->ItemsAre (zao P w) ks us
 |[],_,r=>by rw[vc9]at r;cases r;exact .nil
 |k::ks,_,r=>by
  rw[vav]at r
  cases r with
  |cons h t=>exact .cons (kV_is h) (zgx t)
noncomputable abbrev KT(H:Hp):List (List Key×V)->List (List Key×Addr×Value)->Prop:=Paired λp q=>p.1=q.1/\H q.2.1=some (.tup (p.1.map kV))/\RelV p.2 q.2.2
theorem KT.val{H:Hp}{kvs:List (List Key×V)}{xs:List (List Key×Addr×Value)}(r:KT H kvs xs)(k:List Key):RelO (valV kvs k) ((atKey xs k).map (·.2)):=by
 induction r with
 |nil=>exact True.intro
 | @cons p q ps qs h t ih=>
  obtain⟨h1,_,h2⟩:=h
  by_cases e:p.1=k
  .have e':q.1=k:=h1.symm.trans e
   have b:atKey (q::qs) k=some q.2:=by simp[atKey,vcg,e']
   rw[zfo e,b];exact h2
  .have e':¬q.1=k:=λz=>e (h1.trans z)
   have b:atKey (q::qs) k=atKey qs k:=by simp[atKey,vcg,e']
   rw[zdo e,b];exact ih
section
variable{P:Program}{w:World}{H:Hp}{h:Heap}{a:Addr}
theorem rd_of{u:HO}(ok:HOk P w H h)(e:Rd H a u):ObjOk P w H h a u:=e.ok ok
theorem dk_rd{kvs:List (Key×V)}(ok:HOk P w H h)(e:Rd H a (.dK kvs)):kvs.length<=sizeLine/\(a==sysModules)=false/\∃vs,KV kvs vs/\h.DictOf (zao P w) a vs:=
 show ObjOk P w H h a (.dK kvs)from rd_of ok e
theorem dk_of{kvs:List (Key×V)}(ok:HOk P w H h)(e:H a=some (.dK kvs)):kvs.length<=sizeLine/\(a==sysModules)=false/\∃vs,KV kvs vs/\h.DictOf (zao P w) a vs:=dk_rd ok (.inl e)
theorem zpf{ks:List Key}(ok:HOk P w H h)(e:H a=some (.tup (ks.map kV))):(tupleKind (zao P w)).is h ks a:=by
 obtain⟨_,its,r,o,h1,h2,⟨n,h3⟩,_⟩:=(show ObjOk P w H h a (.tup (ks.map kV))from ok a _ e)
 exact⟨o,its.toArray,n,h1,h2,h3,by simpa using zgx r⟩
theorem dt_rd{kvs:List (List Key×V)}(ok:HOk P w H h)(e:Rd H a (.dT kvs)):kvs.length<=sizeLine/\(a==sysModules)=false/\
 ∃xs,KT H kvs xs/\h.DictOfH (tupleKind (zao P w)) a xs:=by
 obtain⟨z,y,xs,r,o,es,ep,h1,h2,h3,h4,h5⟩:=(show ObjOk P w H h a (.dT kvs)from rd_of ok e)
 refine⟨z,y,xs,r,o,es,ep,h1,h2,h3,h4,λx hx=>?_,h5⟩
 have all:∀{l:List (List Key×V)}{m:List (List Key×Addr×Value)},KT H l m->∀x∈m,(tupleKind (zao P w)).is h x.1 x.2.1:=by
  intro l m q
  induction q with
  |nil=>intro x hx;exact nomatch hx
  | @cons p q ps qs hq t ih=>
   intro x hx
   rcases va0.mp hx with e|hx
   .subst e
    exact zpf ok (by rw[<-hq.1];exact hq.2.1)
   .exact ih x hx
 exact all r x hx
end
noncomputable def DGet(H:Hp)(a:Addr)(y:V)(r:Option V):Prop:=
 (∃kvs k,Rd H a (.dK kvs)/\y=kV k/\r=valV kvs k)\/∃kvs k b,Rd H a (.dT kvs)/\y=.ref b/\H b=some (.tup (k.map kV))/\r=valV kvs k
section
variable{X:Cx}{pins:List (Addr×Obj)}{σ:St}{H:Hp}{s:Shared}{a:Addr}{y v:V}{u r:Value}{o:Option V}{A:Around}{E:Value->Shared->Prop}
theorem Inv.big(I:Inv X pins σ H s):sysModules<s.heap.objs.size:=by
 have h:mainGlobals<s.heap.objs.size:=(I.mod.glob.keeps I.bk).lt
 exact Nat.lt_trans (by decide) h
theorem zlf{Q:Value->Shared->Prop}(hu:A.units+1<cLine)(I:Inv X pins σ H s)(g:DGet H a y (some v))(ry:RelV y u)(h:∀w' s',Inv X pins σ H s'->RelV v w'->Q w' s') :
 wpAny (model X.prog X.w) A (getItem (.ref a) u) Q E s:=by
 rcases g with⟨kvs,k,e,ey,l⟩|⟨kvs,k,b,e,ey,eb,l⟩
 .subst ey
  obtain⟨z,hd,vs,rel,dd⟩:=dk_rd I.hok e
  obtain⟨w',hw,rw'⟩:=RelO.some_of (v:=v) (o:=valueAt vs k) (by rw[l];exact rel.val k)
  exact wpAny_getItem_of (kV_is ry) dd.mapOf hw (h w' _ (I.tok _) rw')
 .subst ey
  cases(show u=Value.ref b from ry)
  obtain⟨z,hd,xs,rel,dd⟩:=dt_rd I.hok e
  obtain⟨w',hw,rw'⟩:=RelO.some_of (v:=v) (o:=(atKey xs k).map (·.2)) (by rw[l];exact rel.val k)
  obtain⟨p,hp,hp2⟩:=Option.map_eq_some_iff.mp hw
  refine wpAny_getItem_heap (tupleKind_room_in1 hu) (zpf I.hok eb) dd hp ?_
  rw[hp2]
  exact h w' _ (I.tok _) rw'
theorem zq6{h':Heap}{t':Nat}{ob:HO}(I:Inv X pins σ H s)(mu:Mut (H a))(hs:Heap.SameBut a s.heap h')(he:∃q,h'.get? a=some q)(new:ObjOk X.prog X.w (upd H a ob) h' a ob) :
 Inv X pins σ (upd H a ob) {s with heap:=h',toks:=t'}:=
 I.write (x:=a) (e:=a) mu (.inl rfl) (λb q hb z=>(hs.2 b hb).trans z) he new
theorem ztw{P:Program}{w:World}{H':Hp}{h':Heap}{kvs:List (Key×V)}{vs:List (Key×Value)}(z:kvs.length<=sizeLine)(hd:(a==sysModules)=false)(rel:KV kvs vs)(dd:h'.DictOf (zao P w) a vs) :
 ObjOk P w H' h' a (.dK kvs):=⟨z,hd,vs,rel,dd⟩
end
theorem zh6{X:Cx}{pins:List (Addr×Obj)}{σ:St}{H:Hp}{s:Shared}{a:Addr}{y:V}{o:Option V}(I:Inv X pins σ H s)(g:DGet H a y o):s.TypeIs (.ref a) "dict":=by
 rcases g with⟨kvs,k,e,_,_⟩|⟨kvs,k,b,e,_,_,_⟩
 .obtain⟨_,_,vs,_,dd⟩:=dk_rd I.hok e
  exact dd.typeIs
 .obtain⟨_,_,xs,_,dd⟩:=dt_rd I.hok e
  exact dd.typeIs
theorem zit{P:Program}{w:World}{H:Hp}(h:Heap)(hb:sysModules<h.objs.size):ObjOk P w H (h.push {cls:=.type "dict",data:=.dict #[]}) h.objs.size (.dK []):=
 ⟨vbu _,vcz.mpr (vbo (vau hb)),[],.nil,Heap.DictOf.new h⟩
noncomputable def ztx:TE:=λ_ H Q=>∀p,H p=none->Q (.ref p) (upd H p (.dK []))
section
variable{X:Cx}{pos:Pos}
theorem zn1:PE X (.Dict [] [] pos) ztx:=λpins s σ H Q I h=>
 wpAny_Dict_empty ⟨.ref s.heap.objs.size,_,I.laid (a:=s.heap.objs.size) (o:=.dK []) (t':=s.toks) (λ_ _ q=>vac _ q) (vad _) (zit s.heap I.big),rfl,h _ (I.hok.fresh (vad _))⟩
end
noncomputable def ziu:List (TE×TE)->St->Hp->(List (V×V)->Hp->Prop)->Prop
 |[],_,H,Q=>Q [] H
 |(tk,tv)::r,σ,H,Q=>tk σ H λx H1=>tv σ H1 λy H2=>ziu r σ H2 λps H3=>Q ((x,y)::ps) H3
noncomputable abbrev VV:List (V×V)->List (Value×Value)->Prop:=Paired λp q=>RelV p.1 q.1/\RelV p.2 q.2
noncomputable def PPs(X:Cx)(pos:Pos)(keys:List (Option Expr))(values:List Expr)(trs:List (TE×TE)):Prop:=
 ∀(pins:List (Addr×Obj))(s:Shared)(σ:St)(H:Hp)(Q:List (V×V)->Hp->Prop),Inv X pins σ H s->ziu trs σ H Q->
  wpAny (model X.prog X.w) X.A (evalPairs (pairTrees keys values X.env pos)) (λvs s'=>∃ps H',Inv X pins σ H' s'/\VV ps vs/\Q ps H') X.xe s
theorem zq7{X:Cx}{pos:Pos}:PPs X pos [] [] []:=λpins s σ H Q I h=>pairTrees_nil_walk ⟨[],H,I,.nil,h⟩
theorem zn2{X:Cx}{pos:Pos}{k v:Expr}{ks:List (Option Expr)}{vs:List Expr}{tk tv:TE}{trs:List (TE×TE)}(hk:PE X k tk)(hv:PE X v tv)(hr:PPs X pos ks vs trs) :
 PPs X pos (some k::ks) (v::vs) ((tk,tv)::trs):=λpins s σ H Q I h=>
 pairTrees_cons_walk (thn (hk pins s σ H _ I h) λu s1 z9=>z9.el λx H1 I1 rx q1=>thn (hv pins s1 σ H1 _ I1 q1) λw2 s2 z9=>z9.el λy H2 I2 ry q2=>
  thn (hr pins s2 σ H2 _ I2 q2) λws s3 ⟨ps,H3,I3,rel,q3⟩=>⟨(x,y)::ps,H3,I3,.cons ⟨rx,ry⟩ rel,q3⟩)
noncomputable def zdi(kvs more:List (Key×V)):List (Key×V):=more.foldl (λacc kv=>putK acc kv.1 kv.2) kvs
theorem KV.merge:∀{more:List (Key×V)} {rs:List (Key×Value)} {kvs:List (Key×V)} {vs:List (Key×Value)},KV more rs->KV kvs vs->KV (zdi kvs more) (merged vs rs):=by
 intro more rs kvs vs r
 unfold KV at r
 induction r generalizing kvs vs with
 |nil=>intro q;exact q
 | @cons p q ps qs h t ih=>
  intro r0
  have e:KV (putK kvs p.1 p.2) (stored vs q.1 q.2):=by
   have:=r0.put p.1 h.2
   rw[<-h.1];exact this
  exact ih e
theorem zck:∀(more kvs:List (Key×V)),(zdi kvs more).length<=kvs.length+more.length
 |[],kvs=>by show kvs.length<=kvs.length+0;omega
 |p::r,kvs=>by
  have h1:=zck r (putK kvs p.1 p.2)
  have h2:=zh0 kvs p.1 p.2
  show(zdi (putK kvs p.1 p.2) r).length<=_
  rw[vam];omega
theorem zew{P:Program}{w:World}:∀{kvs:List (Key×V)} {ws:List (Value×Value)},VV (kvs.map λkv=>(kV kv.1,kv.2)) ws->∃rs,Carries (zao P w) ws rs/\KV kvs rs
 |[],_,r=>by rw[vc9]at r;cases r;exact⟨[],True.intro,.nil⟩
 |p::kvs,_,r=>by
  rw[vav]at r
  cases r with
  | @cons a b as bs h t=>
   obtain⟨rs,c,q⟩:=zew (P:=P) (w:=w) t
   obtain⟨b1,b2⟩:=b
   exact⟨(p.1,b2)::rs,⟨kV_is h.1,rfl,c⟩,.cons ⟨rfl,h.2⟩ q⟩
noncomputable def tDisp(trs:List (TE×TE)):TE:=λσ H Q=>∀p,H p=none->ziu trs σ (upd H p (.dK [])) λps H2=>H2 p=some (.dK [])/\∃kvs:List (Key×V),ps=kvs.map (λkv=>(kV kv.1,kv.2))/\kvs.length<=15/\Q (.ref p) (upd H2 p (.dK (zdi [] kvs)))
theorem zq8{X:Cx}{pos:Pos}{keys:List (Option Expr)}{values:List Expr}{trs:List (TE×TE)}(h:PPs X pos keys values trs)(hall:keys.all (·.isSome)=true)(hl:keys.length=values.length)(h0:keys≠[])
 (h15:keys.length<=15):PE X (.Dict keys values pos) (tDisp trs):=by
 intro pins s σ H Q I q
 have hn:=I.hok.fresh (vad s.heap.objs.size)
 have I1:=I.laid (a:=s.heap.objs.size) (o:=.dK []) (h':=s.heap.push {cls:=.type "dict",data:=.dict #[]}) (t':=s.toks) (λ_ _ q=>vac _ q) (vad _) (zit s.heap I.big)
 refine wpAny_Dict_walk (knd:=zao X.prog X.w) hall hl h0 h15 (thn (h pins _ σ _ _ I1 (q _ hn)) λws s2 hq0=>?_)
 obtain⟨ps,H2,I2,rel,e,kvs,ep,lk,q2⟩:=hq0
 subst ep
 obtain⟨rs,c,rk⟩:=zew (P:=X.prog) (w:=X.w) rel
 obtain⟨z,hd,vs0,r0,dd⟩:=dk_of I2.hok e
 cases r0
 refine⟨rs,c,dd,λh' dd' hs=>⟨.ref s.heap.objs.size,_,?_,rfl,q2⟩⟩
 have hz:(zdi [] kvs).length<=sizeLine:=by
  have h1:=zck kvs []
  rw[vdw]at h1
  rw[vej];omega
 have he:∃q,h'.get? s.heap.objs.size=some q:=let⟨q,_,_,hq,_⟩:=dd';⟨q,hq⟩
 exact zq6 I2 (by rw[e];exact True.intro) hs he (ztw hz hd (rk.merge .nil) dd')
structure M2(X:Cx)(o:Expr)(m:Str)(apos:Pos)(e f:Expr)(cpos:Pos):Prop where
 base:attributeBase o m X.env (eval o X.env)=eval o X.env
 few:((backTo cpos (starEach [e,f] X.env)).all (λx=>!x.1)&& (backToKw cpos (keywordEach [] X.env)).all (λx=>x.1.isSome)
  && decide (([e,f]:List Expr).length+ ([]:List Keyword).length+ (if([]:List Keyword).isEmpty then 0 else 1)<30))=true
 line:(apos.endLine==cpos.line)=true
 trees:backTo cpos (starEach [e,f] X.env)=[(false,eval e X.env),(false,eval f X.env)]
theorem zfp:fillsNumberSlot (.type "tuple") "mul" = pure false:=
 PySem.fillsNumberSlot_seq (id:="tuple.__mul__") (r:=some (.builtin "tuple.__rmul__")) vdj.lookup (by decide +kernel) F.slot_tuple_rmul.lookup (by decide +kernel)
theorem zlg:seqRepeat? (.type "tuple")=pure (some (.builtin "tuple.__mul__")):=by
 unfold seqRepeat?
 rw[PySem.seqSlot_of (T:="tuple") (name:="__mul__") (id:="tuple.__mul__") vdj.lookup (by decide +kernel),PySem.seqSlot_of (T:="tuple") (name:="__rmul__") (id:="tuple.__rmul__") F.slot_tuple_rmul.lookup (by decide +kernel)]
 rfl
theorem zn3(k:Int)(t:Tok)(l:Addr)(its:Array Value)(n:Nat)(dd:Option Addr)(sl:Array (Option Value)) :
 Meets (Builtin.«int.__rmul__» ⟨[.int k t,.ref l],[]⟩) (λ_ R s=>s.heap.get? l=some {cls:=.type "tuple",dict:=dd,data:=.seq its n,slots:=sl}/\R (.ok (.ret Value.notImplemented)) s):=
 .of_wp λprog w A R s h=>by
  obtain⟨hp,g,d,tk,os⟩:=s
  obtain⟨e,h⟩:=h
  wp_walk using va3 e
  exact⟨_,rfl,h⟩
theorem zn4(l:Addr)(its:Array Value)(n:Nat)(dd:Option Addr)(sl:Array (Option Value))(k:Int)(t:Tok)(h1:¬(decide (k < -(2 ^ 63))||decide (k>=2 ^ 63))=true)(h2:(its.isEmpty||k==1)=true) :
 Meets (Builtin.«tuple.__mul__» ⟨[.ref l,.int k t],[]⟩) (λ_ R s=>s.heap.get? l=some {cls:=.type "tuple",dict:=dd,data:=.seq its n,slots:=sl}/\R (.ok (.ret (.ref l))) s):=
 .of_wp λprog w A R s h=>by
  obtain⟨hp,g,d,tk,os⟩:=s
  obtain⟨e,h⟩:=h
  have f1:=AutoSeq1.idx_int
  wp_walk using va3 e
  refine wpAny_ite ?_
  rw[if_neg h1]
  wp_walk using va3 e
  exact⟨_,rfl,h⟩
theorem zn5(l:Addr)(its:Array Value)(n:Nat)(dd:Option Addr)(sl:Array (Option Value))(k:Int)(t:Tok)(h1:¬(decide (k < -(2 ^ 63))||decide (k>=2 ^ 63))=true)(h2:¬(its.isEmpty||k==1)=true)(h3:(decide (k<=0)||its.isEmpty)=true) :
 Meets (Builtin.«tuple.__mul__» ⟨[.ref l,.int k t],[]⟩) (λ_ R s=>s.heap.get? l=some {cls:=.type "tuple",dict:=dd,data:=.seq its n,slots:=sl}/\R (.ok (.ret (.ref s.heap.objs.size))) {s with heap:=s.heap.push {cls:=.type "tuple",data:=.seq #[]}}):=
 .of_wp λprog w A R s h=>by
  obtain⟨hp,g,d,tk,os⟩:=s
  obtain⟨e,h⟩:=h
  have f1:=AutoSeq1.idx_int
  wp_walk using va3 e
  refine wpAny_ite ?_
  rw[if_neg h1]
  wp_walk using va3 e
  exact⟨_,rfl,h⟩
theorem zn6(l:Addr)(its:Array Value)(n:Nat)(dd:Option Addr)(sl:Array (Option Value))(k:Int)(t:Tok)(h1:¬(decide (k < -(2 ^ 63))||decide (k>=2 ^ 63))=true)(h2:¬(its.isEmpty||k==1)=true)(h3:¬(decide (k<=0)||its.isEmpty)=true)
 (h4:¬(its.size*k> (2 ^ 63-1)/8)) (h5:¬Builtin.Tuple.tupleTooMany (its.size*k)=true) (h6:((List.replicate k.toNat its).foldl (· ++ ·) #[]).size<=sizeLine) :
 Meets (Builtin.«tuple.__mul__» ⟨[.ref l,.int k t],[]⟩) (λ_ R s=>s.heap.get? l=some {cls:=.type "tuple",dict:=dd,data:=.seq its n,slots:=sl}/\R (.ok (.ret (.ref s.heap.objs.size))) {s with heap:=s.heap.push {cls:=.type "tuple",data:=.seq ((List.replicate k.toNat its).foldl (· ++ ·) #[])}}):=
 .of_wp λprog w A R s h=>by
  obtain⟨hp,g,d,tk,os⟩:=s
  obtain⟨e,h⟩:=h
  have f1:=AutoSeq1.idx_int
  wp_walk using va3 e
  refine wpAny_ite ?_
  rw[if_neg h1]
  wp_walk using va3 e
  refine wpAny_ite ?_
  rw[if_neg h4]
  wp_walk using va3 e
  exact⟨_,rfl,h⟩
section
variable{X:Cx}
noncomputable def rRepT(K:PySem.W.Frag):R2:=λx y H Q=>∃a k xs,x=.ref a/\y=.int k/\SqT K H a xs/\-(2 ^ 62)<=k/\k<2 ^ 62/\xs.length*k.toNat<=sizeLine/\
 ((xs.isEmpty||k==1)=true->Q (.ref a) H)/\((xs.isEmpty||k==1)=false->∀p,H p=none->Q (.ref p) (upd H p (.tup (List.replicate k.toNat xs).flatten)))
theorem zd8{xs:List V}{us:List Value}(r:Vals xs us):us.toArray.isEmpty=xs.isEmpty:=by
 cases r<;>rfl
theorem zq9:OpR X (binaryOp .Mult) (rRepT X.K):=by
 intro pins s σ H x y v u Q I rx ry h
 obtain⟨a,k,xs,rfl,rfl,ha,k1,k2,hz,q1,q2⟩:=h
 cases rx
 obtain⟨t,rfl⟩:=ry
 obtain⟨its,r,p,_⟩:=I.tuple ha
 obtain⟨⟨c,dd,dt,sl⟩,e1,e2,n,e3⟩:=p
 replace e2:c=.type "tuple":=e2
 replace e3:dt=.seq its.toArray n:=e3
 subst e2 e3
 have hl:xs.length=its.length:=r.length
 have h1:¬(decide (k < -(2 ^ 63))||decide (k>=2 ^ 63))=true:=by
  simp only[vch,vap]
  omega
 refine wpAny_binaryOp_repeat_ref (T:="tuple") (U:="int") (by decide) ⟨_,e1,rfl⟩ (λs'=>typeIs_int s' k t) zfp F.fills_int_mul vec zlg F.slot_int_index.lookup
  (vc4 vec (typeIs_int s k t) F.entry_int_rmul (F.args_int_rmul_2 _ _) (zn3 k t a its.toArray n dd sl) ⟨e1,rfl,⟨_,e1,rfl⟩,?_⟩)
 by_cases h2:(its.toArray.isEmpty||k==1)=true
 .refine vc4 vdj ⟨_,e1,rfl⟩ F.entry_tuple_mul (F.args_tuple_mul_2 _ _) (zn4 a its.toArray n dd sl k t h1 h2) ⟨e1,?_⟩
  exact⟨.ref a,H,I,rfl,q1 (by rw[<-zd8 r];exact h2)⟩
 .have q2:=q2 (by rw[<-zd8 r];simpa using h2)
  by_cases h3:(decide (k<=0)||its.toArray.isEmpty)=true
  .have hk:k.toNat=0:=by
    have:its.toArray.isEmpty=false:=by
     cases q:its.toArray.isEmpty with
     |false=>rfl
     |true=>rw[q]at h2;exact absurd rfl h2
    rw[this,Bool.or_false,vap]at h3
    omega
   refine vc4 vdj ⟨_,e1,rfl⟩ F.entry_tuple_mul (F.args_tuple_mul_2 _ _) (zn5 a its.toArray n dd sl k t h1 h2 h3) ⟨e1,?_⟩
   rw[hk]at q2
   exact⟨.ref s.heap.objs.size,_,I.laid (t':=s.toks) (o:=.tup []) (λb ob q=>vac _ q) (vad _) ⟨vbu _,[],.nil,zbe.new _ _⟩,rfl,q2 _ (I.hok.fresh (vad _))⟩
  .have hk:0<k:=by
    simp only[vch,vap,not_or]at h3
    omega
   have hkn:((k.toNat:Nat):Int)=k:=Int.toNat_of_nonneg (by omega)
   have hmul:(its.toArray.size:Int)*k=((xs.length*k.toNat:Nat):Int):=by
    rw[vag,<-hl,Int.natCast_mul,hkn]
   have hsl:(sizeLine:Nat)=16777216:=rfl
   have fl:(List.replicate k.toNat its.toArray).foldl (· ++ ·) #[]=(List.replicate k.toNat its).flatten.toArray:=by
    have:=zd2 its k.toNat []
    rw[vcf]at this
    exact this
   refine vc4 vdj ⟨_,e1,rfl⟩ F.entry_tuple_mul (F.args_tuple_mul_2 _ _) (zn6 a its.toArray n dd sl k t h1 h2 h3 (by rw[hmul];omega) (by
    unfold Builtin.Tuple.tupleTooMany
    rw[hmul,vap]
    omega) (by rw[fl,vag,zhw,Nat.mul_comm,<-hl];exact hz)) ⟨e1,?_⟩
   rw[fl]
   exact⟨.ref s.heap.objs.size,_,I.laid (t':=s.toks) (o:=.tup (List.replicate k.toNat xs).flatten) (λb ob q=>vac _ q) (vad _) ⟨by rw[zhw,Nat.mul_comm];exact hz,_,r.rep k.toNat,zbe.new _ _⟩,rfl,q2 _ (I.hok.fresh (vad _))⟩
noncomputable def zpg(K:PySem.W.Frag):R2:=λx y H Q=>∃a b ys,x=.ref a/\y=.ref b/\SqT K H a []/\SqT K H b ys/\Q (.ref b) H
theorem zn7:OpR X (binaryOp .Add) (zpg X.K):=by
 intro pins s σ H x y v u Q I rx ry h
 obtain⟨a,b,ys,rfl,rfl,ha,hb,q⟩:=h
 cases rx
 cases ry
 obtain⟨its,r1,p1,_⟩:=I.tuple ha
 obtain⟨its2,r2,p2,_⟩:=I.tuple hb
 cases r1
 obtain⟨⟨c,dd,dt,sl⟩,e1,e2,n,e3⟩:=p1
 obtain⟨⟨c2,dd2,dt2,sl2⟩,f1,f2,n2,f3⟩:=p2
 replace e2:c=.type "tuple":=e2
 replace e3:dt=.seq ([]:List Value).toArray n:=e3
 replace f2:c2=.type "tuple":=f2
 replace f3:dt2=.seq its2.toArray n2:=f3
 subst e2 e3 f2 f3
 exact concat_meets ⟨_,e1,rfl⟩ ⟨_,f1,rfl⟩ noFill_tuple_add seq_tuple_add PySem.F.slot_tuple_add PySem.F.entry_tuple_add (PySem.F.args_tuple_add_2 _ _) (tuple_addW0 a b ([]:List Value).toArray its2.toArray n n2 dd dd2 sl sl2 rfl) ⟨e1,f1,⟨.ref b,H,I,rfl,q⟩⟩
noncomputable def anyEq(ds:List PyData)(d:PyData):Bool:=ds.any λe=>PyData.eqv e d
noncomputable def rInD(K:PySem.W.Frag)(neg:Bool):R2:=λx y H Q=>∃p xs ds d,y=.ref p/\(SqL K H p xs\/SqT K H p xs)/\Rps K (λ_=>False) H xs ds/\Rp K (λ_=>False) H x d/\ds.all SeqAt.shaped=true/\SeqAt.shaped d=true/\Q (.bl (if neg then !anyEq ds d else anyEq ds d)) H
theorem zbb{h:Heap}:∀{us:List Value} {ds:List PyData} {as:List Addr} {i:Nat} {u:Value},ReadsAll h us ds as->us[i]?=some u->∃d bs,ds[i]?=some d/\Reads h u d bs
 |_,_,_,i,u,.nil,e=>by simp at e
 |_,_,_,0,u,.cons r _,e=>by simp at e;subst e;exact⟨_,_,rfl,r⟩
 |_,_,_,i+1,u,.cons _ rs,e=>by
  obtain⟨d,bs,h1,h2⟩:=zbb rs (by simpa using e)
  exact⟨d,bs,by simpa using h1,h2⟩
open Classical in
noncomputable def eqOf(us:List Value)(ds:List PyData)(d:PyData)(u:Value):Bool:=decide (∃(i:Nat) (e:PyData),us[i]?=some u/\ds[i]?=some e/\PyData.eqv e d=true)
open Classical in
theorem zb2{us:List Value}{ds:List PyData}{d:PyData}{u:Value}:eqOf us ds d u=true↔∃(i:Nat) (e:PyData),us[i]?=some u/\ds[i]?=some e/\PyData.eqv e d=true:=by
 unfold eqOf
 exact decide_eq_true_iff
theorem zdp{us:List Value}{ds:List PyData}{d:PyData}(hl:us.length=ds.length):us.any (eqOf us ds d)=anyEq ds d:=by
 cases q:anyEq ds d with
 |true=>
  unfold anyEq at q
  rw[List.any_eq_true]at q
  obtain⟨e,h1,h2⟩:=q
  obtain⟨i,hi,h3⟩:=List.mem_iff_getElem.mp h1
  rw[List.any_eq_true]
  refine⟨us[i]'(by omega),vc3 _,?_⟩
  rw[zb2]
  exact⟨i,e,by simp,by rw[vao hi,h3],h2⟩
 |false=>
  unfold anyEq at q
  rw[List.any_eq_false]at q ⊢
  intro u hu z
  rw[zb2]at z
  obtain⟨i,e,h1,h2,h3⟩:=z
  exact q e (List.mem_of_getElem? h2) h3
theorem zbf{h:Heap}:∀{us:List Value} {ds:List PyData} {as:List Addr},ReadsAll h us ds as->us.length=ds.length
 |_,_,_,.nil=>rfl
 |_,_,_,.cons _ r=>by rw[vam,vam,zbf r]
theorem zc4{A:Around}{s:Shared}{us:List Value}{ds:List PyData}{as bs:List Addr}{d:PyData}{v:Value}(hu:A.units+64<cLine)(ra:ReadsAll s.heap us ds as)(rb:Reads s.heap v d bs)(s1:ds.all SeqAt.shaped=true)(s2:SeqAt.shaped d=true) :
 ∀u∈us,SeqAt.EqAt A s u v (eqOf us ds d u):=by
 intro u hm
 have sh:∀(i:Nat)(e:PyData),ds[i]?=some e->SeqAt.shaped e=true:=λi e q=>va1.mp s1 e (List.mem_of_getElem? q)
 cases q:eqOf us ds d u with
 |true=>
  rw[zb2]at q
  obtain⟨i,e,h1,h2,h3⟩:=q
  obtain⟨e',cs,h4,h5⟩:=zbb ra h1
  rw[h2]at h4;cases h4
  have:=SeqAt.eqAt_reads e d A s u v cs bs h5 rb (vc7 (sh i e h2)) (vc7 s2) (SeqAt.room_of_shaped (sh i e h2) hu)
  rw[h3]at this;exact this
 |false=>
  obtain⟨i,hi,h1⟩:=List.mem_iff_getElem.mp hm
  have h1:us[i]?=some u:=by rw[vao hi,h1]
  obtain⟨e,cs,h4,h5⟩:=zbb ra h1
  have h3:PyData.eqv e d=false:=by
   cases z:PyData.eqv e d with
   |false=>rfl
   |true=>
    rw[zb2.mpr ⟨i,e,h1,h4,z⟩]at q
    cases q
  have:=SeqAt.eqAt_reads e d A s u v cs bs h5 rb (vc7 (sh i e h4)) (vc7 s2) (SeqAt.room_of_shaped (sh i e h4) hu)
  rw[h3]at this;exact this
theorem zty(hu:X.A.in1.units+64<cLine):OpR X (compareOp .In) (rInD X.K false):=by
 intro pins s σ H x y v u Q I rx ry h
 obtain⟨p,xs,ds,d,rfl,hq,r1,r2,s1,s2,q⟩:=h
 cases ry
 obtain⟨bs,rb⟩:=r2.reads I rx
 rcases hq with hq|hq
 .obtain⟨its,r,pl,hz⟩:=I.list hq
  obtain⟨as,ra⟩:=r1.reads I r
  refine SeqAt.in_listAt (eqOf its ds d) pl.isList (λw hw=>zc4 hu ra rb s1 s2 w (by simpa using hw)) ⟨.bl _,H,I,rfl,?_⟩
  rw[show its.toArray.any (eqOf its ds d)=its.any (eqOf its ds d) by simp,zdp (zbf ra)]
  exact q
 .obtain⟨its,r,pl,hz⟩:=I.tuple hq
  obtain⟨as,ra⟩:=r1.reads I r
  refine SeqAt.in_tupleAt (eqOf its ds d) pl (λw hw=>zc4 hu ra rb s1 s2 w (by simpa using hw)) ⟨.bl _,H,I,rfl,?_⟩
  rw[show its.toArray.any (eqOf its ds d)=its.any (eqOf its ds d) by simp,zdp (zbf ra)]
  exact q
theorem zlh(hu:X.A.in1.units+64<cLine):OpR X (compareOp .NotIn) (rInD X.K true):=by
 intro pins s σ H x y v u Q I rx ry h
 obtain⟨p,xs,ds,d,rfl,hq,r1,r2,s1,s2,q⟩:=h
 cases ry
 obtain⟨bs,rb⟩:=r2.reads I rx
 rcases hq with hq|hq
 .obtain⟨its,r,pl,hz⟩:=I.list hq
  obtain⟨as,ra⟩:=r1.reads I r
  refine SeqAt.notIn_listAt (eqOf its ds d) pl.isList (λw hw=>zc4 hu ra rb s1 s2 w (by simpa using hw)) ⟨.bl _,H,I,rfl,?_⟩
  rw[show its.toArray.any (eqOf its ds d)=its.any (eqOf its ds d) by simp,zdp (zbf ra)]
  exact q
 .obtain⟨its,r,pl,hz⟩:=I.tuple hq
  obtain⟨as,ra⟩:=r1.reads I r
  refine SeqAt.notIn_tupleAt (eqOf its ds d) pl (λw hw=>zc4 hu ra rb s1 s2 w (by simpa using hw)) ⟨.bl _,H,I,rfl,?_⟩
  rw[show its.toArray.any (eqOf its ds d)=its.any (eqOf its ds d) by simp,zdp (zbf ra)]
  exact q
end
end L2
namespace HT
open PySem PySem.Spec PyProof.Rows
section
variable{prog:Program}{w:World}{A:Around}{E:Value->Shared->Prop}{s:Shared}
theorem getItem_tuple_whole{t sl:Addr}{items:Array Value}{vl vu:Value}{lo hi:Option Int}{Q:Value->Shared->Prop}(ht:IsTup s.heap t items)(hs:s.heap.IsSliceOf sl vl vu .none)(pl:IsPart vl lo)(pu:IsPart vu hi)
 (hw:sIx items.size 0 lo=0/\sIx items.size items.size hi=items.size)
 (h:Q (.ref t) s):wpAny (model prog w) A (getItem (.ref t) (.ref sl)) Q E s:=by
 obtain⟨os,hos,hcs,hds⟩:=id hs
 have hTs:s.TypeIs (.ref sl) "slice":=⟨os,hos,hcs⟩
 unfold getItem
 try with_reducible refine vbd ?_
 first|refine vab (vae ?_)|skip
 refine vab (wpAny_sequenceKey ht.typeIs (by decide) ?_)
 refine vab (vbs (name:=Str.ofString "__getitem__") ht.typeIs vaz
  (vco vaz ht.typeIs entry_tuple_getitem ?_ (args_tuple_getitem _ _)))
 show wpAny _ _ (Builtin.Tuple.tupleItemsOf (.ref t) >>= _) _ _ s
 refine vab (tupleItemsOf_ ht ?_)
 refine vab (veh hTs ?_)
 rw[if_pos (by decide)]
 refine vab (zbv hs pl pu ?_)
 have hyes:((((sIx items.size 0 lo:Nat):Int)==0&& (1:Int)==1&& (sIx items.size items.size hi-sIx items.size 0 lo)==items.size)=true):=by
  rw[hw.1,hw.2];simp
 show wpAny _ _ (if(((sIx items.size 0 lo:Nat):Int)==0&& (1:Int)==1&& (sIx items.size items.size hi-sIx items.size 0 lo)==items.size)=true then _ else _) _ _ s
 rw[if_pos hyes]
 unfold Builtin.Tuple.tupleIsExact
 refine vab (vab (veh ht.typeIs (vae ?_)))
 rw[if_pos (by decide)]
 refine vab (wpAny_rule ?_)
 exact vae ⟨_,rfl,vae h⟩
end
end HT
namespace L2
open PySem PySem.Spec PyProof.Rows
variable{X:Cx}
noncomputable def rSlW(K:PySem.W.Frag):V->Option Int->Option Int->Hp->VK->Prop:=λx lo hi H Q=>∃a xs,x=.ref a/\SqT K H a xs/\
 (HT.sIx xs.length 0 lo=0/\HT.sIx xs.length xs.length hi=xs.length)/\Q (.ref a) H
theorem zra:SlR X (rSlW X.K):=by
 intro pins s σ H x v vl vu lo hi sl Q I rx hs pl pu h
 obtain⟨a,xs,rfl,hx,hw,q⟩:=h
 cases rx
 obtain⟨its,r,ht,hz⟩:=I.tuple hx
 have hlen:its.toArray.size=xs.length:=by rw[vag];exact r.length.symm
 refine⟨"tuple",_,vaz.lookup,ht.typeIs,?_⟩
 refine HT.getItem_tuple_whole ht hs pl pu (by rw[hlen];exact hw) ?_
 exact⟨.ref a,_,I,rfl,q⟩
noncomputable def rSlA(K:PySem.W.Frag):V->Option Int->Option Int->Hp->VK->Prop:=λx lo hi H Q=>(rSlT K x lo hi H Q\/rSlW K x lo hi H Q)\/rSlL K x lo hi H Q
theorem ztz:SlR X (rSlA X.K):=(zto.or zra).or zqz
noncomputable def ZI(b:Bool)(h:Heap)(I l:Addr)(k:Nat):Prop:=match b with|true=>h.IsTupleIter I l k|false=>h.IsListIter I l k
noncomputable def ZS(b:Bool)(h:Heap)(l:Addr)(xs:Array Value):Prop:=match b with|true=>h.IsTuple l xs|false=>h.IsList l xs
noncomputable def zName(b:Bool):String:=match b with|true=>"tuple_iterator" |false=>"list_iterator"
noncomputable def zIt(b:Bool)(l:Addr):Obj:={cls:=.type (zName b),data:=.fields #[.ref l,.int 0 0]}
theorem ZI.ex{b:Bool}{h h':Heap}{I l c:Addr}{k:Nat}(x:ZI b h I l k)(s:Heap.ExtBut c h h')(n:I≠c):ZI b h' I l k:=by
 cases b
 .exact Heap.IsListIter.extBut x s n
 .exact Heap.IsTupleIter.extBut x s n
theorem ZS.ex{b:Bool}{h h':Heap}{l c:Addr}{xs:Array Value}(x:ZS b h l xs)(s:Heap.ExtBut c h h')(n:l≠c):ZS b h' l xs:=by
 cases b
 .exact Heap.IsList.extBut x s n
 .exact Heap.IsTuple.extBut x s n
theorem ZI.mv{b:Bool}{h h':Heap}{I l:Addr}{k:Nat}(x:ZI b h I l k)(e:∀o,h.get? I=some o->h'.get? I=some o):ZI b h' I l k:=by
 cases b
 .exact Heap.IsListIter.at x e
 .exact Heap.IsTupleIter.at x e
theorem ZI.ob{b:Bool}{h:Heap}{I l:Addr}{k:Nat}(x:ZI b h I l k):∃o,h.get? I=some o/\∀v,o.data≠.cell v:=by
 cases b
 .obtain⟨o,h1,h2,h3⟩:=x;exact⟨o,h1,λv z=>by rw[h3]at z;cases z⟩
 .obtain⟨o,h1,h2,h3⟩:=x;exact⟨o,h1,λv z=>by rw[h3]at z;cases z⟩
theorem ZS.lt{b:Bool}{h:Heap}{l:Addr}{xs:Array Value}(x:ZS b h l xs):l<h.objs.size:=by
 cases b<;> (obtain⟨o,h1,_⟩:=x;exact vaj h1)
theorem ZS.push{b:Bool}{h:Heap}{l:Addr}{xs:Array Value}(x:ZS b h l xs)(o:Obj):ZS b (h.push o) l xs:=by
 cases b
 .exact Heap.IsList.push x o
 .exact Heap.IsTuple.push x o
section
variable{prog:Program}{w:World}{A:Around}{E:Value->Shared->Prop}{s:Shared}
theorem zli{b:Bool}{I l:Addr}{k:Nat}{xs:Array Value}{y:Value}{Q:Value->Shared->Prop}(hi:ZI b s.heap I l k)(hl:ZS b s.heap l xs)(hy:xs[k]?=some y)
 (q:∀g,ZI b g I l (k+1)->Heap.SameBut I s.heap g->Q y {s with heap:=g}):wpAny (model prog w) A (Builtin.SmallTypes.nextOf (.ref I)) Q E s:=by
 cases b
 .exact wpAny_nextOf_list_item hi hl hy q
 .exact zev hi hl hy q
theorem z_end{b:Bool}{I l:Addr}{k:Nat}{xs:Array Value}{Q:Value->Shared->Prop}(hA:A.handled=none)(hi:ZI b s.heap I l k)(hl:ZS b s.heap l xs)(hy:xs[k]?=none)
 (q:∀g e,Heap.ExtBut I s.heap g->(∃o,g.get? e=some o/\o.cls=.type "StopIteration")->E (.ref e) {s with heap:=g}):wpAny (model prog w) A (Builtin.SmallTypes.nextOf (.ref I)) Q E s:=by
 cases b
 .exact wpAny_nextOf_list_end hA hi hl hy q
 .exact zd7 hA hi hl hy q
structure ZA(z TI TO i1 i2 l1 l2:Addr):Prop where
 a1:TI≠z/\TO≠z/\i1≠z/\i2≠z
 a2:TI≠TO/\TI≠i1/\TI≠i2/\TO≠i1/\TO≠i2/\i1≠i2
 a3:l1≠z/\l1≠TO/\l1≠i1/\l1≠i2
 a4:l2≠z/\l2≠TO/\l2≠i1/\l2≠i2
theorem zt0{n l1 l2:Nat}(h1:l1<n)(h2:l2<n):ZA (n+4) (n+2) (n+3) n (n+1) l1 l2:=by
 have e:∀{a b:Nat},(a<b\/b<a)->a≠b:=λh=>h.elim vau vbp
 refine⟨⟨?_,?_,?_,?_⟩,⟨?_,?_,?_,?_,?_,?_⟩,⟨?_,?_,?_,?_⟩,?_,?_,?_,?_⟩<;>exact e (by omega)
theorem zrb{b c:Bool}{z TI TO i1 i2 l1 l2:Addr}{k:Nat}{xs ys:Array Value}{x y p q:Value}{Q:Value->Shared->Prop}(D:ZA z TI TO i1 i2 l1 l2)
 (hz:IsZip s.heap z TI TO .none) (hTI:IsPair s.heap TI (.ref i1) (.ref i2)) (hTO:IsPair s.heap TO p q)
 (h1:ZI b s.heap i1 l1 k) (h2:ZI c s.heap i2 l2 k) (hl1:ZS b s.heap l1 xs) (hl2:ZS c s.heap l2 ys) (hx:xs[k]?=some x) (hy:ys[k]?=some y)
 (hQ:∀h',IsZip h' z TI TO (rawInt s.heap.objs.size)->IsPair h' TO x y->ZI b h' i1 l1 (k+1)->ZI c h' i2 l2 (k+1)->IsPair h' s.heap.objs.size x y->h'.objs.size=s.heap.objs.size+1->
   (∀c o,c≠z->c≠TO->c≠i1->c≠i2->s.heap.get? c=some o->h'.get? c=some o)->Q (.ref s.heap.objs.size) {s with heap:=h'}) :
 wpAny (model prog w) A (Builtin.«zip.__next__» ⟨[.ref z],[]⟩) (λfin s'=>∃v,fin=.done (.ret v)/\Q v s') E s:=by
 obtain⟨⟨d1,d2,d3,d4⟩,⟨d5,d6,d7,d8,d9,d10⟩,⟨d11,d12,d13,d14⟩,d15,d16,d17,d18⟩:=D
 show wpAny _ _ (field (.ref z) 2 >>= _) _ _ _;refine vab (va9 hz rfl (x:=.bool false) rfl ?_)
 show wpAny _ _ (field (.ref z) 3 >>= _) _ _ _;refine vab (va9 hz rfl (x:=.ref TI) rfl (vab (vcs hTI rfl ?_)))
 show wpAny _ _ (Builtin.SmallTypes.ownedTupleIsFree (.ref z) >>= _) _ _ _;refine vab ?_;unfold Builtin.SmallTypes.ownedTupleIsFree
 refine vab (va9 hz rfl (x:=.none) rfl (vae ?_));simp only[vbk]
 refine vab (wpAny_rule (vab (va9 hz rfl (x:=.ref TO) rfl (vab (vcr hz (by simp) λg1 z1 s1=>?_)))))
 replace z1:IsZip g1 z TI TO .ellipsis:=z1
 refine vab ?_;simp only[List.zipIdx_cons,List.zipIdx_nil,vdu,vc6]
 refine vab (vab (vel ?_));show wpAny _ _ (Builtin.SmallTypes.nextOf (.ref i1) >>= _) _ _ _
 refine vab (zli (h1.ex s1.extBut d3) (hl1.ex s1.extBut d11) hx λg2 y1 s2=>vae ?_)
 have t2:IsPair g2 TO p q:=s2.extBut _ _ d8 (s1.extBut _ _ d2 hTO)
 refine vab (vcs t2 rfl (vab (wpAny_updateSeq_pair t2 λg3 t3 s3=>?_)))
 replace t3:IsPair g3 TO x q:=t3
 refine vab (wpAny_letGo (vae (vab (vab (vel ?_)))));show wpAny _ _ (Builtin.SmallTypes.nextOf (.ref i2) >>= _) _ _ _
 refine vab (zli (((h2.ex s1.extBut d4).ex s2.extBut (vbo d10)).ex s3.extBut (vbo d9)) (((hl2.ex s1.extBut d15).ex s2.extBut d17).ex s3.extBut d16) hy λg4 y2 s4=>vae ?_)
 have t4:IsPair g4 TO x q:=s4.extBut _ _ d9 t3
 refine vab (vcs t4 rfl (vab (wpAny_updateSeq_pair t4 λg5 t5 s5=>?_)))
 replace t5:IsPair g5 TO x y:=t5
 refine vab (wpAny_letGo (vae (vae (vab (vcs t5 rfl (vab (wpAny_newTuple ?_)))))))
 have hsz:g5.objs.size=s.heap.objs.size:=by rw[s5.1,s4.1,s3.1,s2.1,s1.1]
 have z5:IsZip g5 z TI TO .ellipsis:=s5.extBut _ _ (vbo d2) (s4.extBut _ _ (vbo d4) (s3.extBut _ _ (vbo d2) (s2.extBut _ _ (vbo d3) z1)))
 have k5:∀c o,c≠z->c≠TO->c≠i1->c≠i2->s.heap.get? c=some o->g5.get? c=some o:=λc o c1 c2 c3 c4 e=>s5.extBut _ _ c2 (s4.extBut _ _ c4 (s3.extBut _ _ c2 (s2.extBut _ _ c3 (s1.extBut _ _ c1 e))))
 have i15:ZI b g5 i1 l1 (k+1):=((y1.ex s3.extBut (vbo d8)).ex s4.extBut d10).ex s5.extBut (vbo d8)
 have i25:ZI c g5 i2 l2 (k+1):=y2.ex s5.extBut (vbo d9)
 have zlt:z<g5.objs.size:=vaj z5
 show wpAny _ _ (Builtin.SmallTypes.ownedTupleHandOut (.ref z) (.ref g5.objs.size) >>= _) _ _ _;refine vab ?_;unfold Builtin.SmallTypes.ownedTupleHandOut
 have z6:IsZip (g5.push {cls:=.type "tuple",data:=.seq #[x,y]}) z TI TO .ellipsis:=vac _ z5
 refine vab (vcr z6 (by simp) λg7 z7 s7=>?_)
 replace z7:IsZip g7 z TI TO (rawInt g5.objs.size):=z7
 refine vcr z7 (by simp) λg8 z8 s8=>?_
 replace z8:IsZip g8 z TI TO (rawInt g5.objs.size):=z8
 have up:∀c o,c≠z->g5.get? c=some o->g8.get? c=some o:=λc o c1 e=>s8.extBut _ _ c1 (s7.extBut _ _ c1 (vac _ e))
 have p8:IsPair g8 g5.objs.size x y:=s8.extBut _ _ (vbp zlt) (s7.extBut _ _ (vbp zlt) (vat _ rfl))
 have n8:g8.objs.size=g5.objs.size+1:=by rw[s8.1,s7.1,vb1]
 rw[hsz]at z8 p8 n8
 refine vae ⟨_,rfl,?_⟩;show Q (.ref g5.objs.size) _;rw[hsz]
 exact hQ g8 z8 (up _ _ d2 t5) (i15.mv λo e=>up _ o d3 e) (i25.mv λo e=>up _ o d4 e) p8 n8 λc o c1 c2 c3 c4 e=>up c o c1 (k5 c o c1 c2 c3 c4 e)
theorem zt1{b c:Bool}{z TI TO i1 i2 l1 l2:Addr}{k:Nat}{xs ys:Array Value}{p q:Value}{Q:Fin->Shared->Prop}(hA:A.handled=none)(D:ZA z TI TO i1 i2 l1 l2)
 (hz:IsZip s.heap z TI TO .none) (hTI:IsPair s.heap TI (.ref i1) (.ref i2)) (hTO:IsPair s.heap TO p q)
 (h1:ZI b s.heap i1 l1 k) (h2:ZI c s.heap i2 l2 k) (hl1:ZS b s.heap l1 xs) (hl2:ZS c s.heap l2 ys) (he:xs[k]?=none\/ys[k]?=none)
 (hE:∀h' e,(∀c o,c≠z->c≠TO->c≠i1->c≠i2->s.heap.get? c=some o->h'.get? c=some o)->(∃o,h'.get? e=some o/\o.cls=.type "StopIteration")->E (.ref e) {s with heap:=h'}) :
 wpAny (model prog w) A (Builtin.«zip.__next__» ⟨[.ref z],[]⟩) Q E s:=by
 obtain⟨⟨d1,d2,d3,d4⟩,⟨d5,d6,d7,d8,d9,d10⟩,⟨d11,d12,d13,d14⟩,d15,d16,d17,d18⟩:=D
 show wpAny _ _ (field (.ref z) 2 >>= _) _ _ _;refine vab (va9 hz rfl (x:=.bool false) rfl ?_)
 show wpAny _ _ (field (.ref z) 3 >>= _) _ _ _;refine vab (va9 hz rfl (x:=.ref TI) rfl (vab (vcs hTI rfl ?_)))
 show wpAny _ _ (Builtin.SmallTypes.ownedTupleIsFree (.ref z) >>= _) _ _ _;refine vab ?_;unfold Builtin.SmallTypes.ownedTupleIsFree
 refine vab (va9 hz rfl (x:=.none) rfl (vae ?_));simp only[vbk]
 refine vab (wpAny_rule (vab (va9 hz rfl (x:=.ref TO) rfl (vab (vcr hz (by simp) λg1 z1 s1=>?_)))))
 replace z1:IsZip g1 z TI TO .ellipsis:=z1
 refine vab ?_;simp only[List.zipIdx_cons,List.zipIdx_nil,vdu,vc6]
 refine vab (vab (vel ?_));show wpAny _ _ (Builtin.SmallTypes.nextOf (.ref i1) >>= _) _ _ _
 cases hx:xs[k]? with
 |none=>
  refine vab (z_end hA (h1.ex s1.extBut d3) (hl1.ex s1.extBut d11) hx λg2 e s2 hs=>?_)
  obtain⟨oe,hoe,hce⟩:=hs
  have z2:IsZip g2 z TI TO .ellipsis:=s2 _ _ (vbo d3) z1
  have nez:e≠z:=λx=>by subst x;rw[z2]at hoe;cases hoe;simp at hce
  exact vcr z2 (by simp) λg3 _ s3=>hE g3 e (λc o c1 _ c3 _ x=>s3.extBut _ _ c1 (s2 _ _ c3 (s1.extBut _ _ c1 x))) ⟨oe,s3.extBut _ _ nez hoe,hce⟩
 |some x=>
  have hy:ys[k]?=none:=by rcases he with h|h;rw[hx]at h;cases h;exact h
  refine vab (zli (h1.ex s1.extBut d3) (hl1.ex s1.extBut d11) hx λg2 y1 s2=>vae ?_)
  have t2:IsPair g2 TO p q:=s2.extBut _ _ d8 (s1.extBut _ _ d2 hTO)
  refine vab (vcs t2 rfl (vab (wpAny_updateSeq_pair t2 λg3 t3 s3=>?_)))
  refine vab (wpAny_letGo (vae (vab (vab (vel ?_)))));show wpAny _ _ (Builtin.SmallTypes.nextOf (.ref i2) >>= _) _ _ _
  refine vab (z_end hA (((h2.ex s1.extBut d4).ex s2.extBut (vbo d10)).ex s3.extBut (vbo d9)) (((hl2.ex s1.extBut d15).ex s2.extBut d17).ex s3.extBut d16) hy λg4 e s4 hs=>?_)
  obtain⟨oe,hoe,hce⟩:=hs
  have z4:IsZip g4 z TI TO .ellipsis:=s4 _ _ (vbo d4) (s3.extBut _ _ (vbo d2) (s2.extBut _ _ (vbo d3) z1))
  have nez:e≠z:=λx=>by subst x;rw[z4]at hoe;cases hoe;simp at hce
  exact vcr z4 (by simp) λg5 _ s5=>hE g5 e (λc o c1 c2 c3 c4 x=>s5.extBut _ _ c1 (s4 _ _ c4 (s3.extBut _ _ c2 (s2.extBut _ _ c3 (s1.extBut _ _ c1 x))))) ⟨oe,s5.extBut _ _ nez hoe,hce⟩
theorem zrc{b c:Bool}{z TI TO i1 i2 l1 l2:Addr}{k:Nat}{xs ys:Array Value}{x y p q:Value}{Q:Option Value->Shared->Prop}(D:ZA z TI TO i1 i2 l1 l2)
 (hz:IsZip s.heap z TI TO .none) (hTI:IsPair s.heap TI (.ref i1) (.ref i2)) (hTO:IsPair s.heap TO p q)
 (h1:ZI b s.heap i1 l1 k) (h2:ZI c s.heap i2 l2 k) (hl1:ZS b s.heap l1 xs) (hl2:ZS c s.heap l2 ys) (hx:xs[k]?=some x) (hy:ys[k]?=some y)
 (hQ:∀h',IsZip h' z TI TO (rawInt s.heap.objs.size)->IsPair h' TO x y->ZI b h' i1 l1 (k+1)->ZI c h' i2 l2 (k+1)->IsPair h' s.heap.objs.size x y->h'.objs.size=s.heap.objs.size+1->
   (∀c o,c≠z->c≠TO->c≠i1->c≠i2->s.heap.get? c=some o->h'.get? c=some o)->Q (some (.ref s.heap.objs.size)) {s with heap:=h'}):wpAny (model prog w) A (pyNext (.ref z)) Q E s:=by
 have hT:s.TypeIs (.ref z) "zip":=⟨_,hz,rfl⟩
 unfold pyNext
 exact vab (vd9 (vbs (name:=Str.ofString "__next__") hT ved (vco ved hT F.entry_zip_next (zrb D hz hTI hTO h1 h2 hl1 hl2 hx hy λh' a1 a2 a3 a4 a5 a6 a7=>vae (hQ h' a1 a2 a3 a4 a5 a6 a7)) (F.args_zip_next_1 _))))
theorem zt2{b c:Bool}{z TI TO i1 i2 l1 l2:Addr}{k:Nat}{xs ys:Array Value}{p q:Value}{Q:Option Value->Shared->Prop}(hA:A.in1.handled=none)(D:ZA z TI TO i1 i2 l1 l2)
 (hz:IsZip s.heap z TI TO .none) (hTI:IsPair s.heap TI (.ref i1) (.ref i2)) (hTO:IsPair s.heap TO p q)
 (h1:ZI b s.heap i1 l1 k) (h2:ZI c s.heap i2 l2 k) (hl1:ZS b s.heap l1 xs) (hl2:ZS c s.heap l2 ys) (he:xs[k]?=none\/ys[k]?=none)
 (hQ:∀h',(∀c o,c≠z->c≠TO->c≠i1->c≠i2->s.heap.get? c=some o->h'.get? c=some o)->Q none {s with heap:=h'}):wpAny (model prog w) A (pyNext (.ref z)) Q E s:=by
 have hT:s.TypeIs (.ref z) "zip":=⟨_,hz,rfl⟩
 unfold pyNext
 refine vab (vd9 (vbs (name:=Str.ofString "__next__") hT ved (vco ved hT F.entry_zip_next (zt1 hA D hz hTI hTO h1 h2 hl1 hl2 he λh' e hk hs=>?_) (F.args_zip_next_1 _))))
 obtain⟨o,ho,hc⟩:=hs
 exact vab (wpAny_isInstance (T:="StopIteration") (b:=true) ⟨o,ho,hc⟩ isSubtype_stop (vae (hQ _ hk)))
noncomputable def zh1(h:Heap)(b:Bool)(l1:Addr):Heap:=h.push (zIt b l1)
noncomputable def zh2(h:Heap)(b c:Bool)(l1 l2:Addr):Heap:=(zh1 h b l1).push (zIt c l2)
noncomputable def zh3(h:Heap)(b c:Bool)(l1 l2:Addr):Heap:=(zh2 h b c l1 l2).push {cls:=.type "tuple",data:=.seq #[.ref h.objs.size,.ref (zh1 h b l1).objs.size]}
noncomputable def zh4(h:Heap)(b c:Bool)(l1 l2:Addr):Heap:=(zh3 h b c l1 l2).push {cls:=.type "tuple",data:=.seq #[.none,.none]}
noncomputable def zh5(h:Heap)(b c:Bool)(l1 l2:Addr):Heap:=(zh4 h b c l1 l2).push {cls:=.type "zip",data:=.fields #[.none,.bool false,.bool false,.ref (zh2 h b c l1 l2).objs.size,.ref (zh3 h b c l1 l2).objs.size]}
theorem zn8(b c:Bool)(l1 l2:Addr)(xs ys:Array Value):Meets (Builtin.«zip.__new__» ⟨[.type "zip",.ref l1,.ref l2],[]⟩) (λ_ R s=>ZS b s.heap l1 xs/\ZS c s.heap l2 ys/\
 R (.ok (.ret (.ref (zh4 s.heap b c l1 l2).objs.size))) {s with heap:=zh5 s.heap b c l1 l2}):=
 .of_wp λprog w A R s h=>by
  obtain⟨hp,g,d,tk,os⟩:=s;obtain⟨m1,m2,h⟩:=h
  have hsub:=sub_zip
  have e1:ZS b (Shared.heap ⟨hp,g,d,tk,os⟩) l1 xs:=m1
  have e2:ZS c (Shared.heap ⟨hp.push (zIt b l1),g,d,tk,os⟩) l2 ys:=m2.push _
  cases b<;>cases c
  .have q1:Heap.IsList (Shared.heap ⟨hp,g,d,tk,os⟩) l1 xs:=e1
   have q2:Heap.IsList (Shared.heap ⟨hp.push {cls:=.type "list_iterator",data:=.fields #[.ref l1,.int 0 0]},g,d,tk,os⟩) l2 ys:=e2
   wp_walk using vcw q1,vcw q2
   exact⟨_,rfl,h⟩
  .have q1:Heap.IsList (Shared.heap ⟨hp,g,d,tk,os⟩) l1 xs:=e1
   have q2:Heap.IsTuple (Shared.heap ⟨hp.push {cls:=.type "list_iterator",data:=.fields #[.ref l1,.int 0 0]},g,d,tk,os⟩) l2 ys:=e2
   wp_walk using vcw q1,vci q2
   exact⟨_,rfl,h⟩
  .have q1:Heap.IsTuple (Shared.heap ⟨hp,g,d,tk,os⟩) l1 xs:=e1
   have q2:Heap.IsList (Shared.heap ⟨hp.push {cls:=.type "tuple_iterator",data:=.fields #[.ref l1,.int 0 0]},g,d,tk,os⟩) l2 ys:=e2
   wp_walk using vci q1,vcw q2
   exact⟨_,rfl,h⟩
  .have q1:Heap.IsTuple (Shared.heap ⟨hp,g,d,tk,os⟩) l1 xs:=e1
   have q2:Heap.IsTuple (Shared.heap ⟨hp.push {cls:=.type "tuple_iterator",data:=.fields #[.ref l1,.int 0 0]},g,d,tk,os⟩) l2 ys:=e2
   wp_walk using vci q1,vci q2
   exact⟨_,rfl,h⟩
theorem zph{b:Bool}{h:Heap}{l:Addr}{a:Addr}(e:h.get? a=some (zIt b l)):ZI b h a l 0:=by
 cases b<;>exact⟨_,e,rfl,rfl⟩
theorem zrd{b c:Bool}{l1 l2:Addr}{xs ys:Array Value}{Q:Value->Shared->Prop}(m1:ZS b s.heap l1 xs)(m2:ZS c s.heap l2 ys)
 (h:∀h',IsZip h' (s.heap.objs.size+4) (s.heap.objs.size+2) (s.heap.objs.size+3) .none->IsPair h' (s.heap.objs.size+2) (.ref s.heap.objs.size) (.ref (s.heap.objs.size+1))->
   IsPair h' (s.heap.objs.size+3) .none .none->ZI b h' s.heap.objs.size l1 0->ZI c h' (s.heap.objs.size+1) l2 0->h'.objs.size=s.heap.objs.size+5->
   (∀c o,s.heap.get? c=some o->h'.get? c=some o)->Q (.ref (s.heap.objs.size+4)) {s with heap:=h'}):wpAny (model prog w) A (call (.type "zip") [.ref l1,.ref l2]) Q E s:=by
 refine callType_new F.called_zip (by decide) (F.typeCall_zip_2 _ _) (F.newCall_zip_2 _ _) (λobj=>F.args_object_init_3 obj _ _) F.entry_zip_new (zn8 b c l1 l2 xs ys) ⟨m1,m2,?_⟩
 have n1:(zh1 s.heap b l1).objs.size=s.heap.objs.size+1:=vb1 ..
 have n2:(zh2 s.heap b c l1 l2).objs.size=s.heap.objs.size+2:=by unfold zh2;rw[vb1,n1]
 have n3:(zh3 s.heap b c l1 l2).objs.size=s.heap.objs.size+3:=by unfold zh3;rw[vb1,n2]
 have n4:(zh4 s.heap b c l1 l2).objs.size=s.heap.objs.size+4:=by unfold zh4;rw[vb1,n3]
 have n5:(zh5 s.heap b c l1 l2).objs.size=s.heap.objs.size+5:=by unfold zh5;rw[vb1,n4]
 have g5:(zh5 s.heap b c l1 l2).get? (zh4 s.heap b c l1 l2).objs.size=some _:=vat _ rfl
 have g4:(zh5 s.heap b c l1 l2).get? (zh3 s.heap b c l1 l2).objs.size=some _:=vac _ (vat _ rfl)
 have g3:(zh5 s.heap b c l1 l2).get? (zh2 s.heap b c l1 l2).objs.size=some _:=vac _ (vac _ (vat _ rfl))
 have g2:(zh5 s.heap b c l1 l2).get? (zh1 s.heap b l1).objs.size=some _:=vac _ (vac _ (vac _ (vat _ rfl)))
 have g1:(zh5 s.heap b c l1 l2).get? s.heap.objs.size=some _:=vac _ (vac _ (vac _ (vac _ (vat _ rfl))))
 show _/\_
 rw[n2,n3,n4]at g5
 rw[n1,n2]at g3
 rw[n3]at g4
 rw[n1]at g2
 rw[n4]
 exact⟨⟨_,g5,rfl⟩,h _ g5 g3 g4 (zph g1) (zph g2) n5 λc o x=>vac _ (vac _ (vac _ (vac _ (vac _ x))))⟩
end
noncomputable def SqB(b:Bool)(K:PySem.W.Frag)(H:Hp)(a:Addr)(xs:List V):Prop:=match b with|true=>SqT K H a xs|false=>SqL K H a xs
theorem zex{b:Bool}{X:Cx}{pins:List (Addr×Obj)}{σ:St}{H:Hp}{s:Shared}{a:Addr}{xs:List V}(I:Inv X pins σ H s)(h:SqB b X.K H a xs):∃its:List Value,Vals xs its/\ZS b s.heap a its.toArray/\xs.length<=sizeLine:=by
 cases b
 .obtain⟨its,r,p,z⟩:=I.list h
  exact⟨its,r,p.isList,z⟩
 .exact I.tuple h
theorem zlj{b:Bool}{X:Cx}{pins:List (Addr×Obj)}{σ:St}{H:Hp}{s:Shared}{a:Addr}{xs ys:List V}(I:Inv X pins σ H s)(h:SqB b X.K H a xs)(h':SqB b X.K H a ys):xs=ys:=by
 cases b
 .exact I.list_inj h h'
 .exact I.tuple_inj h h'
noncomputable def IteZ(K:PySem.W.Frag)(b c:Bool)(a1 a2:Addr):It:=
 ⟨λi H=>∃xs ys x y,SqB b K H a1 xs/\SqB c K H a2 ys/\xs[i]?=some x/\ys[i]?=some y,
  λi H v H'=>∃T x y,v=.ref T/\H T=none/\H'=upd H T (.tup [x,y])/\(∀xs,SqB b K H a1 xs->xs[i]?=some x)/\∀ys,SqB c K H a2 ys->ys[i]?=some y,
  λi H=>∃xs ys,SqB b K H a1 xs/\SqB c K H a2 ys/\(xs.length<=i\/ys.length<=i)⟩
theorem Inv.turnedZ{X:Cx}{pins:List (Addr×Obj)}{σ:St}{H:Hp}{s:Shared}{h2:Heap}{t':Nat}{fp:List Addr}(I:Inv X pins σ H s)(hf:∀b∈fp,FpOk X pins H b)(kk:∀b o,b∉fp->s.heap.get? b=some o->h2.get? b=some o) :
 Inv X pins σ H {s with heap:=h2,toks:=t'}:=by
 have f0:=λb hb=>(hf b hb).1
 have nE:∀b o,H b=some o->b∉fp:=λb o q z=>by rw[f0 b z]at q;cases q
 refine I.step (g':=s.gens) (d':=s.drawn) (ch:=fp) (λb hb=>?_) (λb o _ _ hc e1 _=>kk b o hc e1) (λb o _ _ hc e1 _=>⟨o.slots,kk b o hc e1⟩) (λ_ _ _ _ n=>n) (λb o hc e1=>⟨o,kk b o hc e1⟩)
  (λ_ _ q=>q) (λ_ _ _ q=>q) (λb ps q=>⟨#[],by rw[q];simp⟩) (λm hm=>?_) (λb ob q=>?_) I.bare
 .obtain⟨_,a1,a2,a3,a4,a5⟩:=hf b hb
  exact⟨a3,a1,a4,a5⟩
 .obtain⟨o,es,ep,ho',r⟩:=hm
  exact⟨o,es,ep,kk _ o (λz=>(hf _ z).2.1 rfl) ho',r⟩
 .refine(I.hok b ob q).stay (λc v hc z=>kk c v ?_ z) (λ_ z=>z) λ_ _ z=>z
  rcases hc with rfl|hc
  .exact nE c ob q
  .exact nE c _ hc
theorem Inv.turnedT{X:Cx}{pins:List (Addr×Obj)}{σ:St}{H:Hp}{s:Shared}{h2:Heap}{fp:List Addr}{xs:List V}{us:List Value}(I:Inv X pins σ H s)(hf:∀b∈fp,FpOk X pins H b)(kk:∀b o,b∉fp->s.heap.get? b=some o->h2.get? b=some o)
 (hT:h2.get? s.heap.objs.size=some {cls:=.type "tuple",data:=.seq us.toArray}) (hv:Vals xs us) (hz:xs.length<=sizeLine):Inv X pins σ (upd H s.heap.objs.size (.tup xs)) {s with heap:=h2}:=by
 have hTn:H s.heap.objs.size=none:=I.hok.fresh (vad _)
 have f0:=λb hb=>(hf b hb).1
 have nE:∀b o,H b=some o->b∉fp:=λb o q z=>by rw[f0 b z]at q;cases q
 refine I.step (g':=s.gens) (d':=s.drawn) (ch:=fp) (λb hb=>?_) (λb o _ _ hc e1 _=>kk b o hc e1) (λb o _ _ hc e1 _=>⟨o.slots,kk b o hc e1⟩) (λb o hc e1 n=>by rw[zae (vau (vaj e1))];exact n) (λb o hc e1=>⟨o,kk b o hc e1⟩)
  (λb ys q=>by rw[zae (zaf q hTn)];exact q) (λb o u q=>by rw[zae (zaf q hTn)];exact q) (λb ps q=>⟨#[],by rw[zae (zaf q hTn),q];simp⟩) (λm hm=>?_) (λb ob q=>?_) I.bare
 .obtain⟨_,a1,a2,a3,a4,a5⟩:=hf b hb
  exact⟨a3,a1,a4,a5⟩
 .obtain⟨o,es,ep,ho',r⟩:=hm
  exact⟨o,es,ep,kk _ o (λz=>(hf _ z).2.1 rfl) ho',r⟩
 .by_cases hb:b=s.heap.objs.size
  .subst hb
   rw[zag]at q;cases q
   exact⟨hz,us,hv,⟨_,hT,rfl,⟨_,rfl⟩,rfl⟩⟩
  .rw[zae hb]at q
   refine(I.hok b ob q).stay (λc v hc z=>kk c v ?_ z) (λc z=>by rw[zae (zaf z hTn)];exact z) λc ys z=>by rw[zae (zaf z hTn)];exact z
   rcases hc with rfl|hc
   .exact nE c ob q
   .exact nE c _ hc
theorem zn9{P:Program}{w:World}{K:PySem.W.Frag}{elts:List Expr}{kx:Nat}{tp:Pos}{b c:Bool}(a1 a2 z TI TO i1 i2:Addr)(D:ZA z TI TO i1 i2 a1 a2) :
 Turn P w K (.Tuple elts kx tp) (IteZ K b c a1 a2) [z,TI,TO,i1,i2] z (λi h=>IsZip h z TI TO .none/\IsPair h TI (.ref i1) (.ref i2)/\(∃p q,IsPair h TO p q)/\ZI b h i1 a1 i/\ZI c h i2 a2 i)where
 mem:=by simp
 obj:=λi h st d hd=>by
  obtain⟨hz,hTI,⟨p,q,hTO⟩,h1,h2⟩:=st
  simp only[va0,vcp,vem]at hd
  rcases hd with rfl|rfl|rfl|rfl|rfl
  .exact⟨_,hz,λv z=>by
    have z':Data.fields _=Data.cell v:=z
    cases z'⟩
  .exact⟨_,hTI,λv z=>by
    have z':Data.seq _ _=Data.cell v:=z
    cases z'⟩
  .exact⟨_,hTO,λv z=>by
    have z':Data.seq _ _=Data.cell v:=z
    cases z'⟩
  .exact h1.ob
  .exact h2.ob
 keep:=λi h h' st k=>by
  obtain⟨hz,hTI,⟨p,q,hTO⟩,h1,h2⟩:=st
  exact⟨k z (by simp) _ hz,k TI (by simp) _ hTI,⟨p,q,k TO (by simp) _ hTO⟩,h1.mv λo e=>k i1 (by simp) o e,h2.mv λo e=>k i2 (by simp) o e⟩
 item:=by
  intro X hP hw hK hc i pins s σ H E I hf st hg
  subst hP hw hK
  obtain⟨xs,ys,x,y,q1,q2,hx,hy⟩:=hg
  obtain⟨hz,hTI,⟨p,q,hTO⟩,h1,h2⟩:=st
  obtain⟨its,rv,m1,_⟩:=zex I q1
  obtain⟨jts,rw',m2,_⟩:=zex I q2
  obtain⟨u,hu,ru⟩:=rv.get hx
  obtain⟨v,hv,rv'⟩:=rw'.get hy
  refine zrc D hz hTI hTO h1 h2 m1 m2 (x:=u) (y:=v) (by simpa using hu) (by simpa using hv) λg b1 b2 b3 b4 b5 b6 b7=>⟨_,rfl,wpAny_letOwnedTupleGo_zip b1 λg2 c1 c2=>?_⟩
  obtain⟨⟨d1,d2,d3,d4⟩,⟨d5,d6,d7,d8,d9,d10⟩,_,_⟩:=D
  have c2:Heap.SameBut z g g2:=c2
  have zlt:s.heap.objs.size≠z:=vbp (vaj hz)
  have kk:∀d o,d∉[z,TI,TO,i1,i2]->s.heap.get? d=some o->g2.get? d=some o:=λd o hd e=>(c2.2 d λx=>hd (by simp[x])).trans (b7 d o (λx=>hd (by simp[x])) (λx=>hd (by simp[x])) (λx=>hd (by simp[x])) (λx=>hd (by simp[x])) e)
  have hT:g2.get? s.heap.objs.size=some {cls:=.type "tuple",data:=.seq [u,v].toArray}:=(c2.2 _ zlt).trans b5
  have I2:=Inv.turnedT (xs:=[x,y]) I hf kk hT (.cons ru (.cons rv' .nil)) (by show 2<=sizeLine;decide)
  have hTn:H s.heap.objs.size=none:=I.hok.fresh (vad _)
  refine⟨.ref s.heap.objs.size,_,I2,rfl,⟨_,x,y,rfl,hTn,rfl,λzs hzs=>by rw[zlj I hzs q1];exact hx,λzs hzs=>by rw[zlj I hzs q2];exact hy⟩,
   ⟨c1,(c2.2 TI d1).trans (b7 TI _ d1 d5 d6 d7 hTI),⟨u,v,(c2.2 TO d2).trans b2⟩,b3.mv λo e=>(c2.2 i1 d3).trans e,b4.mv λo e=>(c2.2 i2 d4).trans e⟩,λd hd=>?_⟩
  rw[zae ?_]
  .exact(hf d hd).1
  .intro e
   obtain⟨o,ho⟩:∃o,s.heap.get? d=some o:=by
    simp only[va0,vcp,vem]at hd
    rcases hd with rfl|rfl|rfl|rfl|rfl
    .exact⟨_,hz⟩
    .exact⟨_,hTI⟩
    .exact⟨_,hTO⟩
    .exact let⟨o,h,_⟩:=h1.ob;⟨o,h⟩
    .exact let⟨o,h,_⟩:=h2.ob;⟨o,h⟩
   exact vau (vaj ho) e
 done:=by
  intro X hP hw hK hc i pins s σ H E I hf st hg
  subst hP hw hK
  obtain⟨xs,ys,q1,q2,hl⟩:=hg
  obtain⟨hz,hTI,⟨p,q,hTO⟩,h1,h2⟩:=st
  obtain⟨its,rv,m1,_⟩:=zex I q1
  obtain⟨jts,rw',m2,_⟩:=zex I q2
  have l1:=rv.length
  have l2:=rw'.length
  exact zt2 (I.ok.hd hc) D hz hTI hTO h1 h2 m1 m2 (hl.imp (λh=>by simp;omega) λh=>by simp;omega) λg hk=>⟨rfl,Inv.turnedZ (t':=s.toks) I hf λd o hd e=>hk d o (λx=>hd (by simp[x])) (λx=>hd (by simp[x])) (λx=>hd (by simp[x])) (λx=>hd (by simp[x])) e⟩
 self:=λ_ _ _ _ _ st h=>wpAny_pyIter_zip st.1 h
theorem zoa{bs:List Bool}{its:List Value}(r:Vals (bs.map .bl) its)(i:Nat){v:Value}(h:its[i]?=some v):∃b,bs[i]?=some b/\v=.bool b:=by
 have hl:=r.length
 rw[vaf]at hl
 obtain⟨hi,_⟩:=van.mp h
 have hb:bs[i]?=some bs[i]:=vao (by omega)
 obtain⟨u,hu,ru⟩:=r.get (i:=i) (x:=.bl bs[i]) (by rw[vbm,hb];rfl)
 rw[h]at hu;cases hu
 exact⟨_,hb,ru⟩
theorem zlk(bs:List Bool):((List.range bs.length).all λi=>(bs[i]?).getD true)=bs.all id:=by
 rw[vdr,va1,va1]
 refine⟨λh b hb=>?_,λh i hi=>?_⟩
 .obtain⟨i,hi,rfl⟩:=List.getElem_of_mem hb
  have:=h i (vd3.mpr hi)
  rw[vao hi]at this
  exact this
 .have hi':=vd3.mp hi
  rw[vao hi']
  exact h _ (vc3 hi')
section
variable{X:Cx}
theorem zob(hc:X.calm=true):CallR X (.builtin "all") (λxs H Q=>∃(p:Addr) (bs:List Bool),xs=[.ref p]/\SqL X.K H p (bs.map .bl)/\Q (.bl (bs.all id)) H):=by
 intro pins s σ H xs us Q I r h
 obtain⟨p,bs,rfl,hq,q⟩:=h
 obtain⟨u,rfl,ru⟩:=vals1 r
 cases ru
 obtain⟨its,rv,pl,hz⟩:=I.list hq
 have hL:s.heap.IsList p its.toArray:=pl.isList
 have hlt:p<s.heap.objs.size:=by obtain⟨_,e,_⟩:=hL;exact vaj e
 have hd:X.A.in1.handled=none:=I.ok.hd hc
 have hlen:its.toArray.size=bs.length:=by rw[vag,<-rv.length,vaf]
 refine call_all_walk (vcw hL ⟨s.heap.objs.size,[s.heap.objs.size,p],[s.heap.objs.size],its.toArray.size,_,_,λi=>(bs[i]?).getD true,rfl,Walks.list (A:=X.A.in1) hd _ p (vau hlt) its.toArray,?_,?_,?_⟩)
 .exact⟨⟨_,vat _ rfl,rfl,rfl⟩,hL.push _⟩
 .intro i v s' Q' E' hP hQ
  obtain⟨b,e,rfl⟩:=zoa rv i (by simpa using hP)
  simp only[e,Option.getD_some]at hQ
  exact vbr hQ
 .intro h' tk hk
  rw[hlen,zlk]
  refine⟨.bl (bs.all id),H,I.kept (t':=tk) λb o e=>hk b o (λhm=>?_) (vac _ e),rfl,q⟩
  rw[vdz.mp hm]at e
  exact vcj _ (vaj e)
end
theorem zfq{h:Heap}{us:List Value}{ds:List PyData}{as:List Addr}{d e:PyData}{u:Value}{i:Nat}(ra:ReadsAll h us ds as)(s1:ds.all SeqAt.shaped=true)(h1:us[i]?=some u)(h2:ds[i]?=some e):eqOf us ds d u=PyData.eqv e d:=by
 cases q:PyData.eqv e d with
 |true=>exact zb2.mpr ⟨i,e,h1,h2,q⟩
 |false=>
  refine Bool.eq_false_iff.mpr λz=>?_
  obtain⟨j,e',h3,h4,h5⟩:=zb2.mp z
  obtain⟨e1,cs1,g1,g2⟩:=zbb ra h1
  obtain⟨e2,cs2,g3,g4⟩:=zbb ra h3
  rw[h2]at g1;cases g1
  rw[h4]at g3;cases g3
  have:e=e':=(Reads.unique g2 _ _ g4).1
  subst this
  rw[q]at h5;cases h5
theorem zey{α β:Type}{p:α->Bool}{q:β->Bool}:∀{us:List α} {ds:List β},us.length=ds.length->(∀(i:Nat) (u:α) (e:β),us[i]?=some u->ds[i]?=some e->p u=q e)->us.countP p=ds.countP q
 |[],[],_,_=>rfl
 |[],_::_,h,_=>by cases h
 |_::_,[],h,_=>by cases h
 |u::us,e::ds,h,k=>by
  rw[List.countP_cons,List.countP_cons,k 0 u e rfl rfl,zey (us:=us) (ds:=ds) (by simpa using h) λi u e h1 h2=>k (i+1) u e (by simpa using h1) (by simpa using h2)]
theorem zj4{h:Heap}{us:List Value}{ds:List PyData}{as:List Addr}{d:PyData}(ra:ReadsAll h us ds as)(s1:ds.all SeqAt.shaped=true):us.countP (eqOf us ds d)=ds.countP λe=>PyData.eqv e d:=
 zey (zbf ra) λi u e h1 h2=>zfq ra s1 h1 h2
section
variable{X:Cx}
noncomputable def zt3(K:PySem.W.Frag)(tup:Bool):V->List V->Hp->VK->Prop:=λx vs H Q=>∃p xs y ds d,x=.ref p/\vs=[y]/\(if tup then SqT K H p xs else SqL K H p xs)/\Rps K (λ_=>False) H xs ds/\Rp K (λ_=>False) H y d/\ds.all SeqAt.shaped=true/\SeqAt.shaped d=true/\
 Q (.int (ds.countP λe=>PyData.eqv e d:Nat)) H
theorem zll(hu:X.A.in1.units+64<cLine):MtR X "list.count" (zt3 X.K false):=by
 intro pins s σ H x vs v us Q I rx rv h
 obtain⟨p,xs,y,ds,d,rfl,rfl,hq,r1,r2,s1,s2,q⟩:=h
 cases rx
 obtain⟨u,rfl,ru⟩:=rv.one
 obtain⟨bs,rb⟩:=r2.reads I ru
 simp only[vak,vbe]at hq
 obtain⟨its,r,pl,hz⟩:=I.list hq
 obtain⟨as,ra⟩:=r1.reads I r
 obtain⟨⟨c,dd,dt,sl⟩,n,e1,e2,e4,e3⟩:=pl
 replace e2:c=.type "list":=e2
 replace e3:dt=.seq its.toArray n:=e3
 subst e2 e3
 refine vc4 PySem.F.slot_list_count ⟨_,e1,rfl⟩ PySem.F.entry_list_count (PySem.F.args_list_count_2 _ _) (SeqAt.list_countAt p its.toArray n dd sl u (eqOf its ds d)) ⟨e1,λw hw=>zc4 ?_ ra rb s1 s2 w (by simpa using hw),?_⟩
 .exact hu
 .refine⟨.int _,H,I.tok _,⟨_,rfl⟩,?_⟩
  rw[show its.toArray.toList=its from rfl,zj4 ra s1]
  exact q
end
end L2
namespace RF
open PySem
inductive W where
 |non|bl (b:Bool)|int (i:Int)|str (x:Str)|tup (ws:List W)|fz (ws:List W)|ref (i:Nat)
mutual
noncomputable def W.lt(n:Nat):W->Bool
 |.tup ws=>W.lts n ws
 |.fz ws=>W.lts n ws
 |.ref i=>Nat.blt i n
 |_=>true
noncomputable def W.lts(n:Nat):List W->Bool
 |[]=>true
 |w::ws=>W.lt n w&&W.lts n ws
end
inductive VO where
 |lst (ws:List W)|dk (kvs:List (L2.Key×W))
structure VH where
 n:Nat
 lo:Nat
 os:List VO
noncomputable def VH.get(h:VH)(i:Nat):Option VO:=if Nat.blt i h.n then h.os[h.n-1-i]? else none
noncomputable def VH.set(h:VH)(i:Nat)(o:VO):VH:=⟨h.n,if Nat.blt i h.lo then i else h.lo,h.os.set (h.n-1-i) o⟩
noncomputable def VH.new(h:VH)(o:VO):VH:=⟨h.n+1,h.lo,o::h.os⟩
inductive Res(α:Type)where
 |ok (a:α) (h:VH)|ex (x:W) (h:VH)|no
noncomputable def Res.bind{α β:Type}(r:Res α)(f:α->VH->Res β):Res β:=match r with
 |.ok a h=>f a h
 |.ex x h=>.ex x h
 |.no=>.no
noncomputable def Res.of{α:Type}(o:Option α)(h:VH):Res α:=match o with
 |some a=>.ok a h
 |none=>.no
inductive Op where
 |add|sub|mul|fdiv|mod|shl|pow|shr|band
 deriving DecidableEq
inductive Cp where
 |eq|ne|lt|le|gt|ge|isn|notn|inn|nin
 deriving DecidableEq
inductive Ty where
 |int|bool|tuple|list|str|dict
 deriving DecidableEq
inductive Bi where
 |len|list|tuple|int|abs|max|min|all|lrng|rev|cget
 deriving DecidableEq
inductive Mt where
 |append
 deriving DecidableEq
inductive Kd where
 |seq|rng1|enm|zip
 deriving DecidableEq
inductive Tg where
 |one (i:Nat)|many (is:List Nat)
 deriving DecidableEq
inductive E where
 |var (i:Nat)|cst (w:W)
 |nil|cons (a r:E)
 |tup (a:E)|lst (a:E)|dsp (a:E)
 |op (o:Op) (a b:E)|neg (a:E)
 |cmp (c:Cp) (a b:E)|chn (c d:Cp) (a b e:E)
 |not (a:E)|and (a b:E)|or (a b:E)|tru (a:E)|ite (c a b:E)
 |idx (a b:E)|slc (a:E) (bl:Bool) (lo:E) (bh:Bool) (hi:E)
 |call (f:Nat) (a:E)|bi (b:Bi) (a:E)|isi (t:Ty) (a:E)|mt (m:Mt) (o a:E)
 |lc (k:Kd) (a:E) (t:Tg) (ow:Nat) (ix:List Nat) (c e:E)
inductive S where
 |skip|seq (a b:S)|set (i:Nat) (e:E)|unp (is:List Nat) (e:E)|aug (i:Nat) (o:Op) (e:E)
 |put (o i v:E)|ite (c:E) (a b:S)|ret (e:E)|expr (e:E)|brk|cnt
 |for (k:Kd) (a:E) (t:Tg) (b:S)|whl (c:E) (b:S)|tryc (f:Nat) (a:E) (tb:List (Nat×W))|try2 (f:Nat) (a:E) (tb:List (Nat×W)) (ta:List (Nat×Str))|rsj (D:Nat) (a:E)|tel (f:Nat) (a:E) (b:Bool) (s t:S)|no
noncomputable abbrev En:=List (Option W)
inductive Fl where
 |nx (ρ:En)|rt (w:W)|bk (ρ:En)|ct (ρ:En)
noncomputable def mapO{α β:Type}(f:α->Option β):List α->Option (List β)
 |[]=>some []
 |a::r=>match f a with
  |some b=>(match mapO f r with
   |some bs=>some (b::bs)
   |none=>none)
  |none=>none
noncomputable def toD(h:VH):Nat->W->Option PyData
 |0,_=>none
 |n+1,w=>match w with
  |.non=>some .none
  |.bl b=>some (.bool b)
  |.int i=>some (.int i)
  |.str x=>some (.str x)
  |.tup ws=>(mapO (toD h n) ws).map .tuple
  |.fz ws=>(mapO (toD h n) ws).map .list
  |.ref i=>match h.get i with
   |some (.lst ws)=>(mapO (toD h n) ws).map .list
   |_=>none
noncomputable def eqW(h:VH)(x y:W):Option Bool:=
 match toD h 24 x,toD h 24 y with
 |some d,some e=>if SeqAt.shaped d&&SeqAt.shaped e then some (PyData.eqv d e)else none
 |_,_=>none
noncomputable def big:Nat:=16777216
noncomputable def zbs(i:Int):Bool:=decide (-(2 ^ 64)<i)&&decide (i<2 ^ 64)
noncomputable def opI:Op->Int->Int->Option Int
 |.add,i,j=>some (i+j)
 |.sub,i,j=>some (i-j)
 |.mul,i,j=>if zbs i||zbs j then some (i*j)else none
 |.fdiv,i,j=>if decide (0<j)&&decide (j<1073741824)then some (i/j)else none
 |.mod,i,j=>if decide (0<j)then some (i % j)else none
 |.shl,i,j=>if decide (0<=j)&&decide (j<=1000000)&&decide (i.natAbs<2 ^ 64)then some (i*2 ^ j.toNat)else none
 |.pow,i,j=>if decide (0<=j)&&decide (j<=1000000)&&decide (i.natAbs<2 ^ 64)then some (i ^ j.toNat)else none
 |.shr,i,j=>if decide (0<=j)then some (i/2 ^ j.toNat)else none
 |.band,i,j=>if decide (j=1)then some (i % 2)else none
noncomputable def opT:Op->List W->List W->Option (List W)
 |.add,xs,ys=>if Nat.ble (xs.length+ys.length) big then some (xs++ys)else none
 |_,_,_=>none
noncomputable def opL:Op->List W->List W->Option (List W)
 |.add,xs,ys=>if Nat.ble (xs.length+ys.length) big then some (xs++ys)else none
 |_,_,_=>none
noncomputable def fits(i:Int):Bool:=decide (-(2 ^ 62)<=i)&&decide (i<2 ^ 62)
noncomputable def repW(o:Op)(xs:List W)(k:Int):Option (List W):=match o with
 |.mul=>if fits k&&Nat.ble (xs.length*k.toNat) big then some (List.replicate k.toNat xs).flatten else none
 |_=>none
noncomputable def opW(o:Op)(x y:W)(h:VH):Res W:=match x,y with
 |.int i,.int j=>.of ((opI o i j).map .int) h
 |.tup xs,.tup ys=>.of ((opT o xs ys).map .tup) h
 |.tup xs,.int k=>.of ((repW o xs k).map .tup) h
 |.ref i,.int k=>(match h.get i with
  |some (.lst xs)=>(match repW o xs k with
   |some zs=>.ok (.ref h.n) (h.new (.lst zs))
   |none=>.no)
  |_=>.no)
 |.ref i,.ref j=>match h.get i,h.get j with
  |some (.lst xs),some (.lst ys)=>(match opL o xs ys with
   |some zs=>.ok (.ref h.n) (h.new (.lst zs))
   |none=>.no)
  |_,_=>.no
 |_,_=>.no
noncomputable def ipW(o:Op)(x y:W)(h:VH):Res W:=match x,y with
 |.int i,.int j=>(match o with
  |.add=>.ok (.int (i+j)) h
  |.sub=>.ok (.int (i-j)) h
  |.mul=>.of ((opI .mul i j).map .int) h
  |.fdiv=>.of ((opI .fdiv i j).map .int) h
  |_=>.no)
 |.ref i,.ref j=>match o,h.get i,h.get j with
  |.add,some (.lst xs),some (.lst ys)=>if Nat.ble (xs.length+ys.length) big then .ok (.ref i) (h.set i (.lst (xs++ys)))else .no
  |_,_,_=>.no
 |_,_=>.no
noncomputable def cmpI:Cp->Int->Int->Option Bool
 |.lt,i,j=>some (decide (i<j))
 |.le,i,j=>some (decide (i<=j))
 |.gt,i,j=>some (decide (j<i))
 |.ge,i,j=>some (decide (j<=i))
 |_,_,_=>none
noncomputable def isNon:W->Bool
 |.non=>true
 |_=>false
noncomputable def seqW(h:VH):W->Option (List W)
 |.tup ws=>some ws
 |.fz ws=>some ws
 |.ref i=>match h.get i with
  |some (.lst ws)=>some ws
  |_=>none
 |_=>none
noncomputable def inW(h:VH)(x y:W):Option Bool:=match seqW h y,toD h 24 x with
 |some ws,some d=>(match mapO (toD h 24) ws with
  |some ds=>if ds.all SeqAt.shaped&&SeqAt.shaped d then some (L2.anyEq ds d)else none
  |none=>none)
 |_,_=>none
noncomputable def isB:W->W->Option Bool
 |.bl c,.bl b=>some (c==b)
 |_,_=>none
noncomputable def cmpW(c:Cp)(h:VH)(x y:W):Option Bool:=match c with
 |.inn=>inW h x y
 |.nin=>(inW h x y).map (!·)
 |.eq=>eqW h x y
 |.ne=>(eqW h x y).map (!·)
 |.isn=>if isNon y then some (isNon x)else isB x y
 |.notn=>if isNon y then some (!isNon x)else(isB x y).map (!·)
 |c=>match x,y with
  |.int i,.int j=>cmpI c i j
  |_,_=>none
noncomputable def truW(h:VH):W->Option Bool
 |.bl b=>some b
 |.int i=>some (i != 0)
 |.non=>some false
 |.tup ws=>some (!ws.isEmpty)
 |.ref i=>match h.get i with
  |some (.lst ws)=>some (!ws.isEmpty)
  |_=>none
 |_=>none
noncomputable def keyW:W->Option L2.Key
 |.int i=>some (.inl i)
 |.str x=>some (.inr x)
 |_=>none
noncomputable def lookK(kvs:List (L2.Key×W))(k:L2.Key):Option W:=(kvs.find? λkv=>decide (kv.1=k)).map (·.2)
noncomputable def putKW(kvs:List (L2.Key×W))(k:L2.Key)(w:W):List (L2.Key×W):=
 if(kvs.any λkv=>decide (kv.1=k))=true then kvs.map (λkv=>if kv.1=k then(kv.1,w)else kv)else kvs++[(k,w)]
noncomputable def idxW(h:VH)(x y:W):Option W:=match x,y with
 |.tup ws,.int i=>L2.atI ws i
 |.fz ws,.int i=>L2.atI ws i
 |.ref a,.int i=>(match h.get a with
  |some (.lst ws)=>L2.atI ws i
  |some (.dk kvs)=>lookK kvs (.inl i)
  |_=>none)
 |.ref a,.str x=>(match h.get a with
  |some (.dk kvs)=>lookK kvs (.inr x)
  |_=>none)
 |_,_=>none
noncomputable def partW(b:Bool)(w:W):Option (Option Int):=match b,w with
 |false,_=>some none
 |true,.int i=>some (some i)
 |_,_=>none
noncomputable def cutW(ws:List W)(lo hi:Option Int):List W:=(ws.drop (HT.sIx ws.length 0 lo)).take (HT.sIx ws.length ws.length hi-HT.sIx ws.length 0 lo)
noncomputable def slcW(x:W)(l u:Option Int)(h:VH):Res W:=match x with
 |.tup ws=>.ok (.tup (cutW ws l u)) h
 |.ref i=>(match h.get i with
  |some (.lst ws)=>.ok (.ref h.n) (h.new (.lst (cutW ws l u)))
  |_=>.no)
 |_=>.no
@[simp] theorem slcW_tup {ws:List W} {l u:Option Int} {h:VH}:slcW (.tup ws) l u h=.ok (.tup (cutW ws l u)) h:=rfl
noncomputable def tyIs:Ty->VH->W->Option Bool
 |t,_,.non=>some false
 |t,_,.bl _=>some (t == .int||t == .bool)
 |t,_,.int _=>some (t == .int)
 |t,_,.str _=>some (t == .str)
 |t,_,.tup _=>some (t == .tuple)
 |_,_,.fz _=>none
 |t,h,.ref i=>match h.get i with
  |some (.lst _)=>some (t == .list)
  |some (.dk _)=>some (t == .dict)
  |_=>none
noncomputable def lenW(xs:List W)(h:VH):Res W:=match xs with
 |[x]=>.of (match seqW h x with
  |some ws=>some (.int ws.length)
  |none=>none) h
 |_=>.no
noncomputable def listW(xs:List W)(h:VH):Res W:=match xs with
 |[x]=>(match seqW h x with
  |some ws=>.ok (.ref h.n) (h.new (.lst ws))
  |none=>.no)
 |_=>.no
noncomputable def zd9(xs:List W)(h:VH):Res W:=match xs with
 |[x]=>.of (match seqW h x with
  |some ws=>some (.tup ws)
  |none=>none) h
 |_=>.no
noncomputable def intW(xs:List W)(h:VH):Res W:=match xs with
 |[.int i]=>.ok (.int i) h
 |[.bl b]=>.ok (.int (if b then 1 else 0)) h
 |_=>.no
noncomputable def absW(xs:List W)(h:VH):Res W:=match xs with
 |[.int i]=>.ok (.int (if i<0 then -i else i)) h
 |_=>.no
noncomputable def maxW(xs:List W)(h:VH):Res W:=match xs with
 |[.int i,.int j]=>.ok (.int (if j>i then j else i)) h
 |_=>.no
noncomputable def minW(xs:List W)(h:VH):Res W:=match xs with
 |[.int i,.int j]=>.ok (.int (if j<i then j else i)) h
 |_=>.no
noncomputable def blW:W->Option Bool
 |.bl b=>some b
 |_=>none
noncomputable def allW(xs:List W)(h:VH):Res W:=match xs with
 |[.ref i]=>(match h.get i with
  |some (.lst ws)=>.of ((mapO blW ws).map λbs=>.bl (bs.all id)) h
  |_=>.no)
 |_=>.no
noncomputable def ints0(j:Nat):List W:=(List.range' 0 j).map λ(i:Nat)=>W.int (0+ (i:Int))
noncomputable def lrngW(xs:List W)(h:VH):Res W:=match xs with
 |[.int i]=>if decide (0<=i)&&Nat.ble i.toNat big then .ok (.ref h.n) (h.new (.lst (ints0 i.toNat)))else .no
 |_=>.no
noncomputable def revW(xs:List W)(h:VH):Res W:=match xs with
 |[.tup ws,.int (-1)]=>.ok (.tup ws.reverse) h
 |_=>.no
noncomputable def decK:List W->Option (List (L2.Key×W))
 |[]=>some []
 |.tup [.str x,w]::r=>(decK r).map λl=>(.inr x,w)::l
 |_=>none
noncomputable def cgetW(xs:List W)(h:VH):Res W:=match xs with
 |[.tup ps,x,d]=>(match decK ps,keyW x with
  |some kvs,some k=>.ok ((lookK kvs k).getD d) h
  |_,_=>.no)
 |_=>.no
noncomputable def biW(b:Bi)(xs:List W)(h:VH):Res W:=match b with
 |.abs=>absW xs h
 |.max=>maxW xs h
 |.min=>minW xs h
 |.all=>allW xs h
 |.lrng=>lrngW xs h
 |.rev=>revW xs h
 |.cget=>cgetW xs h
 |.len=>lenW xs h
 |.list=>listW xs h
 |.tuple=>zd9 xs h
 |.int=>intW xs h
noncomputable def mtW(m:Mt)(o:W)(xs:List W)(h:VH):Res W:=match m,o,xs with
 |.append,.ref i,[x]=>(match h.get i with
  |some (.lst ws)=>if Nat.blt ws.length big then .ok .non (h.set i (.lst (ws++[x])))else .no
  |_=>.no)
 |_,_,_=>.no
noncomputable def zgy(m:Mt)(h:VH)(o:W):Bool:=match m,o with
 |.append,.ref i=>(match h.get i with
  |some (.lst _)=>true
  |_=>false)
 |_,_=>false
noncomputable def nxt(k:Kd)(x:W)(i:Nat)(h:VH):Option (Option W):=match k with
 |.seq=>(seqW h x).map λws=>ws[i]?
 |.enm=>(match x with
  |.tup ws=>some ((ws[i]?).map λw=>.tup [.int i,w])
  |_=>none)
 |.zip=>(match x with
  |.tup [u,v]=>(match seqW h u,seqW h v with
   |some ws,some zs=>some (match ws[i]?,zs[i]? with
    |some a,some b=>some (.tup [a,b])
    |_,_=>none)
   |_,_=>none)
  |_=>none)
 |.rng1=>(match x with
  |.tup [.int j]=>if fits j then some (if decide ((i:Int)<j)then some (.int (0+i))else none)else none
  |_=>none)
noncomputable def za4:List Nat->List W->En->Option En
 |[],[],ρ=>some ρ
 |i::is,w::ws,ρ=>za4 is ws (ρ.set i (some w))
 |_,_,_=>none
noncomputable def tgW(t:Tg)(w:W)(h:VH)(ρ:En):Option En:=match t with
 |.one i=>some (ρ.set i (some w))
 |.many is=>match seqW h w with
  |some ws=>za4 is ws ρ
  |none=>none
noncomputable def fuel:Nat:=1000000
noncomputable def inner(ow:Nat)(ix:List Nat)(ρ:En):En:=List.replicate ow none++ix.map λj=>(ρ[j]?).join
noncomputable def lcG(nx:Nat->VH->Option (Option W))(tg:W->VH->En->Option En)(c:En->VH->Res W)(e:En->VH->Res W):Nat->Nat->En->VH->List W->Res (List W)
 |0,_,_,_,_=>.no
 |f+1,i,ρ,h,acc=>match nx i h with
  |none=>.no
  |some none=>.ok acc.reverse h
  |some (some w)=>match tg w h ρ with
   |none=>.no
   |some ρ=>(c ρ h).bind λb h=>match b with
    |.bl true=>(e ρ h).bind λy h=>lcG nx tg c e f (i+1) ρ h (y::acc)
    |.bl false=>lcG nx tg c e f (i+1) ρ h acc
    |_=>.no
noncomputable def forG(nx:Nat->VH->Option (Option W))(tg:W->VH->En->Option En)(b:En->VH->Res Fl):Nat->Nat->En->VH->Res Fl
 |0,_,_,_=>.no
 |f+1,i,ρ,h=>match nx i h with
  |none=>.no
  |some none=>.ok (.nx ρ) h
  |some (some w)=>match tg w h ρ with
   |none=>.no
   |some ρ=>(b ρ h).bind λfl h=>match fl with
    |.nx ρ=>forG nx tg b f (i+1) ρ h
    |.ct ρ=>forG nx tg b f (i+1) ρ h
    |.bk ρ=>.ok (.nx ρ) h
    |.rt w=>.ok (.rt w) h
noncomputable def whlG(c:En->VH->Res W)(b:En->VH->Res Fl):Nat->En->VH->Res Fl
 |0,_,_=>.no
 |f+1,ρ,h=>(c ρ h).bind λt h=>match t with
  |.bl false=>.ok (.nx ρ) h
  |.bl true=>(b ρ h).bind λfl h=>match fl with
   |.nx ρ=>whlG c b f ρ h
   |.ct ρ=>whlG c b f ρ h
   |.bk ρ=>.ok (.nx ρ) h
   |.rt w=>.ok (.rt w) h
  |_=>.no
noncomputable def zea:List W->Option (List (L2.Key×W))
 |[]=>some []
 |k::v::r=>match keyW k with
  |some k=>(match zea r with
   |some kvs=>some ((k,v)::kvs)
   |none=>none)
  |none=>none
 |_=>none
noncomputable def zez(kvs more:List (L2.Key×W)):List (L2.Key×W):=more.foldl (λacc kv=>putKW acc kv.1 kv.2) kvs
noncomputable abbrev Call:=Nat->List W->VH->Res W
noncomputable def ev(cl:Call):E->En->VH->Res W
 |.var i,ρ,h=>.of (ρ[i]?).join h
 |.cst w,_,h=>.ok w h
 |.nil,_,h=>.ok (.tup []) h
 |.cons a r,ρ,h=>(ev cl a ρ h).bind λx h=>(ev cl r ρ h).bind λy h=>match y with
  |.tup ys=>.ok (.tup (x::ys)) h
  |_=>.no
 |.tup a,ρ,h=>(ev cl a ρ h).bind λy h=>match y with
  |.tup ys=>if Nat.ble ys.length 1000 then .ok (.tup ys) h else .no
  |_=>.no
 |.lst a,ρ,h=>(ev cl a ρ h).bind λy h=>match y with
  |.tup ys=>if Nat.ble ys.length 1000 then .ok (.ref h.n) (h.new (.lst ys))else .no
  |_=>.no
 |.dsp a,ρ,h=>(ev cl a ρ h).bind λy h=>match y with
  |.tup ys=>(match zea ys with
   |some kvs=>if Nat.ble kvs.length 15 then .ok (.ref h.n) (h.new (.dk (zez [] kvs)))else .no
   |none=>.no)
  |_=>.no
 |.op o a b,ρ,h=>(ev cl a ρ h).bind λx h=>(ev cl b ρ h).bind λy h=>opW o x y h
 |.neg a,ρ,h=>(ev cl a ρ h).bind λx h=>match x with
  |.int i=>.ok (.int (-i)) h
  |_=>.no
 |.cmp c a b,ρ,h=>(ev cl a ρ h).bind λx h=>(ev cl b ρ h).bind λy h=>.of ((cmpW c h x y).map .bl) h
 |.chn c d a b e,ρ,h=>(ev cl a ρ h).bind λx h=>(ev cl b ρ h).bind λy h=>match cmpW c h x y with
  |some true=>(ev cl e ρ h).bind λz h=>.of ((cmpW d h y z).map .bl) h
  |some false=>.ok (.bl false) h
  |none=>.no
 |.not a,ρ,h=>(ev cl a ρ h).bind λx h=>match x with
  |.bl b=>.ok (.bl (!b)) h
  |_=>.no
 |.and a b,ρ,h=>(ev cl a ρ h).bind λx h=>match x with
  |.bl true=>ev cl b ρ h
  |.bl false=>.ok (.bl false) h
  |_=>.no
 |.or a b,ρ,h=>(ev cl a ρ h).bind λx h=>match x with
  |.bl true=>.ok (.bl true) h
  |.bl false=>ev cl b ρ h
  |_=>.no
 |.tru a,ρ,h=>(ev cl a ρ h).bind λx h=>.of ((truW h x).map .bl) h
 |.ite c a b,ρ,h=>(ev cl c ρ h).bind λx h=>match x with
  |.bl true=>ev cl a ρ h
  |.bl false=>ev cl b ρ h
  |_=>.no
 |.idx a b,ρ,h=>(ev cl a ρ h).bind λx h=>(ev cl b ρ h).bind λy h=>.of (idxW h x y) h
 |.slc a bl lo bh hi,ρ,h=>(ev cl a ρ h).bind λx h=>(ev cl lo ρ h).bind λl h=>(ev cl hi ρ h).bind λu h=>match partW bl l,partW bh u with
  |some l,some u=>slcW x l u h
  |_,_=>.no
 |.call f a,ρ,h=>(ev cl a ρ h).bind λy h=>match y with
  |.tup ys=>cl f ys h
  |_=>.no
 |.bi b a,ρ,h=>(ev cl a ρ h).bind λy h=>match y with
  |.tup ys=>biW b ys h
  |_=>.no
 |.isi t a,ρ,h=>(ev cl a ρ h).bind λx h=>.of ((tyIs t h x).map .bl) h
 |.mt m o a,ρ,h=>(ev cl o ρ h).bind λx h=>if zgy m h x then(ev cl a ρ h).bind λy h=>match y with
  |.tup ys=>mtW m x ys h
  |_=>.no
  else .no
 |.lc k a t ow ix c e,ρ,h=>(ev cl a ρ h).bind λx h=>(lcG (nxt k x) (tgW t) (ev cl c) (ev cl e) fuel 0 (inner ow ix ρ) h []).bind λys h=>if Nat.ble ys.length big then .ok (.ref h.n) (h.new (.lst ys))else .no
noncomputable def tryW(tb:List (Nat×W))(ρ:En)(w:W)(h:VH):Res Fl:=match w with
 |.tup [_]=>.ok (.nx ρ) h
 |.int i=>(match tb.lookup i.toNat with
  |some w=>.ok (.rt w) h
  |none=>.no)
 |_=>.no
noncomputable def tryW2(tb:List (Nat×W))(ta:List (Nat×Str))(ρ:En)(w:W)(h:VH):Res Fl:=match w with
 |.tup [_]=>.ok (.nx ρ) h
 |.int i=>(match tb.lookup i.toNat with
  |some w=>.ok (.rt w) h
  |none=>.no)
 |.tup [.int i,.int r,.int c]=>(match ta.lookup i.toNat with
  |some z=>.ok (.rt (.tup [.str z,.int r,.int c])) h
  |none=>.no)
 |_=>.no
noncomputable def telW(b:Bool)(s t:En->VH->Res Fl)(ρ:En)(w:W)(h:VH):Res Fl:=match w with
 |.tup [x]=>if b then(match x with
  |.bl true=>t ρ h
  |.bl false=>s ρ h
  |_=>.no)else s ρ h
 |.int i=>.ok (.rt (.int i)) h
 |.tup [.int i,.int r,.int c]=>.ok (.rt (.tup [.int i,.int r,.int c])) h
 |_=>.no
noncomputable def exs(cl:Call):S->En->VH->Res Fl
 |.skip,ρ,h=>.ok (.nx ρ) h
 |.seq a b,ρ,h=>(exs cl a ρ h).bind λfl h=>match fl with
  |.nx ρ=>exs cl b ρ h
  |fl=>.ok fl h
 |.set i e,ρ,h=>(ev cl e ρ h).bind λw h=>.ok (.nx (ρ.set i (some w))) h
 |.unp is e,ρ,h=>(ev cl e ρ h).bind λw h=>.of ((tgW (.many is) w h ρ).map .nx) h
 |.aug i o e,ρ,h=>match(ρ[i]?).join with
  |some x=>(ev cl e ρ h).bind λy h=>(ipW o x y h).bind λz h=>.ok (.nx (ρ.set i (some z))) h
  |none=>.no
 |.put o i v,ρ,h=>(ev cl v ρ h).bind λw h=>(ev cl o ρ h).bind λx h=>(ev cl i ρ h).bind λy h=>match x,y with
  |.ref a,.int j=>(match h.get a with
   |some (.lst ws)=>(match L2.ixN ws.length j with
    |some k=>.ok (.nx ρ) (h.set a (.lst (ws.set k w)))
    |none=>.no)
   |_=>.no)
  |_,_=>.no
 |.ite c a b,ρ,h=>(ev cl c ρ h).bind λx h=>match x with
  |.bl true=>exs cl a ρ h
  |.bl false=>exs cl b ρ h
  |_=>.no
 |.ret e,ρ,h=>(ev cl e ρ h).bind λw h=>.ok (.rt w) h
 |.expr e,ρ,h=>(ev cl e ρ h).bind λ_ h=>.ok (.nx ρ) h
 |.brk,ρ,h=>.ok (.bk ρ) h
 |.cnt,ρ,h=>.ok (.ct ρ) h
 |.for k a t b,ρ,h=>(ev cl a ρ h).bind λx h=>forG (nxt k x) (tgW t) (exs cl b) fuel 0 ρ h
 |.whl c b,ρ,h=>whlG (ev cl c) (exs cl b) fuel ρ h
 |.tryc f a tb,ρ,h=>(ev cl a ρ h).bind λy h=>match y with
  |.tup ys=>(cl f ys h).bind λw h=>tryW tb ρ w h
  |_=>.no
 |.try2 f a tb ta,ρ,h=>(ev cl a ρ h).bind λy h=>match y with
  |.tup ys=>(cl f ys h).bind λw h=>tryW2 tb ta ρ w h
  |_=>.no
 |.rsj D a,ρ,h=>(ev cl a ρ h).bind λy h=>match y with
  |.tup [.int r,.int c]=>.ok (.rt (.tup [.int D,.int r,.int c])) h
  |_=>.no
 |.tel f a b s t,ρ,h=>(ev cl a ρ h).bind λy h=>match y with
  |.tup ys=>(cl f ys h).bind λw h=>telW b (exs cl s) (exs cl t) ρ w h
  |_=>.no
 |.no,_,_=>.no
structure Fn where
 ps:Nat
 n:Nat
 body:S
noncomputable def leave(h:VH)(w:W)(h':VH):Res W:=
 if Nat.ble h.n h'.lo&&W.lt h.n w then .ok w h else .ok w ⟨h'.n,if Nat.ble h.lo h'.lo then h.lo else h'.lo,h'.os⟩
noncomputable def run(F:Nat->Option Fn):Nat->Call
 |0,_,_,_=>.no
 |k+1,f,ws,h=>match F f with
  |some fn=>if Nat.beq ws.length fn.ps then
   (exs (run F k) fn.body (ws.map some++List.replicate (fn.n-fn.ps) none) ⟨h.n,h.n,h.os⟩).bind λfl h'=>match fl with
     |.nx _=>leave h .non h'
     |.rt w=>leave h w h'
     |_=>.no
   else .no
  |none=>.no
open L2 PyProof.Rows PySem.Spec
noncomputable def Fz(K:PySem.W.Frag)(H:Hp)(a:Addr)(xs:List V):Prop:=
 (∃o,H a=some (.frz o (.lst xs)))\/∃(o:Obj) (its:Array Value) (n:Nat),K.lookup a=some o/\o.cls=.type "list"/\o.dict=none/\o.data=.seq its n/\its.size<=sizeLine/\Vals xs its.toList
theorem Fz.sq{K:PySem.W.Frag}{H:Hp}{a:Addr}{xs:List V}(h:Fz K H a xs):SqL K H a xs:=h.elim (λ⟨o,q⟩=>.inl (.inr ⟨o,q⟩)) .inr
mutual
inductive VRep(K:PySem.W.Frag)(m:Nat->Addr)(n:Nat)(H:Hp):V->W->Prop
 |non:VRep K m n H .non .non
 |bl (b:Bool):VRep K m n H (.bl b) (.bl b)
 |int (i:Int):VRep K m n H (.int i) (.int i)
 |str (x:Str):VRep K m n H (.str x) (.str x)
 |tup {a:Addr} {vs:List V} {ws:List W}:SqT K H a vs->VReps K m n H vs ws->VRep K m n H (.ref a) (.tup ws)
 |fz {a:Addr} {vs:List V} {ws:List W}:Fz K H a vs->VReps K m n H vs ws->VRep K m n H (.ref a) (.fz ws)
 |ref {i:Nat}:i<n->VRep K m n H (.ref (m i)) (.ref i)
inductive VReps(K:PySem.W.Frag)(m:Nat->Addr)(n:Nat)(H:Hp):List V->List W->Prop
 |nil:VReps K m n H [] []
 |cons {v:V} {w:W} {vs:List V} {ws:List W}:VRep K m n H v w->VReps K m n H vs ws->VReps K m n H (v::vs) (w::ws)
end
inductive KReps(K:PySem.W.Frag)(m:Nat->Addr)(n:Nat)(H:Hp):List (Key×V)->List (Key×W)->Prop
 |nil:KReps K m n H [] []
 |cons {k:Key} {v:V} {w:W} {vs:List (Key×V)} {ws:List (Key×W)}:VRep K m n H v w->KReps K m n H vs ws->KReps K m n H ((k,v)::vs) ((k,w)::ws)
noncomputable def ORep(K:PySem.W.Frag)(m:Nat->Addr)(n:Nat)(H:Hp)(a:Addr):VO->Prop
 |.lst ws=>∃vs,H a=some (.lst vs)/\VReps K m n H vs ws
 |.dk kvs=>∃kv,Rd H a (.dK kv)/\KReps K m n H kv kvs
structure Rel(K:PySem.W.Frag)(m:Nat->Addr)(h:VH)(H:Hp):Prop where
 obj:∀i,i<h.n->∃o,h.get i=some o/\ORep K m h.n H (m i) o
 inj:∀i j,i<h.n->j<h.n->m i=m j->i=j
 len:h.os.length=h.n
structure Stp(m:Nat->Addr)(n:Nat)(H:Hp)(m':Nat->Addr)(n':Nat)(H':Hp):Prop where
 le:n<=n'
 same:∀i,i<n->m' i=m i
 new:∀i,n<=i->i<n'->H (m' i)=none
 apart:∀i j,n<=i->i<n'->j<n->m' i≠m' j
 tup:∀b vs,H b=some (.tup vs)->H' b=some (.tup vs)
 frz:∀b o u,H b=some (.frz o u)->H' b=some (.frz o u)
 keep:∀b o,(∀i,i<n->m i≠b)->H b=some o->H' b=some o
section
variable{K:PySem.W.Frag}{m m' m1 m2:Nat->Addr}{n n' n1 n2:Nat}{h h':VH}{H H' H1 H2:Hp}
theorem Stp.refl:Stp m n H m n H:=⟨vad _,λ_ _=>rfl,λi a b=>absurd b (vb9.mpr a),λi j a b=>absurd b (vb9.mpr a),λ_ _ q=>q,λ_ _ _ q=>q,λ_ _ _ q=>q⟩
theorem Stp.trans(a:Stp m n H m1 n1 H1)(b:Stp m1 n1 H1 m2 n2 H2):Stp m n H m2 n2 H2 where
 le:=vas a.le b.le
 same:=λi hi=>(b.same i (vah hi a.le)).trans (a.same i hi)
 new:=λi hi hi2=>by
  by_cases hc:i<n1
  .rw[b.same i hc];exact a.new i hi hc
  .have hc:=vb9.mp hc
   cases q:H (m2 i)with
   |none=>rfl
   |some o=>
    have q1:H1 (m2 i)=none:=b.new i hc hi2
    rw[a.keep _ o (λj hj z=>b.apart i j hc hi2 (vah hj a.le) ((b.same j (vah hj a.le)).trans ((a.same j hj).trans z)).symm) q]at q1
    cases q1
 apart:=λi j hi hi2 hj=>by
  by_cases hc:i<n1
  .rw[b.same i hc,b.same j (vah hj a.le)];exact a.apart i j hi hc hj
  .exact b.apart i j (vb9.mp hc) hi2 (vah hj a.le)
 tup:=λc vs q=>b.tup c vs (a.tup c vs q)
 frz:=λc o u q=>b.frz c o u (a.frz c o u q)
 keep:=λc o hc q=>b.keep c o (λi hi=>by
  by_cases hl:i<n
  .rw[a.same i hl];exact hc i hl
  .intro z
   have:=a.new i (vb9.mp hl) hi
   rw[z,q]at this;cases this) (a.keep c o hc q)
theorem Stp.sqT{a:Addr}{vs:List V}(s:Stp m n H m' n' H')(q:SqT K H a vs):SqT K H' a vs:=by
 rcases q with(q|⟨o,q⟩)|q
 .exact .inl (.inl (s.tup _ _ q))
 .exact .inl (.inr ⟨o,s.frz _ _ _ q⟩)
 .exact .inr q
theorem Stp.fz{a:Addr}{vs:List V}(s:Stp m n H m' n' H')(q:Fz K H a vs):Fz K H' a vs:=by
 rcases q with⟨o,q⟩|q
 .exact .inl ⟨o,s.frz _ _ _ q⟩
 .exact .inr q
mutual
theorem VRep.stp(s:Stp m n H m' n' H'):∀{v:V} {w:W},VRep K m n H v w->VRep K m' n' H' v w
 |_,_,.non=>.non
 |_,_,.bl b=>.bl b
 |_,_,.int b=>.int b
 |_,_,.str b=>.str b
 |_,_,.tup q r=>.tup (s.sqT q) (VReps.stp s r)
 |_,_,.fz q r=>.fz (s.fz q) (VReps.stp s r)
 |_,_,.ref (i:=i) q=>by rw[<-s.same i q];exact .ref (vah q s.le)
theorem VReps.stp(s:Stp m n H m' n' H'):∀{vs:List V} {ws:List W},VReps K m n H vs ws->VReps K m' n' H' vs ws
 |_,_,.nil=>.nil
 |_,_,.cons q r=>.cons (VRep.stp s q) (VReps.stp s r)
end
theorem KReps.stp(s:Stp m n H m' n' H'):∀{vs:List (Key×V)} {ws:List (Key×W)},KReps K m n H vs ws->KReps K m' n' H' vs ws
 |_,_,.nil=>.nil
 |_,_,.cons q r=>.cons (q.stp s) (KReps.stp s r)
theorem VReps.length:∀{vs:List V} {ws:List W},VReps K m n H vs ws->vs.length=ws.length
 |_,_,.nil=>rfl
 |_,_,.cons _ r=>by rw[vam,vam,VReps.length r]
theorem VReps.get:∀{vs:List V} {ws:List W} {i:Nat} {w:W},VReps K m n H vs ws->ws[i]?=some w->∃v,vs[i]?=some v/\VRep K m n H v w
 |_,_,_,_,.nil,e=>by simp at e
 |_,_,0,_,.cons q _,e=>by simp at e;subst e;exact⟨_,rfl,q⟩
 |_,_,i+1,w,.cons _ r,e=>by
  obtain⟨v,h1,h2⟩:=VReps.get (i:=i) (w:=w) r (by simpa using e)
  exact⟨v,by simpa using h1,h2⟩
theorem VReps.append:∀{vs us:List V} {ws zs:List W},VReps K m n H vs ws->VReps K m n H us zs->VReps K m n H (vs++us) (ws++zs)
 |_,_,_,_,.nil,r=>r
 |_,_,_,_,.cons q r,t=>.cons q (VReps.append r t)
theorem VReps.rev:∀{vs:List V} {ws:List W},VReps K m n H vs ws->VReps K m n H vs.reverse ws.reverse
 |_,_,.nil=>.nil
 |_,_,.cons q r=>by
  rw[vdb,vdb]
  exact(VReps.rev r).append (.cons q .nil)
theorem VReps.drop:∀(k:Nat) {vs:List V} {ws:List W},VReps K m n H vs ws->VReps K m n H (vs.drop k) (ws.drop k)
 |0,_,_,r=>r
 |_+1,_,_,.nil=>.nil
 |k+1,_,_,.cons _ r=>VReps.drop k r
theorem VReps.take:∀(k:Nat) {vs:List V} {ws:List W},VReps K m n H vs ws->VReps K m n H (vs.take k) (ws.take k)
 |0,_,_,r=>.nil
 |_+1,_,_,.nil=>.nil
 |k+1,_,_,.cons q r=>.cons q (VReps.take k r)
theorem VReps.set{v:V}{w:W}(q:VRep K m n H v w):∀(k:Nat) {vs:List V} {ws:List W},VReps K m n H vs ws->VReps K m n H (vs.set k v) (ws.set k w)
 |_,_,_,.nil=>.nil
 |0,_,_,.cons _ r=>.cons q r
 |k+1,_,_,.cons p r=>.cons p (VReps.set q k r)
theorem ORep.stp{a:Addr}{o:VO}(s:Stp m n H m' n' H')(e:H' a=H a)(q:ORep K m n H a o):ORep K m' n' H' a o:=by
 cases o with
 |lst ws=>obtain⟨vs,h1,h2⟩:=q;exact⟨vs,e.trans h1,h2.stp s⟩
 |dk ws=>obtain⟨vs,h1,h2⟩:=q;exact⟨vs,h1.imp (λz=>e.trans z) λ⟨o,z⟩=>⟨o,e.trans z⟩,h2.stp s⟩
theorem ORep.some{a:Addr}{o:VO}(q:ORep K m n H a o):∃u,H a=some u:=by
 cases o with
 |lst ws=>obtain⟨vs,h1,h2⟩:=q;exact⟨_,h1⟩
 |dk ws=>
  obtain⟨vs,h1,h2⟩:=q
  rcases h1 with h1|⟨o,h1⟩<;>exact⟨_,h1⟩
theorem zax{i j:Nat}:Nat.blt i j=true↔i<j:=by
 unfold Nat.blt;rw[vdc];exact Iff.rfl
theorem zar{i:Nat}{o:VO}(q:h.get i=some o):i<h.n:=by
 unfold VH.get at q
 split at q
 .rename_i z;exact zax.mp z
 .cases q
theorem Rel.at_(r:Rel K m h H){i:Nat}{o:VO}(q:h.get i=some o):ORep K m h.n H (m i) o:=by
 obtain⟨o',h1,h2⟩:=r.obj i (zar q)
 rw[q]at h1;cases h1;exact h2
theorem Rel.lst(r:Rel K m h H){i:Nat}{ws:List W}(q:h.get i=some (.lst ws)):∃vs,H (m i)=some (.lst vs)/\VReps K m h.n H vs ws:=r.at_ q
theorem Rel.dk(r:Rel K m h H){i:Nat}{ws:List (Key×W)}(q:h.get i=some (.dk ws)):∃vs,Rd H (m i) (.dK vs)/\KReps K m h.n H vs ws:=r.at_ q
theorem zap{i:Nat}{o:VO}(hi:i<h.n):(h.new o).get i=h.get i:=by
 unfold VH.get VH.new
 have h1:Nat.blt i (h.n+1)=true:=zax.mpr (vd1 hi)
 have h2:Nat.blt i h.n=true:=zax.mpr hi
 simp only[h1,h2,vbk]
 have:h.n+1-1-i=(h.n-1-i)+1:=by omega
 rw[this];rfl
theorem zat{o:VO}:(h.new o).get h.n=some o:=by
 unfold VH.get VH.new
 have h1:Nat.blt h.n (h.n+1)=true:=zax.mpr (vb4 _)
 simp only[h1,vbk]
 have:h.n+1-1-h.n=0:=by omega
 rw[this];rfl
theorem Rel.alloc(r:Rel K m h H){p:Addr}{o:VO}{u:HO}(hp:H p=none)(hu:∀t,u≠.tup t)
 (ho:Stp m h.n H (λi=>if i=h.n then p else m i) (h.n+1) (upd H p u)->ORep K (λi=>if i=h.n then p else m i) (h.n+1) (upd H p u) p o) :
 Stp m h.n H (λi=>if i=h.n then p else m i) (h.n+1) (upd H p u)/\Rel K (λi=>if i=h.n then p else m i) (h.new o) (upd H p u):=by
 have tr:∀i,i<h.n->m i≠p:=λi hi z=>by
  obtain⟨o',_,h2⟩:=r.obj i hi
  obtain⟨u',h3⟩:=h2.some
  rw[z,hp]at h3;cases h3
 have st:Stp m h.n H (λi=>if i=h.n then p else m i) (h.n+1) (upd H p u):=by
  refine⟨vdm _,λi hi=>by simp only[if_neg (vau hi)],λi hi hi2=>?_,λi j hi hi2 hj=>?_,λb vs q=>?_,λb o u q=>?_,λb o _ q=>?_⟩
  .have:i=h.n:=by omega
   subst this;simp only[vbk];exact hp
  .have:i=h.n:=by omega
   subst this;simp only[vbk,if_neg (vau hj)];exact(tr j hj).symm
  .rw[zae (zaf q hp)];exact q
  .rw[zae (zaf q hp)];exact q
  .rw[zae (zaf q hp)];exact q
 refine⟨st,⟨λi hi=>?_,λi j hi hj z=>?_,?_⟩⟩
 .have hi:i<h.n+1:=hi
  by_cases e:i=h.n
  .subst e;exact⟨o,zat,by simp only[vbk];exact ho st⟩
  .have hl:i<h.n:=by omega
   obtain⟨o',h1,h2⟩:=r.obj i hl
   refine⟨o',(zap hl).trans h1,?_⟩
   simp only[if_neg e]
   exact ORep.stp st (zae (tr i hl)) h2
 .have hi:i<h.n+1:=hi
  have hj:j<h.n+1:=hj
  by_cases e:i=h.n
  .by_cases e2:j=h.n
   .omega
   .simp only[if_pos e,if_neg e2]at z
    exact absurd z.symm (tr j (by omega))
  .by_cases e2:j=h.n
   .simp only[if_neg e,if_pos e2]at z
    exact absurd z (tr i (by omega))
   .simp only[if_neg e,if_neg e2]at z
    exact r.inj i j (by omega) (by omega) z
 .show(o::h.os).length=h.n+1
  rw[vam,r.len]
theorem zgz(r:Rel K m h H){i:Nat}{o:VO}(hi:i<h.n):(h.set i o).get i=some o:=by
 unfold VH.get VH.set
 have h1:Nat.blt i h.n=true:=zax.mpr hi
 simp only[h1,vbk]
 rw[va5]
 rw[r.len];omega
theorem zc5{i j:Nat}{o:VO}(hi:i<h.n)(hj:j≠i):(h.set i o).get j=h.get j:=by
 unfold VH.get VH.set
 by_cases h1:j<h.n
 .have h2:Nat.blt j h.n=true:=zax.mpr h1
  simp only[h2,vbk]
  rw[vcc]
  omega
 .have h2:Nat.blt j h.n=false:=by
   cases q:Nat.blt j h.n with
   |false=>rfl
   |true=>exact absurd (zax.mp q) h1
  simp only[h2,vak,vbe]
theorem Rel.write(r:Rel K m h H){i:Nat}{o:VO}{u u0:HO}(hi:i<h.n)(h0:H (m i)=some u0)(hn:∀t,u0≠.tup t)(hf:∀o t,u0≠.frz o t)
 (ho:Stp m h.n H m h.n (upd H (m i) u)->ORep K m h.n (upd H (m i) u) (m i) o) :
 Stp m h.n H m h.n (upd H (m i) u)/\Rel K m (h.set i o) (upd H (m i) u):=by
 have st:Stp m h.n H m h.n (upd H (m i) u):=by
  refine⟨vad _,λ_ _=>rfl,λj a b=>absurd b (vb9.mpr a),λj k a b=>absurd b (vb9.mpr a),λb vs q=>?_,λb o t q=>?_,λb o nb q=>?_⟩
  .rw[zae (ne_of q h0 (λz=>hn vs z.symm))];exact q
  .rw[zae (ne_of q h0 (λz=>hf o t z.symm))];exact q
  .rw[zae (nb i hi).symm];exact q
 refine⟨st,⟨λj hj=>?_,λa b ha hb=>r.inj a b ha hb,?_⟩⟩
 .have hj:j<h.n:=hj
  by_cases e:j=i
  .subst e;exact⟨o,zgz r hj,ho st⟩
  .obtain⟨o',h1,h2⟩:=r.obj j hj
   exact⟨o',(zc5 hi e).trans h1,ORep.stp st (zae λz=>e (r.inj j i hj hi z)) h2⟩
 .show(h.os.set _ o).length=h.n
  rw[vcy,r.len]
theorem Rel.more(r:Rel K m h H){p:Addr}{u:HO}(hp:H p=none):Stp m h.n H m h.n (upd H p u)/\Rel K m h (upd H p u):=by
 have st:Stp m h.n H m h.n (upd H p u):=by
  refine⟨vad _,λ_ _=>rfl,λj a b=>absurd b (vb9.mpr a),λj k a b=>absurd b (vb9.mpr a),λb vs q=>?_,λb o t q=>?_,λb o nb q=>?_⟩
  .rw[zae (zaf q hp)];exact q
  .rw[zae (zaf q hp)];exact q
  .rw[zae (zaf q hp)];exact q
 refine⟨st,⟨λj hj=>?_,r.inj,r.len⟩⟩
 obtain⟨o',h1,h2⟩:=r.obj j hj
 obtain⟨u',h3⟩:=h2.some
 exact⟨o',h1,ORep.stp st (zae (zaf h3 hp)) h2⟩
end
theorem zre{α β:Type}{r:Res α}{f:α->VH->Res β}{b:β}{h':VH}(q:r.bind f=.ok b h'):∃a h1,r=.ok a h1/\f a h1=.ok b h':=by
 cases r with
 |ok a h=>exact⟨a,h,rfl,q⟩
 |ex x h=>cases q
 |no=>cases q
theorem zaa{α β:Type}{r:Res α}{f:α->VH->Res β}{w:β}{h':VH}{P:Prop}(e:r.bind f=.ok w h')(k:∀x h1,r=.ok x h1->f x h1=.ok w h'->P):P:=by
 obtain⟨x,h1,a,b⟩:=zre e
 exact k x h1 a b
theorem of_ok{α:Type}{o:Option α}{h h':VH}{a:α}(q:Res.of o h=.ok a h'):o=some a/\h'=h:=by
 cases o with
 |none=>cases q
 |some b=>cases q;exact⟨rfl,rfl⟩
structure Fr(K:PySem.W.Frag)(m:Nat->Addr)(n:Nat)(H:Hp)(σ:L2.St)(ρ:En):Prop where
 len:σ.length=ρ.length
 val:∀(i:Nat)(w:W),ρ[i]?=some (some w)->∃v,σ[i]?=some (some v)/\VRep K m n H v w
noncomputable abbrev FE:=En->VH->Res W
noncomputable abbrev FS:=En->VH->Res Fl
noncomputable def lft(K:PySem.W.Frag)(f:FE):TE:=λσ H Q=>∃ρ h m w h',Fr K m h.n H σ ρ/\Rel K m h H/\f ρ h=.ok w h'/\
 ∀v H' m',Stp m h.n H m' h'.n H'->Rel K m' h' H'->VRep K m' h'.n H' v w->Q v H'
noncomputable def lftT(K:PySem.W.Frag)(f:FE):TT:=λσ H Q=>∃ρ h m b h',Fr K m h.n H σ ρ/\Rel K m h H/\f ρ h=.ok (.bl b) h'/\
 ∀H' m',Stp m h.n H m' h'.n H'->Rel K m' h' H'->Q b H'
noncomputable def lftA(K:PySem.W.Frag)(f:FE):TA:=λσ H Q=>∃ρ h m ws h',Fr K m h.n H σ ρ/\Rel K m h H/\f ρ h=.ok (.tup ws) h'/\
 ∀vs H' m',Stp m h.n H m' h'.n H'->Rel K m' h' H'->VReps K m' h'.n H' vs ws->Q vs H'
section
variable{K:PySem.W.Frag}{m:Nat->Addr}{σ:L2.St}{H:Hp}{P:Prop}{fa:FE}{ρ:En}{h h':VH}
theorem lft.el{Q:VK}(q:lft K fa σ H Q)(k:∀ρ h m w h',Fr K m h.n H σ ρ->Rel K m h H->fa ρ h=.ok w h'->(∀v H' m',Stp m h.n H m' h'.n H'->Rel K m' h' H'->VRep K m' h'.n H' v w->Q v H')->P):P:=by
 obtain⟨ρ,h,m,w,h',f,r,e,k'⟩:=q
 exact k ρ h m w h' f r e k'
theorem lft.mk{Q:VK}{w:W}(f:Fr K m h.n H σ ρ)(r:Rel K m h H)(e:fa ρ h=.ok w h')(k:∀v H' m',Stp m h.n H m' h'.n H'->Rel K m' h' H'->VRep K m' h'.n H' v w->Q v H'):lft K fa σ H Q:=⟨ρ,h,m,w,h',f,r,e,k⟩
theorem lftT.el{Q:Bool->Hp->Prop}(q:lftT K fa σ H Q)(k:∀ρ h m b h',Fr K m h.n H σ ρ->Rel K m h H->fa ρ h=.ok (.bl b) h'->(∀H' m',Stp m h.n H m' h'.n H'->Rel K m' h' H'->Q b H')->P):P:=by
 obtain⟨ρ,h,m,w,h',f,r,e,k'⟩:=q
 exact k ρ h m w h' f r e k'
theorem lftT.mk{Q:Bool->Hp->Prop}{b:Bool}(f:Fr K m h.n H σ ρ)(r:Rel K m h H)(e:fa ρ h=.ok (.bl b) h')(k:∀H' m',Stp m h.n H m' h'.n H'->Rel K m' h' H'->Q b H'):lftT K fa σ H Q:=⟨ρ,h,m,b,h',f,r,e,k⟩
theorem lftA.el{Q:List V->Hp->Prop}(q:lftA K fa σ H Q)(k:∀ρ h m ws h',Fr K m h.n H σ ρ->Rel K m h H->fa ρ h=.ok (.tup ws) h'->(∀vs H' m',Stp m h.n H m' h'.n H'->Rel K m' h' H'->VReps K m' h'.n H' vs ws->Q vs H')->P):P:=by
 obtain⟨ρ,h,m,w,h',f,r,e,k'⟩:=q
 exact k ρ h m w h' f r e k'
theorem lftA.mk{Q:List V->Hp->Prop}{ws:List W}(f:Fr K m h.n H σ ρ)(r:Rel K m h H)(e:fa ρ h=.ok (.tup ws) h')(k:∀vs H' m',Stp m h.n H m' h'.n H'->Rel K m' h' H'->VReps K m' h'.n H' vs ws->Q vs H'):lftA K fa σ H Q:=⟨ρ,h,m,ws,h',f,r,e,k⟩
end
noncomputable abbrev SE(X:Cx)(e:Expr)(f:FE):Prop:=PE X e (lft X.K f)
noncomputable abbrev ST(X:Cx)(e:Expr)(f:FE):Prop:=PT X e (lftT X.K f)
noncomputable abbrev SW(X:Cx)(e:Expr)(f:FE):Prop:=PW X e (lftT X.K f)
noncomputable abbrev SA(X:Cx)(es:List Expr)(f:FE):Prop:=PA X es (lftA X.K f)
theorem _root_.L2.PE.imp{X:Cx}{e:Expr}{t t':TE}(h:PE X e t)(k:∀σ H Q,t' σ H Q->t σ H Q):PE X e t':=λpins s σ H Q I q=>h pins s σ H Q I (k σ H Q q)
theorem _root_.L2.PT.imp{X:Cx}{e:Expr}{t t':TT}(h:PT X e t)(k:∀σ H Q,t' σ H Q->t σ H Q):PT X e t':=λpins s σ H Q I q=>h pins s σ H Q I (k σ H Q q)
theorem _root_.L2.PW.imp{X:Cx}{e:Expr}{t t':TT}(h:PW X e t)(k:∀σ H Q,t' σ H Q->t σ H Q):PW X e t':=λwh pins s σ H Q I q=>h wh pins s σ H Q I (k σ H Q q)
theorem _root_.L2.PA.imp{X:Cx}{es:List Expr}{t t':TA}(h:PA X es t)(k:∀σ H Q,t' σ H Q->t σ H Q):PA X es t':=λp pins s σ H Q I q=>h p pins s σ H Q I (k σ H Q q)
theorem _root_.L2.PS.imp{X:Cx}{st:Stmt}{t t':TS}(h:PS X st t)(k:∀D σ H,t' D σ H->t D σ H):PS X st t':=λpins s σ H D I q=>h pins s σ H D I (k D σ H q)
theorem _root_.L2.PSs.imp{X:Cx}{st:List Stmt}{t t':TS}(h:PSs X st t)(k:∀D σ H,t' D σ H->t D σ H):PSs X st t':=λpins s σ H D I q=>h pins s σ H D I (k D σ H q)
section
variable{K:PySem.W.Frag}{m m':Nat->Addr}{n n':Nat}{h h':VH}{H H':Hp}{σ:L2.St}{ρ:En}
theorem Fr.stp(f:Fr K m n H σ ρ)(s:Stp m n H m' n' H'):Fr K m' n' H' σ ρ:=⟨f.len,λi w e=>let⟨v,h1,h2⟩:=f.val i w e;⟨v,h1,h2.stp s⟩⟩
theorem Fr.set(f:Fr K m n H σ ρ){v:V}{w:W}(q:VRep K m n H v w)(i:Nat):Fr K m n H (σ.set i (some v)) (ρ.set i (some w)):=by
 refine⟨by rw[vcy,vcy];exact f.len,λj w' e=>?_⟩
 by_cases hj:i=j
 .subst hj
  by_cases hl:i<ρ.length
  .rw[va5 hl]at e
   cases e
   exact⟨v,by rw[va5 (by rw[f.len];exact hl)],q⟩
  .rw[List.getElem?_eq_none (by rw[vcy];omega)]at e;cases e
 .rw[vcc hj]at e
  obtain⟨v',h1,h2⟩:=f.val j w' e
  exact⟨v',by rw[vcc hj];exact h1,h2⟩
noncomputable def Wants(K:PySem.W.Frag)(m:Nat->Addr)(n:Nat)(H:Hp)(w:W)(h':VH)(Q:VK):Prop:=∀v H' m',Stp m n H m' h'.n H'->Rel K m' h' H'->VRep K m' h'.n H' v w->Q v H'
theorem Wants.here{w:W}{Q:VK}(k:Wants K m h.n H w h Q)(r:Rel K m h H){v:V}(q:VRep K m h.n H v w):Q v H:=k v H m .refl r q
theorem Wants.list{ws:List W}{vs:List V}{Q:VK}(k:Wants K m h.n H (.ref h.n) (h.new (.lst ws)) Q)(r:Rel K m h H)(q:VReps K m h.n H vs ws){p:Addr}(hp:H p=none):Q (.ref p) (upd H p (.lst vs)):=by
 obtain⟨st,r'⟩:=r.alloc (o:=.lst ws) (u:=.lst vs) hp (λ_ z=>nomatch z) (λst=>⟨vs,zag,q.stp st⟩)
 refine k _ _ _ st r' ?_
 have:VRep K (λi=>if i=h.n then p else m i) (h.n+1) (upd H p (.lst vs)) (.ref ((λi=>if i=h.n then p else m i) h.n)) (.ref h.n):=.ref (vb4 _)
 simp only[vbk]at this
 exact this
theorem Wants.dict{ws:List (Key×W)}{vs:List (Key×V)}{Q:VK}(k:Wants K m h.n H (.ref h.n) (h.new (.dk ws)) Q)(r:Rel K m h H)(q:KReps K m h.n H vs ws){p:Addr}(hp:H p=none):Q (.ref p) (upd H p (.dK vs)):=by
 obtain⟨st,r'⟩:=r.alloc (o:=.dk ws) (u:=.dK vs) hp (λ_ z=>nomatch z) (λst=>⟨vs,.inl zag,q.stp st⟩)
 refine k _ _ _ st r' ?_
 have:VRep K (λi=>if i=h.n then p else m i) (h.n+1) (upd H p (.dK vs)) (.ref ((λi=>if i=h.n then p else m i) h.n)) (.ref h.n):=.ref (vb4 _)
 simp only[vbk]at this
 exact this
theorem Wants.tuple{ws:List W}{vs:List V}{Q:VK}(k:Wants K m h.n H (.tup ws) h Q)(r:Rel K m h H)(q:VReps K m h.n H vs ws){p:Addr}(hp:H p=none):Q (.ref p) (upd H p (.tup vs)):=by
 obtain⟨st,r'⟩:=r.more (u:=.tup vs) hp
 exact k _ _ _ st r' (.tup (SqT.of zag) (q.stp st))
theorem zpi{fa:FE}{g:W->VH->Res W}{G:V->Hp->VK->Prop}
 (hG:∀(m:Nat->Addr)(h:VH)(H:Hp)(v:V)(x w:W)(h':VH)(Q:VK),Rel K m h H->VRep K m h.n H v x->g x h=.ok w h'->Wants K m h.n H w h' Q->G v H Q) {Q:VK}
 (q:lft K (λρ h=>(fa ρ h).bind λx h=>g x h) σ H Q):lft K fa σ H λv H1=>G v H1 Q:=by
 refine q.el λρ h m w h' f r e k=>?_
 refine zaa e λx h1 e1 e2=>?_
 exact(.mk f r e1 λv H1 m1 s1 r1 q1=>hG m1 h1 H1 v x w h' Q r1 q1 e2 λv' H' m' s' r' q'=>k v' H' m' (s1.trans s') r' q')
theorem zfr{fa fb:FE}{g:W->W->VH->Res W}{G:V->V->Hp->VK->Prop}
 (hG:∀(m:Nat->Addr)(h:VH)(H:Hp)(v u:V)(x y w:W)(h':VH)(Q:VK),Rel K m h H->VRep K m h.n H v x->VRep K m h.n H u y->g x y h=.ok w h'->Wants K m h.n H w h' Q->G v u H Q) {Q:VK}
 (q:lft K (λρ h=>(fa ρ h).bind λx h=>(fb ρ h).bind λy h=>g x y h) σ H Q):lft K fa σ H λv H1=>lft K fb σ H1 λu H2=>G v u H2 Q:=by
 refine q.el λρ h m w h' f r e k=>?_
 refine zaa e λx h1 e1 e2=>?_
 refine zaa e2 λy h2 e3 e4=>?_
 refine(.mk f r e1 λv H1 m1 s1 r1 q1=>(.mk (f.stp s1) r1 e3 λu H2 m2 s2 r2 q2=>?_))
 exact hG m2 h2 H2 v u x y w h' Q r2 (q1.stp s2) q2 e4 λv' H' m' s' r' q'=>k v' H' m' ((s1.trans s2).trans s') r' q'
theorem zc6{fa:FE}{g:List W->VH->Res W}{G:List V->Hp->VK->Prop}
 (hG:∀(m:Nat->Addr)(h:VH)(H:Hp)(vs:List V)(xs:List W)(w:W)(h':VH)(Q:VK),Rel K m h H->VReps K m h.n H vs xs->g xs h=.ok w h'->Wants K m h.n H w h' Q->G vs H Q) {Q:VK}
 (q:lft K (λρ h=>(fa ρ h).bind λy h=>match y with|.tup ys=>g ys h|_=>.no) σ H Q):lftA K fa σ H λvs H1=>G vs H1 Q:=by
 refine q.el λρ h m w h' f r e k=>?_
 refine zaa e λx h1 e1 e2=>?_
 cases x with
 |tup ys=>exact(.mk f r e1 λvs H1 m1 s1 r1 q1=>hG m1 h1 H1 vs ys w h' Q r1 q1 e2 λv' H' m' s' r' q'=>k v' H' m' (s1.trans s') r' q')
 |_=>cases e2
theorem ziv{f:FE}{Q:Bool->Hp->Prop}(q:lftT K f σ H Q):lft K f σ H λx H'=>∃k,x=.bl k/\Q k H':=by
 refine q.el λρ h m b h' f r e k=>?_
 exact(.mk f r e λv H' m' s' r' q'=>by cases q';exact⟨b,rfl,k H' m' s' r'⟩)
end
section
variable{X:Cx}{a b c e:Expr}{es:List Expr}{fa fb fc:FE}{pos:Pos}
theorem zt4{i:Nat}{x:Str}{pos:Pos}(hN:X.N[i]?=some x)(hv:Vis X.env.scope x)(hd:(x==("__debug__" : Str))=false)(hcd:(x==("__classdict__" : Str))=false):SE X (.Name x pos) (λρ h=>.of (ρ[i]?).join h):=
 (zio hN hv hd hcd).imp λσ H Q z9=>z9.el λρ h m w h' f r e k=>by
   obtain⟨e1,e2⟩:=of_ok e
   subst e2
   have e3:ρ[i]?=some (some w):=by
    cases q:ρ[i]? with
    |none=>rw[q]at e1;cases e1
    |some o=>rw[q]at e1;rw[<-e1];rfl
   obtain⟨v,h1,h2⟩:=f.val i w e3
   exact⟨v,h1,k v H m .refl r h2⟩
theorem zg0{w:W}{v:V}(h:PE X e (tC v))(hv:∀m n H,VRep X.K m n H v w):SE X e (λ_ h=>.ok w h):=
 h.imp λσ H Q z9=>z9.el λρ h m w h' f r e k=>by cases e;exact k v H m .refl r (hv m h.n H)
theorem zt5{i j pos}:SE X (.Constant (.int i) j pos) (λ_ h=>.ok (.int i) h):=zg0 ziq λ_ _ _=>.int i
theorem se_bl{i j pos}:SE X (.Constant (.bool i) j pos) (λ_ h=>.ok (.bl i) h):=zg0 pe_bl λ_ _ _=>.bl i
theorem zt6{j pos}:SE X (.Constant .none j pos) (λ_ h=>.ok .non h):=zg0 zsx λ_ _ _=>.non
theorem zt7{i j pos}:SE X (.Constant (.str i) j pos) (λ_ h=>.ok (.str i) h):=zg0 zo8 λ_ _ _=>.str i
theorem zlm:SA X [] (λ_ h=>.ok (.tup []) h):=zbn.imp λσ H Q z9=>z9.el λρ h m ws h' f r e k=>by cases e;exact k [] H m .refl r .nil
theorem zfs(ha:SE X e fa)(hr:SA X es fb)(hs:starEach (e::es) X.env=(false,eval e X.env)::starEach es X.env) :
 SA X (e::es) (λρ h=>(fa ρ h).bind λx h=>(fb ρ h).bind λy h=>match y with|.tup ys=>.ok (.tup (x::ys)) h|_=>.no):=
 (zav ha hr hs).imp λσ H Q z9=>z9.el λρ h m ws h' f r e k=>by
   refine zaa e λx h1 e1 e2=>?_
   refine zaa e2 λy h2 e3 e4=>?_
   cases y with
   |tup ys=>
    cases e4
    exact(.mk f r e1 λv H1 m1 s1 r1 q1=>(.mk (f.stp s1) r1 e3 λvs H2 m2 s2 r2 q2=>k _ H2 m2 (s1.trans s2) r2 (.cons (q1.stp s2) q2)))
   |_=>cases e4
theorem zpj{k:Nat}(h:Nat.ble k 1000=true):k<=sizeLine:=vdo (zd4 (vay h))
theorem zt8{x1:Nat}(ha:SA X es fa):SE X (.Tuple es x1 pos) (λρ h=>(fa ρ h).bind λy h=>match y with|.tup ys=>(if Nat.ble ys.length 1000 then .ok (.tup ys) h else .no)|_=>.no):=
 (zkx ha).imp λσ H Q q=>zc6 (g:=λys h=>if Nat.ble ys.length 1000 then .ok (.tup ys) h else .no) (G:=λxs H1 Q=>xs.length<=sizeLine/\∀p,H1 p=none->Q (.ref p) (upd H1 p (.tup xs)))
   (λm h H vs xs w h' Q r q e k=>by
     split at e
     .rename_i hl
      cases e
      exact⟨by rw[q.length];exact zpj hl,λp hp=>Wants.tuple k r q hp⟩
     .cases e) q
theorem zt9(ha:SA X es fa):SE X (.List es pos) (λρ h=>(fa ρ h).bind λy h=>match y with|.tup ys=>(if Nat.ble ys.length 1000 then .ok (.ref h.n) (h.new (.lst ys))else .no)|_=>.no):=
 (zky ha).imp λσ H Q q=>zc6 (g:=λys h=>if Nat.ble ys.length 1000 then .ok (.ref h.n) (h.new (.lst ys))else .no) (G:=λxs H1 Q=>xs.length<=sizeLine/\∀p,H1 p=none->Q (.ref p) (upd H1 p (.lst xs)))
   (λm h H vs xs w h' Q r q e k=>by
     split at e
     .rename_i hl
      cases e
      exact⟨by rw[q.length];exact zpj hl,λp hp=>Wants.list k r q hp⟩
     .cases e) q
noncomputable def OpV(K:PySem.W.Frag)(r:R2)(g:W->W->VH->Res W):Prop:=∀(m:Nat->Addr) (h:VH) (H:Hp) (v u:V) (x y w:W) (h':VH) (Q:VK),Rel K m h H->VRep K m h.n H v x->VRep K m h.n H u y->g x y h=.ok w h'->Wants K m h.n H w h' Q->r v u H Q
theorem se_op{O:Operator}{r:R2}{g:W->W->VH->Res W}(ho:OpR X (binaryOp O) r)(hg:OpV X.K r g)(ha:SE X a fa)(hb:SE X b fb):SE X (.BinOp a O b pos) (λρ h=>(fa ρ h).bind λx h=>(fb ρ h).bind λy h=>g x y h):=
 (pe_op ho ha hb).imp λσ H Q q=>zfr (G:=r) hg q
noncomputable def opOf:Operator->Option Op
 |.Add=>some .add|.Sub=>some .sub|.Mult=>some .mul|.FloorDiv=>some .fdiv|.Mod=>some .mod|.Pow=>some .pow|.RShift=>some .shr|.BitAnd=>some .band
 |_=>none
noncomputable def cI:Op->Int->Int->Prop
 |.mul=>CMul|.fdiv=>CDiv|.mod=>λ_ j=>0<j|.shl=>CPow|.pow=>CPow|.shr=>λ_ j=>0<=j|.band=>λ_ j=>j=1
 |_=>λ_ _=>True
noncomputable def gI:Op->Int->Int->Int
 |.add=>(· + ·)|.sub=>(· - ·)|.mul=>(· * ·)|.fdiv=>(· / ·)|.mod=>(· % ·)|.shl=>λi j=>i*2 ^ j.toNat|.pow=>λi j=>i ^ j.toNat|.shr=>λi j=>i/2 ^ j.toNat|.band=>λi _=>i % 2
noncomputable def rX(K:PySem.W.Frag):Op->R2
 |.add=>λx y H Q=>rCatT K x y H Q\/zpg K x y H Q\/rCat x y H Q
 |.mul=>λx y H Q=>rRepT K x y H Q\/rRep x y H Q
 |_=>λ_ _ _ _=>False
noncomputable def rB(K:PySem.W.Frag)(o:Op):R2:=λx y H Q=>rI (cI o) (λi j=>.int (gI o i j)) x y H Q\/rX K o x y H Q
theorem zby{f:Value->Value->Sem Value}{r r':R2}(h:OpR X f r)(k:∀x y H Q,r' x y H Q->r x y H Q):OpR X f r':=λpins s σ H x y v u Q I rx ry q=>h pins s σ H x y v u Q I rx ry (k _ _ _ _ q)
theorem op_ok{O:Operator}{o:Op}(e:opOf O=some o):OpR X (binaryOp O) (rB X.K o):=by
 have tr:∀{g:Int->Int->V}{x y H Q},rI (λ_ _=>True) g x y H Q->rI0 g x y H Q:=λ⟨i,j,h1,h2,_,h3⟩=>⟨i,j,h1,h2,h3⟩
 cases O<;>cases e
 .exact zby (ztc.or (zqy.or (zn7.or zk4))) λx y H Q q=>q.elim (λz=>.inl (tr z)) .inr
 .exact zby ztd λx y H Q q=>q.elim (λz=>tr z) λz=>z.elim
 .exact zby (zte.or (zq9.or zts)) λx y H Q q=>q
 .exact zby ztf λx y H Q q=>q.elim id λz=>z.elim
 .exact zby ztg λx y H Q q=>q.elim id λz=>z.elim
 .exact zby zth λx y H Q q=>q.elim id λz=>z.elim
 .exact zby zti λx y H Q q=>q.elim (λ⟨i,j,h1,h2,h3,h4⟩=>⟨i,j,h1,h2,by
   have h3:j=1:=h3
   subst h3
   show Q (.int (Builtin.bitAnd i 1)) H
   rw[bitAnd_m1]
   exact h4⟩) λz=>z.elim
 .exact zby zqm λx y H Q q=>q.elim id λz=>z.elim
theorem zeb{i:Int}(h:zbs i=true):-(2 ^ 64)<i/\i<2 ^ 64:=by
 unfold zbs at h
 rw[vaa]at h
 exact⟨va2 h.1,va2 h.2⟩
theorem zln{o:Op}{i j z:Int}(e:opI o i j=some z):cI o i j/\z=gI o i j:=by
 cases o<;>simp only[opI]at e
 .cases e;exact⟨trivial,rfl⟩
 .cases e;exact⟨trivial,rfl⟩
 .split at e
  .rename_i hc
   cases e
   rw[vch]at hc
   exact⟨hc.elim (λq=>.inl (zeb q)) (λq=>.inr (zeb q)),rfl⟩
  .cases e
 .split at e
  .rename_i hc
   cases e
   rw[vaa]at hc
   exact⟨⟨va2 hc.1,va2 hc.2⟩,rfl⟩
  .cases e
 .split at e
  .rename_i hc
   cases e
   exact⟨(va2 hc:0<j),rfl⟩
  .cases e
 .split at e
  .rename_i hc
   cases e
   rw[vaa,vaa]at hc
   exact⟨⟨va2 hc.1.1,va2 hc.1.2,va2 hc.2⟩,rfl⟩
  .cases e
 .split at e
  .rename_i hc
   cases e
   rw[vaa,vaa]at hc
   exact⟨⟨va2 hc.1.1,va2 hc.1.2,va2 hc.2⟩,rfl⟩
  .cases e
 .split at e
  .rename_i hc
   cases e
   exact⟨(va2 hc:0<=j),rfl⟩
  .cases e
 .split at e
  .rename_i hc
   cases e
   exact⟨(va2 hc:j=1),rfl⟩
  .cases e
theorem zh7{i:Int}(h:fits i=true):-(2 ^ 62)<=i/\i<2 ^ 62:=by
 unfold fits at h
 rw[vaa]at h
 exact⟨va2 h.1,va2 h.2⟩
theorem zlo{o:Op}{xs zs:List W}{k:Int}(e:repW o xs k=some zs):o=.mul/\(-(2 ^ 62)<=k/\k<2 ^ 62)/\xs.length*k.toNat<=sizeLine/\zs=(List.replicate k.toNat xs).flatten:=by
 unfold repW at e
 split at e
 .split at e
  .rename_i hc
   cases e
   rw[vaa]at hc
   exact⟨rfl,zh7 hc.1,vay hc.2,rfl⟩
  .cases e
 .cases e
theorem VReps.rep{K:PySem.W.Frag}{m:Nat->Addr}{n:Nat}{H:Hp}{vs:List V}{ws:List W}(q:VReps K m n H vs ws):∀k:Nat,VReps K m n H (List.replicate k vs).flatten (List.replicate k ws).flatten
 |0=>.nil
 |k+1=>by
  rw[vba,vba,vcd,vcd]
  exact q.append (VReps.rep q k)
theorem zh8{K:PySem.W.Frag}{m:Nat->Addr}{n:Nat}{H:Hp}{vs:List V}{ws:List W}(q:VReps K m n H vs ws):vs.isEmpty=ws.isEmpty:=by cases q<;>rfl
theorem zoc{ws:List W}{k:Int}(h:(ws.isEmpty||k==1)=true):(List.replicate k.toNat ws).flatten=ws:=by
 rw[vch]at h
 rcases h with h|h
 .have:ws=[]:=by simpa using h
  subst this
  induction k.toNat with
  |zero=>rfl
  |succ j ih=>rw[vba,vcd,ih];rfl
 .have:k=1:=by simpa using h
  subst this
  show(List.replicate 1 ws).flatten=ws
  simp
theorem zua{K:PySem.W.Frag}(o:Op):OpV K (rB K o) (opW o):=by
 intro m h H v u x y w h' Q r qv qu e k
 unfold opW at e
 split at e
 .rename_i i j
  obtain⟨e,rfl⟩:=of_ok e
  cases qv;cases qu
  cases q:opI o i j with
  |none=>rw[q]at e;cases e
  |some z=>
   rw[q]at e;cases e
   obtain⟨h1,rfl⟩:=zln q
   exact .inl ⟨i,j,rfl,rfl,h1,Wants.here k r (.int _)⟩
 .rename_i xs ys
  obtain⟨e,rfl⟩:=of_ok e
  cases q:opT o xs ys with
  |none=>rw[q]at e;cases e
  |some zs=>
   rw[q]at e;cases e
   cases o<;>simp only[opT]at q
   split at q
   .rename_i hc
    cases q
    cases qv with
    |tup qa ra=>
     cases qu with
     |tup qb rb=>
      rename_i a va b vb
      have hl:=vay hc
      cases xs with
      |nil=>
       cases ra
       exact .inr (.inr (.inl ⟨a,b,vb,rfl,rfl,qa,qb,Wants.here k r (.tup qb rb)⟩))
      |cons x0 xs0=>
       refine .inr (.inl ⟨a,b,va,vb,rfl,rfl,qa,qb,λz=>?_,by rw[ra.length,rb.length];exact hl,λz=>?_,λ_ p hp=>Wants.tuple k r (ra.append rb) hp⟩)
       .subst z;cases ra
       .subst z;cases rb
        rw[va7]at k
        exact Wants.here k r (.tup qa ra)
   .cases q
   all_goals cases q
 .rename_i xs kk
  obtain⟨e,rfl⟩:=of_ok e
  cases q:repW o xs kk with
  |none=>rw[q]at e;cases e
  |some zs=>
   rw[q]at e;cases e
   obtain⟨rfl,⟨k1,k2⟩,hz,rfl⟩:=zlo q
   cases qu
   cases qv with
   |tup qa ra=>
    rename_i a va
    refine .inr (.inl ⟨a,kk,va,rfl,rfl,qa,k1,k2,by rw[ra.length];exact hz,λz=>?_,λz p hp=>Wants.tuple k r (ra.rep _) hp⟩)
    rw[zh8 ra]at z
    rw[zoc z]at k
    exact Wants.here k r (.tup qa ra)
 .rename_i i kk
  split at e
  .rename_i xs hx
   split at e
   .rename_i zs q
    cases e
    obtain⟨rfl,⟨k1,k2⟩,hz,rfl⟩:=zlo q
    obtain⟨va,pa,ra⟩:=r.lst hx
    cases qv;cases qu
    exact .inr (.inr ⟨m i,kk,va,rfl,rfl,pa,by omega,by omega,by rw[ra.length];exact hz,λp hp=>Wants.list k r (ra.rep _) hp⟩)
   .cases e
  .cases e
 .rename_i i j
  split at e
  .rename_i xs ys hx hy
   split at e
   .rename_i zs q
    cases e
    cases o<;>simp only[opL]at q
    split at q
    .rename_i hc
     cases q
     obtain⟨va,pa,ra⟩:=r.lst hx
     obtain⟨vb,pb,rb⟩:=r.lst hy
     cases qv;cases qu
     exact .inr (.inr (.inr ⟨m i,m j,va,vb,rfl,rfl,pa,pb,by rw[ra.length,rb.length];exact vay hc,λp hp=>Wants.list k r (ra.append rb) hp⟩))
    .cases q
    all_goals cases q
   .cases e
  .cases e
 .cases e
end
section
variable{K:PySem.W.Frag}{m:Nat->Addr}{h:VH}{H:Hp}
theorem zg1{f:W->Option PyData}(ih:∀(w:W) (d:PyData) (v:V),f w=some d->VRep K m h.n H v w->Rp K (λ_=>False) H v d):∀{ws:List W} {ds:List PyData} {vs:List V},mapO f ws=some ds->VReps K m h.n H vs ws->Rps K (λ_=>False) H vs ds
 |[],ds,_,e,.nil=>by cases e;exact .nil
 |w::ws,ds,_,e,.cons q r=>by
  unfold mapO at e
  split at e
  .rename_i d hd
   split at e
   .rename_i bs hb
    cases e
    exact .cons (ih w d _ hd q) (zg1 ih hb r)
   .cases e
  .cases e
theorem rp_of(r:Rel K m h H):∀(n:Nat) (w:W) (d:PyData) (v:V),toD h n w=some d->VRep K m h.n H v w->Rp K (λ_=>False) H v d
 |0,_,_,_,e,_=>by cases e
 |n+1,w,d,v,e,q=>by
  cases q with
  |non=>cases e;exact .non
  |bl b=>cases e;exact .bl b
  |int b=>cases e;exact .int b
  |str b=>cases e;exact .str b
  | @tup a vs ws sq rs=>
   simp only[toD]at e
   cases z:mapO (toD h n) ws with
   |none=>rw[z]at e;cases e
   |some ds=>rw[z]at e;cases e;exact .tup sq (λz=>z) (zg1 (rp_of r n) z rs)
  | @fz a vs ws sq rs=>
   simp only[toD]at e
   cases z:mapO (toD h n) ws with
   |none=>rw[z]at e;cases e
   |some ds=>rw[z]at e;cases e;exact .lst sq.sq (λz=>z) (zg1 (rp_of r n) z rs)
  | @ref i hi=>
   simp only[toD]at e
   cases g:h.get i with
   |none=>rw[g]at e;cases e
   |some o=>
    rw[g]at e
    cases o with
    |dk _=>cases e
    |lst ws=>
     obtain⟨vs,h1,h2⟩:=r.lst g
     simp only at e
     cases z:mapO (toD h n) ws with
     |none=>rw[z]at e;cases e
     |some ds=>rw[z]at e;cases e;exact .lst (SqL.of h1) (λz=>z) (zg1 (rp_of r n) z h2)
theorem zpk(r:Rel K m h H){x y:W}{v u:V}{b:Bool}(e:eqW h x y=some b)(qv:VRep K m h.n H v x)(qu:VRep K m h.n H u y) :
 ∃d e',Rp K (λ_=>False) H v d/\Rp K (λ_=>False) H u e'/\SeqAt.shaped d=true/\SeqAt.shaped e'=true/\b=PyData.eqv d e':=by
 unfold eqW at e
 split at e
 .rename_i d e' h1 h2
  split at e
  .rename_i hc
   cases e
   rw[vaa]at hc
   exact⟨d,e',rp_of r _ _ _ _ h1 qv,rp_of r _ _ _ _ h2 qu,hc.1,hc.2,rfl⟩
  .cases e
 .cases e
end
theorem zc7{K:PySem.W.Frag}{m:Nat->Addr}{h:VH}{H:Hp}{v:V}{w:W}{ws:List W}(r:Rel K m h H)(q:VRep K m h.n H v w)(e:seqW h w=some ws):∃p vs,v=.ref p/\(SqL K H p vs\/SqT K H p vs)/\VReps K m h.n H vs ws:=by
 cases q<;>try cases e
 .exact⟨_,_,rfl,.inr ‹_›,‹_›⟩
 .rename_i q _;exact⟨_,_,rfl,.inl q.sq,‹_›⟩
 .rename_i i hi
  simp only[seqW]at e
  cases g:h.get i with
  |none=>rw[g]at e;cases e
  |some o=>
   rw[g]at e
   cases o with
   |dk _=>cases e
   |lst ws=>
    cases e
    obtain⟨vs,h1,h2⟩:=r.lst g
    exact⟨_,vs,rfl,.inl (SqL.of h1),h2⟩
theorem zpl{K:PySem.W.Frag}{m:Nat->Addr}{h:VH}{H:Hp}(r:Rel K m h H){x y:W}{v u:V}{b:Bool}(e:inW h x y=some b)(qv:VRep K m h.n H v x)(qu:VRep K m h.n H u y) :
 (∃p vs ds d,u=.ref p/\(SqL K H p vs\/SqT K H p vs)/\Rps K (λ_=>False) H vs ds/\Rp K (λ_=>False) H v d/\ds.all SeqAt.shaped=true/\SeqAt.shaped d=true/\b=anyEq ds d):=by
 unfold inW at e
 split at e
 .rename_i ws d h1 h2
  split at e
  .rename_i ds h3
   split at e
   .rename_i hc
    cases e
    rw[vaa]at hc
    obtain⟨p,vs,rfl,h4,h5⟩:=zc7 r qu h1
    exact⟨p,vs,ds,d,rfl,h4,zg1 (rp_of r 24) h3 h5,rp_of r _ _ _ _ h2 qv,hc.1,hc.2,rfl⟩
   .cases e
  .cases e
 .cases e
noncomputable def cpOf:CmpOp->Option Cp
 |.Eq=>some .eq|.NotEq=>some .ne|.Lt=>some .lt|.LtE=>some .le|.Gt=>some .gt|.GtE=>some .ge|.Is=>some .isn|.IsNot=>some .notn|.In=>some .inn|.NotIn=>some .nin
noncomputable def rC(K:PySem.W.Frag):Cp->R2
 |.eq=>rEqD K
 |.ne=>rNeD K
 |.lt=>rI0 λi j=>.bl (decide (i<j))
 |.le=>rI0 λi j=>.bl (decide (i<=j))
 |.gt=>rI0 λi j=>.bl (decide (j<i))
 |.ge=>rI0 λi j=>.bl (decide (j<=i))
 |.isn=>λx y H Q=>(y=.non/\Q (.bl (decide (x=.non))) H)\/∃c b,x=.bl c/\y=.bl b/\Q (.bl (c==b)) H
 |.notn=>λx y H Q=>(y=.non/\Q (.bl (!decide (x=.non))) H)\/∃c b,x=.bl c/\y=.bl b/\Q (.bl (!(c==b))) H
 |.inn=>λx y H Q=>rInD K false x y H Q
 |.nin=>λx y H Q=>rInD K true x y H Q
noncomputable def zb8:Expr->Bool
 |.Set ..=>false
 |_=>true
theorem zh9{op:CmpOp}{b:Expr}(h:zb8 b=true):behindInMarks op b=false:=by
 cases b<;>first|rfl|cases h
section
variable{X:Cx}{a b c e:Expr}{es:List Expr}{fa fb fc:FE}{pos:Pos}
theorem zub:OpR X (compareOp .Is) (λx y H Q=>∃c b,x=.bl c/\y=.bl b/\Q (.bl (c==b)) H):=by
 intro pins s σ H x y v u Q I rx ry h
 obtain⟨c,b,rfl,rfl,q⟩:=h
 cases rx;cases ry
 exact wpAny_is_plain rfl (za3 I q (by cases c<;>cases b<;>rfl))
theorem zlp:OpR X (compareOp .IsNot) (λx y H Q=>∃c b,x=.bl c/\y=.bl b/\Q (.bl (!(c==b))) H):=by
 intro pins s σ H x y v u Q I rx ry h
 obtain⟨c,b,rfl,rfl,q⟩:=h
 cases rx;cases ry
 exact wpAny_isNot_plain rfl (za3 I q (by cases c<;>cases b<;>rfl))
theorem ze0(hu:X.A.units+65<cLine){O:CmpOp}{c:Cp}(e:cpOf O=some c):OpR X (compareOp O) (rC X.K c):=by
 cases O<;>cases e
 .exact ztt (by omega)
 .exact ztu (by omega)
 .exact op_lt
 .exact op_le
 .exact op_gt
 .exact op_ge
 .exact ztl.or zub
 .exact zqr.or zlp
 .exact zty (by show X.A.units+1+64<cLine;omega)
 .exact zlh (by show X.A.units+1+64<cLine;omega)
theorem zdq{K:PySem.W.Frag}{m:Nat->Addr}{n:Nat}{H:Hp}{v:V}{w:W}(q:VRep K m n H v w):isNon w=decide (v=.non):=by
 cases q<;>simp[isNon]
theorem zft{K:PySem.W.Frag}(c:Cp):OpV K (rC K c) (λx y h=>.of ((cmpW c h x y).map .bl) h):=by
 intro m h H v u x y w h' Q r qv qu e k
 obtain⟨e,rfl⟩:=of_ok e
 cases z:cmpW c h' x y with
 |none=>rw[z]at e;cases e
 |some b=>
  rw[z]at e;cases e
  have fin:Q (.bl b) H:=Wants.here k r (.bl b)
  unfold cmpW at z
  split at z
  .obtain⟨p,vs,ds,d,h1,h2,h3,h4,h5,h6,rfl⟩:=zpl r z qv qu
   exact⟨p,vs,ds,d,h1,h2,h3,h4,h5,h6,fin⟩
  .cases z2:inW h' x y with
   |none=>rw[z2]at z;cases z
   |some b2=>
    rw[z2]at z;cases z
    obtain⟨p,vs,ds,d,h1,h2,h3,h4,h5,h6,rfl⟩:=zpl r z2 qv qu
    exact⟨p,vs,ds,d,h1,h2,h3,h4,h5,h6,fin⟩
  .obtain⟨d,e',h1,h2,h3,h4,rfl⟩:=zpk r z qv qu
   exact⟨d,e',h1,h2,h3,h4,fin⟩
  .cases z2:eqW h' x y with
   |none=>rw[z2]at z;cases z
   |some b2=>
    rw[z2]at z;cases z
    obtain⟨d,e',h1,h2,h3,h4,rfl⟩:=zpk r z2 qv qu
    exact⟨d,e',h1,h2,h3,h4,fin⟩
  .split at z
   .rename_i hn
    cases z
    have:=zdq qu
    rw[hn]at this
    refine .inl ⟨va2 this.symm,?_⟩
    rw[<-zdq qv];exact fin
   .unfold isB at z
    split at z
    .rename_i c b
     cases z
     cases qv;cases qu
     exact .inr ⟨_,_,rfl,rfl,fin⟩
    .cases z
  .split at z
   .rename_i hn
    cases z
    have:=zdq qu
    rw[hn]at this
    refine .inl ⟨va2 this.symm,?_⟩
    rw[<-zdq qv];exact fin
   .cases z2:isB x y with
    |none=>rw[z2]at z;cases z
    |some b2=>
     rw[z2]at z;cases z
     unfold isB at z2
     split at z2
     .rename_i c b
      cases z2
      cases qv;cases qu
      exact .inr ⟨_,_,rfl,rfl,fin⟩
     .cases z2
  .split at z
   .rename_i i j
    cases qv;cases qu
    cases c<;>simp only[cmpI]at z<;>cases z<;>exact⟨i,j,rfl,rfl,fin⟩
   .cases z
theorem zuc(hu:X.A.units+65<cLine){O:CmpOp}{c:Cp}(e:cpOf O=some c)(hs:zb8 b=true)(ha:SE X a fa)(hb:SE X b fb) :
 SE X (.Compare a [O] [b] pos) (λρ h=>(fa ρ h).bind λx h=>(fb ρ h).bind λy h=>.of ((cmpW c h x y).map .bl) h):=
 (zqs (ze0 hu e) ha hb (zh9 hs)).imp λσ H Q q=>zfr (G:=rC X.K c) (zft c) q
theorem zud(hu:X.A.units+65<cLine){O:CmpOp}{c:Cp}(e:cpOf O=some c)(hs:zb8 b=true)(ha:SE X a fa)(hb:SE X b fb) :
 ST X (.Compare a [O] [b] pos) (λρ h=>(fa ρ h).bind λx h=>(fb ρ h).bind λy h=>.of ((cmpW c h x y).map .bl) h):=
 (zkr (ze0 hu e) ha hb (zh9 hs)).imp λσ H Q q=>zfr (G:=rC X.K c) (zft c) (ziv q)
theorem lm2{O O':CmpOp}{a b:Expr}(h:zb8 b=true):lastMarks [O,O'] [a,b]=false:=zh9 h
theorem zg2{K:PySem.W.Frag}{c1 c2:Cp}{σ:L2.St}{H:Hp}{Q:VK}
 (q:lft K (λρ h=>(fa ρ h).bind λx h=>(fb ρ h).bind λy h=>match cmpW c1 h x y with
   |some true=>(fc ρ h).bind λz h=>.of ((cmpW c2 h y z).map .bl) h
   |some false=>.ok (.bl false) h
   |none=>.no) σ H Q):zks (rC K c1) (rC K c2) (lft K fa) (lft K fb) (lft K fc) σ H Q:=by
 refine q.el λρ h m w h' f r e k=>?_
 refine zaa e λx h1 e1 e2=>?_
 refine zaa e2 λy h2 e3 e4=>?_
 refine(.mk f r e1 λv H1 m1 s1 r1 q1=>(.mk (f.stp s1) r1 e3 λu H2 m2 s2 r2 q2=>?_))
 have f2:=(f.stp s1).stp s2
 have k2:Wants K m2 h2.n H2 w h' Q:=λv' H' m' s' r' q'=>k v' H' m' ((s1.trans s2).trans s') r' q'
 cases z:cmpW c1 h2 x y with
 |none=>rw[z]at e4;cases e4
 |some b=>
  rw[z]at e4
  refine zft c1 m2 h2 H2 v u x y (.bl b) h2 _ r2 (q1.stp s2) q2 (by show Res.of ((cmpW c1 h2 x y).map W.bl) h2=_;rw[z];rfl) λv3 H3 m3 s3 r3 q3=>?_
  cases q3
  refine⟨b,rfl,?_⟩
  cases b with
  |true=>
   refine zaa e4 λz' h4 e5 e6=>?_
   rw[if_pos rfl]
   refine⟨ρ,h2,m3,z',h4,f2.stp s3,r3,e5,λv4 H4 m4 s4 r4 q4=>?_⟩
   exact zft c2 m4 h4 H4 u v4 y z' w h' Q r4 ((q2.stp s3).stp s4) q4 e6 λv' H' m' s' r' q'=>k2 v' H' m' ((s3.trans s4).trans s') r' q'
  |false=>
   cases e4
   simp only[vak,vbe]
   exact k2 _ H3 m3 s3 r3 (.bl false)
theorem zue(hu:X.A.units+65<cLine){O O':CmpOp}{c1 c2:Cp}(e:cpOf O=some c1)(e':cpOf O'=some c2)(hs:zb8 c=true)(ha:SE X a fa)(hb:SE X b fb)(hc:SE X c fc) :
 SE X (.Compare a [O,O'] [b,c] pos) (λρ h=>(fa ρ h).bind λx h=>(fb ρ h).bind λy h=>match cmpW c1 h x y with
  |some true=>(fc ρ h).bind λz h=>.of ((cmpW c2 h y z).map .bl) h
  |some false=>.ok (.bl false) h
  |none=>.no):=(znq (ze0 hu e) (ze0 hu e') ha hb hc (lm2 hs)).imp λσ H Q q=>zg2 q
theorem zuf(hu:X.A.units+65<cLine){O O':CmpOp}{c1 c2:Cp}(e:cpOf O=some c1)(e':cpOf O'=some c2)(hs:zb8 c=true)(ha:SE X a fa)(hb:SE X b fb)(hc:SE X c fc) :
 ST X (.Compare a [O,O'] [b,c] pos) (λρ h=>(fa ρ h).bind λx h=>(fb ρ h).bind λy h=>match cmpW c1 h x y with
  |some true=>(fc ρ h).bind λz h=>.of ((cmpW c2 h y z).map .bl) h
  |some false=>.ok (.bl false) h
  |none=>.no):=(znr (ze0 hu e) (ze0 hu e') ha hb hc (lm2 hs)).imp λσ H Q q=>zg2 (ziv q)
noncomputable abbrev gNot(fa:FE):FE:=λρ h=>(fa ρ h).bind λx h=>match x with|.bl b=>.ok (.bl (!b)) h|_=>.no
noncomputable abbrev gAnd(fa fb:FE):FE:=λρ h=>(fa ρ h).bind λx h=>match x with|.bl true=>fb ρ h|.bl false=>.ok (.bl false) h|_=>.no
noncomputable abbrev gOr(fa fb:FE):FE:=λρ h=>(fa ρ h).bind λx h=>match x with|.bl true=>.ok (.bl true) h|.bl false=>fb ρ h|_=>.no
noncomputable abbrev gIte(fa fb fc:FE):FE:=λρ h=>(fa ρ h).bind λx h=>match x with|.bl true=>fb ρ h|.bl false=>fc ρ h|_=>.no
variable{rest:List Expr}
theorem zug(ha:ST X a fa):ST X (.UnaryOp .Not a pos) (gNot fa):=(zkk ha).imp λσ H Q z9=>z9.el λρ h m b h' f r e k=>by
 refine zaa e λx h1 e1 e2=>?_
 cases x<;>try cases e2
 rename_i b
 exact(.mk f r e1 λH' m' s' r'=>k H' m' s' r')
theorem zuh(ha:SE X a fa):SE X (.UnaryOp .Not a pos) (gNot fa):=(zs1 ha).imp λσ H Q z9=>z9.el λρ h m b h' f r e k=>by
 refine zaa e λx h1 e1 e2=>?_
 cases x<;>try cases e2
 rename_i b
 exact(.mk f r e1 λv H' m' s' r' q=>by cases q;exact⟨b,rfl,k _ H' m' s' r' (.bl _)⟩)
theorem zpm{op:BoolOp}(ha:ST X a fa):SW X (.BoolOp op [a] pos) fa:=by
 cases op
 .exact zqi ha
 .exact zpa ha
theorem zui(ha:ST X a fa)(hb:SW X (.BoolOp .And (b::rest) pos) fb):SW X (.BoolOp .And (a::b::rest) pos) (gAnd fa fb):=(zsy ha hb).imp λσ H Q z9=>z9.el λρ h m b h' f r e k=>by
 refine zaa e λx h1 e1 e2=>?_
 cases x<;>try cases e2
 rename_i c
 refine(.mk f r e1 λH1 m1 s1 r1=>?_)
 cases c with
 |true=>rw[if_pos rfl];exact(.mk (f.stp s1) r1 e2 λH' m' s' r'=>k H' m' (s1.trans s') r')
 |false=>cases e2;simp only[vak,vbe];exact k H1 m1 s1 r1
theorem sw_or(ha:ST X a fa)(hb:SW X (.BoolOp .Or (b::rest) pos) fb):SW X (.BoolOp .Or (a::b::rest) pos) (gOr fa fb):=(pw_or ha hb).imp λσ H Q z9=>z9.el λρ h m b h' f r e k=>by
 refine zaa e λx h1 e1 e2=>?_
 cases x<;>try cases e2
 rename_i c
 refine(.mk f r e1 λH1 m1 s1 r1=>?_)
 cases c with
 |true=>cases e2;rw[if_pos rfl];exact k H1 m1 s1 r1
 |false=>simp only[vak,vbe];exact(.mk (f.stp s1) r1 e2 λH' m' s' r'=>k H' m' (s1.trans s') r')
theorem zpn{op:BoolOp}(ha:SE X a fa):SE X (.BoolOp op [a] pos) fa:=zsz ha
theorem zuj(ha:SE X a fa)(hb:SE X (.BoolOp .And (b::rest) pos) fb):SE X (.BoolOp .And (a::b::rest) pos) (gAnd fa fb):=(zs0 ha hb).imp λσ H Q z9=>z9.el λρ h m w h' f r e k=>by
 refine zaa e λx h1 e1 e2=>?_
 cases x<;>try cases e2
 rename_i c
 refine(.mk f r e1 λv H1 m1 s1 r1 q1=>?_)
 cases q1
 refine⟨c,rfl,?_⟩
 cases c with
 |true=>rw[if_pos rfl];exact(.mk (f.stp s1) r1 e2 λv H' m' s' r' q'=>k v H' m' (s1.trans s') r' q')
 |false=>cases e2;simp only[vak,vbe];exact k _ H1 m1 s1 r1 (.bl false)
theorem se_or(ha:SE X a fa)(hb:SE X (.BoolOp .Or (b::rest) pos) fb):SE X (.BoolOp .Or (a::b::rest) pos) (gOr fa fb):=(pe_or ha hb).imp λσ H Q z9=>z9.el λρ h m w h' f r e k=>by
 refine zaa e λx h1 e1 e2=>?_
 cases x<;>try cases e2
 rename_i c
 refine(.mk f r e1 λv H1 m1 s1 r1 q1=>?_)
 cases q1
 refine⟨c,rfl,?_⟩
 cases c with
 |true=>cases e2;rw[if_pos rfl];exact k _ H1 m1 s1 r1 (.bl true)
 |false=>simp only[vak,vbe];exact(.mk (f.stp s1) r1 e2 λv H' m' s' r' q'=>k v H' m' (s1.trans s') r' q')
theorem zuk(hc:ST X c fc)(ha:SE X a fa)(hb:SE X b fb):SE X (.IfExp c a b pos) (gIte fc fa fb):=(znj hc ha hb).imp λσ H Q z9=>z9.el λρ h m w h' f r e k=>by
 refine zaa e λx h1 e1 e2=>?_
 cases x<;>try cases e2
 rename_i c
 refine(.mk f r e1 λH1 m1 s1 r1=>?_)
 cases c with
 |true=>rw[if_pos rfl];exact(.mk (f.stp s1) r1 e2 λv H' m' s' r' q'=>k v H' m' (s1.trans s') r' q')
 |false=>simp only[vak,vbe];exact(.mk (f.stp s1) r1 e2 λv H' m' s' r' q'=>k v H' m' (s1.trans s') r' q')
theorem zdj{K:PySem.W.Frag}{m:Nat->Addr}{n:Nat}{H:Hp}{vs:List V}{ws:List W}(q:VReps K m n H vs ws):vs.isEmpty=ws.isEmpty:=by cases q<;>rfl
theorem zrf{K:PySem.W.Frag}{m:Nat->Addr}{h:VH}{H:Hp}{v:V}{w:W}{b:Bool}(r:Rel K m h H)(q:VRep K m h.n H v w)(e:truW h w=some b):TruV K v H b:=by
 cases q with
 |non=>cases e;rfl
 |bl x=>cases e;rfl
 |int i=>cases e;rfl
 |str x=>cases e
 |fz _ _=>cases e
 |tup sq rs=>cases e;exact .inr (.inl ⟨_,sq,by rw[zdj rs]⟩)
 | @ref i hi=>
  simp only[truW]at e
  cases g:h.get i with
  |none=>rw[g]at e;cases e
  |some o=>
   rw[g]at e
   cases o with
   |dk _=>cases e
   |lst ws=>
    cases e
    obtain⟨vs,h1,h2⟩:=r.lst g
    exact .inl ⟨vs,SqL.of h1,by rw[zdj h2]⟩
theorem zlq(ha:SE X a fa)(he:∀whole,isTrue a X.env whole=(do let v <-whole;standAt a.pos;holding [v] (truthy v))) :
 ST X a (λρ h=>(fa ρ h).bind λx h=>.of ((truW h x).map .bl) h):=(zns ha he).imp λσ H Q z9=>z9.el λρ h m b h' f r e k=>by
 refine zaa e λx h1 e1 e2=>?_
 obtain⟨e2,rfl⟩:=of_ok e2
 cases z:truW h' x with
 |none=>rw[z]at e2;cases e2
 |some c=>
  rw[z]at e2;cases e2
  exact(.mk f r e1 λv H' m' s' r' q=>⟨b,zrf r' q z,k H' m' s' r'⟩)
theorem zul(ha:SE X a fa):SE X (.UnaryOp .USub a pos) (λρ h=>(fa ρ h).bind λx h=>match x with|.int i=>.ok (.int (-i)) h|_=>.no):=
 (pe_un ztj ha).imp λσ H Q q=>zpi (g:=λx h=>match x with|.int i=>.ok (.int (-i)) h|_=>.no) (G:=rU λi=>.int (-i)) (λm h H v x w h' Q r q e k=>by
   cases q<;>try cases e
   rename_i i
   exact⟨i,rfl,Wants.here k r (.int _)⟩) q
end
section
variable{K:PySem.W.Frag}{m m0:Nat->Addr}{n n0:Nat}{h:VH}{H H0:Hp}
theorem Rel.adopt(r:Rel K m h H){p:Addr}{o:VO}{u u0:HO}(hp:∀i,i<h.n->m i≠p)(hu:H p=some u0)(ht:∀t,u0≠.tup t)(hf:∀o t,u0≠.frz o t)(s:Stp m0 n0 H0 m h.n H)(h0:H0 p=none)
 (ho:Stp m h.n H (λi=>if i=h.n then p else m i) (h.n+1) (upd H p u)\/True->(∀{v:V}{w:W},VRep K m h.n H v w->VRep K (λi=>if i=h.n then p else m i) (h.n+1) (upd H p u) v w)->ORep K (λi=>if i=h.n then p else m i) (h.n+1) (upd H p u) p o) :
 Stp m0 n0 H0 (λi=>if i=h.n then p else m i) (h.n+1) (upd H p u)/\Rel K (λi=>if i=h.n then p else m i) (h.new o) (upd H p u):=by
 have kt:∀b vs,H b=some (.tup vs)->upd H p u b=some (.tup vs):=λb vs q=>by rw[zae (ne_of q hu λz=>ht vs z.symm)];exact q
 have kf:∀b o t,H b=some (.frz o t)->upd H p u b=some (.frz o t):=λb o t q=>by rw[zae (ne_of q hu λz=>hf o t z.symm)];exact q
 have mv:∀{v:V}{w:W},VRep K m h.n H v w->VRep K (λi=>if i=h.n then p else m i) (h.n+1) (upd H p u) v w:=by
  intro v w q
  have st:Stp m h.n (λb=>if b=p then none else H b) (λi=>if i=h.n then p else m i) (h.n+1) (upd H p u):=by
   refine⟨vdm _,λi hi=>by simp only[if_neg (vau hi)],λi hi hi2=>?_,λi j hi hi2 hj=>?_,λb vs q=>?_,λb o t q=>?_,λb o _ q=>?_⟩
   .have:i=h.n:=by omega
    subst this;simp only[vbk]
   .have:i=h.n:=by omega
    subst this;simp only[vbk,if_neg (vau hj)];exact(hp j hj).symm
   .split at q
    .cases q
    .exact kt b vs q
   .split at q
    .cases q
    .exact kf b o t q
   .split at q
    .cases q
    .rename_i z;rw[zae z];exact q
  refine VRep.stp st ?_
  have back:∀{a vs},SqT K H a vs->SqT K (λb=>if b=p then none else H b) a vs:=by
   intro a vs q
   rcases q with(q|⟨o,q⟩)|q
   .exact .inl (.inl (by simp only[if_neg (ne_of q hu λz=>ht vs z.symm)];exact q))
   .exact .inl (.inr ⟨o,by simp only[if_neg (ne_of q hu λz=>hf o _ z.symm)];exact q⟩)
   .exact .inr q
  have backf:∀{a vs},Fz K H a vs->Fz K (λb=>if b=p then none else H b) a vs:=by
   intro a vs q
   rcases q with⟨o,q⟩|q
   .exact .inl ⟨o,by simp only[if_neg (ne_of q hu λz=>hf o _ z.symm)];exact q⟩
   .exact .inr q
  exact(VRep.rec (K:=K) (m:=m) (n:=h.n) (H:=H) (motive_1:=λv w _=>VRep K m h.n (λb=>if b=p then none else H b) v w) (motive_2:=λvs ws _=>VReps K m h.n (λb=>if b=p then none else H b) vs ws)
   .non .bl .int .str (λsq _ ih=>.tup (back sq) ih) (λsq _ ih=>.fz (backf sq) ih) (λhi=>.ref hi) .nil (λ_ _ i1 i2=>.cons i1 i2) q)
 refine⟨⟨vdd s.le,λi hi=>?_,λi hi hi2=>?_,λi j hi hi2 hj=>?_,λb vs q=>kt b vs (s.tup b vs q),λb o t q=>kf b o t (s.frz b o t q),λb o nb q=>?_⟩,⟨λi hi=>?_,λi j hi hj z=>?_,?_⟩⟩
 .have:=s.le
  simp only[if_neg (show i≠h.n by omega)];exact s.same i hi
 .by_cases e:i=h.n
  .subst e;simp only[vbk];exact h0
  .simp only[if_neg e];exact s.new i hi (by omega)
 .have:=s.le
  simp only[if_neg (show j≠h.n by omega)]
  by_cases e:i=h.n
  .subst e;simp only[vbk];exact(hp j (by omega)).symm
  .simp only[if_neg e];exact s.apart i j hi (by omega) hj
 .rw[zae (zaf q h0)];exact s.keep b o nb q
 .have hi:i<h.n+1:=hi
  by_cases e:i=h.n
  .subst e;exact⟨o,zat,by simp only[vbk];exact ho (.inr trivial) mv⟩
  .have hl:i<h.n:=by omega
   obtain⟨o',h1,h2⟩:=r.obj i hl
   refine⟨o',(zap hl).trans h1,?_⟩
   simp only[if_neg e]
   have eq:upd H p u (m i)=H (m i):=zae (hp i hl)
   cases o' with
   |lst ws=>
    obtain⟨vs,q1,q2⟩:=h2
    exact⟨vs,eq.trans q1,VReps.rec (K:=K) (m:=m) (n:=h.n) (H:=H) (motive_1:=λv w _=>VRep K m h.n H v w) (motive_2:=λvs ws _=>VReps K (λi=>if i=h.n then p else m i) (h.n+1) (upd H p u) vs ws)
     .non .bl .int .str (λsq q _=>.tup sq q) (λsq q _=>.fz sq q) (λhi=>.ref hi) .nil (λq _ _ i2=>.cons (mv q) i2) q2⟩
   |dk ws=>
    obtain⟨vs,q1,q2⟩:=h2
    have go:∀{vs:List (Key×V)}{ws:List (Key×W)},KReps K m h.n H vs ws->KReps K (λi=>if i=h.n then p else m i) (h.n+1) (upd H p u) vs ws:=by
     intro vs ws q2
     induction q2 with
     |nil=>exact .nil
     |cons q _ ih=>exact .cons (mv q) ih
    exact⟨vs,q1.imp (λz=>eq.trans z) λ⟨o,z⟩=>⟨o,eq.trans z⟩,go q2⟩
 .have hi:i<h.n+1:=hi
  have hj:j<h.n+1:=hj
  by_cases e:i=h.n
  .by_cases e2:j=h.n
   .omega
   .simp only[if_pos e,if_neg e2]at z
    exact absurd z.symm (hp j (by omega))
  .by_cases e2:j=h.n
   .simp only[if_neg e,if_pos e2]at z
    exact absurd z (hp i (by omega))
   .simp only[if_neg e,if_neg e2]at z
    exact r.inj i j (by omega) (by omega) z
 .show(o::h.os).length=h.n+1
  rw[vam,r.len]
theorem VReps.map{m':Nat->Addr}{n':Nat}{H':Hp}(mv:∀{v:V} {w:W},VRep K m n H v w->VRep K m' n' H' v w):∀{vs:List V} {ws:List W},VReps K m n H vs ws->VReps K m' n' H' vs ws
 |_,_,.nil=>.nil
 |_,_,.cons q r=>.cons (mv q) (VReps.map mv r)
theorem KReps.map{m':Nat->Addr}{n':Nat}{H':Hp}(mv:∀{v:V} {w:W},VRep K m n H v w->VRep K m' n' H' v w):∀{vs:List (Key×V)} {ws:List (Key×W)},KReps K m n H vs ws->KReps K m' n' H' vs ws
 |_,_,.nil=>.nil
 |_,_,.cons q r=>.cons (mv q) (KReps.map mv r)
theorem KReps.look(k:Key):∀{vs:List (Key×V)} {ws:List (Key×W)},KReps K m n H vs ws->(valV vs k=none/\lookK ws k=none)\/∃v w,valV vs k=some v/\lookK ws k=some w/\VRep K m n H v w
 |_,_,.nil=>.inl ⟨rfl,rfl⟩
 |_,_,.cons (k:=k') (v:=v) (w:=w) q r=>by
  by_cases e:k'=k
  .refine .inr ⟨v,w,zfo (p:=(k',v)) e,?_,q⟩
   unfold lookK;rw[vcg];simp[e]
  .rcases KReps.look k r with⟨a,b⟩|⟨v',w',a,b,c⟩
   .refine .inl ⟨(zdo (p:=(k',v)) e).trans a,?_⟩
    unfold lookK at b ⊢;rw[vcg];simp only[vby e];exact b
   .refine .inr ⟨v',w',(zdo (p:=(k',v)) e).trans a,?_,c⟩
    unfold lookK at b ⊢;rw[vcg];simp only[vby e];exact b
theorem KReps.any(k:Key):∀{vs:List (Key×V)} {ws:List (Key×W)},KReps K m n H vs ws->(vs.any λkv=>decide (kv.1=k))=(ws.any λkv=>decide (kv.1=k))
 |_,_,.nil=>rfl
 |_,_,.cons q r=>by rw[vek,vek,KReps.any k r]
theorem KReps.repl{v:V}{w:W}(q:VRep K m n H v w)(k:Key):∀{vs:List (Key×V)} {ws:List (Key×W)},KReps K m n H vs ws->KReps K m n H (vs.map λkv=>if kv.1=k then(kv.1,v)else kv) (ws.map λkv=>if kv.1=k then(kv.1,w)else kv)
 |_,_,.nil=>.nil
 |_,_,.cons (k:=k') p r=>by
  rw[vav,vav]
  by_cases e:k'=k
  .simp only[if_pos e];exact .cons q (KReps.repl q k r)
  .simp only[if_neg e];exact .cons p (KReps.repl q k r)
theorem KReps.snoc{v:V}{w:W}(q:VRep K m n H v w)(k:Key):∀{vs:List (Key×V)} {ws:List (Key×W)},KReps K m n H vs ws->KReps K m n H (vs++[(k,v)]) (ws++[(k,w)])
 |_,_,.nil=>.cons q .nil
 |_,_,.cons p r=>.cons p (KReps.snoc q k r)
theorem KReps.put{v:V}{w:W}(q:VRep K m n H v w)(k:Key){vs:List (Key×V)}{ws:List (Key×W)}(r:KReps K m n H vs ws):KReps K m n H (putK vs k v) (putKW ws k w):=by
 unfold putK putKW
 rw[r.any k]
 split
 .exact r.repl q k
 .exact r.snoc q k
theorem KReps.merge{vs:List (Key×V)}{ws:List (Key×W)}(q:KReps K m n H vs ws):∀{va:List (Key×V)} {wa:List (Key×W)},KReps K m n H va wa->KReps K m n H (zdi va vs) (zez wa ws):=by
 induction q with
 |nil=>exact λa=>a
 |cons q r ih=>exact λa=>ih (a.put q _)
theorem KReps.length:∀{vs:List (Key×V)} {ws:List (Key×W)},KReps K m n H vs ws->vs.length=ws.length
 |_,_,.nil=>rfl
 |_,_,.cons _ r=>by rw[vam,vam,KReps.length r]
theorem zlr{v:V}{w:W}{k:Key}(q:VRep K m n H v w)(e:keyW w=some k):v=kV k:=by
 cases q<;>cases e<;>rfl
theorem zfu{vs:List V}{ws:List W}{i:Int}{w:W}(q:VReps K m n H vs ws)(e:atI ws i=some w):∃v,atI vs i=some v/\VRep K m n H v w:=by
 unfold atI at e ⊢
 rw[q.length]
 cases z:ixN ws.length i with
 |none=>rw[z]at e;cases e
 |some j=>
  rw[z]at e
  exact q.get e
end
noncomputable def rIdx(K:PySem.W.Frag):R2:=λx y H Q=>rIxL K x y H Q\/rIxT K x y H Q\/∃a v,x=.ref a/\DGet H a y (some v)/\Q v H
section
variable{X:Cx}{a b c e o:Expr}{es:List Expr}{fa fb fc fo:FE}{pos:Pos}
theorem zrg(hu:X.A.units+1<cLine):IxR X (λx y H Q=>∃a v,x=.ref a/\DGet H a y (some v)/\Q v H):=by
 intro value slice pins s σ H x y v u Q I rx ry q hs
 obtain⟨a,v',rfl,g,q⟩:=q
 obtain rfl:v=Value.ref a:=rx
 exact tail_any (zh6 I g) PySem.F.slot_dict_getitem.lookup (zlf hu I g ry λw' s3 I3 rw'=>⟨v',H,I3,rw',q⟩) hs
theorem ix_ok(hu:X.A.units+2<cLine):IxR X (rIdx X.K):=zk3.or (ztp.or (zrg (by omega)))
theorem zrh{K:PySem.W.Frag}:OpV K (rIdx K) (λx y h=>.of (idxW h x y) h):=by
 intro m h H v u x y w h' Q r qv qu e0 k
 obtain⟨e,e1⟩:=of_ok e0
 clear e0
 subst e1
 unfold idxW at e
 split at e
 .cases qv with
  |tup sq rs=>
   cases qu
   obtain⟨v',h1,h2⟩:=zfu rs e
   exact .inr (.inl ⟨_,_,_,v',rfl,rfl,sq,h1,Wants.here k r h2⟩)
 .cases qv with
  |fz sq rs=>
   cases qu
   obtain⟨v',h1,h2⟩:=zfu rs e
   exact .inl ⟨_,_,_,v',rfl,rfl,sq.sq,h1,Wants.here k r h2⟩
 .rename_i i j
  cases qv;cases qu
  cases g:h'.get i with
  |none=>rw[g]at e;cases e
  |some ob=>
   rw[g]at e
   cases ob with
   |lst ws=>
    obtain⟨vs,p1,p2⟩:=r.lst g
    obtain⟨v',h1,h2⟩:=zfu p2 e
    exact .inl ⟨_,_,_,v',rfl,rfl,SqL.of p1,h1,Wants.here k r h2⟩
   |dk ws=>
    have e:lookK ws (.inl j)=some w:=e
    obtain⟨vs,p1,p2⟩:=r.dk g
    rcases p2.look (.inl j)with⟨_,z⟩|⟨v',w',z1,z2,z3⟩
    .rw[z]at e;cases e
    .rw[z2]at e;cases e
     exact .inr (.inr ⟨_,v',rfl,by rw[<-z1];exact .inl ⟨vs,.inl j,p1,rfl,rfl⟩,Wants.here k r z3⟩)
 .rename_i i j
  cases qv;cases qu
  cases g:h'.get i with
  |none=>rw[g]at e;cases e
  |some ob=>
   rw[g]at e
   cases ob with
   |lst ws=>cases e
   |dk ws=>
    have e:lookK ws (.inr j)=some w:=e
    obtain⟨vs,p1,p2⟩:=r.dk g
    rcases p2.look (.inr j)with⟨_,z⟩|⟨v',w',z1,z2,z3⟩
    .rw[z]at e;cases e
    .rw[z2]at e;cases e
     exact .inr (.inr ⟨_,v',rfl,by rw[<-z1];exact .inl ⟨vs,.inr j,p1,rfl,rfl⟩,Wants.here k r z3⟩)
 .cases e
theorem zum(hu:X.A.units+2<cLine)(ha:SE X a fa)(hb:SE X b fb)(hs:zfk b):SE X (.Subscript a b pos) (λρ h=>(fa ρ h).bind λx h=>(fb ρ h).bind λy h=>.of (idxW h x y) h):=
 (pe_ix (ix_ok hu) ha hb hs).imp λσ H Q q=>zfr (G:=rIdx X.K) zrh q
noncomputable def lftO(K:PySem.W.Frag)(b:Bool)(f:FE):TO:=λσ H Q=>∃ρ h m w o h',Fr K m h.n H σ ρ/\Rel K m h H/\f ρ h=.ok w h'/\partW b w=some o/\∀H' m',Stp m h.n H m' h'.n H'->Rel K m' h' H'->Q o H'
theorem lftO.el{K:PySem.W.Frag}{σ:L2.St}{H:Hp}{P:Prop}{b:Bool}{fa:FE}{Q:Option Int->Hp->Prop}(q:lftO K b fa σ H Q)(k:∀ρ h m w o h',Fr K m h.n H σ ρ->Rel K m h H->fa ρ h=.ok w h'->partW b w=some o->(∀H' m',Stp m h.n H m' h'.n H'->Rel K m' h' H'->Q o H')->P):P:=by
 obtain⟨ρ,h,m,w,o,h',f,r,e,ep,k'⟩:=q
 exact k ρ h m w o h' f r e ep k'
theorem lftO.mk{K:PySem.W.Frag}{σ:L2.St}{H:Hp}{m:Nat->Addr}{ρ:En}{h h':VH}{w:W}{o:Option Int}{b:Bool}{fa:FE}{Q:Option Int->Hp->Prop}(f:Fr K m h.n H σ ρ)(r:Rel K m h H)(e:fa ρ h=.ok w h')(ep:partW b w=some o)(k:∀H' m',Stp m h.n H m' h'.n H'->Rel K m' h' H'->Q o H'):lftO K b fa σ H Q:=⟨ρ,h,m,w,o,h',f,r,e,ep,k⟩
theorem zri{w:W}:PO X none (lftO X.K false (λ_ h=>.ok w h)):=λpins s σ H Q I z9=>z9.el λρ h m w o h' f r e ep k=>by
 cases e
 have:o=none:=by
  unfold partW at ep
  cases ep;rfl
 subst this
 exact zqw pins s σ H Q I (k H m .refl r)
theorem zls(ha:SE X e fa):PO X (some e) (lftO X.K true fa):=λpins s σ H Q I z9=>z9.el λρ h m w o h' f r e ep k=>by
 refine zqx ha pins s σ H Q I (.mk f r e λv H' m' s' r' q=>?_)
 cases q<;>cases ep
 exact⟨_,rfl,k H' m' s' r'⟩
theorem ziw{K:PySem.W.Frag}{m:Nat->Addr}{n:Nat}{H:Hp}{vs:List V}{ws:List W}(q:VReps K m n H vs ws)(lo hi:Option Int):VReps K m n H (cutV vs lo hi) (cutW ws lo hi):=by
 unfold cutV cutW
 rw[q.length]
 exact(q.drop _).take _
theorem zj5{ws:List W}{lo hi:Option Int}(h:HT.sIx ws.length 0 lo=0/\HT.sIx ws.length ws.length hi=ws.length):cutW ws lo hi=ws:=by
 unfold cutW
 rw[h.1,h.2]
 simp
theorem zun{lo hi:Option Expr}{fl fh:FE}{p2:Pos}{bl bh:Bool}(ha:SE X a fa)(hl:PO X lo (lftO X.K bl fl))(hh:PO X hi (lftO X.K bh fh)) :
 SE X (.Subscript a (.Slice lo hi none p2) pos) (λρ h=>(fa ρ h).bind λx h=>(fl ρ h).bind λl h=>(fh ρ h).bind λu h=>match partW bl l,partW bh u with
 |some l,some u=>slcW x l u h
 |_,_=>.no):=
 (znw ztz ha hl hh).imp λσ H Q z9=>z9.el λρ h m w h' f r e k=>by
   refine zaa e λx h1 e1 e2=>?_
   refine zaa e2 λl h2 e3 e4=>?_
   refine zaa e4 λu h3 e5 e6=>?_
   split at e6
   .rename_i l' u' pl pu
    refine(.mk f r e1 λv H1 m1 s1 r1 q1=>(.mk (f.stp s1) r1 e3 pl λH2 m2 s2 r2=>(.mk ((f.stp s1).stp s2) r2 e5 pu λH3 m3 s3 r3=>?_)))
    have q3:=(q1.stp s2).stp s3
    have kk:Wants X.K m3 h3.n H3 w h' Q:=λv' H' m' s' r' q'=>k v' H' m' (((s1.trans s2).trans s3).trans s') r' q'
    unfold slcW at e6
    split at e6
    .rename_i ws
     cases e6
     cases q3 with
     | @tup a vs _ sq rs=>
      by_cases hw:HT.sIx vs.length 0 l'=0/\HT.sIx vs.length vs.length u'=vs.length
      .refine .inl (.inr ⟨_,_,rfl,sq,hw,?_⟩)
       have hw':=hw
       rw[rs.length]at hw'
       rw[zj5 hw']at kk
       exact Wants.here kk r3 (.tup sq rs)
      .exact .inl (.inl ⟨_,_,rfl,sq,hw,λp hp=>Wants.tuple kk r3 (ziw rs l' u') hp⟩)
    .rename_i i
     cases q3
     cases g:h3.get i with
     |none=>rw[g]at e6;cases e6
     |some ob=>
      rw[g]at e6
      cases ob with
      |lst ws=>
       cases e6
       obtain⟨vs,p1,p2⟩:=r3.lst g
       exact .inr ⟨_,_,rfl,SqL.of p1,λp hp=>Wants.list kk r3 (ziw p2 l' u') hp⟩
      |dk ws=>cases e6
    .cases e6
   .cases e6
end
noncomputable def zaq:Expr->Bool
 |.Starred ..=>false
 |_=>true
theorem zad{e:Expr}{es:List Expr}{env:Env}(h:zaq e=true):starEach (e::es) env=(false,eval e env)::starEach es env:=by
 cases e<;>first|rfl|cases h
theorem zbd{pos:Pos}{env:Env}:∀{es:List Expr},es.all zaq=true->(backTo pos (starEach es env)).any (·.1)=false
 |[],_=>rfl
 |e::es,h=>by
  rw[vbn,vaa]at h
  rw[zad h.1]
  show(false|| (backTo pos (starEach es env)).any (·.1))=false
  rw[zbd h.2];rfl
noncomputable abbrev aNil:FE:=λ_ h=>.ok (.tup []) h
noncomputable abbrev aCons(fa fb:FE):FE:=λρ h=>(fa ρ h).bind λx h=>(fb ρ h).bind λy h=>match y with|.tup ys=>.ok (.tup (x::ys)) h|_=>.no
section
variable{X:Cx}{a b c e o:Expr}{es:List Expr}{fa fb fc fo:FE}{pos p:Pos}{x:Str}
noncomputable abbrev gArg(fa:FE)(g:List W->VH->Res W):FE:=λρ h=>(fa ρ h).bind λy h=>match y with|.tup ys=>g ys h|_=>.no
noncomputable def CallV(K:PySem.W.Frag)(r:List V->Hp->VK->Prop)(g:List W->VH->Res W):Prop:=∀(m:Nat->Addr) (h:VH) (H:Hp) (vs:List V) (xs:List W) (w:W) (h':VH) (Q:VK),Rel K m h H->VReps K m h.n H vs xs->g xs h=.ok w h'->Wants K m h.n H w h' Q->r vs H Q
theorem zdr{id:String}{r:List V->Hp->VK->Prop}{g:List W->VH->Res W}(hc:CallR X (.builtin id) r)(hv:CallV X.K r g)(hg:Gl X x)(hm:X.mg x=none)(hb:bootBuiltins x=some (.builtin id))(ha:SA X (e::es) fa)(hs:(e::es).all zaq=true)
 (hn:x≠"__name__") (hdb:(x==("__debug__" : Str))=false):SE X (.Call (.Name x p) (e::es) [] pos) (gArg fa g):=by
 rw[vbn,vaa]at hs
 exact(zfj hc hg hm hb ha hn hdb (zad hs.1) (zbd hs.2)).imp λσ H Q q=>zc6 hv q
theorem zec{T:String}{r:List V->Hp->VK->Prop}{g:List W->VH->Res W}(hc:CallR X (.type T) r)(hv:CallV X.K r g)(hg:Gl X x)(hm:X.mg x=none)(hb:bootBuiltins x=some (.type T))(ha:SA X (e::es) fa)(hs:(e::es).all zaq=true)
 (hn:x≠"__name__") (hdb:(x==("__debug__" : Str))=false):SE X (.Call (.Name x p) (e::es) [] pos) (gArg fa g):=by
 rw[vbn,vaa]at hs
 exact(zkz hc hg hm hb ha hn hdb (zad hs.1) (zbd hs.2)).imp λσ H Q q=>zc6 hv q
theorem reps1{K:PySem.W.Frag}{m:Nat->Addr}{n:Nat}{H:Hp}{vs:List V}{w:W}(q:VReps K m n H vs [w]):∃v,vs=[v]/\VRep K m n H v w:=by
 cases q with|cons q r=>cases r;exact⟨_,rfl,q⟩
theorem zuo{K:PySem.W.Frag}:CallV K (λxs H Q=>∃p ys,xs=[.ref p]/\(SqL K H p ys\/SqT K H p ys)/\Q (.int ys.length) H) lenW:=by
 intro m h H vs xs w h' Q r q e k
 unfold lenW at e
 split at e<;>try cases e
 rename_i x
 obtain⟨v,rfl,q1⟩:=reps1 q
 obtain⟨e,rfl⟩:=of_ok e
 cases z:seqW h' x with
 |none=>rw[z]at e;cases e
 |some ws=>
  rw[z]at e;cases e
  obtain⟨p,us,rfl,h1,h2⟩:=zc7 r q1 z
  exact⟨p,us,rfl,h1,by rw[h2.length];exact Wants.here k r (.int _)⟩
theorem zrj{K:PySem.W.Frag}:CallV K (λxs H Q=>∃p ys,xs=[.ref p]/\(SqL K H p ys\/SqT K H p ys)/\∀l,H l=none->Q (.ref l) (upd H l (.lst ys))) listW:=by
 intro m h H vs xs w h' Q r q e k
 unfold listW at e
 split at e<;>try cases e
 rename_i x
 obtain⟨v,rfl,q1⟩:=reps1 q
 cases z:seqW h x with
 |none=>rw[z]at e;cases e
 |some ws=>
  rw[z]at e;cases e
  obtain⟨p,us,rfl,h1,h2⟩:=zc7 r q1 z
  exact⟨p,us,rfl,h1,λl hl=>Wants.list k r h2 hl⟩
theorem zod{K:PySem.W.Frag}:CallV K (λxs H Q=>∃p ys,xs=[.ref p]/\((SqL K H p ys/\∀l,H l=none->Q (.ref l) (upd H l (.tup ys)))\/(SqT K H p ys/\Q (.ref p) H))) zd9:=by
 intro m h H vs xs w h' Q r q e k
 unfold zd9 at e
 split at e<;>try cases e
 rename_i x
 obtain⟨v,rfl,q1⟩:=reps1 q
 obtain⟨e,rfl⟩:=of_ok e
 cases z:seqW h' x with
 |none=>rw[z]at e;cases e
 |some ws=>
  rw[z]at e;cases e
  obtain⟨p,us,rfl,h1,h2⟩:=zc7 r q1 z
  rcases h1 with h1|h1
  .exact⟨p,us,rfl,.inl ⟨h1,λl hl=>Wants.tuple k r h2 hl⟩⟩
  .exact⟨p,us,rfl,.inr ⟨h1,Wants.here k r (.tup h1 h2)⟩⟩
theorem zup{K:PySem.W.Frag}:CallV K (λxs H Q=>(∃i,xs=[.int i]/\Q (.int i) H)\/∃k,xs=[.bl k]/\Q (.int (if k then 1 else 0)) H) intW:=by
 intro m h H vs xs w h' Q r q e k
 unfold intW at e
 split at e<;>try cases e
 .obtain⟨v,rfl,q1⟩:=reps1 q
  cases q1
  exact .inl ⟨_,rfl,Wants.here k r (.int _)⟩
 .obtain⟨v,rfl,q1⟩:=reps1 q
  cases q1
  exact .inr ⟨_,rfl,Wants.here k r (.int _)⟩
theorem zuq{K:PySem.W.Frag}:CallV K (λxs H Q=>∃i,xs=[.int i]/\Q (.int (if i<0 then -i else i)) H) absW:=by
 intro m h H vs xs w h' Q r q e k
 unfold absW at e
 split at e<;>try cases e
 obtain⟨v,rfl,q1⟩:=reps1 q
 cases q1
 exact⟨_,rfl,Wants.here k r (.int _)⟩
theorem reps2{K:PySem.W.Frag}{m:Nat->Addr}{n:Nat}{H:Hp}{vs:List V}{w z:W}(q:VReps K m n H vs [w,z]):∃v u,vs=[v,u]/\VRep K m n H v w/\VRep K m n H u z:=by
 cases q with|cons q r=>obtain⟨u,rfl,h⟩:=reps1 r;exact⟨_,_,rfl,q,h⟩
theorem zur{K:PySem.W.Frag}:CallV K (λxs H Q=>∃i j,xs=[.int i,.int j]/\Q (.int (if j<i then j else i)) H) minW:=by
 intro m h H vs xs w h' Q r q e k
 unfold minW at e
 split at e<;>try cases e
 obtain⟨v,u,rfl,q1,q2⟩:=reps2 q
 cases q1;cases q2
 exact⟨_,_,rfl,Wants.here k r (.int _)⟩
theorem zix{K:PySem.W.Frag}{m:Nat->Addr}{n:Nat}{H:Hp}:∀{vs:List V} {ws:List W} {bs:List Bool},VReps K m n H vs ws->mapO blW ws=some bs->vs=bs.map .bl
 |_,_,bs,.nil,e=>by cases e;rfl
 |_,_,bs,.cons (w:=w) (ws:=ws) q r,e=>by
  unfold mapO at e
  cases z:blW w with
  |none=>rw[z]at e;cases e
  |some b=>
   rw[z]at e
   cases z2:mapO blW ws with
   |none=>rw[z2]at e;cases e
   |some cs=>
    rw[z2]at e;cases e
    unfold blW at z
    split at z<;>cases z
    cases q
    rw[zix r z2];rfl
theorem zus{K:PySem.W.Frag}:CallV K (λxs H Q=>∃(p:Addr) (bs:List Bool),xs=[.ref p]/\SqL K H p (bs.map .bl)/\Q (.bl (bs.all id)) H) allW:=by
 intro m h H vs xs w h' Q r q e k
 unfold allW at e
 split at e<;>try cases e
 rename_i i
 split at e<;>try cases e
 rename_i ws g
 obtain⟨v,rfl,q1⟩:=reps1 q
 obtain⟨e,rfl⟩:=of_ok e
 cases z:mapO blW ws with
 |none=>rw[z]at e;cases e
 |some bs=>
  rw[z]at e;cases e
  cases q1
  obtain⟨us,p1,p2⟩:=r.lst g
  refine⟨_,bs,rfl,?_,Wants.here k r (.bl _)⟩
  rw[<-zix p2 z]
  exact .inl (.inl p1)
noncomputable def tyN:Ty->String
 |.int=>"int" |.bool=>"bool" |.tuple=>"tuple" |.list=>"list" |.str=>"str" |.dict=>"dict"
noncomputable def rIsi(K:PySem.W.Frag)(n:String):List V->Hp->VK->Prop:=λxs H Q=>∃x b,xs=[x,.ty n]/\((∃t,TyOf K H x t/\PySem.W.kitOne K t (.type n)=some b)\/(∃a vs,x=.ref a/\SqT K H a vs/\PySem.W.kitOne K (.type "tuple") (.type n)=some b)\/∃a,x=.ref a/\(∃kvs,Rd H a (.dK kvs))/\PySem.W.kitOne K (.type "dict") (.type n)=some b)/\Q (.bl b) H
theorem zoe(n:String):CallR X (.builtin "isinstance") (rIsi X.K n):=by
 intro pins s σ H xs us Q I r h
 obtain⟨x,b,rfl,hi,q⟩:=h
 obtain⟨u,u2,rfl,rx,rc⟩:=vals2 r
 obtain rfl:u2=Value.type n:=rc
 rcases hi with⟨t,ty,e⟩|⟨a,vs,rfl,sq,e⟩|⟨a,rfl,rd,e⟩
 .exact zkw I rx ty e λtk=>⟨.bl b,H,I.tok _,rfl,q⟩
 .obtain rfl:u=Value.ref a:=rx
  obtain⟨its,_,p,_⟩:=I.tuple sq
  obtain⟨o,h1,h2,_⟩:=p
  exact vbf PySem.W.kitx_tuple I.kIn ⟨o,h1,h2⟩ e (λz=>nomatch z) λtk=>⟨.bl b,H,I.tok _,rfl,q⟩
 .obtain rfl:u=Value.ref a:=rx
  obtain⟨o,h1,h2⟩:∃o,s.heap.get? a=some o/\o.ExactDict:=by
   obtain⟨kvs,rd⟩:=rd
   obtain⟨_,_,_,_,o,_,_,h1,h2,_⟩:=dk_rd I.hok rd
   exact⟨o,h1,h2⟩
  exact vbf PySem.W.kitx_dict I.kIn ⟨o,h1,h2.1⟩ e (λz=>nomatch z) λtk=>⟨.bl b,H,I.tok _,rfl,q⟩
theorem zut{K:PySem.W.Frag}(t:Ty){m:Nat->Addr}{h:VH}{H:Hp}{v:V}{x:W}{b:Bool}(r:Rel K m h H)(q:VRep K m h.n H v x)(e:tyIs t h x=some b) :
 (∃t',TyOf K H v t'/\PySem.W.kitOne K t' (.type (tyN t))=some b)\/(∃a vs,v=.ref a/\SqT K H a vs/\PySem.W.kitOne K (.type "tuple") (.type (tyN t))=some b)\/∃a,v=.ref a/\(∃kvs,Rd H a (.dK kvs))/\PySem.W.kitOne K (.type "dict") (.type (tyN t))=some b:=by
 cases q with
 |non=>cases e;refine .inl ⟨_,.non,?_⟩;cases t<;>rfl
 |bl x=>cases e;refine .inl ⟨_,.bl x,?_⟩;cases t<;>rfl
 |int x=>cases e;refine .inl ⟨_,.int x,?_⟩;cases t<;>rfl
 |str x=>cases e;refine .inl ⟨_,.str x,?_⟩;cases t<;>rfl
 |tup sq rs=>cases e;refine .inr (.inl ⟨_,_,rfl,sq,?_⟩);cases t<;>rfl
 |fz _ _=>cases e
 | @ref i hi=>
  simp only[tyIs]at e
  cases g:h.get i with
  |none=>rw[g]at e;cases e
  |some o=>
   rw[g]at e
   cases o with
   |lst ws=>
    cases e
    obtain⟨vs,h1,h2⟩:=r.lst g
    refine .inl ⟨_,.lst h1,?_⟩;cases t<;>rfl
   |dk ws=>
    cases e
    obtain⟨vs,h1,h2⟩:=r.dk g
    refine .inr (.inr ⟨_,rfl,⟨_,h1⟩,?_⟩);cases t<;>rfl
theorem zuu(t:Ty){T:Str}{p2:Pos}(ha:SE X e fa)(hs:zaq e=true)(hg:Gl X "isinstance")(hm:X.mg "isinstance" = none)(hgT:Gl X T)(hmT:X.mg T=none)(hbT:bootBuiltins T=some (.type (tyN t)))(hn:T≠"__name__")(hd:(T==("__debug__" : Str))=false) :
 SE X (.Call (.Name "isinstance" p) [e,.Name T p2] [] pos) (λρ h=>(fa ρ h).bind λx h=>.of ((tyIs t h x).map .bl) h):=by
 have hT:PE X (.Name T p2) (tC (.ty (tyN t))):=zkj hgT hmT hbT rfl hn hd
 refine(zfj (zoe (tyN t)) hg hm PyProof.Rows.boot_isinstance (zav ha (zav hT zbn) (zad hs)) (by decide) (by decide) (zad hs) rfl).imp λσ H Q q=>?_
 refine zpi (g:=λx h=>.of ((tyIs t h x).map .bl) h) (G:=λv H1 Q=>rIsi X.K (tyN t) [v,.ty (tyN t)] H1 Q) (λm h H v x w h' Q r q e k=>?_) q
 obtain⟨e,rfl⟩:=of_ok e
 cases z:tyIs t h' x with
 |none=>rw[z]at e;cases e
 |some b=>
  rw[z]at e;cases e
  exact⟨v,b,rfl,zut t r q z,Wants.here k r (.bl b)⟩
noncomputable def zfv:Expr->Bool
 |.Name .. |.Subscript ..=>true
 |_=>false
theorem zlu{o:Expr}{m:Str}{env:Env}(h:zfv o=true):attributeBase o m env (eval o env)=eval o env:=by
 cases o<;>first|rfl|cases h
noncomputable abbrev gMt(m:Mt)(fo fa:FE):FE:=λρ h=>(fo ρ h).bind λx h=>if zgy m h x then(fa ρ h).bind λy h=>match y with|.tup ys=>mtW m x ys h|_=>.no else .no
theorem zlv{apos:Pos}(ho:SE X o fo)(he:SE X e fa)(hb:zfv o=true)(hs:zaq e=true)(hl:(apos.endLine==pos.line)=true) :
 SE X (.Call (.Attribute o "append" apos) [e] [] pos) (gMt .append fo (aCons fa aNil)):=by
 refine(pe_bm (X:=X) PySem.F.plainAttrs_list PySem.F.slot_list_append PySem.F.type_list_append zgu ho (zav he zbn (zad hs)) (zlu hb) ?_ hl (zad hs) rfl).imp λσ H Q z9=>z9.el λρ h m w h' f r e k=>?_
 .rw[zad hs];rfl
 .refine zaa e λx h1 e1 e2=>?_
  split at e2
  .rename_i hk
   refine zaa e2 λy h2 e3 e4=>?_
   refine zaa e3 λz h3 e5 e6=>?_
   cases e6
   refine(.mk f r e1 λv H1 m1 s1 r1 q1=>?_)
   cases x<;>try cases hk
   rename_i i
   simp only[zgy]at hk
   cases g:h1.get i with
   |none=>rw[g]at hk;cases hk
   |some ob=>
    rw[g]at hk
    cases ob with
    |dk _=>cases hk
    |lst ws0=>
     cases q1
     obtain⟨vs0,p1,_⟩:=r1.lst g
     refine⟨.inl ⟨rfl,vs0,SqL.of p1⟩,ρ,h1,m1,z,h2,f.stp s1,r1,e5,λv2 H2 m2 s2 r2 q2=>?_⟩
     simp only[mtW]at e4
     cases g2:h2.get i with
     |none=>rw[g2]at e4;cases e4
     |some ob=>
      rw[g2]at e4
      cases ob with
      |dk _=>cases e4
      |lst ws=>
       simp only at e4
       split at e4
       .rename_i hz
        cases e4
        obtain⟨vs,p2,p3⟩:=r2.lst g2
        have hmi:m1 i=m2 i:=(s2.same i (zar g)).symm
        refine⟨m1 i,vs,v2,rfl,rfl,by rw[hmi];exact p2,by rw[p3.length];exact zax.mp hz,?_⟩
        obtain⟨st,r'⟩:=r2.write (i:=i) (o:=.lst (ws++[z])) (u:=.lst (vs++[v2])) (zar g2) p2 (λ_ z=>nomatch z) (λ_ _ z=>nomatch z) λst=>⟨vs++[v2],zag,(p3.stp st).append (.cons (q2.stp st) .nil)⟩
        rw[hmi]
        exact k .non _ m2 ((s1.trans s2).trans st) r' .non
       .cases e4
  .cases e2
end
section
variable{K:PySem.W.Frag}{m m' m1:Nat->Addr}{n n' n1:Nat}{h h':VH}{H H' H1:Hp}
mutual
theorem VRep.mono(hn:n<=n')(hm:∀i,i<n->m' i=m i)(kt:∀b vs,H b=some (.tup vs)->H' b=some (.tup vs))(kf:∀b o u,H b=some (.frz o u)->H' b=some (.frz o u)):∀{v:V} {w:W},VRep K m n H v w->VRep K m' n' H' v w
 |_,_,.non=>.non
 |_,_,.bl b=>.bl b
 |_,_,.int b=>.int b
 |_,_,.str b=>.str b
 |_,_,.tup q r=>.tup (by
  rcases q with(q|⟨o,q⟩)|q
  .exact .inl (.inl (kt _ _ q))
  .exact .inl (.inr ⟨o,kf _ _ _ q⟩)
  .exact .inr q) (VReps.mono hn hm kt kf r)
 |_,_,.fz q r=>.fz (by
  rcases q with⟨o,q⟩|q
  .exact .inl ⟨o,kf _ _ _ q⟩
  .exact .inr q) (VReps.mono hn hm kt kf r)
 |_,_,.ref (i:=i) q=>by rw[<-hm i q];exact .ref (vah q hn)
theorem VReps.mono(hn:n<=n')(hm:∀i,i<n->m' i=m i)(kt:∀b vs,H b=some (.tup vs)->H' b=some (.tup vs))(kf:∀b o u,H b=some (.frz o u)->H' b=some (.frz o u)):∀{vs:List V} {ws:List W},VReps K m n H vs ws->VReps K m' n' H' vs ws
 |_,_,.nil=>.nil
 |_,_,.cons q r=>.cons (VRep.mono hn hm kt kf q) (VReps.mono hn hm kt kf r)
end
theorem Rel.side(r:Rel K m h H){D:Addr}{u u0:HO}(hu:H D=some u0)(ht:∀t,u0≠.tup t)(hf:∀o t,u0≠.frz o t)(ho:∀i,i<h.n->m i≠D)(s:Stp m1 n1 H1 m h.n H)(h0:H1 D=none) :
 Stp m1 n1 H1 m h.n (upd H D u)/\Rel K m h (upd H D u)/\∀{v:V}{w:W},VRep K m h.n H v w->VRep K m h.n (upd H D u) v w:=by
 have kt:∀b vs,H b=some (.tup vs)->upd H D u b=some (.tup vs):=λb vs q=>by rw[zae (ne_of q hu λz=>ht vs z.symm)];exact q
 have kf:∀b o t,H b=some (.frz o t)->upd H D u b=some (.frz o t):=λb o t q=>by rw[zae (ne_of q hu λz=>hf o t z.symm)];exact q
 have mv:∀{v:V}{w:W},VRep K m h.n H v w->VRep K m h.n (upd H D u) v w:=λq=>q.mono (vad _) (λ_ _=>rfl) kt kf
 refine⟨⟨s.le,s.same,s.new,s.apart,λb vs q=>kt b vs (s.tup b vs q),λb o t q=>kf b o t (s.frz b o t q),λb o nb q=>by rw[zae (zaf q h0)];exact s.keep b o nb q⟩,⟨λi hi=>?_,r.inj,r.len⟩,mv⟩
 obtain⟨o,h1,h2⟩:=r.obj i hi
 have eq:upd H D u (m i)=H (m i):=zae (ho i hi)
 refine⟨o,h1,?_⟩
 cases o with
 |lst ws=>obtain⟨vs,q1,q2⟩:=h2;exact⟨vs,eq.trans q1,q2.map mv⟩
 |dk ws=>obtain⟨vs,q1,q2⟩:=h2;exact⟨vs,q1.imp (λz=>eq.trans z) λ⟨o,z⟩=>⟨o,eq.trans z⟩,q2.map mv⟩
theorem Rel.out(r:Rel K m h H){p:Addr}(hp:H p=none):∀i,i<h.n->m i≠p:=λi hi z=>by
 obtain⟨o',_,h2⟩:=r.obj i hi
 obtain⟨u',h3⟩:=h2.some
 rw[z,hp]at h3;cases h3
theorem Stp.out(s:Stp m n H m' n' H'){p:Addr}{u:HO}(hp:∀i,i<n->m i≠p)(hu:H p=some u):∀i,i<n'->m' i≠p:=λi hi z=>by
 by_cases hl:i<n
 .exact hp i hl ((s.same i hl).symm.trans z)
 .have:=s.new i (vb9.mp hl) hi
  rw[z,hu]at this;cases this
end
inductive PReps(K:PySem.W.Frag)(m:Nat->Addr)(n:Nat)(H:Hp):List (V×V)->List W->Prop
 |nil:PReps K m n H [] []
 |cons {k v:V} {a b:W} {ps:List (V×V)} {ws:List W}:VRep K m n H k a->VRep K m n H v b->PReps K m n H ps ws->PReps K m n H ((k,v)::ps) (a::b::ws)
noncomputable def lftP(K:PySem.W.Frag)(f:FE)(σ:L2.St)(H:Hp)(Q:List (V×V)->Hp->Prop):Prop:=∃ρ h m ws h',Fr K m h.n H σ ρ/\Rel K m h H/\f ρ h=.ok (.tup ws) h'/\
 ∀ps H' m',Stp m h.n H m' h'.n H'->Rel K m' h' H'->PReps K m' h'.n H' ps ws->Q ps H'
theorem lftP.el{K:PySem.W.Frag}{σ:L2.St}{H:Hp}{P:Prop}{fa:FE}{Q:List (V×V)->Hp->Prop}(q:lftP K fa σ H Q)(k:∀ρ h m ws h',Fr K m h.n H σ ρ->Rel K m h H->fa ρ h=.ok (.tup ws) h'->(∀ps H' m',Stp m h.n H m' h'.n H'->Rel K m' h' H'->PReps K m' h'.n H' ps ws->Q ps H')->P):P:=by
 obtain⟨ρ,h,m,w,h',f,r,e,k'⟩:=q
 exact k ρ h m w h' f r e k'
theorem lftP.mk{K:PySem.W.Frag}{σ:L2.St}{H:Hp}{m:Nat->Addr}{ρ:En}{h h':VH}{ws:List W}{fa:FE}{Q:List (V×V)->Hp->Prop}(f:Fr K m h.n H σ ρ)(r:Rel K m h H)(e:fa ρ h=.ok (.tup ws) h')(k:∀ps H' m',Stp m h.n H m' h'.n H'->Rel K m' h' H'->PReps K m' h'.n H' ps ws->Q ps H'):lftP K fa σ H Q:=⟨ρ,h,m,ws,h',f,r,e,k⟩
noncomputable def SPs(X:Cx)(pos:Pos)(keys:List (Option Expr))(values:List Expr)(f:FE):Prop:=∃trs,PPs X pos keys values trs/\∀σ H Q,lftP X.K f σ H Q->ziu trs σ H Q
section
variable{X:Cx}{a b c e o:Expr}{es:List Expr}{fa fb fc fo fr:FE}{pos p:Pos}{x:Str}
theorem zrk:SPs X pos [] [] aNil:=⟨[],zq7,λσ H Q z9=>z9.el λρ h m ws h' f r e k=>by cases e;exact k [] H m .refl r .nil⟩
theorem zof{ks:List (Option Expr)}{vs:List Expr}(ha:SE X a fa)(hb:SE X b fb)(hr:SPs X pos ks vs fr):SPs X pos (some a::ks) (b::vs) (aCons fa (aCons fb fr)):=by
 obtain⟨trs,h1,h2⟩:=hr
 refine⟨_,zn2 ha hb h1,λσ H Q z9=>z9.el λρ h m ws h' f r e k=>?_⟩
 refine zaa e λx h3 e1 e2=>?_
 refine zaa e2 λy h4 e3 e4=>?_
 refine zaa e3 λx2 h5 e5 e6=>?_
 refine zaa e6 λy2 h6 e7 e8=>?_
 cases y2<;>try cases e8
 cases e4
 rename_i ys
 exact(.mk f r e1 λv H1 m1 s1 r1 q1=>(.mk (f.stp s1) r1 e5 λv2 H2 m2 s2 r2 q2=>h2 σ H2 _ (.mk ((f.stp s1).stp s2) r2 e7 λps H3 m3 s3 r3 q3=>
  k _ H3 m3 ((s1.trans s2).trans s3) r3 (.cons ((q1.stp s2).stp s3) (q2.stp s3) q3))))
theorem ziy{K:PySem.W.Frag}{m:Nat->Addr}{n:Nat}{H:Hp}:∀{ps:List (V×V)} {ws:List W} {kws:List (Key×W)},PReps K m n H ps ws->zea ws=some kws->∃kvs:List (Key×V),ps=kvs.map (λkv=>(kV kv.1,kv.2))/\KReps K m n H kvs kws
 |_,_,_,.nil,e=>by cases e;exact⟨[],rfl,.nil⟩
 |_,_,_,.cons (a:=a) (v:=v) q1 q2 r,e=>by
  simp only[zea]at e
  split at e
  .rename_i k hk
   split at e
   .rename_i kvs hp
    cases e
    obtain⟨kv,rfl,r'⟩:=ziy r hp
    refine⟨(k,v)::kv,?_,.cons q2 r'⟩
    rw[vav,zlr q1 hk]
   .cases e
  .cases e
noncomputable abbrev gDsp(f:FE):FE:=λρ h=>(f ρ h).bind λy h=>match y with
 |.tup ys=>(match zea ys with
  |some kvs=>if Nat.ble kvs.length 15 then .ok (.ref h.n) (h.new (.dk (zez [] kvs)))else .no
  |none=>.no)
 |_=>.no
theorem zuv(hu:X.A.units+2<cLine){keys:List (Option Expr)}{values:List Expr}(hp:SPs X pos keys values fa)(hall:keys.all (·.isSome)=true)(hl:keys.length=values.length)(h0:keys≠[])(h15:keys.length<=15):SE X (.Dict keys values pos) (gDsp fa):=by
 obtain⟨trs,h1,h2⟩:=hp
 refine(zq8 h1 hall hl h0 h15).imp λσ H Q z9 p hp=>z9.el λρ h m w h' f r e k=>?_
 refine zaa e λy h3 e1 e2=>?_
 cases y<;>try cases e2
 rename_i ys
 obtain⟨st0,r0⟩:=r.more (u:=.dK []) hp
 refine h2 σ _ _ (.mk (f.stp st0) r0 e1 λps H2 m2 s2 r2 q2=>?_)
 have hout:=s2.out (r.out hp) zag
 have hD:H2 p=some (.dK []):=s2.keep p _ (r.out hp) zag
 refine⟨hD,?_⟩
 have e2:(match zea ys with
  |some kvs=>if Nat.ble kvs.length 15 then Res.ok (W.ref h3.n) (h3.new (.dk (zez [] kvs)))else .no
  |none=>.no)=.ok w h':=e2
 cases hk:zea ys with
 |none=>rw[hk]at e2;cases e2
 |some kws=>
  rw[hk]at e2
  have e2:(if Nat.ble kws.length 15 then Res.ok (W.ref h3.n) (h3.new (.dk (zez [] kws)))else .no)=.ok w h':=e2
  by_cases hz:Nat.ble kws.length 15=true
  .rw[if_pos hz]at e2
   cases e2
   obtain⟨kvs,e3,q3⟩:=ziy q2 hk
   refine⟨kvs,e3,by rw[q3.length];exact vay hz,?_⟩
   obtain⟨st,r'⟩:=r2.adopt (o:=.dk (zez [] kws)) (u:=.dK (zdi [] kvs)) hout hD (λ_ z=>nomatch z) (λ_ _ z=>nomatch z) (st0.trans s2) hp λ_ mv=>⟨_,.inl zag,(q3.merge .nil).map mv⟩
   refine k _ _ _ st r' ?_
   have:VRep X.K (λi=>if i=h3.n then p else m2 i) (h3.n+1) (upd H2 p (.dK (zdi [] kvs))) (.ref ((λi=>if i=h3.n then p else m2 i) h3.n)) (.ref h3.n):=.ref (vb4 _)
   simp only[vbk]at this
   exact this
  .rw[if_neg hz]at e2;cases e2
theorem zrl:SE X (.Dict [] [] pos) (gDsp aNil):=zn1.imp λσ H Q z9 p hp=>z9.el λρ h m w h' f r e k=>by
 cases e
 exact Wants.dict (ws:=[]) (vs:=[]) k r .nil hp
noncomputable def spV(K:PySem.W.Frag)(np:Nat)(g:List W->VH->Res W):Sp:=λvs H Q _=>vs.length=np/\∃h m ws w h',Rel K m h H/\VReps K m h.n H vs ws/\g ws h=.ok w h'/\Wants K m h.n H w h' Q
theorem zrm{k:Nat}{f:Addr}{fd:FuncData}{ps:List Str}{g:List W->VH->Res W}(F:FnOk X.prog X.w X.K X.mg X.base CX0 k f fd ps (spV X.K ps.length g))(hr:Room k X.A)(hg:Gl X x)(hm:X.mg x=some (.ref f))(hk:PySem.W.keepIn X.K (.ref f)=true)
 (hb:Binds X.K fd ps []) (ha:SA X (e::es) fa) (hs:(e::es).all zaq=true) (hdb:(x==("__debug__" : Str))=false) (hn:∀ws h w h',g ws h=.ok w h'->ws.length=ps.length):SE X (.Call (.Name x p) (e::es) [] pos) (gArg fa g):=by
 rw[vbn,vaa]at hs
 refine(zfi F hr hg hm hk hb .nil pass0 ha hdb (zad hs.1) (zbd hs.2)).imp λσ H Q q=>zc6 (G:=λvs H1 Q=>spV X.K ps.length g (vs++[]) H1 Q E0) (λm h H vs xs w h' Q r q e k=>?_) q
 rw[va7]
 exact⟨by rw[q.length];exact hn _ _ _ _ e,h,m,xs,w,h',r,q,e,k⟩
theorem zog{k:Nat}{f:Addr}{fd:FuncData}{ps:List Str}{g:List W->VH->Res W}(F:FnOk X.prog X.w X.K X.mg X.base CX0 k f fd ps (spV X.K ps.length g))(hr:Room k X.A)(hg:Gl X x)(hm:X.mg x=some (.ref f))(hk:PySem.W.keepIn X.K (.ref f)=true)
 (hb:Binds X.K fd ps []) (hdb:(x==("__debug__" : Str))=false) (hn:∀ws h w h',g ws h=.ok w h'->ws.length=ps.length):SE X (.Call (.Name x p) [] [] pos) (gArg aNil g):=by
 refine(znu F hr hg hm hk hb .nil pass0 hdb).imp λσ H Q z9=>z9.el λρ h m w h' f r e k=>?_
 exact⟨hn _ _ _ _ e,h,m,[],w,h',r,.nil,e,k⟩
theorem zoh{k:Nat}{f:Addr}{fd:FuncData}{ps:List Str}{g:List W->VH->Res W}(F:FnOk X.prog X.w X.K X.mg X.base CX0 k f fd ps (spV X.K ps.length g))(hr:Room k X.A)(hg:Gl X x)(hm:X.mg x=some (.ref f))(hk:PySem.W.keepIn X.K (.ref f)=true)
 (hb:Binds X.K fd ps [.none]) (ha:SA X (e::es) fa) (hs:(e::es).all zaq=true) (hdb:(x==("__debug__" : Str))=false) (hn:∀ws h w h',g ws h=.ok w h'->ws.length=ps.length):SE X (.Call (.Name x p) (e::es) [] pos) (gArg fa λws h=>g (ws++[.non]) h):=by
 rw[vbn,vaa]at hs
 refine(zfi F hr hg hm hk hb (dvs:=[V.non]) (.cons rfl .nil) pass0 ha hdb (zad hs.1) (zbd hs.2)).imp λσ H Q q=>zc6 (G:=λvs H1 Q=>spV X.K ps.length g (vs++[V.non]) H1 Q E0) (λm h H vs xs w h' Q r q e k=>?_) q
 have q':VReps X.K m h.n H (vs++[V.non]) (xs++[W.non]):=q.append (.cons .non .nil)
 exact⟨by rw[q'.length];exact hn _ _ _ _ e,h,m,xs++[W.non],w,h',r,q',e,k⟩
noncomputable def ItOk(K:PySem.W.Frag)(nx:Nat->VH->Option (Option W))(J:It)(P:(Nat->Addr)->Nat->Hp->Prop):Prop:=
 (∀m n H m' n' H',n<=n'->(∀i,i<n->m' i=m i)->(∀b vs,H b=some (.tup vs)->H' b=some (.tup vs))->(∀b o u,H b=some (.frz o u)->H' b=some (.frz o u))->P m n H->P m' n' H')/\
 ∀m h H,Rel K m h H->P m h.n H->∀i,(∀w,nx i h=some (some w)->J.go i H/\∀y H3,J.yld i H y H3->Stp m h.n H m h.n H3/\Rel K m h H3/\VRep K m h.n H3 y w)/\(nx i h=some none->J.stop i H)
noncomputable def lftI(K:PySem.W.Frag)(kd:Kd)(f:FE):TI:=λσ H R=>∃ρ h m x h',Fr K m h.n H σ ρ/\Rel K m h H/\f ρ h=.ok x h'/\(∃o,nxt kd x 0 h'=some o)/\
 ∀J P H' m',Stp m h.n H m' h'.n H'->Rel K m' h' H'->ItOk K (nxt kd x) J P->P m' h'.n H'->R J H'
theorem lftI.el{K:PySem.W.Frag}{σ:L2.St}{H:Hp}{P:Prop}{kd:Kd}{fa:FE}{R}(q:lftI K kd fa σ H R)(k:∀ρ h m x h',Fr K m h.n H σ ρ->Rel K m h H->fa ρ h=.ok x h'->∀o,nxt kd x 0 h'=some o->(∀J P H' m',Stp m h.n H m' h'.n H'->Rel K m' h' H'->ItOk K (nxt kd x) J P->P m' h'.n H'->R J H')->P):P:=by
 obtain⟨ρ,h,m,w,h',f,r,e,⟨o,eo⟩,k'⟩:=q
 exact k ρ h m w h' f r e o eo k'
theorem lftI.mk{K:PySem.W.Frag}{σ:L2.St}{H:Hp}{m:Nat->Addr}{ρ:En}{h h':VH}{x:W}{kd:Kd}{fa:FE}{R}(f:Fr K m h.n H σ ρ)(r:Rel K m h H)(e:fa ρ h=.ok x h')(eo:∃o,nxt kd x 0 h'=some o)(k:∀J P H' m',Stp m h.n H m' h'.n H'->Rel K m' h' H'->ItOk K (nxt kd x) J P->P m' h'.n H'->R J H'):lftI K kd fa σ H R:=⟨ρ,h,m,x,h',f,r,e,eo,k⟩
theorem zfw{K:PySem.W.Frag}{H H':Hp}{a:Addr}{vs:List V}(kt:∀b vs,H b=some (.tup vs)->H' b=some (.tup vs))(kf:∀b o u,H b=some (.frz o u)->H' b=some (.frz o u))(q:SqT K H a vs):SqT K H' a vs:=by
 rcases q with(q|⟨o,q⟩)|q
 .exact .inl (.inl (kt _ _ q))
 .exact .inl (.inr ⟨o,kf _ _ _ q⟩)
 .exact .inr q
theorem zlw{K:PySem.W.Frag}{H H':Hp}{a:Addr}{vs:List V}(kf:∀b o u,H b=some (.frz o u)->H' b=some (.frz o u))(q:Fz K H a vs):Fz K H' a vs:=by
 rcases q with⟨o,q⟩|q
 .exact .inl ⟨o,kf _ _ _ q⟩
 .exact .inr q
theorem ze1{ws:List W}{h:VH}{x:W}{i:Nat}{o:Option W}(e:seqW h x=some ws)(q:nxt .seq x i h=some o):ws[i]?=o:=by
 simp only[nxt,e]at q
 cases q;rfl
theorem zuw{K:PySem.W.Frag}{a:Addr}{vs:List V}{ws:List W}:ItOk K (nxt .seq (.tup ws)) (Itt K a) (λm n H=>SqT K H a vs/\VReps K m n H vs ws):=by
 refine⟨λm n H m' n' H' hn hm kt kf ⟨q1,q2⟩=>⟨zfw kt kf q1,q2.mono hn hm kt kf⟩,λm h H r ⟨q1,q2⟩ i=>⟨λw e=>?_,λe=>?_⟩⟩
 .have e:=ze1 (ws:=ws) rfl e
  obtain⟨v,h1,h2⟩:=q2.get e
  refine⟨⟨vs,v,q1,h1⟩,λy H3 ⟨e3,y3⟩=>?_⟩
  subst e3
  have:=y3 vs q1
  rw[h1]at this;cases this
  exact⟨.refl,r,h2⟩
 .have e:=ze1 (ws:=ws) rfl e
  exact⟨vs,q1,by rw[q2.length];exact vbb.mp e⟩
theorem it_fz{K:PySem.W.Frag}{a:Addr}{vs:List V}{ws:List W}:ItOk K (nxt .seq (.fz ws)) (Itl K a) (λm n H=>Fz K H a vs/\VReps K m n H vs ws):=by
 refine⟨λm n H m' n' H' hn hm kt kf ⟨q1,q2⟩=>⟨zlw kf q1,q2.mono hn hm kt kf⟩,λm h H r ⟨q1,q2⟩ i=>⟨λw e=>?_,λe=>?_⟩⟩
 .have e:=ze1 (ws:=ws) rfl e
  obtain⟨v,h1,h2⟩:=q2.get e
  refine⟨⟨vs,v,q1.sq,h1⟩,λy H3 ⟨e3,y3⟩=>?_⟩
  subst e3
  have:=y3 vs q1.sq
  rw[h1]at this;cases this
  exact⟨.refl,r,h2⟩
 .have e:=ze1 (ws:=ws) rfl e
  exact⟨vs,q1.sq,by rw[q2.length];exact vbb.mp e⟩
theorem zux{K:PySem.W.Frag}{a:Addr}{l:Nat}:ItOk K (nxt .seq (.ref l)) (Itl K a) (λm n H=>l<n/\a=m l):=by
 refine⟨λm n H m' n' H' hn hm kt kf ⟨q1,q2⟩=>⟨vah q1 hn,by rw[hm l q1];exact q2⟩,λm h H r ⟨q1,q2⟩ i=>?_⟩
 subst q2
 cases g:h.get l with
 |none=>exact⟨λw e=>by simp[nxt,seqW,g]at e,λe=>by simp[nxt,seqW,g]at e⟩
 |some o=>
  cases o with
  |dk _=>exact⟨λw e=>by simp[nxt,seqW,g]at e,λe=>by simp[nxt,seqW,g]at e⟩
  |lst ws=>
   have hs:seqW h (.ref l)=some ws:=by simp[seqW,g]
   obtain⟨vs,p1,p2⟩:=r.lst g
   refine⟨λw e=>?_,λe=>?_⟩
   .have e:=ze1 hs e
    obtain⟨v,h1,h2⟩:=p2.get e
    refine⟨⟨vs,v,SqL.of p1,h1⟩,λy H3 ⟨e3,y3⟩=>?_⟩
    subst e3
    have:=y3 vs (SqL.of p1)
    rw[h1]at this;cases this
    exact⟨.refl,r,h2⟩
   .have e:=ze1 hs e
    exact⟨vs,SqL.of p1,by rw[p2.length];exact vbb.mp e⟩
theorem zuy{K:PySem.W.Frag}{kd:Kd}{x:W}{lo:Int}{k:Nat}(hx:∀i h,nxt kd x i h=some (if i<k then some (.int (lo+i))else none)):ItOk K (nxt kd x) (Itr lo k) (λ_ _ _=>True):=by
 refine⟨λ_ _ _ _ _ _ _ _ _ _ _=>trivial,λm h H r _ i=>⟨λw e=>?_,λe=>?_⟩⟩
 .rw[hx]at e
  split at e
  .rename_i hi
   cases e
   refine⟨hi,λy H3 ⟨e3,y3⟩=>?_⟩
   subst e3 y3
   exact⟨.refl,r,.int _⟩
  .cases e
 .rw[hx]at e
  split at e
  .cases e
  .rename_i hi
   exact vb9.mp hi
theorem zpo{tg:Expr}(ha:SE X e fa):PI X tg e (lftI X.K .seq fa):=λpins s σ H R I z9=>z9.el λρ h m x h' f r ee o en k=>by
 have hs:∃ws,seqW h' x=some ws:=by
  cases z:seqW h' x with
  |none=>simp[nxt,z]at en
  |some ws=>exact⟨ws,rfl⟩
 obtain⟨ws,hs⟩:=hs
 cases x<;>try cases hs
 .exact zta ha pins s σ H R I (.mk f r ee λv H' m' s' r' q=>by
   cases q with
   |tup sq rs=>exact⟨_,rfl,⟨_,sq⟩,k _ _ H' m' s' r' zuw ⟨sq,rs⟩⟩)
 .exact zko ha pins s σ H R I (.mk f r ee λv H' m' s' r' q=>by
   cases q with
   |fz sq rs=>exact⟨_,rfl,⟨_,sq.sq⟩,k _ _ H' m' s' r' it_fz ⟨sq,rs⟩⟩)
 .rename_i l
  exact zko ha pins s σ H R I (.mk f r ee λv H' m' s' r' q=>by
   obtain⟨p,vs,e1,e2,e3⟩:=zc7 r' q hs
   cases q with
   |ref hi=>
    cases g:h'.get l with
    |none=>simp[seqW,g]at hs
    |some ob=>
     cases ob with
     |dk _=>simp[seqW,g]at hs
     |lst ws'=>
      obtain⟨vs',p1,_⟩:=r'.lst g
      exact⟨_,rfl,⟨_,SqL.of p1⟩,k _ _ H' m' s' r' zux ⟨hi,rfl⟩⟩)
theorem zrn{tg:Expr}(ha:SA X [e] fa)(hs:zaq e=true)(hg:Gl X "range")(hm:X.mg "range" = none):PI X tg (.Call (.Name "range" p) [e] [] pos) (lftI X.K .rng1 fa):=λpins s σ H R I z9=>z9.el λρ h m x h' f r ee o en k=>by
 simp only[nxt]at en
 split at en
 .rename_i j
  split at en
  .rename_i hf
   refine zkp hg hm ha (zad hs) pins s σ H R I (.mk f r ee λvs H' m' s' r' q=>?_)
   obtain⟨v,rfl,q1⟩:=reps1 q
   cases q1
   refine⟨_,rfl,(zh7 hf).1,(zh7 hf).2,k _ _ H' m' s' r' (zuy λi h=>?_) trivial⟩
   simp only[nxt,hf,vbk]
   split<;>split<;>first|rfl|(exfalso;simp at *;omega)
  .cases en
 .cases en
theorem zoi{elts:List Expr}{kx:Nat}{tp:Pos}{l:Expr}{ta:TA}(hg:Gl X "enumerate")(hm:X.mg "enumerate" = none)(hv:bootBuiltins "enumerate" = some (.type "enumerate"))(ha:PA X [l] ta)(hs:starEach [l] X.env=[(false,eval l X.env)]) :
 PI X (.Tuple elts kx tp) (.Call (.Name "enumerate" p) [l] [] pos) (λσ H R=>ta σ H λvs H1=>∃a,vs=[.ref a]/\(∃xs,SqT X.K H1 a xs)/\R (IteT X.K a) H1):=by
 intro pins s σ H R I h
 refine Call_ (zep I hg hm hv (vcl (thn (ha pos pins s σ H _ I h) λus s1 ⟨vs,H1,I1,r1,q1⟩=>?_) hs rfl))
 obtain⟨a,e,⟨xs,hq⟩,q⟩:=q1
 subst e
 obtain⟨u,rfl,ru⟩:=vals1 r1
 cases ru
 obtain⟨its,rv,pl,hz⟩:=I1.tuple hq
 have pl:s1.heap.IsTuple a its.toArray:=pl
 have hlt:a<s1.heap.objs.size:=by obtain⟨o,q,_⟩:=pl;exact vaj q
 refine zj2 pl λh' he hit hsz kk=>wpAny_pyIter_enum he ?_
 have hf:∀b,s1.heap.objs.size<=b->FpOk X pins H1 b:=λb hb=>I1.fpOk hb (I1.hok.fresh hb)
 refine⟨s1.heap.objs.size+1,[s1.heap.objs.size+1,s1.heap.objs.size],_,_,H1,rfl,I1.kept (t':=s1.toks) kk,zj3 a _ _ (vbp (vb4 _)) (vau (vd1 hlt)) (vau hlt),⟨⟨_,he⟩,hit⟩,λb hb=>hf b ?_,q⟩
 rcases va0.mp hb with rfl|hb
 .exact vdm _
 .have e':b=s1.heap.objs.size:=by simpa using hb
  rw[e'];exact vad _
theorem zpp{ws:List W}{h:VH}{i:Nat}{o:Option W}(q:nxt .enm (.tup ws) i h=some o):o=(ws[i]?).map λw=>.tup [.int i,w]:=by
 cases q;rfl
theorem zro{K:PySem.W.Frag}{a:Addr}{vs:List V}{ws:List W}:ItOk K (nxt .enm (.tup ws)) (IteT K a) (λm n H=>SqT K H a vs/\VReps K m n H vs ws):=by
 refine⟨λm n H m' n' H' hn hm kt kf ⟨q1,q2⟩=>⟨zfw kt kf q1,q2.mono hn hm kt kf⟩,λm h H r ⟨q1,q2⟩ i=>⟨λw e=>?_,λe=>?_⟩⟩
 .have e:=zpp (ws:=ws) e
  cases z:ws[i]? with
  |none=>rw[z]at e;cases e
  |some w0=>
   rw[z]at e;cases e
   obtain⟨v,h1,h2⟩:=q2.get z
   refine⟨⟨vs,v,q1,h1⟩,λy H3 ⟨T,v3,e1,e2,e3,y3⟩=>?_⟩
   subst e1 e3
   have:=y3 vs q1
   rw[h1]at this;cases this
   obtain⟨st,r'⟩:=r.more (u:=.tup [.int i,v]) e2
   exact⟨st,r',.tup (SqT.of zag) (.cons (.int _) (.cons (h2.stp st) .nil))⟩
 .have e:=zpp (ws:=ws) e
  cases z:ws[i]? with
  |some w0=>rw[z]at e;cases e
  |none=>exact⟨vs,q1,by rw[q2.length];exact vbb.mp z⟩
theorem zlx:bootBuiltins "enumerate" = some (.type "enumerate"):=by decide +kernel
theorem zuz(ha:SE X e fa)(hs:zaq e=true):PA X [e] (λσ H Q=>lft X.K fa σ H λv H1=>Q [v] H1):=λp pins s σ H Q I q=>by
 refine zav ha zbn (zad hs) p pins s σ H Q I ?_
 refine q.el λρ h m w h' f r ee k=>?_
 exact(.mk f r ee λv H' m' s' r' q'=>k v H' m' s' r' q')
theorem zu0{elts:List Expr}{kx:Nat}{tp:Pos}(ha:SE X e fa)(hs0:zaq e=true)(hg:Gl X "enumerate")(hm:X.mg "enumerate" = none):PI X (.Tuple elts kx tp) (.Call (.Name "enumerate" p) [e] [] pos) (lftI X.K .enm fa):=λpins s σ H R I z9=>z9.el λρ h m x h' f r ee o en k=>by
 cases x with
 |tup ws=>exact zoi hg hm zlx (zuz ha hs0) (zad hs0) pins s σ H R I ⟨ρ,h,m,_,h',f,r,ee,λv H' m' s' r' q=>by
  cases q with
  |tup sq rs=>exact⟨_,rfl,⟨_,sq⟩,k _ _ H' m' s' r' zro ⟨sq,rs⟩⟩⟩
 |_=>cases en
theorem zu1{elts:List Expr}{kx:Nat}{tp:Pos}{l l2:Expr}{ta:TA}(hg:Gl X "zip")(hm:X.mg "zip" = none)(ha:PA X [l,l2] ta)(hs:starEach [l,l2] X.env=[(false,eval l X.env),(false,eval l2 X.env)])(hs2:starEach [l2] X.env=[(false,eval l2 X.env)]) :
 PI X (.Tuple elts kx tp) (.Call (.Name "zip" p) [l,l2] [] pos) (λσ H R=>ta σ H λvs H1=>∃b c a1 a2,vs=[.ref a1,.ref a2]/\(∃xs,SqB b X.K H1 a1 xs)/\(∃ys,SqB c X.K H1 a2 ys)/\R (IteZ X.K b c a1 a2) H1):=by
 intro pins s σ H R I h
 refine Call_ (zep I hg hm PyProof.Rows.boot_zip (vcl (thn (ha pos pins s σ H _ I h) λus s1 ⟨vs,H1,I1,r1,q1⟩=>?_) (by rw[hs,hs2]) (by rw[hs2];rfl)))
 obtain⟨b,c,a1,a2,e,⟨xs,hq⟩,⟨ys,hr⟩,q⟩:=q1
 subst e
 cases r1 with
 |cons r rr=>
  cases rr with
  |cons r' rr=>
   cases rr
   cases r
   cases r'
   obtain⟨its,_,pl,_⟩:=zex I1 hq
   obtain⟨jts,_,pl2,_⟩:=zex I1 hr
   refine zrd pl pl2 λh' e1 e2 e3 e4 e5 hsz kk=>wpAny_pyIter_zip e1 ?_
   have hf:∀b,s1.heap.objs.size<=b->FpOk X pins H1 b:=λb hb=>I1.fpOk hb (I1.hok.fresh hb)
   refine⟨s1.heap.objs.size+4,_,_,_,H1,rfl,I1.kept (t':=s1.toks) kk,zn9 a1 a2 _ _ _ _ _ (zt0 pl.lt pl2.lt),⟨e1,e2,⟨_,_,e3⟩,e4,e5⟩,λb hb=>hf b ?_,q⟩
   simp only[va0,vcp,vem]at hb
   rcases hb with rfl|rfl|rfl|rfl|rfl
   .exact vd7 _ _
   .exact vd7 _ _
   .exact vd7 _ _
   .exact vad _
   .exact vd7 _ _
noncomputable def Src(K:PySem.W.Frag)(b:Bool)(a:Addr)(u:W)(P:(Nat->Addr)->Nat->Hp->Prop):Prop:=
 (∀m n H m' n' H',n<=n'->(∀i,i<n->m' i=m i)->(∀b vs,H b=some (.tup vs)->H' b=some (.tup vs))->(∀b o u,H b=some (.frz o u)->H' b=some (.frz o u))->P m n H->P m' n' H')/\
 ∀m h H ws,Rel K m h H->P m h.n H->seqW h u=some ws->∃vs,SqB b K H a vs/\VReps K m h.n H vs ws
theorem zpq{K:PySem.W.Frag}{m:Nat->Addr}{h:VH}{H:Hp}{v:V}{u:W}{ws:List W}(r:Rel K m h H)(q:VRep K m h.n H v u)(e:seqW h u=some ws):∃b a P,v=.ref a/\Src K b a u P/\P m h.n H/\∃xs,SqB b K H a xs:=by
 cases q with
 |non=>cases e
 |bl b=>cases e
 |int b=>cases e
 |str b=>cases e
 |tup sq rs=>exact⟨true,_,λm n H=>SqT K H _ _/\VReps K m n H _ _,rfl,⟨λm n H m' n' H' hn hm kt kf ⟨q1,q2⟩=>⟨zfw kt kf q1,q2.mono hn hm kt kf⟩,λm h H ws _ ⟨q1,q2⟩ z=>by cases z;exact⟨_,q1,q2⟩⟩,⟨sq,rs⟩,_,sq⟩
 |fz sq rs=>exact⟨false,_,λm n H=>Fz K H _ _/\VReps K m n H _ _,rfl,⟨λm n H m' n' H' hn hm kt kf ⟨q1,q2⟩=>⟨zlw kf q1,q2.mono hn hm kt kf⟩,λm h H ws _ ⟨q1,q2⟩ z=>by cases z;exact⟨_,q1.sq,q2⟩⟩,⟨sq,rs⟩,_,sq.sq⟩
 |ref hi=>
  rename_i l
  have key:∀m (h:VH) H ws,Rel K m h H->seqW h (.ref l)=some ws->∃vs,H (m l)=some (.lst vs)/\VReps K m h.n H vs ws:=λm h H ws r z=>by
   cases g:h.get l with
   |none=>simp[seqW,g]at z
   |some o=>
    cases o with
    |dk _=>simp[seqW,g]at z
    |lst ws'=>
     have:ws'=ws:=by simpa[seqW,g]using z
     subst this
     exact r.lst g
  obtain⟨vs,p1,_⟩:=key m h H ws r e
  refine⟨false,_,λm' n _=>l<n/\m l=m' l,rfl,⟨λm1 n H m' n' H' hn hm kt kf ⟨q1,q2⟩=>⟨vah q1 hn,by rw[hm l q1];exact q2⟩,λm1 h H ws r' ⟨q1,q2⟩ z=>?_⟩,⟨hi,rfl⟩,vs,SqL.of p1⟩
  obtain⟨vs,g1,g2⟩:=key m1 h H ws r' z
  rw[q2]
  exact⟨vs,SqL.of g1,g2⟩
theorem zly{u v:W}{h:VH}{i:Nat}{o:Option W}(q:nxt .zip (.tup [u,v]) i h=some o):∃ws zs,seqW h u=some ws/\seqW h v=some zs/\o=(match ws[i]?,zs[i]? with|some a,some b=>some (.tup [a,b])|_,_=>none):=by
 simp only[nxt]at q
 split at q
 .rename_i ws zs h1 h2
  cases q
  exact⟨ws,zs,h1,h2,rfl⟩
 .cases q
theorem zu2{K:PySem.W.Frag}{b c:Bool}{a1 a2:Addr}{u v:W}{P1 P2:(Nat->Addr)->Nat->Hp->Prop}(s1:Src K b a1 u P1)(s2:Src K c a2 v P2):ItOk K (nxt .zip (.tup [u,v])) (IteZ K b c a1 a2) (λm n H=>P1 m n H/\P2 m n H):=by
 refine⟨λm n H m' n' H' hn hm kt kf ⟨q1,q2⟩=>⟨s1.1 m n H m' n' H' hn hm kt kf q1,s2.1 m n H m' n' H' hn hm kt kf q2⟩,λm h H r ⟨q1,q2⟩ i=>⟨λw e=>?_,λe=>?_⟩⟩
 .obtain⟨ws,zs,e1,e2,e3⟩:=zly e
  obtain⟨xs,g1,g2⟩:=s1.2 m h H ws r q1 e1
  obtain⟨ys,g3,g4⟩:=s2.2 m h H zs r q2 e2
  cases z1:ws[i]? with
  |none=>rw[z1]at e3;cases e3
  |some w1=>
   cases z2:zs[i]? with
   |none=>rw[z1,z2]at e3;cases e3
   |some w2=>
    rw[z1,z2]at e3;cases e3
    obtain⟨v1,k1,k2⟩:=g2.get z1
    obtain⟨v2,k3,k4⟩:=g4.get z2
    refine⟨⟨xs,ys,v1,v2,g1,g3,k1,k3⟩,λy H3 ⟨T,x3,y3,f1,f2,f3,f4,f5⟩=>?_⟩
    subst f1 f3
    have t1:=f4 xs g1
    have t2:=f5 ys g3
    rw[k1]at t1;cases t1
    rw[k3]at t2;cases t2
    obtain⟨st,r'⟩:=r.more (u:=.tup [v1,v2]) f2
    exact⟨st,r',.tup (SqT.of zag) (.cons (k2.stp st) (.cons (k4.stp st) .nil))⟩
 .obtain⟨ws,zs,e1,e2,e3⟩:=zly e
  obtain⟨xs,g1,g2⟩:=s1.2 m h H ws r q1 e1
  obtain⟨ys,g3,g4⟩:=s2.2 m h H zs r q2 e2
  refine⟨xs,ys,g1,g3,?_⟩
  cases z1:ws[i]? with
  |none=>exact .inl (by rw[g2.length];exact vbb.mp z1)
  |some w1=>
   cases z2:zs[i]? with
   |none=>exact .inr (by rw[g4.length];exact vbb.mp z2)
   |some w2=>rw[z1,z2]at e3;cases e3
theorem zu3{elts:List Expr}{kx:Nat}{tp:Pos}(ha:SA X [a,b] fa)(hs:zaq a=true)(hs2:zaq b=true)(hg:Gl X "zip")(hm:X.mg "zip" = none):PI X (.Tuple elts kx tp) (.Call (.Name "zip" p) [a,b] [] pos) (lftI X.K .zip fa):=λpins s σ H R I z9=>z9.el λρ h m x h' f r ee o en k=>by
 have hx:∃u v,x=.tup [u,v]:=by
  simp only[nxt]at en
  split at en
  .exact⟨_,_,rfl⟩
  .cases en
 obtain⟨u,v,rfl⟩:=hx
 obtain⟨ws,zs,e1,e2,_⟩:=zly en
 refine zu1 hg hm ha (by rw[zad hs,zad hs2];rfl) (zad hs2) pins s σ H R I (.mk f r ee λvs H' m' s' r' q=>?_)
 obtain⟨v1,v2,rfl,q1,q2⟩:=reps2 q
 obtain⟨b1,a1,P1,rfl,o1,p1,x1⟩:=zpq r' q1 e1
 obtain⟨b2,a2,P2,rfl,o2,p2,x2⟩:=zpq r' q2 e2
 exact⟨b1,b2,a1,a2,rfl,x1,x2,k _ _ H' m' s' r' (zu2 o1 o2) ⟨p1,p2⟩⟩
end
section
variable{X:Cx}{a b c e o:Expr}{es:List Expr}{fa fb fc fo fr:FE}{pos p:Pos}{x:Str}
noncomputable def lftG(K:PySem.W.Frag)(t:Tg):TG:=λv σ H Q=>∃ρ h m w ρ',Fr K m h.n H σ ρ/\Rel K m h H/\VRep K m h.n H v w/\tgW t w h ρ=some ρ'/\∀σ',Fr K m h.n H σ' ρ'->Q σ' H
theorem lftG.el{K:PySem.W.Frag}{v:V}{σ:L2.St}{H:Hp}{P:Prop}{tg:Tg}{Q}(q:lftG K tg v σ H Q)(k:∀ρ h m w ρ',Fr K m h.n H σ ρ->Rel K m h H->VRep K m h.n H v w->tgW tg w h ρ=some ρ'->(∀σ',Fr K m h.n H σ' ρ'->Q σ' H)->P):P:=by
 obtain⟨ρ,h,m,w,h',f,r,e,eo,k'⟩:=q
 exact k ρ h m w h' f r e eo k'
theorem lftG.mk{K:PySem.W.Frag}{v:V}{σ:L2.St}{H:Hp}{m:Nat->Addr}{ρ ρ':En}{h:VH}{w:W}{tg:Tg}{Q}(f:Fr K m h.n H σ ρ)(r:Rel K m h H)(e:VRep K m h.n H v w)(eo:tgW tg w h ρ=some ρ')(k:∀σ',Fr K m h.n H σ' ρ'->Q σ' H):lftG K tg v σ H Q:=⟨ρ,h,m,w,ρ',f,r,e,eo,k⟩
theorem zu4{i:Nat}(hN:X.N.Nodup)(hi:X.N[i]?=some x)(hx:Loc X.env.scope x)(hf:X.fn x=true\/X.env.scope.names.lookup x=some .local):PG X (.Name x pos) (lftG X.K (.one i)):=λpins s σ H v u Q I ru z9=>z9.el λρ h m w ρ' f r q e k=>by
 cases e
 exact zkm hN hi hx hf pins s σ H v u Q I ru (k _ (f.set q i))
noncomputable def NmOk(X:Cx)(e:Expr)(i:Nat):Prop:=∃x p,e=.Name x p/\X.N[i]?=some x/\Loc X.env.scope x/\(X.fn x=true\/X.env.scope.names.lookup x=some .local)
noncomputable def lftGs(K:PySem.W.Frag)(is:List Nat):TGs:=λvs σ H Q=>∃ρ m n ws ρ',Fr K m n H σ ρ/\VReps K m n H vs ws/\za4 is ws ρ=some ρ'/\∀σ',Fr K m n H σ' ρ'->Q σ' H
theorem zpr(hN:X.N.Nodup):∀{es:List Expr} {is:List Nat},Paired (NmOk X) es is->PGs X es (lftGs X.K is)/\(assignEach es X.env).length=es.length/\(assignEach es X.env).findIdx? (·.1)=none
 |_,_,.nil=>by
  refine⟨λpins s σ H vs us Q I ru ⟨ρ,m,n,ws,ρ',f,q,e,k⟩=>?_,rfl,rfl⟩
  cases ws with
  |nil=>cases e;cases q;exact zql pins s σ H [] us Q I ru ⟨rfl,k _ f⟩
  |cons _ _=>cases e
 |e::es,i::is,.cons ⟨x,p,he,hi,hx,hf⟩ t=>by
  subst he
  obtain⟨h1,h2,h3⟩:=zpr hN t
  refine⟨λpins s σ H vs us Q I ru ⟨ρ,m,n,ws,ρ',f,q,e,k⟩=>?_,?_,?_⟩
  .cases q with
   |nil=>cases e
   |cons q qs=>
    exact znm (zkm hN hi hx hf) h1 rfl pins s σ H _ us Q I ru ⟨_,_,rfl,ρ.set i (some _),m,n,_,ρ',f.set q i,qs,e,k⟩
  .show(assignEach es X.env).length+1=es.length+1
   rw[h2]
  .show List.findIdx? _ ((false,_)::assignEach es X.env)=none
   rw[List.findIdx?_cons,h3];rfl
theorem ze2:∀{is:List Nat} {ws:List W} {ρ ρ':En},za4 is ws ρ=some ρ'->ws.length=is.length
 |[],[],_,_,_=>rfl
 |[],_::_,_,_,e=>by cases e
 |_::_,[],_,_,e=>by cases e
 |_::_,_::_,_,_,e=>by
  rw[vam,vam,ze2 (by simpa only[za4]using e)]
theorem zu5{t:TGs}{n k:Nat}(hc:X.calm=true)(h:PGs X es t)(hn:(assignEach es X.env).length=n)(hst:(assignEach es X.env).findIdx? (·.1)=none) :
 PG X (.Tuple es k pos) (λv σ H Q=>∃a xs,v=.ref a/\SqL X.K H a xs/\xs.length=n/\t xs σ H Q):=by
 intro pins s σ H v u Q I r hw
 obtain⟨a,xs,rfl,hq,hl,hw⟩:=hw
 cases r
 obtain⟨its,rv,ht,hz⟩:=I.list hq
 rw[assign_Tuple]
 refine vab (vbj ?_)
 unfold unpack
 have hsz:(assignEach es X.env).length=its.toArray.size:=by rw[hn,<-hl,rv.length,vag]
 rw[hst,hsz]
 refine vab (vbd (PySem.W.kun_itemsOf (I.ok.hd hc) ht.isList λh' hx=>?_))
 have I1:Inv X pins σ H {s with heap:=h'}:=I.kept (t':=s.toks) λb o e=>hx b o (vau (vaj e)) e
 exact h pins _ σ H xs _ Q I1 (by simpa using rv) hw
theorem zlz{is:List Nat}{k:Nat}(hc:X.calm=true)(hN:X.N.Nodup)(hs:Paired (NmOk X) es is):PG X (.Tuple es k pos) (lftG X.K (.many is)):=λpins s σ H v u Q I ru z9=>z9.el λρ h m w ρ' f r q e k=>by
 obtain⟨h1,h2,h3⟩:=zpr hN hs
 simp only[tgW]at e
 cases z:seqW h w with
 |none=>rw[z]at e;cases e
 |some ws=>
  rw[z]at e
  have e:za4 is ws ρ=some ρ':=e
  obtain⟨p,vs,rfl,hq,qs⟩:=zc7 r q z
  have hl:vs.length=es.length:=by rw[qs.length,ze2 e,hs.length]
  rcases hq with hq|hq
  .exact zu5 hc h1 h2 h3 pins s σ H _ u Q I ru ⟨p,vs,rfl,hq,hl,ρ,m,h.n,ws,ρ',f,qs,e,k⟩
  .exact zs4 hc h1 h2 h3 pins s σ H _ u Q I ru ⟨p,vs,rfl,hq,hl,ρ,m,h.n,ws,ρ',f,qs,e,k⟩
theorem zoj{K:PySem.W.Frag}{m:Nat->Addr}{n:Nat}{H:Hp}{σ:L2.St}{ρ:En}{ow fr:List Str}{ix:List Nat}(f:Fr K m n H σ ρ):Fr K m n H (cσ ow fr ix σ) (inner ow.length ix ρ):=by
 unfold cσ inner
 refine⟨by simp,λi w e=>?_⟩
 by_cases hi:i<ow.length
 .rw[vb0 (by simpa using hi)]at e
  rw[vc2]at e
  split at e<;>cases e
 .rw[vbi (by simpa using vb9.mp hi)]at e
  rw[vbi (by simpa using vb9.mp hi)]
  simp only[vb8,vaf]at e ⊢
  rw[vbm]at e ⊢
  cases z:ix[i-ow.length]? with
  |none=>rw[z]at e;cases e
  |some j=>
   rw[z]at e
   simp only[vb2,Option.some.injEq]at e ⊢
   have e3:ρ[j]?=some (some w):=by
    cases q:ρ[j]? with
    |none=>rw[q]at e;cases e
    |some o=>rw[q]at e;rw[<-e];rfl
   obtain⟨v,h1,h2⟩:=f.val j w e3
   exact⟨v,by rw[h1];rfl,h2⟩
theorem zia{nx:Nat->VH->Option (Option W)}{tg:W->VH->En->Option En}{c e:FE}:∀{f i:Nat} {ρ:En} {h:VH} {acc ys:List W} {h':VH},lcG nx tg c e f i ρ h acc=.ok ys h'->acc.length<=ys.length
 |0,_,_,_,_,_,_,q=>by cases q
 |f+1,i,ρ,h,acc,ys,h',q=>by
  simp only[lcG]at q
  split at q
  .cases q
  .cases q;simp
  .split at q
   .cases q
   .refine zaa q λb h1 e1 e2=>?_
    split at e2
    .refine zaa e2 λy h2 e3 e4=>?_
     have:=zia e4
     rw[vam]at this
     omega
    .exact zia e2
    .cases e2
theorem zu6{nx:Nat->VH->Option (Option W)}{tg:W->VH->En->Option En}{c e:FE}{f i:Nat}{ρ:En}{h:VH}{acc ys:List W}{h':VH}(q:lcG nx tg c e (f+1) i ρ h acc=.ok ys h'):∃o,nx i h=some o:=by
 simp only[lcG]at q
 split at q
 .cases q
 .exact⟨_,by assumption⟩
 .exact⟨_,by assumption⟩
theorem zok{H:Hp}{a:Addr}{o:HO}(h:H a=some o):upd H a o=H:=by
 funext b
 unfold upd
 split
 .rename_i e;rw[e,h]
 .rfl
noncomputable abbrev gLc(kd:Kd)(fa:FE)(t:Tg)(ow:Nat)(ix:List Nat)(fc fe:FE):FE:=λρ h=>(fa ρ h).bind λx h=>(lcG (nxt kd x) (tgW t) fc fe fuel 0 (inner ow ix ρ) h []).bind λys h=>if Nat.ble ys.length big then .ok (.ref h.n) (h.new (.lst ys))else .no
theorem lc_ok{K:PySem.W.Frag}{kd:Kd}{t:Tg}{ow fr:List Str}{ix:List Nat}{fe:FE}{σ:L2.St}{H:Hp}{Q:VK}(q:lft K (gLc kd fa t ow.length ix fc fe) σ H Q):tLC K (cσ ow fr ix) (lftI K kd fa) (lftG K t) (lftT K fc) (lft K fe) σ H Q:=by
 refine q.el λρ h m w h' f r e k=>?_
 refine zaa e λx h1 e1 e2=>?_
 refine zaa e2 λys h2 e3 e4=>?_
 split at e4
 case isFalse=>cases e4
 rename_i hz
 cases e4
 have hz:=vay hz
 refine(.mk f r e1 ?_ λJ P H1 m1 s1 r1 J1 p1 D hD hK=>?_)
 .exact zu6 (f:=999999) e3
 obtain⟨st0,r0⟩:=r1.more (u:=.lst []) hD
 have p0:=J1.1 m1 h1.n H1 m1 h1.n (upd H1 D (.lst [])) (vad _) (λ_ _=>rfl) (λb vs q=>st0.tup b vs q) (λb o u q=>st0.frz b o u q) p1
 refine⟨λi fl σ' H' vs=>∃ρ' h3 m3 acc,lcG (nxt kd x) (tgW t) fc fe fl i ρ' h3 acc=.ok ys h2/\Fr K m3 h3.n H' σ' ρ'/\Rel K m3 h3 H'/\H' D=some (.lst vs)/\VReps K m3 h3.n H' vs acc.reverse/\(∀i,i<h3.n->m3 i≠D)/\Stp m1 h1.n H1 m3 h3.n H'/\P m3 h3.n H',
  ⟨fuel,inner ow.length ix ρ,h1,m1,[],e3,zoj ((f.stp s1).stp st0),r0,zag,.nil,r1.out hD,st0,p0⟩,?_⟩
 rintro i fl σ' H' vs ⟨ρ',h3,m3,acc,e5,f3,r3,d3,q3,o3,s3,p3⟩
 refine⟨d3,?_⟩
 cases fl with
 |zero=>cases e5
 |succ fl=>
  simp only[lcG]at e5
  obtain⟨j1,j2⟩:=J1.2 m3 h3 H' r3 p3 i
  split at e5
  .cases e5
  .rename_i hn
   cases e5
   refine .inl ⟨j2 hn,?_⟩
   obtain⟨st,r'⟩:=r3.adopt (o:=.lst acc.reverse) (u:=.lst vs) o3 d3 (λ_ z=>nomatch z) (λ_ _ z=>nomatch z) (s1.trans s3) (by
    cases z:H D with
    |none=>rfl
    |some o=>
     have:=s1.keep D o (λi hi z2=>(r1.out hD) i (vah hi s1.le) ((s1.same i hi).trans z2)) z
     rw[hD]at this;cases this) λ_ mv=>⟨_,zag,q3.map mv⟩
   rw[zok d3]at st r'
   refine k _ _ _ st r' ?_
   have:VRep K (λi=>if i=h2.n then D else m3 i) (h2.n+1) H' (.ref ((λi=>if i=h2.n then D else m3 i) h2.n)) (.ref h2.n):=.ref (vb4 _)
   simp only[vbk]at this
   exact this
  .rename_i w hn
   obtain⟨j3,j4⟩:=j1 w hn
   refine .inr ⟨j3,λy H4 hy=>?_⟩
   obtain⟨s4,r4,q4⟩:=j4 y H4 hy
   split at e5
   .cases e5
   .rename_i ρ5 ht
    refine⟨ρ',h3,m3,w,ρ5,f3.stp s4,r4,q4,ht,λσ5 f5=>?_⟩
    refine zaa e5 λbv h6 e6 e7=>?_
    have d4:H4 D=some (.lst vs):=s4.keep D _ o3 d3
    have s14:=s3.trans s4
    have p4:=J1.1 m3 h3.n H' m3 h3.n H4 (vad _) (λ_ _=>rfl) (λb vs q=>s4.tup b vs q) (λb o u q=>s4.frz b o u q) p3
    cases bv<;>try cases e7
    rename_i bb
    refine⟨ρ5,h3,m3,bb,h6,f5,r4,e6,λH6 m6 s6 r6=>?_⟩
    have o6:=s6.out o3 d4
    have d6:H6 D=some (.lst vs):=s6.keep D _ o3 d4
    have p6:=J1.1 m3 h3.n H4 m6 h6.n H6 s6.le s6.same (λb vs q=>s6.tup b vs q) (λb o u q=>s6.frz b o u q) p4
    cases bb with
    |false=>
     simp only[vak,vbe]
     exact⟨fl,vb4 _,ρ5,h6,m6,acc,e7,f5.stp s6,r6,d6,(q3.stp s4).stp s6,o6,s14.trans s6,p6⟩
    |true=>
     simp only[vbk]
     refine zaa e7 λy7 h7 e8 e9=>?_
     refine⟨ρ5,h6,m6,y7,h7,f5.stp s6,r6,e8,λv7 H7 m7 s7 r7 q7=>?_⟩
     have o7:=s7.out o6 d6
     have d7:H7 D=some (.lst vs):=s7.keep D _ o6 d6
     have p7:=J1.1 m6 h6.n H6 m7 h7.n H7 s7.le s7.same (λb vs q=>s7.tup b vs q) (λb o u q=>s7.frz b o u q) p6
     have q37:=((q3.stp s4).stp s6).stp s7
     have hlen:=zia e9
     rw[vam]at hlen
     refine⟨d7,?_,fl,vb4 _,ρ5,h7,m7,y7::acc,e9,?_⟩
     .rw[q37.length,vbl]
      have:big=sizeLine:=rfl
      omega
     .obtain⟨st8,r8,mv⟩:=r7.side (u:=.lst (vs++[v7])) d7 (λ_ z=>nomatch z) (λ_ _ z=>nomatch z) o7 ((s14.trans s6).trans s7) hD
      have kt:∀b us,H7 b=some (.tup us)->upd H7 D (.lst (vs++[v7])) b=some (.tup us):=λb us q=>by rw[zae (ne_of q d7 λz=>nomatch z)];exact q
      have kf:∀b o u,H7 b=some (.frz o u)->upd H7 D (.lst (vs++[v7])) b=some (.frz o u):=λb o u q=>by rw[zae (ne_of q d7 λz=>nomatch z)];exact q
      refine⟨⟨(f5.stp s6).len,λi w e=>let⟨v,h1,h2⟩:=((f5.stp s6).stp s7).val i w e;⟨v,h1,mv h2⟩⟩,r8,zag,?_,o7,st8,J1.1 m7 h7.n H7 m7 h7.n _ (vad _) (λ_ _=>rfl) kt kf p7⟩
      rw[vdb]
      exact(q37.map mv).append (.cons (mv q7) .nil)
end
noncomputable def Grow(h h':VH):Prop:=h.n<=h'.n/\h'.lo<=h.lo/\∀i,i<h.n->i<h'.lo->h'.get i=h.get i
theorem Grow.refl{h:VH}:Grow h h:=⟨vad _,vad _,λ_ _ _=>rfl⟩
theorem Grow.trans{h h1 h2:VH}(a:Grow h h1)(b:Grow h1 h2):Grow h h2:=⟨vas a.1 b.1,vas b.2.1 a.2.1,λi hi hl=>(b.2.2 i (vah hi a.1) hl).trans (a.2.2 i hi (vah hl b.2.1))⟩
theorem Grow.new{h:VH}{o:VO}:Grow h (h.new o):=⟨vdm _,vad _,λi hi _=>zap hi⟩
theorem Grow.set{h:VH}{i:Nat}{o:VO}(hi:i<h.n):Grow h (h.set i o):=by
 refine⟨vad _,?_,λj hj hl=>zc5 hi ?_⟩
 .show(if Nat.blt i h.lo then i else h.lo)<=h.lo
  split
  .rename_i q;exact vdo (zax.mp q)
  .exact vad _
 .have hl:j< (if Nat.blt i h.lo then i else h.lo):=hl
  split at hl
  .omega
  .rename_i q
   intro z
   rw[z]at hl
   exact q (zax.mpr hl)
noncomputable def Gr{α:Type}(r:Res α)(h:VH):Prop:=∀a h',r=.ok a h'->Grow h h'
section
variable{α β:Type}{h:VH}
theorem Gr.ok{a:α}:Gr (Res.ok a h) h:=λ_ _ e=>by cases e;exact .refl
theorem Gr.no:Gr (Res.no:Res α) h:=λ_ _ e=>by cases e
theorem Gr.of{o:Option α}:Gr (Res.of o h) h:=λ_ _ e=>by cases o with|none=>cases e|some a=>cases e;exact .refl
theorem Gr.new{a:α}{o:VO}:Gr (Res.ok a (h.new o)) h:=λ_ _ e=>by cases e;exact .new
theorem Gr.set{a:α}{o o':VO}{i:Nat}(g:h.get i=some o'):Gr (Res.ok a (h.set i o)) h:=λ_ _ e=>by cases e;exact .set (zar g)
theorem Gr.bind{r:Res α}{f:α->VH->Res β}(a:Gr r h)(b:∀x h1,Gr (f x h1) h1):Gr (r.bind f) h:=λy h' e=>by
 cases r with
 |ok x h1=>exact(a x h1 rfl).trans (b x h1 y h' e)
 |ex _ _=>cases e
 |no=>cases e
end
theorem gr_op{o:Op}{x y:W}{h:VH}:Gr (opW o x y h) h:=by
 unfold opW
 split
 .exact .of
 .exact .of
 .exact .of
 .split
  .split
   .exact .new
   .exact .no
  .exact .no
 .split
  .split
   .exact .new
   .exact .no
  .exact .no
 .exact .no
theorem gr_ip{o:Op}{x y:W}{h:VH}:Gr (ipW o x y h) h:=by
 unfold ipW
 split
 .split
  .exact .ok
  .exact .ok
  .exact .of
  .exact .of
  .exact .no
 .split
  .split
   .rename_i g _ _;exact .set g
   .exact .no
  .exact .no
 .exact .no
theorem zu7{x:W}{l u:Option Int}{h:VH}:Gr (slcW x l u h) h:=by
 unfold slcW
 split
 .exact .ok
 .split
  .exact .new
  .exact .no
 .exact .no
theorem gr_bi{b:Bi}{xs:List W}{h:VH}:Gr (biW b xs h) h:=by
 cases b<;>simp only[biW]
 .unfold lenW;split<;>first|exact .of|exact .no
 .unfold listW
  split
  .split
   .exact .new
   .exact .no
  .exact .no
 .unfold zd9;split<;>first|exact .of|exact .no
 .unfold intW;split<;>first|exact .ok|exact .no
 .unfold absW;split<;>first|exact .ok|exact .no
 .unfold maxW;split<;>first|exact .ok|exact .no
 .unfold minW;split<;>first|exact .ok|exact .no
 .unfold allW
  split
  .split
   .exact .of
   .exact .no
  .exact .no
 .unfold lrngW
  split
  .split
   .exact .new
   .exact .no
  .exact .no
 .unfold revW;split<;>first|exact .ok|exact .no
 .unfold cgetW
  split
  .split
   .exact .ok
   .exact .no
  .exact .no
theorem gr_mt{m:Mt}{o:W}{xs:List W}{h:VH}:Gr (mtW m o xs h) h:=by
 unfold mtW
 split
 .split
  .split
   .rename_i g _;exact .set g
   .exact .no
  .exact .no
 .exact .no
theorem gr_lc{nx:Nat->VH->Option (Option W)}{tg:W->VH->En->Option En}{c e:En->VH->Res W}(hc:∀ρ h,Gr (c ρ h) h)(he:∀ρ h,Gr (e ρ h) h):∀(f i:Nat) (ρ:En) (h:VH) (acc:List W),Gr (lcG nx tg c e f i ρ h acc) h
 |0,_,_,_,_=>.no
 |f+1,i,ρ,h,acc=>by
  simp only[lcG]
  split
  .exact .no
  .exact .ok
  .split
   .exact .no
   .refine .bind (hc _ _) λb h1=>?_
    split
    .exact .bind (he _ _) λy h2=>gr_lc hc he f _ _ _ _
    .exact gr_lc hc he f _ _ _ _
    .exact .no
theorem zl0{nx:Nat->VH->Option (Option W)}{tg:W->VH->En->Option En}{b:En->VH->Res Fl}(hb:∀ρ h,Gr (b ρ h) h):∀(f i:Nat) (ρ:En) (h:VH),Gr (forG nx tg b f i ρ h) h
 |0,_,_,_=>.no
 |f+1,i,ρ,h=>by
  simp only[forG]
  split
  .exact .no
  .exact .ok
  .split
   .exact .no
   .refine .bind (hb _ _) λfl h1=>?_
    split
    .exact zl0 hb f _ _ _
    .exact zl0 hb f _ _ _
    .exact .ok
    .exact .ok
theorem zl1{c:En->VH->Res W}{b:En->VH->Res Fl}(hc:∀ρ h,Gr (c ρ h) h)(hb:∀ρ h,Gr (b ρ h) h):∀(f:Nat) (ρ:En) (h:VH),Gr (whlG c b f ρ h) h
 |0,_,_=>.no
 |f+1,ρ,h=>by
  simp only[whlG]
  refine .bind (hc _ _) λt h1=>?_
  split
  .exact .ok
  .refine .bind (hb _ _) λfl h2=>?_
   split
   .exact zl1 hc hb f _ _
   .exact zl1 hc hb f _ _
   .exact .ok
   .exact .ok
  .exact .no
section
variable{cl:Call}
theorem gr_ev(hcl:∀f ws h,Gr (cl f ws h) h):∀(e:E) (ρ:En) (h:VH),Gr (ev cl e ρ h) h:=by
 intro e
 induction e with
 |var i=>intro ρ h;exact .of
 |cst w=>intro ρ h;exact .ok
 |nil=>intro ρ h;exact .ok
 |cons a r i1 i2=>intro ρ h;simp only[ev];refine .bind (i1 _ _) λx h1=>.bind (i2 _ _) λy h2=>?_;split<;>first|exact .ok|exact .no
 |tup a i1=>intro ρ h;simp only[ev];refine .bind (i1 _ _) λx h1=>?_;split<;>first|(split<;>first|exact .ok|exact .no)|exact .no
 |lst a i1=>intro ρ h;simp only[ev];refine .bind (i1 _ _) λx h1=>?_;split<;>first|(split<;>first|exact .new|exact .no)|exact .no
 |dsp a i1=>
  intro ρ h;simp only[ev];refine .bind (i1 _ _) λx h1=>?_
  split
  .split
   .split
    .exact .new
    .exact .no
   .exact .no
  .exact .no
 |op o a b i1 i2=>intro ρ h;simp only[ev];exact .bind (i1 _ _) λx h1=>.bind (i2 _ _) λy h2=>gr_op
 |neg a i1=>intro ρ h;simp only[ev];refine .bind (i1 _ _) λx h1=>?_;split<;>first|exact .ok|exact .no
 |cmp c a b i1 i2=>intro ρ h;simp only[ev];exact .bind (i1 _ _) λx h1=>.bind (i2 _ _) λy h2=>.of
 |chn c d a b e i1 i2 i3=>
  intro ρ h;simp only[ev];refine .bind (i1 _ _) λx h1=>.bind (i2 _ _) λy h2=>?_
  split
  .exact .bind (i3 _ _) λz h3=>.of
  .exact .ok
  .exact .no
 |not a i1=>intro ρ h;simp only[ev];refine .bind (i1 _ _) λx h1=>?_;split<;>first|exact .ok|exact .no
 |and a b i1 i2=>intro ρ h;simp only[ev];refine .bind (i1 _ _) λx h1=>?_;split<;>first|exact i2 _ _|exact .ok|exact .no
 |or a b i1 i2=>intro ρ h;simp only[ev];refine .bind (i1 _ _) λx h1=>?_;split<;>first|exact i2 _ _|exact .ok|exact .no
 |tru a i1=>intro ρ h;simp only[ev];exact .bind (i1 _ _) λx h1=>.of
 |ite c a b i1 i2 i3=>
  intro ρ h;simp only[ev];refine .bind (i1 _ _) λx h1=>?_
  split
  .exact i2 _ _
  .exact i3 _ _
  .exact .no
 |idx a b i1 i2=>intro ρ h;simp only[ev];exact .bind (i1 _ _) λx h1=>.bind (i2 _ _) λy h2=>.of
 |slc a bl lo bh hi i1 i2 i3=>
  intro ρ h;simp only[ev];refine .bind (i1 _ _) λx h1=>.bind (i2 _ _) λy h2=>.bind (i3 _ _) λz h3=>?_
  split
  .exact zu7
  .exact .no
 |call f a i1=>intro ρ h;simp only[ev];refine .bind (i1 _ _) λx h1=>?_;split<;>first|exact hcl _ _ _|exact .no
 |bi b a i1=>intro ρ h;simp only[ev];refine .bind (i1 _ _) λx h1=>?_;split<;>first|exact gr_bi|exact .no
 |isi t a i1=>intro ρ h;simp only[ev];exact .bind (i1 _ _) λx h1=>.of
 |mt m o a i1 i2=>
  intro ρ h;simp only[ev];refine .bind (i1 _ _) λx h1=>?_
  split
  .refine .bind (i2 _ _) λy h2=>?_
   split<;>first|exact gr_mt|exact .no
  .exact .no
 |lc k a t ow ix c e i1 i2 i3=>
  intro ρ h;simp only[ev]
  refine .bind (i1 _ _) λx h1=>.bind (gr_lc i2 i3 _ _ _ _ _) λys h2=>?_
  split
  .exact .new
  .exact .no
theorem zg3(hcl:∀f ws h,Gr (cl f ws h) h):∀(s:S) (ρ:En) (h:VH),Gr (exs cl s ρ h) h:=by
 have ge:=gr_ev hcl
 intro s
 induction s with
 |skip=>intro ρ h;exact .ok
 |seq a b i1 i2=>intro ρ h;simp only[exs];refine .bind (i1 _ _) λfl h1=>?_;split<;>first|exact i2 _ _|exact .ok
 |set i e=>intro ρ h;simp only[exs];exact .bind (ge _ _ _) λw h1=>.ok
 |unp is e=>intro ρ h;simp only[exs];exact .bind (ge _ _ _) λw h1=>.of
 |aug i o e=>
  intro ρ h;simp only[exs]
  split
  .exact .bind (ge _ _ _) λy h1=>.bind gr_ip λz h2=>.ok
  .exact .no
 |put o i v=>
  intro ρ h;simp only[exs]
  refine .bind (ge _ _ _) λw h1=>.bind (ge _ _ _) λx h2=>.bind (ge _ _ _) λy h3=>?_
  split
  .split
   .split
    .rename_i g _ _ _;exact .set g
    .exact .no
   .exact .no
  .exact .no
 |ite c a b i1 i2=>
  intro ρ h;simp only[exs];refine .bind (ge _ _ _) λx h1=>?_
  split
  .exact i1 _ _
  .exact i2 _ _
  .exact .no
 |ret e=>intro ρ h;simp only[exs];exact .bind (ge _ _ _) λw h1=>.ok
 |expr e=>intro ρ h;simp only[exs];exact .bind (ge _ _ _) λw h1=>.ok
 |brk=>intro ρ h;exact .ok
 |cnt=>intro ρ h;exact .ok
 | «for» k a t b i1=>intro ρ h;simp only[exs];exact .bind (ge _ _ _) λx h1=>zl0 i1 _ _ _ _
 |whl c b i1=>intro ρ h;simp only[exs];exact zl1 (ge c) i1 _ _ _
 |tryc f a tb=>
  intro ρ h;simp only[exs];refine .bind (ge _ _ _) λy h1=>?_
  split
  .refine .bind (hcl _ _ _) λw h2=>?_
   unfold tryW
   split
   .exact .ok
   .split
    .exact .ok
    .exact .no
   .exact .no
  .exact .no
 |try2 f a tb ta=>
  intro ρ h;simp only[exs];refine .bind (ge _ _ _) λy h1=>?_
  split
  .refine .bind (hcl _ _ _) λw h2=>?_
   unfold tryW2
   split
   .exact .ok
   .split
    .exact .ok
    .exact .no
   .split
    .exact .ok
    .exact .no
   .exact .no
  .exact .no
 |rsj D a=>
  intro ρ h;simp only[exs];refine .bind (ge _ _ _) λy h1=>?_
  split
  .exact .ok
  .exact .no
 |tel f a b s t i1 i2=>
  intro ρ h;simp only[exs];refine .bind (ge _ _ _) λy h1=>?_
  split
  .refine .bind (hcl _ _ _) λw h2=>?_
   unfold telW
   split
   .split
    .split
     .exact i2 _ _
     .exact i1 _ _
     .exact .no
    .exact i1 _ _
   .exact .ok
   .exact .ok
   .exact .no
  .exact .no
 |no=>intro ρ h;exact .no
end
theorem zg4(F:Nat->Option Fn):∀(k f:Nat) (ws:List W) (h:VH),Gr (run F k f ws h) h
 |0,_,_,_=>.no
 |k+1,f,ws,h=>by
  intro a h' e
  simp only[run]at e
  split at e
  .rename_i fn hf
   split at e
   .rename_i hl
    generalize hr:exs (run F k) fn.body (ws.map some++List.replicate (fn.n-fn.ps) none) ⟨h.n,h.n,h.os⟩=r at e
    have g:=zg3 (zg4 F k) fn.body (ws.map some++List.replicate (fn.n-fn.ps) none) ⟨h.n,h.n,h.os⟩
    rw[hr]at g
    have lv:∀w h1,Grow ⟨h.n,h.n,h.os⟩ h1->leave h w h1=.ok a h'->Grow h h':=by
     intro w h1 g1 e1
     unfold leave at e1
     split at e1
     .cases e1;exact .refl
     .cases e1
      refine⟨g1.1,?_,λi hi hlo=>?_⟩
      .show(if Nat.ble h.lo h1.lo then h.lo else h1.lo)<=h.lo
       split
       .exact vad _
       .rename_i q
        exact Nat.le_of_not_le λz=>q (vdc.mpr z)
      .have hlo:i< (if Nat.ble h.lo h1.lo then h.lo else h1.lo):=hlo
       have hh:i<h1.lo:=by
        split at hlo
        .rename_i q;exact vah hlo (vay q)
        .exact hlo
       exact g1.2.2 i hi hh
    cases r with
    |no=>cases e
    |ex _ _=>cases e
    |ok fl h1=>
     have g1:=g fl h1 rfl
     simp only[Res.bind]at e
     split at e
     .exact lv _ _ g1 e
     .exact lv _ _ g1 e
     .cases e
   .cases e
  .cases e
noncomputable abbrev RtK:=(Nat->Addr)->Nat->Hp->VK->W->Prop
noncomputable abbrev Rr(K:PySem.W.Frag):RtK:=λm n H Q w=>∀v,VRep K m n H v w->Q v H
noncomputable def FlOk(K:PySem.W.Frag)(R:RtK)(m:Nat->Addr)(n:Nat)(H:Hp)(D:Ends):Fl->Prop
 |.nx ρ=>∀σ,Fr K m n H σ ρ->D.nx σ H
 |.bk ρ=>∀σ,Fr K m n H σ ρ->D.bk σ H
 |.ct ρ=>∀σ,Fr K m n H σ ρ->D.ct σ H
 |.rt w=>R m n H D.rt w
noncomputable def lftS(K:PySem.W.Frag)(R:RtK)(f:FS):TS:=λD σ H=>∃ρ h m fl h',Fr K m h.n H σ ρ/\Rel K m h H/\f ρ h=.ok fl h'/\∀H' m',Stp m h.n H m' h'.n H'->Rel K m' h' H'->FlOk K R m' h'.n H' D fl
theorem lftS.el{K:PySem.W.Frag}{R:RtK}{D:Ends}{σ:L2.St}{H:Hp}{P:Prop}{fa:FS}(q:lftS K R fa D σ H)(k:∀ρ h m fl h',Fr K m h.n H σ ρ->Rel K m h H->fa ρ h=.ok fl h'->(∀H' m',Stp m h.n H m' h'.n H'->Rel K m' h' H'->FlOk K R m' h'.n H' D fl)->P):P:=by
 obtain⟨ρ,h,m,w,h',f,r,e,k'⟩:=q
 exact k ρ h m w h' f r e k'
theorem lftS.mk{K:PySem.W.Frag}{R:RtK}{D:Ends}{σ:L2.St}{H:Hp}{m:Nat->Addr}{ρ:En}{h h':VH}{fl:Fl}{fa:FS}(f:Fr K m h.n H σ ρ)(r:Rel K m h H)(e:fa ρ h=.ok fl h')(k:∀H' m',Stp m h.n H m' h'.n H'->Rel K m' h' H'->FlOk K R m' h'.n H' D fl):lftS K R fa D σ H:=⟨ρ,h,m,fl,h',f,r,e,k⟩
noncomputable abbrev SR(X:Cx)(R:RtK)(st:Stmt)(f:FS):Prop:=PS X st (lftS X.K R f)
noncomputable abbrev SRs(X:Cx)(R:RtK)(st:List Stmt)(f:FS):Prop:=PSs X st (lftS X.K R f)
noncomputable abbrev SS(X:Cx)(st:Stmt)(f:FS):Prop:=SR X (Rr X.K) st f
noncomputable abbrev SSs(X:Cx)(st:List Stmt)(f:FS):Prop:=SRs X (Rr X.K) st f
section
variable{X:Cx}{a b c e o:Expr}{es:List Expr}{fa fb fc fo fr:FE}{pos p:Pos}{x:Str}{st:Stmt}{sts:List Stmt}{ga gb:FS}{R:RtK}
noncomputable abbrev gSkip:FS:=λρ h=>.ok (.nx ρ) h
noncomputable abbrev gSeq(ga gb:FS):FS:=λρ h=>(ga ρ h).bind λfl h=>match fl with|.nx ρ=>gb ρ h|fl=>.ok fl h
theorem zl2:SRs X R [] gSkip:=zhu.imp λD σ H z9=>z9.el λρ h m fl h' f r e k=>by cases e;exact k H m .refl r σ f
theorem zrp:SS X (.Pass pos) gSkip:=zqj.imp λD σ H z9=>z9.el λρ h m fl h' f r e k=>by cases e;exact k H m .refl r σ f
theorem zu8:SS X (.Break pos) (λρ h=>.ok (.bk ρ) h):=znk.imp λD σ H z9=>z9.el λρ h m fl h' f r e k=>by cases e;exact k H m .refl r σ f
theorem zu9:SS X (.Continue pos) (λρ h=>.ok (.ct ρ) h):=zhv.imp λD σ H z9=>z9.el λρ h m fl h' f r e k=>by cases e;exact k H m .refl r σ f
theorem ziz(h1:SR X R st ga)(h2:SRs X R sts gb):SRs X R (st::sts) (gSeq ga gb):=(zch h1 h2).imp λD σ H z9=>z9.el λρ h m fl h' f r e k=>by
 refine zaa e λfl1 h1 e1 e2=>?_
 refine(.mk f r e1 λH1 m1 s1 r1=>?_)
 cases fl1 with
 |nx ρ1=>exact λσ1 f1=>⟨ρ1,h1,m1,fl,h',f1,r1,e2,λH' m' s' r'=>k H' m' (s1.trans s') r'⟩
 |bk ρ1=>cases e2;exact k H1 m1 s1 r1
 |ct ρ1=>cases e2;exact k H1 m1 s1 r1
 |rt w=>cases e2;exact k H1 m1 s1 r1
theorem ss_no:SS X st (λ_ _=>.no):=znl.imp λD σ H z9=>z9.el λρ h m fl h' f r e k=>by cases e
noncomputable def ze3:Expr->Bool
 |.ListComp .. |.SetComp .. |.DictComp ..=>false
 |_=>true
theorem zfx{e:Expr}{t:Option Expr}{l:Nat}{env:Env}(h:ze3 e=true):swapsWith e t l env=pure false:=by
 cases e<;>first|rfl|cases h
theorem zl3(he:SE X e fa)(hs:ze3 e=true):SS X (.Expr e pos) (λρ h=>(fa ρ h).bind λ_ h=>.ok (.nx ρ) h):=(zkl he (zfx hs)).imp λD σ H z9=>z9.el λρ h m fl h' f r e k=>by
 refine zaa e λw h1 e1 e2=>?_
 cases e2
 exact(.mk f r e1 λv H1 m1 s1 r1 q1=>k H1 m1 s1 r1 σ (f.stp s1))
theorem zva(he:SE X e fa):SS X (.Return (some e) pos) (λρ h=>(fa ρ h).bind λw h=>.ok (.rt w) h):=(zgi he).imp λD σ H z9=>z9.el λρ h m fl h' f r e k=>by
 refine zaa e λw h1 e1 e2=>?_
 cases e2
 exact(.mk f r e1 λv H1 m1 s1 r1 q1=>k H1 m1 s1 r1 v q1)
theorem zrq:SS X (.Return none pos) (λρ h=>(Res.ok W.non h).bind λw h=>.ok (.rt w) h):=zqk.imp λD σ H z9=>z9.el λρ h m fl h' f r e k=>by
 cases e
 exact k H m .refl r .non .non
noncomputable abbrev gSet(i:Nat)(fa:FE):FS:=λρ h=>(fa ρ h).bind λw h=>.ok (.nx (ρ.set i (some w))) h
theorem zps{K:PySem.W.Frag}{i:Nat}{D:Ends}{σ:L2.St}{H:Hp}(q:lftS K R (gSet i fa) D σ H):lft K fa σ H λv H1=>gName i v σ H1 D.nx:=by
 refine q.el λρ h m fl h' f r e k=>?_
 refine zaa e λw h1 e1 e2=>?_
 cases e2
 exact(.mk f r e1 λv H1 m1 s1 r1 q1=>k H1 m1 s1 r1 _ ((f.stp s1).set q1 i))
theorem zpt{i:Nat}{pos':Pos}(hN:X.N.Nodup)(hi:X.N[i]?=some x)(hx:Loc X.env.scope x)(hf:X.fn x=true\/X.env.scope.names.lookup x=some .local)(he:SE X e fa)
 (hs:swapsWith e (some (.Name x pos')) pos.line X.env=pure false):SS X (.Assign [.Name x pos'] e pos) (gSet i fa):=(zpc hN hi hx he hs hf).imp λD σ H q=>zps q
theorem zol{i:Nat}{pos' lp:Pos}{ow fr:List Str}{ix:List Nat}{scope:Scope}{tg iter elt:Expr}{ifs:List Expr}{kd:Kd}{t:Tg}{fe:FE}(hN:X.N.Nodup)(hi:X.N[i]?=some x)(hx:Loc X.env.scope x)(hf:X.fn x=true\/X.env.scope.names.lookup x=some .local)
 (S:CompScope X ow fr ix scope) (hc:X.calm=true) (hI:PI X tg iter (lftI X.K kd fa)) (hg:∀C s₀ H₀ ex,PG (X.comp (ow++fr) scope C s₀ H₀ ex) tg (lftG X.K t)) (ht:∀C s₀ H₀ ex,PTs (X.comp (ow++fr) scope C s₀ H₀ ex) ifs (lftT X.K fc))
 (he:∀C s₀ H₀ ex,PE (X.comp (ow++fr) scope C s₀ H₀ ex) elt (lft X.K fe)) (hsw:swapsWith (.ListComp elt [⟨tg,iter,ifs,0⟩] scope lp) (some (.Name x pos')) pos.line X.env=pure true) (hs:∀x,foldedSetIterable iter X.env x=pure x) :
 SS X (.Assign [.Name x pos'] (.ListComp elt [⟨tg,iter,ifs,0⟩] scope lp) pos) (gSet i (gLc kd fa t ow.length ix fc fe)):=
 (zn0 hN hi hx S hc hI hg ht he hsw hf hs).imp λD σ H q=>lc_ok (zps q)
theorem se_lc{lp:Pos}{ow fr:List Str}{ix:List Nat}{scope:Scope}{tg iter elt:Expr}{ifs:List Expr}{kd:Kd}{t:Tg}{fe:FE}
 (S:CompScope X ow fr ix scope) (hc:X.calm=true) (hI:PI X tg iter (lftI X.K kd fa)) (hg:∀C s₀ H₀ ex,PG (X.comp (ow++fr) scope C s₀ H₀ ex) tg (lftG X.K t)) (ht:∀C s₀ H₀ ex,PTs (X.comp (ow++fr) scope C s₀ H₀ ex) ifs (lftT X.K fc))
 (he:∀C s₀ H₀ ex,PE (X.comp (ow++fr) scope C s₀ H₀ ex) elt (lft X.K fe)) (hs:∀x,foldedSetIterable iter X.env x=pure x) :
 SE X (.ListComp elt [⟨tg,iter,ifs,0⟩] scope lp) (gLc kd fa t ow.length ix fc fe):=(pe_lc S hc hI hg ht he hs).imp λσ H Q q=>lc_ok q
noncomputable def noTup:Expr->Bool
 |.Tuple ..=>false
 |_=>true
theorem zl4{es:List Expr}{k:Nat}{e:Expr}{l:Nat}{p:Pos}{env:Env}:swapsWithSole [.Tuple es k p] e l env=pure false:=by
 cases e<;>rfl
theorem zj6{es:List Expr}{k:Nat}{p:Pos}{e:Expr}{env:Env}(h:noTup e=true):swappedStores [.Tuple es k p] e env=pure none:=by
 cases e<;>first|rfl|cases h
theorem zvb{is:List Nat}{k:Nat}(hc:X.calm=true)(hN:X.N.Nodup)(hs:Paired (NmOk X) es is)(he:SE X e fa)(ht:noTup e=true) :
 SS X (.Assign [.Tuple es k p] e pos) (λρ h=>(fa ρ h).bind λw h=>.of ((tgW (.many is) w h ρ).map .nx) h):=(zpb he (zlz hc hN hs) zl4 (zj6 ht) rfl).imp λD σ H z9=>z9.el λρ h m fl h' f r e k=>by
 refine zaa e λw h1 e1 e2=>?_
 obtain⟨e2,e3⟩:=of_ok e2
 subst e3
 cases z:tgW (.many is) w h' ρ with
 |none=>rw[z]at e2;cases e2
 |some ρ'=>
  rw[z]at e2;cases e2
  exact(.mk f r e1 λv H1 m1 s1 r1 q1=>(.mk (f.stp s1) r1 q1 z λσ' f'=>k H1 m1 s1 r1 σ' f'))
noncomputable def zc8:Expr->Bool
 |.Slice ..=>false
 |_=>true
theorem zj7{o i:Expr}{p:Pos}{env:Env}(h:zc8 i=true)(v:Value):assign (.Subscript o i p) env v=(do
 let ov <-holding [v] (eval o env)
 let iv <-holding [v,ov] (eval i env)
 standAt p
 holding [v,ov,iv] (setItem ov iv v)
 release [v,ov,iv] []):=by
 cases i<;>first|rfl|cases h
noncomputable abbrev gPut(fo fi fv:FE):FS:=λρ h=>(fv ρ h).bind λw h=>(fo ρ h).bind λx h=>(fi ρ h).bind λy h=>match x,y with
 |.ref a,.int j=>(match h.get a with
  |some (.lst ws)=>(match L2.ixN ws.length j with
   |some k=>.ok (.nx ρ) (h.set a (.lst (ws.set k w)))
   |none=>.no)
  |_=>.no)
 |_,_=>.no
theorem zl5{o i e:Expr}{l:Nat}{p:Pos}{env:Env}:swapsWithSole [.Subscript o i p] e l env=pure false:=by
 cases e<;>rfl
theorem zib{o i e:Expr}{p:Pos}{env:Env}:swappedStores [.Subscript o i p] e env=pure none:=by
 cases e<;>rfl
theorem zvc(hu:X.A.units+2<cLine)(ho:SE X o fo)(hi:SE X a fa)(hv:SE X e fb)(hs:zc8 a=true):SS X (.Assign [.Subscript o a p] e pos) (gPut fo fa fb):=
 (zpb hv (zs5 ho hi znx (zj7 hs)) zl5 zib rfl).imp λD σ H z9=>z9.el λρ h m fl h' f r e k=>by
   refine zaa e λw h1 e1 e2=>?_
   refine zaa e2 λx h2 e3 e4=>?_
   refine zaa e4 λy h3 e5 e6=>?_
   refine(.mk f r e1 λv H1 m1 s1 r1 q1=>(.mk (f.stp s1) r1 e3 λvo H2 m2 s2 r2 q2=>(.mk ((f.stp s1).stp s2) r2 e5 λvi H3 m3 s3 r3 q3=>?_)))
   split at e6
   .rename_i l j
    split at e6
    .rename_i ws g
     split at e6
     .rename_i kk hk
      cases e6
      cases q3
      have q2':=q2.stp s3
      cases q2'
      obtain⟨vs,p1,p2⟩:=r3.lst g
      refine⟨m3 l,vs,j,kk,rfl,rfl,p1,by rw[p2.length];exact hk,?_⟩
      have qv:=((q1.stp s2).stp s3)
      obtain⟨st,r'⟩:=r3.write (i:=l) (o:=.lst (ws.set kk w)) (u:=.lst (vs.set kk v)) (zar g) p1 (λ_ z=>nomatch z) (λ_ _ z=>nomatch z) λst=>⟨_,zag,VReps.set (qv.stp st) kk (p2.stp st)⟩
      exact k _ m3 (((s1.trans s2).trans s3).trans st) r' σ ((((f.stp s1).stp s2).stp s3).stp st)
     .cases e6
    .cases e6
   .cases e6
theorem zic{M:Model}{A:Around}{E:Value->Shared->Prop}{s:Shared}{a b:Value}{T id:String}{Q:Value->Shared->Prop}(ha:s.TypeIs a T)(hb:s.TypeIs b T)
 (hI:typeLookup (.type T) (dunderI "add")=pure (some (.builtin id))) (hq:isSeqSlot (some (.builtin id))=true) (hfill:fillsNumberSlot (.type T) "add" = pure false) (hc:wpAny M A (call (.builtin id) [a,b]) Q E s):wpAny M A (inplaceOp .Add a b) Q E s:=by
 unfold inplaceOp
 refine vbd ?_
 have h1:fillsInplaceSlot (.type T) "add" (Operator.Add == .Add)=pure false:=by
  unfold fillsInplaceSlot
  show(typeLookup (.type T) (dunderI "add") >>= λfi=>pure (fi.isSome && !isSeqSlot fi))=_
  rw[hI,vee,hq];rfl
 have h2:seqSlot? (.type T) (dunderI "add")=pure (some (.builtin id)):=by
  unfold seqSlot?
  rw[hI,vee,hq];rfl
 refine vab (veh ha (vab (vdl h1 ?_)))
 show wpAny M A (if false=true then _ else _) Q E s
 rw[if_neg va4]
 refine vab (binaryOp1_none (nm:="add") ha hb hfill ?_)
 refine vab (vdl h2 ?_)
 exact vab (wpAny_rule hc)
noncomputable def rIcat:R2:=λx y H Q=>∃l b xs zs,x=.ref l/\y=.ref b/\H l=some (.lst xs)/\H b=some (.lst zs)/\xs.length+zs.length<=sizeLine/\Q (.ref l) (upd H l (.lst (xs++zs)))
theorem zvd:PIp X .Add rIcat:=by
 intro pins s σ H x y v u Q I rx ry h
 obtain⟨l,b,xs,zs,rfl,rfl,hH,hB,hz,q⟩:=h
 cases rx
 cases ry
 obtain⟨z,its,n,r,hl,e⟩:=I.lstM hH
 obtain⟨z2,its2,n2,r2,hl2,e2⟩:=I.lstM hB
 have hsz:its.toArray.size+its2.toArray.size<=sizeLine:=by rw[vag,vag];omega
 have hlong:¬(!its.toArray.isEmpty&&Builtin.List.listTooLong (its.toArray.size+its2.toArray.size))=true:=by
  rw[zfn hsz,Bool.and_false]
  exact va4
 refine zic (T:="list") (id:="list.__iadd__") ⟨_,e,rfl⟩ ⟨_,e2,rfl⟩ PySem.F.slot_list_iadd.lookup (by decide +kernel) noFill_list_add ?_
 refine vc4 PySem.F.slot_list_iadd ⟨_,e,rfl⟩ PySem.F.entry_list_iadd (PySem.F.args_list_iadd_2 _ _)
  (AutoSeq1.list___iadd___list_list_0 l its.toArray n b its2.toArray n2 hlong (by rw[vag];omega) (by omega)) ⟨e,e2,?_⟩
 refine⟨.ref l,_,I.lset (its':=its++its2) hH e (by simp) (r.append r2) ?_,rfl,q⟩
 rw[vaw]
 omega
noncomputable def ipOf:Operator->Option Op
 |.Add=>some .add|.Sub=>some .sub|.Mult=>some .mul|.FloorDiv=>some .fdiv
 |_=>none
noncomputable def rIp:Op->R2
 |.mul=>rI CMul λi j=>.int (i*j)
 |.fdiv=>rI CDiv λi j=>.int (i/j)
 |.add=>λx y H Q=>ipI (λi j=>i+j) x y H Q\/rIcat x y H Q
 |.sub=>ipI λi j=>i-j
 |_=>λ_ _ _ _=>False
theorem ip_ok{O:Operator}{o:Op}(e:ipOf O=some o):PIp X O (rIp o):=by
 cases O<;>cases e
 .intro pins s σ H x y v u Q I rx ry q
  rcases q with q|q
  .exact zs7 pins s σ H x y v u Q I rx ry q
  .exact zvd pins s σ H x y v u Q I rx ry q
 .exact zs8
 .exact zqn
 .exact znp
theorem zve{K:PySem.W.Frag}{O:Operator}{o:Op}(e:ipOf O=some o):OpV K (rIp o) (ipW o):=by
 intro m h H v u x y w h' Q r qv qu e2 k
 unfold ipW at e2
 split at e2
 .rename_i i j
  cases qv;cases qu
  split at e2
  .cases e2;exact .inl ⟨i,j,rfl,rfl,Wants.here k r (.int _)⟩
  .cases e2;exact⟨i,j,rfl,rfl,Wants.here k r (.int _)⟩
  .obtain⟨e2,rfl⟩:=of_ok e2
   cases z:opI .mul i j with
   |none=>rw[z]at e2;cases e2
   |some t=>
    rw[z]at e2;cases e2
    obtain⟨c1,rfl⟩:=zln z
    exact⟨i,j,rfl,rfl,c1,Wants.here k r (.int _)⟩
  .obtain⟨e2,rfl⟩:=of_ok e2
   cases z:opI .fdiv i j with
   |none=>rw[z]at e2;cases e2
   |some t=>
    rw[z]at e2;cases e2
    obtain⟨c1,rfl⟩:=zln z
    exact⟨i,j,rfl,rfl,c1,Wants.here k r (.int _)⟩
  .cases e2
 .rename_i i j
  split at e2
  .rename_i xs ys g1 g2
   split at e2
   .rename_i hz
    cases e2
    cases qv;cases qu
    obtain⟨vs,p1,p2⟩:=r.lst g1
    obtain⟨us,p3,p4⟩:=r.lst g2
    refine .inr ⟨m i,m j,vs,us,rfl,rfl,p1,p3,by rw[p2.length,p4.length];exact vay hz,?_⟩
    obtain⟨st,r'⟩:=r.write (i:=i) (o:=.lst (xs++ys)) (u:=.lst (vs++us)) (zar g1) p1 (λ_ z=>nomatch z) (λ_ _ z=>nomatch z) λst=>⟨_,zag,(p2.stp st).append (p4.stp st)⟩
    exact k _ _ m st r' (.ref (show i<h.n from zar g1))
   .cases e2
  .cases e2
 .cases e2
noncomputable abbrev gAug(i:Nat)(o:Op)(fa:FE):FS:=λρ h=>match(ρ[i]?).join with
 |some x=>(fa ρ h).bind λy h=>(ipW o x y h).bind λz h=>.ok (.nx (ρ.set i (some z))) h
 |none=>.no
theorem zvf{i:Nat}{pos':Pos}{O:Operator}{o:Op}(eo:ipOf O=some o)(hN:X.N.Nodup)(hi:X.N[i]?=some x)(hx:Loc X.env.scope x)(hf:X.fn x=true\/X.env.scope.names.lookup x=some .local)(he:SE X e fa) :
 SS X (.AugAssign (.Name x pos') O e pos) (gAug i o fa):=(zs6 hN hi hx he (ip_ok eo) hf).imp λD σ H z9=>z9.el λρ h m fl h' f r e k=>by
 have e:gAug i o fa ρ h=.ok fl h':=e
 simp only[gAug]at e
 cases z:(ρ[i]?).join with
 |none=>rw[z]at e;cases e
 |some x=>
  rw[z]at e
  simp only at e
  refine zaa e λy h1 e1 e2=>?_
  refine zaa e2 λw h2 e3 e4=>?_
  cases e4
  have e5:ρ[i]?=some (some x):=by
   cases q:ρ[i]? with
   |none=>rw[q]at z;cases z
   |some o=>rw[q]at z;rw[<-z];rfl
  obtain⟨v,p1,p2⟩:=f.val i x e5
  refine⟨v,p1,ρ,h,m,y,h1,f,r,e1,λu H1 m1 s1 r1 q1=>zve eo m1 h1 H1 v u x y w h' _ r1 (p2.stp s1) q1 e3 λv' H' m' s' r' q'=>?_⟩
  exact k H' m' (s1.trans s') r' _ (((f.stp s1).stp s').set q' i)
noncomputable abbrev gIf(fc:FE)(ga gb:FS):FS:=λρ h=>(fc ρ h).bind λx h=>match x with|.bl true=>ga ρ h|.bl false=>gb ρ h|_=>.no
variable{sa sb:List Stmt}
theorem zpu(hc:ST X c fc)(ha:SRs X R sa ga)(hb:SRs X R sb gb):SR X R (.If c sa sb pos) (gIf fc ga gb):=(ps_if hc ha hb).imp λD σ H z9=>z9.el λρ h m fl h' f r e k=>by
 refine zaa e λx h1 e1 e2=>?_
 cases x<;>try cases e2
 rename_i c
 refine(.mk f r e1 λH1 m1 s1 r1=>?_)
 cases c with
 |true=>rw[if_pos rfl];exact(.mk (f.stp s1) r1 e2 λH' m' s' r'=>k H' m' (s1.trans s') r')
 |false=>simp only[vak,vbe];exact(.mk (f.stp s1) r1 e2 λH' m' s' r'=>k H' m' (s1.trans s') r')
theorem zrr{nx:Nat->VH->Option (Option W)}{tg:W->VH->En->Option En}{g:FS}{f i:Nat}{ρ:En}{h:VH}{fl:Fl}{h':VH}(q:forG nx tg g (f+1) i ρ h=.ok fl h'):∃o,nx i h=some o:=by
 simp only[forG]at q
 split at q
 .cases q
 .exact⟨_,by assumption⟩
 .exact⟨_,by assumption⟩
noncomputable abbrev gFor(kd:Kd)(fa:FE)(t:Tg)(g:FS):FS:=λρ h=>(fa ρ h).bind λx h=>forG (nxt kd x) (tgW t) g fuel 0 ρ h
theorem zvg{K:PySem.W.Frag}{kd:Kd}{t:Tg}{D:Ends}{σ:L2.St}{H:Hp}(q:lftS K R (gFor kd fa t ga) D σ H):tFor (lftI K kd fa) (lftG K t) (lftS K R ga) D σ H:=by
 refine q.el λρ h m fl h' f r e k=>?_
 refine zaa e λx h1 e1 e2=>?_
 refine(.mk f r e1 (zrr (f:=999999) e2) λJ P H1 m1 s1 r1 J1 p1=>?_)
 refine⟨λi fu σ' H'=>∃ρ' h3 m3,forG (nxt kd x) (tgW t) ga fu i ρ' h3=.ok fl h'/\Fr K m3 h3.n H' σ' ρ'/\Rel K m3 h3 H'/\Stp m1 h1.n H1 m3 h3.n H'/\P m3 h3.n H',⟨fuel,ρ,h1,m1,e2,f.stp s1,r1,.refl,p1⟩,?_⟩
 rintro i fu σ' H' ⟨ρ',h3,m3,e3,f3,r3,s3,p3⟩
 cases fu with
 |zero=>cases e3
 |succ fu=>
  simp only[forG]at e3
  obtain⟨j1,j2⟩:=J1.2 m3 h3 H' r3 p3 i
  split at e3
  .cases e3
  .rename_i hn
   cases e3
   exact .inl ⟨j2 hn,k H' m3 (s1.trans s3) r3 σ' f3⟩
  .rename_i w hn
   obtain⟨j3,j4⟩:=j1 w hn
   split at e3
   .cases e3
   .rename_i ρ4 ht
    refine zaa e3 λfl5 h5 e5 e6=>?_
    refine .inr ⟨j3,λσ6 H6=>∃ρ6 m6,forG (nxt kd x) (tgW t) ga fu (i+1) ρ6 h5=.ok fl h'/\Fr K m6 h5.n H6 σ6 ρ6/\Rel K m6 h5 H6/\Stp m1 h1.n H1 m6 h5.n H6/\P m6 h5.n H6,λσ6 H6 ⟨ρ6,m6,a1,a2,a3,a4,a5⟩=>⟨fu,vb4 _,ρ6,h5,m6,a1,a2,a3,a4,a5⟩,λy H4 hy=>?_⟩
    obtain⟨s4,r4,q4⟩:=j4 y H4 hy
    refine⟨ρ',h3,m3,w,ρ4,f3.stp s4,r4,q4,ht,λσ5 f5=>⟨ρ4,h3,m3,fl5,h5,f5,r4,e5,λH6 m6 s6 r6=>?_⟩⟩
    have p4:=J1.1 m3 h3.n H' m3 h3.n H4 (vad _) (λ_ _=>rfl) (λb vs q=>s4.tup b vs q) (λb o u q=>s4.frz b o u q) p3
    have p6:=J1.1 m3 h3.n H4 m6 h5.n H6 s6.le s6.same (λb vs q=>s6.tup b vs q) (λb o u q=>s6.frz b o u q) p4
    have s16:=(s3.trans s4).trans s6
    cases fl5 with
    |nx ρ6=>exact λσ6 f6=>⟨ρ6,m6,e6,f6,r6,s16,p6⟩
    |ct ρ6=>exact λσ6 f6=>⟨ρ6,m6,e6,f6,r6,s16,p6⟩
    |bk ρ6=>cases e6;exact λσ6 f6=>k H6 m6 (s1.trans s16) r6 σ6 f6
    |rt w6=>cases e6;exact k H6 m6 (s1.trans s16) r6
theorem zpv{kd:Kd}{t:Tg}{tg iter:Expr}(hp:PassesOwn (model X.prog X.w) X.A X.env X.xe)(hc:X.calm=true)(hI:PI X tg iter (lftI X.K kd fa))(hg:PG X tg (lftG X.K t))(hb:SRs X R sa ga)(hs:∀x,foldedSetIterable iter X.env x=pure x) :
 SR X R (.For tg iter sa [] pos) (gFor kd fa t ga):=(ztb hp hc hI hg hb hs).imp λD σ H q=>zvg q
theorem zvh(hp:PassesOwn (model X.prog X.w) X.A X.env X.xe)(hc:ST X c fc)(hb:SSs X sa ga):SS X (.While c sa [] pos) (λρ h=>whlG fc ga fuel ρ h):=(znn hp hc hb).imp λD σ H z9=>z9.el λρ h m fl h' f r e k=>by
 refine⟨λfu σ' H'=>∃ρ' h3 m3,whlG fc ga fu ρ' h3=.ok fl h'/\Fr X.K m3 h3.n H' σ' ρ'/\Rel X.K m3 h3 H'/\Stp m h.n H m3 h3.n H',⟨fuel,ρ,h,m,e,f,r,.refl⟩,?_⟩
 rintro fu σ' H' ⟨ρ',h3,m3,e3,f3,r3,s3⟩
 cases fu with
 |zero=>cases e3
 |succ fu=>
  simp only[whlG]at e3
  refine zaa e3 λx h4 e4 e5=>?_
  cases x<;>try cases e5
  rename_i b
  refine⟨ρ',h3,m3,b,h4,f3,r3,e4,λH4 m4 s4 r4=>?_⟩
  cases b with
  |false=>cases e5;simp only[vak,vbe];exact k H4 m4 (s3.trans s4) r4 σ' (f3.stp s4)
  |true=>
   simp only[vbk]
   refine zaa e5 λfl5 h5 e6 e7=>?_
   refine⟨λσ6 H6=>∃ρ6 m6,whlG fc ga fu ρ6 h5=.ok fl h'/\Fr X.K m6 h5.n H6 σ6 ρ6/\Rel X.K m6 h5 H6/\Stp m h.n H m6 h5.n H6,λσ6 H6 ⟨ρ6,m6,a1,a2,a3,a4⟩=>⟨fu,vb4 _,ρ6,h5,m6,a1,a2,a3,a4⟩,?_⟩
   refine⟨ρ',h4,m4,fl5,h5,f3.stp s4,r4,e6,λH6 m6 s6 r6=>?_⟩
   have s16:=(s3.trans s4).trans s6
   cases fl5 with
   |nx ρ6=>exact λσ6 f6=>⟨ρ6,m6,e7,f6,r6,s16⟩
   |ct ρ6=>exact λσ6 f6=>⟨ρ6,m6,e7,f6,r6,s16⟩
   |bk ρ6=>cases e7;exact λσ6 f6=>k H6 m6 s16 r6 σ6 f6
   |rt w6=>cases e7;exact λv6 q6=>k H6 m6 s16 r6 v6 q6
end
theorem zcl{n:Str}:∀{ps:List Str} {us:List Value},us.length=ps.length->n∈ps->((ps.zip us).lookup n).isSome=true
 |[],_,_,h=>by cases h
 |p::ps,[],hl,_=>by cases hl
 |p::ps,u::us,hl,h=>by
  rw[vbw,vax]
  by_cases e:(n==p)=true
  .rw[e];rfl
  .have e':(n==p)=false:=by simpa using e
   rw[e']
   refine zcl (by simpa using hl) ?_
   rcases va0.mp h with z|z
   .rw[z]at e';simp at e'
   .exact z
theorem zom{n:Str}{u:Value}{p:Str}{ps:List Str}{us:List Value}(h:n≠p):((p,u)::ps.zip us).lookup n=(ps.zip us).lookup n:=by
 rw[vax]
 have e':(n==p)=false:=by simpa using h
 rw[e']
theorem zi0{α β:Type}{f g:α->Option β}:∀{l:List α},(∀a∈l,f a=g a)->l.filterMap f=l.filterMap g
 |[],_=>rfl
 |a::r,h=>by
  rw[vb5,vb5,h a vaq,zi0 λb hb=>h b (vai _ hb)]
theorem zfy:∀{ps:List Str} {us:List Value},us.length=ps.length->ps.Nodup->ps.filterMap (λn=>((ps.zip us).lookup n).map (n,·))=ps.zip us
 |[],_,_,_=>rfl
 |p::ps,[],hl,_=>by cases hl
 |p::ps,u::us,hl,hn=>by
  obtain⟨h1,h2⟩:=vdt.mp hn
  rw[vbw,vb5]
  have e:((p,u)::ps.zip us).lookup p=some u:=by rw[vax];simp
  rw[e]
  simp only[vb2]
  congr 1
  have ih:=zfy (ps:=ps) (us:=us) (by simpa using hl) h2
  refine Eq.trans ?_ ih
  exact zi0 λn hn'=>by
   have hne:n≠p:=λz=>h1 (by rw[<-z];exact hn')
   rw[zom hne]
theorem ze4{x qual:Str}{args:List Arg}{body:List Stmt}{sc:Scope}{kV doc pm:Value}{an:Option Addr}{cdv ct:Value}{us:List Value}{df:List Expr}(hl:us.length=(args.map (·.arg)).length)(hn:(args.map (·.arg)).Nodup) :
 bindArgs (PySem.W.fnOf x qual ⟨[],args,none,[],[],none,df⟩ body sc .none kV doc pm an cdv ct) ⟨us,[]⟩=pure ((args.map (·.arg)).zip us):=by
 have hs:seqItems? Value.none=pure none:=rfl
 have hm:((args.map (·.arg)).filter λn=>(((args.map (·.arg)).zip us).lookup n).isNone)=[]:=by
  rw[List.filter_eq_nil_iff]
  intro n hn'
  have:=zcl hl hn'
  cases q:((args.map (·.arg)).zip us).lookup n with
  |none=>rw[q]at this;cases this
  |some v=>simp
 unfold bindArgs
 simp only[PySem.W.fnOf,vc9,vcf,va7,hs,vee]
 have hg:¬(us.length> (args.map (·.arg)).length):=by omega
 have h0:(#[]:Array Value).toList=[]:=rfl
 simp only[Option.getD_none,h0,vc6,vee,List.drop_nil,vdw,Nat.sub_zero,List.take_length,hm,List.isEmpty_nil,vdy,List.drop_length,List.zip_nil_right,List.zip_nil_left,vby hg,vdg,vak,vbe,zfy hl hn]
theorem zg5{z:Str}:∀{qs:List Str} {us:List Value},us.length=qs.length->(qs++[z]).zip us=qs.zip us
 |[],[],_=>rfl
 |[],_::_,h=>by cases h
 |_::_,[],h=>by cases h
 |q::qs,u::us,h=>by
  rw[vd8,vbw,vbw,zg5 (by simpa using h)]
theorem zfz{z:Str}{v:Value}:∀{qs:List Str} {us:List Value},us.length=qs.length->(qs++[z]).zip (us++[v])=qs.zip us++[(z,v)]
 |[],[],_=>rfl
 |[],_::_,h=>by cases h
 |_::_,[],h=>by cases h
 |q::qs,u::us,h=>by
  rw[vd8,vd8,vbw,vbw,zfz (by simpa using h),vd8]
theorem zl6{z:Str}:∀{qs:List Str} {us:List Value},z∉qs->(qs.zip us).lookup z=none
 |[],_,_=>rfl
 |_::_,[],_=>rfl
 |q::qs,u::us,h=>by
  rw[vbw,vax]
  have e':(z==q)=false:=by simpa using(λe=>h (by rw[e];exact vaq))
  rw[e']
  exact zl6 λe=>h (vai _ e)
section
variable{x qual:Str}{args:List Arg}{df:List Expr}{body:List Stmt}{sc:Scope}{kV doc pm:Value}{an:Option Addr}{cdv ct:Value}{t:Addr}{o:Obj}{n:Nat}{s:Shared}{us:List Value}{qs:List Str}{z:Str}
theorem zpw(qs:List Str)(z:Str):List.drop ([Value.none].length- (qs++[z]).length) [Value.none]=[Value.none]:=by
 rw[vaw,vcq,vcq,show 1- (qs.length+1)=0 by omega];rfl
theorem len_d(qs:List Str)(z:Str):(qs++[z]).length - [Value.none].length=qs.length:=by simp
theorem zj8(ha:args.map (·.arg)=qs++[z])(hn:(qs++[z]).Nodup)(ho:s.heap.get? t=some o)(hd:o.data=.seq #[.none] n)(hl:us.length=(qs++[z]).length) :
 BindsTo s (PySem.W.fnOf x qual ⟨[],args,none,[],[],none,df⟩ body sc (.ref t) kV doc pm an cdv ct) ⟨us,[]⟩ ((qs++[z]).zip us):=by
 apply BindsTo.of_defaults (items:=#[.none]) (n:=n) rfl ho hd
 .unfold bindArgs
  simp only[PySem.W.fnOf,vc9,vcf,va7,vc6,vee,ha]
  rfl
 .have hm:(qs.filter λn=>(((qs++[z]).zip us).lookup n).isNone)=[]:=by
   rw[List.filter_eq_nil_iff]
   intro n hn'
   have:=zcl (n:=n) hl (vde _ hn')
   cases q:((qs++[z]).zip us).lookup n with
   |none=>rw[q]at this;cases this
   |some v=>simp
  have hz:(((qs++[z]).zip us).lookup z).isNone=false:=by
   have:=zcl (n:=z) hl (va6 _ (vdz.mpr rfl))
   cases q:((qs++[z]).zip us).lookup z with
   |none=>rw[q]at this;cases this
   |some v=>rfl
  have hg:¬(us.length> (qs++[z]).length):=by omega
  simp only[Option.getD_some,zpw,len_d,List.take_left',List.take_left,List.drop_left,List.drop_left',hm,vby hg,vdg,vak,vbe,List.isEmpty_nil,vdy,vbw,List.zip_nil_right,vdu,vc6,hz,vee,zfy hl hn]
theorem zj9(ha:args.map (·.arg)=qs++[z])(hn:(qs++[z]).Nodup)(ho:s.heap.get? t=some o)(hd:o.data=.seq #[.none] n)(hl:us.length=qs.length) :
 BindsTo s (PySem.W.fnOf x qual ⟨[],args,none,[],[],none,df⟩ body sc (.ref t) kV doc pm an cdv ct) ⟨us,[]⟩ ((qs++[z]).zip (us++[.none])):=by
 apply BindsTo.of_defaults (items:=#[.none]) (n:=n) rfl ho hd
 .unfold bindArgs
  simp only[PySem.W.fnOf,vc9,vcf,va7,vc6,vee,ha]
  rfl
 .have hm:(qs.filter λn=>((qs.zip us).lookup n).isNone)=[]:=by
   rw[List.filter_eq_nil_iff]
   intro n hn'
   have:=zcl (n:=n) hl hn'
   cases q:(qs.zip us).lookup n with
   |none=>rw[q]at this;cases this
   |some v=>simp
  have hzq:z∉qs:=λh=>(List.nodup_append.mp hn).2.2 z h z (vdz.mpr rfl) rfl
  have hz:((qs.zip us).lookup z).isNone=true:=by rw[zl6 hzq];rfl
  have hg:¬(us.length> (qs++[z]).length):=by rw[vaw];omega
  have hl2:(us++[Value.none]).length=(qs++[z]).length:=by rw[vaw,vaw,hl];rfl
  have ha2:=zfy hl2 hn
  rw[zfz hl]at ha2
  simp only[Option.getD_some,zpw,len_d,zg5 hl,zfz hl,List.take_left',List.take_left,List.drop_left,List.drop_left',hm,vby hg,vdg,vak,vbe,List.isEmpty_nil,vdy,vbw,List.zip_nil_right,vdu,vc6,hz,vbk,vee,ha2]
end
structure FunD(K:PySem.W.Frag)(x qual:Str)(st:Stmt)(f:Addr)(fd:FuncData):Prop where
 ex:∃(oc:Value) (od:Option Addr) (dV kV doc pm:Value) (an:Option Addr) (cdv ct:Value) (osl:Array (Option Value)),fd=PySem.W.fnOf x qual (zq3 st) (zc2 st) (zai st) dV kV doc pm an cdv ct/\K.lookup f=some ⟨oc,od,.func fd,osl⟩/\PySem.W.codeIn K cdv qual=true
 kp:PySem.W.keepIn K (.ref f)=true
theorem FunD.ok{P:Program}{w:World}{K:PySem.W.Frag}{mg:Str->Option Value}{base:Heap}{x qual:Str}{st:Stmt}{f:Addr}{fd:FuncData}{N ps:List Str}{k:Nat}{sp:Sp}(F:FunD K x qual st f fd)(S:FnScope N ps (zai st))(len:∀vs H Q E,sp vs H Q E->vs.length=ps.length)
 (hbody:∀(cdv:Value)(A:Around)(outer:List Env)(s:Shared)(H:Hp)(vs:List V)(Q:VK)(E:XK),Room k (A.deeper (envOfC qual (zai st) s.heap.objs.size f cdv))->sp vs H Q E->∃t,PSs (cxOf CX0 P w K mg base N qual (zai st) f cdv A outer s H E).nox (zc2 st) t/\t {nx:=λ_ H'=>Q .non H',rt:=Q} (start N vs) H):FnOk P w K mg base CX0 (k+1) f fd ps sp:=
 let⟨_,_,_,_,_,_,_,cdv,_,_,e,lk,hcd⟩:=F.ex
 by subst e;exact fn_of lk hcd S len λA outer s H vs Q E hr hsp=>let⟨t,h,q⟩:=hbody cdv A outer s H vs Q E hr hsp;⟨t,h.nox,q⟩
section
variable{K:PySem.W.Frag}{m m':Nat->Addr}{n n':Nat}{h h':VH}{H H':Hp}
mutual
theorem VRep.refsLt:∀{v:V} {w:W},VRep K m n H v w->W.lt n w=true
 |_,_,.non=>rfl
 |_,_,.bl _=>rfl
 |_,_,.int _=>rfl
 |_,_,.str _=>rfl
 |_,_,.tup _ r=>VReps.refsLt r
 |_,_,.fz _ r=>VReps.refsLt r
 |_,_,.ref q=>zax.mpr q
theorem VReps.refsLt:∀{vs:List V} {ws:List W},VReps K m n H vs ws->W.lts n ws=true
 |_,_,.nil=>rfl
 |_,_,.cons q r=>by
  show(W.lt n _&&W.lts n _)=true
  rw[VRep.refsLt q,VReps.refsLt r];rfl
end
mutual
theorem VRep.cut:∀{v:V} {w:W},VRep K m n' H v w->W.lt n w=true->VRep K m n H v w
 |_,_,.non,_=>.non
 |_,_,.bl b,_=>.bl b
 |_,_,.int b,_=>.int b
 |_,_,.str b,_=>.str b
 |_,_,.tup q r,e=>.tup q (VReps.cut r e)
 |_,_,.fz q r,e=>.fz q (VReps.cut r e)
 |_,_,.ref q,e=>.ref (zax.mp e)
theorem VReps.cut:∀{vs:List V} {ws:List W},VReps K m n' H vs ws->W.lts n ws=true->VReps K m n H vs ws
 |_,_,.nil,_=>.nil
 |_,_,.cons q r,e=>by
  have e:(W.lt n _&&W.lts n _)=true:=e
  rw[vaa]at e
  exact .cons (VRep.cut q e.1) (VReps.cut r e.2)
end
theorem KReps.cut{m':Nat->Addr}{n1:Nat}{H':Hp}:∀{vs us:List (Key×V)} {ws:List (Key×W)},KReps K m n' H vs ws->KReps K m' n H' us ws->KReps K m n H vs ws
 |_,_,_,.nil,_=>.nil
 |_,_,_,.cons q r,.cons q2 r2=>.cons (q.cut q2.refsLt) (KReps.cut (n1:=n1) r r2)
theorem zl7{lo:Nat}(r:Rel K m h H):Rel K m ⟨h.n,lo,h.os⟩ H:=⟨r.obj,r.inj,r.len⟩
theorem zcm{w w2:W}{h1 h2:VH}{v:V}{Q:VK}(r:Rel K m h H)(s:Stp m h.n H m' h1.n H')(r1:Rel K m' h1 H')(q:VRep K m' h1.n H' v w)(g:Grow ⟨h.n,h.n,h.os⟩ h1)(e:leave h w h1=.ok w2 h2)(k:Wants K m h.n H w2 h2 Q):Q v H':=by
 unfold leave at e
 split at e
 .rename_i hc
  cases e
  rw[vaa]at hc
  have hlo:=vay hc.1
  refine k v H' m' ⟨vad _,s.same,λi a b=>absurd b (vb9.mpr a),λi j a b=>absurd b (vb9.mpr a),s.tup,s.frz,s.keep⟩ ⟨λi hi=>?_,λi j hi hj=>r1.inj i j (vah hi s.le) (vah hj s.le),r.len⟩ (q.cut hc.2)
  have hg:h1.get i=h.get i:=g.2.2 i hi (vah hi hlo)
  obtain⟨o,p1,p2⟩:=r1.obj i (vah hi s.le)
  rw[hg]at p1
  refine⟨o,p1,?_⟩
  have p3:=r.at_ p1
  cases o with
  |lst ws=>
   obtain⟨vs,a1,a2⟩:=p2
   obtain⟨us,b1,b2⟩:=p3
   exact⟨vs,a1,a2.cut b2.refsLt⟩
  |dk ws=>
   obtain⟨vs,a1,a2⟩:=p2
   obtain⟨us,b1,b2⟩:=p3
   exact⟨vs,a1,KReps.cut (n1:=0) a2 b2⟩
 .cases e
  exact k v H' m' s (zl7 r1) q
theorem zi1{N:List Str}{vs:List V}{ws:List W}(q:VReps K m n H vs ws):Fr K m n H (L2.start N vs) (ws.map some++List.replicate (N.length-ws.length) none):=by
 unfold L2.start
 refine⟨by simp[q.length],λi w e=>?_⟩
 by_cases hi:i<ws.length
 .rw[vb0 (by simpa using hi)]at e
  rw[vb0 (by simpa[q.length]using hi)]
  rw[vbm]at e ⊢
  cases z:ws[i]? with
  |none=>rw[z]at e;cases e
  |some w'=>
   rw[z]at e
   cases e
   obtain⟨v,h1,h2⟩:=q.get z
   exact⟨v,by rw[h1];rfl,h2⟩
 .rw[vbi (by simpa using vb9.mp hi)]at e
  rw[vc2]at e
  split at e<;>cases e
end
theorem zc9{F:Nat->Option Fn}{k idx:Nat}{ws:List W}{h h':VH}{w:W}{fn:Fn}(hF:F idx=some fn)(e:run F k idx ws h=.ok w h'):ws.length=fn.ps:=by
 cases k with
 |zero=>cases e
 |succ k=>
  simp only[run,hF]at e
  split at e
  .rename_i hl;exact vca hl
  .cases e
theorem zpx{P:Program}{w:World}{K:PySem.W.Frag}{mg:Str->Option Value}{base:Heap}{F:Nat->Option Fn}{k idx:Nat}{fn:Fn}{x qual:Str}{st:Stmt}{f:Addr}{fd:FuncData}{N ps:List Str}(hF:F idx=some fn)(Fu:FunD K x qual st f fd)(S:FnScope N ps (zai st))
 (hn:fn.n=N.length) (hp:fn.ps=ps.length)
 (hbody:∀(cdv:Value)(A:Around)(outer:List Env)(s:Shared)(H:Hp)(E:XK),Room k (A.deeper (envOfC qual (zai st) s.heap.objs.size f cdv))->SSs (cxOf CX0 P w K mg base N qual (zai st) f cdv A outer s H E).nox (zc2 st) (exs (run F k) fn.body)) :
 FnOk P w K mg base CX0 (k+1) f fd ps (spV K ps.length (run F (k+1) idx)):=by
 refine Fu.ok S (λvs H Q E h=>h.1) λcdv A outer s H vs Q E hr hsp=>?_
 refine⟨_,hbody cdv A outer s H E hr,?_⟩
 obtain⟨hl,h,m,ws,w2,h2,r,q,e,k2⟩:=hsp
 have hws:=zc9 hF e
 simp only[run,hF]at e
 split at e
 .refine zaa e λfl h1 e1 e2=>?_
  have g:=zg3 (zg4 F k) _ _ _ _ _ e1
  have hN:fn.n-fn.ps=N.length-ws.length:=by rw[hn,hws]
  rw[hN]at e1
  refine⟨_,⟨h.n,h.n,h.os⟩,m,fl,h1,zi1 q,zl7 r,e1,λH' m' s' r'=>?_⟩
  cases fl with
  |nx ρ=>exact λσ' f'=>zcm r s' r' .non g e2 k2
  |rt w3=>exact λv q3=>zcm r s' r' q3 g e2 k2
  |bk _=>cases e2
  |ct _=>cases e2
 .cases e
theorem zl8{P:Program}{w:World}{K:PySem.W.Frag}{mg:Str->Option Value}{base:Heap}{F:Nat->Option Fn}{idx:Nat}{f:Addr}{fd:FuncData}{ps:List Str}:FnOk P w K mg base CX0 0 f fd ps (spV K ps.length (run F 0 idx)):=
 ⟨λvs H Q E h=>h.1,λA outer s H args us vs Q E hr he hb hv hs=>by obtain⟨_,h,m,ws,w2,h2,r,q,e,k2⟩:=hs;cases e⟩
noncomputable def zcb(K:PySem.W.Frag)(C:Addr)(f:Str):Bool:=match PySem.W.findIn K (.ref C) f with
 |some none=>true
 |_=>false
theorem zbp{K:PySem.W.Frag}{C:Addr}{f:Str}(h:zcb K C f=true):zgl K C f:=by
 unfold zcb at h
 split at h
 .rename_i e;exact e
 .cases h
noncomputable def metOf(x:Str):Option Str:=if x==("Fault.__init__" : Str)then some "__init__"else none
noncomputable def refAt(K:PySem.W.Frag)(x:Str):Option Addr:=if(metOf x).isSome then none else(match PySem.W.nsIn K mainGlobals x with
 |some (some (.ref f))=>some f
 |_=>none)
theorem zb3{K:PySem.W.Frag}{x:Str}{f:Addr}(h:refAt K x=some f):PySem.W.nsIn K mainGlobals x=some (some (.ref f)):=by
 unfold refAt at h
 split at h
 .cases h
 .split at h
  .rename_i g e;cases h;exact e
  .cases h
end RF
namespace HT
open PySem PySem.Spec PyProof.Rows
section
variable{prog:Program}{w:World}{A:Around}{E:Value->Shared->Prop}{s:Shared}
theorem zka(n:Nat):Builtin.Slice.slicePlaces ((n:Int)-1) (-1) (-1)=n:=by
 unfold Builtin.Slice.slicePlaces
 have h1:¬((-1:Int)>0):=by omega
 simp only[h1,vbe]
 show(if((n:Int)-1) > -1 then(((n:Int)-1) - -1-1)/ (- -1)+1 else 0).toNat=n
 rw[show(- (-1:Int))=1 from rfl,Int.ediv_one]
 split<;>omega
theorem zdn{sl:Addr}{vk:Value}{n:Nat}{Q:Int×Int×Nat->Shared->Prop}(hs:s.heap.IsSliceOf sl .none .none vk)(pk:IsPart vk (some (-1)))
 (h:Q ((n:Int)-1,-1,n) s):wpAny (model prog w) A (Builtin.Slice.sliceApplied (.ref sl) (pure (n:Int))) Q E s:=by
 obtain⟨os,hos,hcs,hds⟩:=id hs
 unfold Builtin.Slice.sliceApplied Builtin.Slice.sliceFields
 refine vab (vab (va9 hos hds (x:=.none) rfl (vab (va9 hos hds (x:=.none) rfl (vab (va9 hos hds (x:=vk) rfl (vae ?_)))))))
 refine vab (zbo pk ?_)
 show wpAny _ _ (if((-1:Int)==0)=true then _ else _) _ _ s
 rw[if_neg (by decide)]
 refine vab (zbo .none (vab (zbo .none (vab (vae ?_)))))
 show wpAny _ _ (pure ((n:Int)-1,(-1:Int),Builtin.Slice.slicePlaces ((n:Int)-1) (-1) (-1))) _ _ s
 rw[zka]
 exact vae h
theorem zon(xs:Array Value):((List.range xs.size).filterMap λ(m:Nat)=>xs[(((xs.size:Int)-1)+ (m:Int)* (-1)).toNat]?).toArray=xs.toList.reverse.toArray:=by
 congr 1
 have e:∀(l:List Value),((List.range l.length).filterMap λ(m:Nat)=>l[(((l.length:Int)-1)+ (m:Int)* (-1)).toNat]?)=l.reverse:=by
  intro l
  refine List.ext_getElem? λi=>?_
  have hm:((List.range l.length).filterMap λ(m:Nat)=>l[(((l.length:Int)-1)+ (m:Int)* (-1)).toNat]?)=(List.range l.length).map λ(m:Nat)=>l.getD (l.length-1-m) .none:=by
   have key:∀ms:List Nat,(∀m∈ms,m<l.length)->(ms.filterMap λ(m:Nat)=>l[(((l.length:Int)-1)+ (m:Int)* (-1)).toNat]?)=ms.map λ(m:Nat)=>l.getD (l.length-1-m) .none:=by
    intro ms
    induction ms with
    |nil=>intro _;rfl
    |cons m r ih=>
     intro h
     have hm:=h m vaq
     have e1:l[(((l.length:Int)-1)+ (m:Int)* (-1)).toNat]?=some (l.getD (l.length-1-m) .none):=by
      rw[show(((l.length:Int)-1)+ (m:Int)* (-1)).toNat=l.length-1-m by omega,List.getD_eq_getElem?_getD,vao (by omega)]
      rfl
     rw[vb5,e1,vav,ih λx hx=>h x (vai _ hx)]
   exact key _ λm hm=>vd3.mp hm
  rw[hm,vbm]
  by_cases hi:i<l.length
  .rw[List.getElem?_range hi,List.getElem?_reverse hi,vb2,List.getD_eq_getElem?_getD,vao (by omega)]
   rfl
  .rw[List.getElem?_eq_none (by rw[List.length_range];omega),List.getElem?_eq_none (by rw[vbl];omega)]
   rfl
 have:=e xs.toList
 simp only[vc0,Array.getElem?_toList]at this
 exact this
theorem getItem_tuple_rev{t sl:Addr}{items:Array Value}{vk:Value}{Q:Value->Shared->Prop}(ht:IsTup s.heap t items)(hs:s.heap.IsSliceOf sl .none .none vk)(pk:IsPart vk (some (-1)))
 (h:Q (.ref s.heap.objs.size) {s with heap:=s.heap.push {cls:=.type "tuple",data:=.seq items.toList.reverse.toArray}})
 (hsz:items.size<=sizeLine):wpAny (model prog w) A (getItem (.ref t) (.ref sl)) Q E s:=by
 have htake:sizeOk (.seq items.toList.reverse.toArray):=by
  show items.toList.reverse.toArray.size<=sizeLine
  rw[vag,vbl,vc0]
  exact hsz
 obtain⟨os,hos,hcs,hds⟩:=id hs
 have hTs:s.TypeIs (.ref sl) "slice":=⟨os,hos,hcs⟩
 unfold getItem
 try with_reducible refine vbd ?_
 first|refine vab (vae ?_)|skip
 refine vab (wpAny_sequenceKey ht.typeIs (by decide) ?_)
 refine vab (vbs (name:=Str.ofString "__getitem__") ht.typeIs vaz
  (vco vaz ht.typeIs entry_tuple_getitem ?_ (args_tuple_getitem _ _)))
 show wpAny _ _ (Builtin.Tuple.tupleItemsOf (.ref t) >>= _) _ _ s
 refine vab (tupleItemsOf_ ht ?_)
 refine vab (veh hTs ?_)
 rw[if_pos (by decide)]
 refine vab (zdn hs pk ?_)
 have hno:¬((((items.size:Int)-1)==0&& (-1:Int)==1&&items.size==items.size)=true):=by
  intro q
  rw[vaa,vaa]at q
  exact absurd q.1.2 (by decide)
 show wpAny _ _ (if(((items.size:Int)-1)==0&& (-1:Int)==1&&items.size==items.size)=true then _ else _) _ _ s
 rw[if_neg hno,zon]
 first
  |exact vab (m:=Builtin.Tuple.tupleExact _) (vbg (vae ⟨_,rfl,vae h⟩) htake)
  |exact vab (m:=Builtin.Tuple.tupleExact _) (vbg (vab (vae (vae ⟨_,rfl,vae h⟩))) htake)
  |exact vab (vab (m:=Builtin.Tuple.tupleExact _) (vbg (vae (vae ⟨_,rfl,vae h⟩)) htake))
  |exact vab (vab (m:=Builtin.Tuple.tupleExact _) (vbg (vae ⟨_,rfl,vae h⟩) htake))
end
end HT
namespace L2
open PySem PySem.Spec PyProof.Rows
section
variable{X:Cx}{e k:Expr}{te:TE}{tk:TO}{pos p2:Pos}
theorem zvi(he:PE X e te)(hk:PO X (some k) tk):PE X (.Subscript e (.Slice none none (some k) p2) pos) (λσ H Q=>te σ H λx H1=>tk σ H1 λo H2=>∃a xs,x=.ref a/\o=some (-1)/\SqT X.K H2 a xs/\∀p,H2 p=none->Q (.ref p) (upd H2 p (.tup xs.reverse))):=by
 intro pins s σ H Q I h
 refine Subscript_ (thn (he pins s σ H _ I h) λv s1 z9=>z9.el λx H1 I1 r1 q1=>?_)
 refine wpAny_Slice ?_
 rw[evalPart_none]
 refine vae (vae ?_)
 refine thn (hk pins s1 σ H1 _ I1 q1) λvk s2 hq0=>?_
 obtain⟨o,H2,I2,pk,q2⟩:=hq0
 obtain⟨a,xs,rfl,rfl,hx,q⟩:=q2
 cases r1
 have I4:Inv X pins σ H2 {s2 with heap:=s2.heap.push {cls:=.type "slice",data:=.fields #[.none,.none,vk]}}:=I2.kept (t':=s2.toks) λb ob q=>vac _ q
 obtain⟨its,r,ht,hz⟩:=I4.tuple hx
 have hlen:its.toArray.size=xs.length:=by rw[vag];exact r.length.symm
 show wpAny (model X.prog X.w) X.A (subscriptTail e (.Slice none none (some k) p2) (.ref a) (.ref s2.heap.objs.size)) (EP X pins σ Q) X.xe {s2 with heap:=s2.heap.push {cls:=.type "slice",data:=.fields #[.none,.none,vk]}}
 refine tail_any (ops:=[.ref a,.ref s2.heap.objs.size]) ht.typeIs vaz.lookup ?_ (by with_unfolding_all rfl)
 refine HT.getItem_tuple_rev ht (Heap.IsSliceOf.new ..) pk ?_ (by rw[hlen];exact hz)
 refine⟨.ref _,_,I4.laid (t':=s2.toks) (o:=.tup xs.reverse) (λb ob q=>vac _ q) (vad _) ?_,rfl,q _ (I4.hok.fresh (vad _))⟩
 exact⟨by rw[vbl];exact hz,_,r.reverse,zbe.new _ _⟩
end
section
variable{X:Cx}{e f:Expr}{apos cpos p:Pos}{ty tx:TE}{g:Str}{D:Addr}{kvs:List (Key×V)}{vs:List (Key×Value)}{o:Obj}{es:Array DictEntry}{ep:Nat}
theorem zrs(hg:Gl X g)(hdb:(g==("__debug__" : Str))=false)(hm:X.mg g=some (.ref D))(hD:(D==sysModules)=false)(hb:X.base.get? D=some o)(hx:o.ExactDict)(hd:o.data=.dict es ep)(hk:PySem.KeysOf (zao X.prog X.w) es)(hp:PySem.Pairs (zao X.prog X.w) es.toList vs)(hn:(vs.map (·.1)).Nodup)(rel:KV kvs vs)
 (he:PE X e ty) (hf:PE X f tx) (m:M2 X (.Name g p) "get" apos e f cpos) :
 PE X (.Call (.Attribute (.Name g p) "get" apos) [e,f] [] cpos) (λσ H Q=>ty σ H λy H1=>tx σ H1 λz H2=>∃k,y=kV k/\Q ((valV kvs k).getD z) H2):=by
 intro pins s σ H Q I h
 have dd:∀{s':Shared}{H':Hp},Inv X pins σ H' s'->s'.heap.DictOf (zao X.prog X.w) D vs:=λI'=>⟨o,es,ep,(I'.bs D o hb).1,hx,hd,hk,hp,hn⟩
 refine wpAny_Call_method m.base m.few m.line PySem.F.plainAttrs_dict PySem.F.slot_dict_get PySem.F.type_dict_get (thn (zht hg hm (v:=.ref D) rfl hdb pins s σ H (λx H1=>x=.ref D/\ty σ H1 λy H1=>tx σ H1 λz H2=>∃k,y=kV k/\Q ((valV kvs k).getD z) H2) I ⟨rfl,h⟩) λu s1 z9=>z9.el λx H1 I1 rx hq0=>?_)
 obtain⟨ex,q1⟩:=hq0
 subst ex
 obtain rfl:u=Value.ref D:=rx
 refine⟨(dd I1).typeIs,λb q=>?_,?_⟩
 .cases q
  exact⟨o,(I1.bs D o hb).1,hx.2.1⟩
 rw[m.trees]
 refine Calls.callWith_builtin rfl (Calls.evalArgs_plain (Calls.spliced_cons (thn (he pins s1 σ H1 _ I1 q1) λiv s2 z9=>z9.el λy H2 I2 ry q2=>
  Calls.spliced_cons (thn (hf pins s2 σ H2 _ I2 q2) λfv s3 z9=>z9.el λz H3 I3 rz ⟨k,ey,q3⟩=>Calls.spliced_nil ?_))))
 subst ey
 exact call_meetsIn PySem.F.slot_dict_get (dd I3).typeIs PySem.F.entry_dict_get (PySem.F.args_dict_get_3 _ _ _) (meets_dict_get_default (zao X.prog X.w) D (kV_is ry) hD fv) ⟨_,(dd I3).mapOf,⟨_,H3,I3.tok _,(rel.val k).getD rz,q3⟩⟩
end
end L2
namespace RF
open PySem PySem.Spec PyProof.Rows L2
section
variable{X:Cx}{a k:Expr}{x y:E}{cl:Call}{pos p2:Pos}
theorem zvj(ha:SE X a (ev cl x))(hk:SE X k (ev cl y)):SE X (.Subscript a (.Slice none none (some k) p2) pos) (ev cl (.bi .rev (.cons x (.cons y .nil)))):=
 (zvi ha (zls hk)).imp λσ H Q z9=>z9.el λρ h m w h' f r e k=>by
   refine zaa e λz h1 e1 e2=>?_
   refine zaa e1 λu h2 e3 e4=>?_
   refine zaa e4 λu2 h3 e5 e6=>?_
   refine zaa e5 λu3 h4 e7 e8=>?_
   refine zaa e8 λu4 h5 e9 e10=>?_
   cases e9
   cases e10
   cases e6
   have e2:revW [u,u3] h1=.ok w h':=e2
   unfold revW at e2
   split at e2
   .rename_i ws hq
    cases hq
    cases e2
    refine(.mk f r e3 λv H1 m1 s1 r1 q1=>(.mk (f.stp s1) r1 e7 rfl λH2 m2 s2 r2=>?_))
    cases q1.stp s2 with
    | @tup a vs _ sq rs=>
     exact⟨_,_,rfl,rfl,sq,λp hp=>Wants.tuple (λv' H' m' s' r' q'=>k v' H' m' ((s1.trans s2).trans s') r' q') r2 rs.rev hp⟩
   .cases e2
theorem zrt{g:Str}{D:Addr}{ps:List W}{kvs:List (Key×V)}{kws:List (Key×W)}{vs:List (Key×Value)}{o:Obj}{es:Array DictEntry}{ep:Nat}{b:Expr}{z:E}{apos p:Pos}
 (hg:Gl X g) (hdb:(g==("__debug__" : Str))=false) (hm:X.mg g=some (.ref D)) (hD:(D==sysModules)=false) (hbs:X.base.get? D=some o) (hx:o.ExactDict) (hd:o.data=.dict es ep) (hk:PySem.KeysOf (zao X.prog X.w) es) (hp:PySem.Pairs (zao X.prog X.w) es.toList vs) (hn:(vs.map (·.1)).Nodup) (rel:KV kvs vs)
 (hdc:decK ps=some kws) (hr:∀m n H,KReps X.K m n H kvs kws) (ha:SE X a (ev cl y)) (hbb:SE X b (ev cl z)) (hb:zfv (.Name g p)=true) (hs:zaq a=true) (hs2:zaq b=true) (hl:(apos.endLine==pos.line)=true) :
 SE X (.Call (.Attribute (.Name g p) "get" apos) [a,b] [] pos) (ev cl (.bi .cget (.cons (.cst (.tup ps)) (.cons y (.cons z .nil))))):=by
 have tr:backTo pos (starEach [a,b] X.env)=[(false,eval a X.env),(false,eval b X.env)]:=by
  rw[zad hs,zad hs2];rfl
 refine(zrs hg hdb hm hD hbs hx hd hk hp hn rel ha hbb ⟨zlu hb,by rw[tr];rfl,hl,tr⟩).imp λσ H Q z9=>z9.el λρ h m w h' f r e k=>?_
 refine zaa e λu h1 e1 e2=>?_
 refine zaa e1 λu1 h2 e3 e4=>?_
 cases e3
 refine zaa e4 λu2 h3 e5 e6=>?_
 refine zaa e5 λu3 h4 e7 e8=>?_
 refine zaa e8 λu4 h5 e9 e10=>?_
 refine zaa e9 λu5 h6 e11 e12=>?_
 refine zaa e12 λu6 h7 e13 e14=>?_
 cases e13
 cases e14
 cases e10
 cases e6
 have e2:cgetW [.tup ps,u3,u5] h1=.ok w h':=e2
 simp only[cgetW,hdc]at e2
 split at e2
 .rename_i kvs' kk hkv hkk
  cases hkv
  cases e2
  refine(.mk f r e7 λv H1 m1 s1 r1 q1=>(.mk (f.stp s1) r1 e11 λv2 H2 m2 s2 r2 q2=>?_))
  refine⟨kk,zlr q1 hkk,?_⟩
  rcases(hr m2 _ H2).look kk with⟨z1,z2⟩|⟨v',w',z1,z2,z3⟩
  .rw[z1];rw[z2]at k;exact k _ H2 m2 (s1.trans s2) r2 q2
  .rw[z1];rw[z2]at k;exact k _ H2 m2 (s1.trans s2) r2 z3
 .cases e2
end
end RF
namespace XR
open PySem PySem.Spec PyProof.Rows
section
variable{M:Model}{A:Around}{E:Value->Shared->Prop}{s:Shared}{base:Heap}{env:Env}{outer:List Env}{L e:Addr}{c:Value}{dx:Option Addr}{vs:Array Value}{sl:Array (Option Value)}
structure Nt(fs ts:List Addr)(h h':Heap):Prop where
 keep:∀b o,h.get? b=some o->b∉fs->b∉ts->h'.get? b=some o
 slot:∀b o,h.get? b=some o->b∈fs->b∉ts->∃sl,h'.get? b=some {o with slots:=sl}
 size:h.objs.size<=h'.objs.size
theorem Nt.trans{fs ts:List Addr}{h h1 h2:Heap}(a:Nt fs ts h h1)(b:Nt fs ts h1 h2):Nt fs ts h h2:=
 ⟨λx o q n m=>b.keep x o (a.keep x o q n m) n m,λx o q n m=>by
  obtain⟨s1,q1⟩:=a.slot x o q n m
  obtain⟨s2,q2⟩:=b.slot x _ q1 n m
  exact⟨s2,q2⟩,vas a.size b.size⟩
theorem Nt.mono{fs ts ts':List Addr}{h h':Heap}(a:Nt fs ts h h')(k:∀b∈ts,b∈ts'):Nt fs ts' h h':=
 ⟨λx o q n m=>a.keep x o q n λz=>m (k x z),λx o q n m=>a.slot x o q n λz=>m (k x z),a.size⟩
theorem Nt.upd{fs:List Addr}{h:Heap}{b:Addr}{f:Obj->Obj}:Nt fs [b] h (h.update b f):=by
 have k:∀x,x∉[b]->(h.update b f).get? x=h.get? x:=λx m=>vbx _ _ λz=>m (by simp[z])
 exact⟨λx o q _ m=>(k x m).trans q,λx o q _ m=>⟨o.slots,(k x m).trans q⟩,Nat.le_of_eq (Heap.size_after_update ..).symm⟩
theorem Nt.push{fs ts:List Addr}{h h':Heap}{o:Obj}(a:Nt fs ts h h'):Nt fs ts h (h'.push o):=
 ⟨λx ob q n m=>vac _ (a.keep x ob q n m),λx ob q n m=>by
  obtain⟨s1,q1⟩:=a.slot x ob q n m
  exact⟨s1,vac _ q1⟩,by rw[vb1];exact vdd a.size⟩
theorem zpy{h:Heap}{b:Addr}{c:Value}{dx:Option Addr}{vs:Array Value}{sl:Array (Option Value)}{f:Array Value->Array Value}(q:h.get? b=some ⟨c,dx,.fields vs,sl⟩) :
 (h.update b (Obj.mapFields f)).get? b=some ⟨c,dx,.fields (f vs),sl⟩:=vce (Obj.mapFields f) q rfl
theorem zl9{hd:Value}{more:Bool}{Q:Unit->Shared->Prop}(hfr:A.frames=some (env::outer))(hl:s.heap.FunFrames base (env::outer))(hf:env.frame=some L)
 (he:s.heap.get? e=some ⟨c,dx,.fields vs,sl⟩) (hne:e∉(env::outer).filterMap (·.frame)) (hz:1<vs.size)
 (h:∀h' ts,Nt ((env::outer).filterMap (·.frame)) [e] s.heap h'->h'.get? e=some ⟨c,dx,.fields (vs.setIfInBounds 1 (.ref s.heap.objs.size)),sl⟩->h'.get? s.heap.objs.size=some ⟨.type "traceback",none,.fields ts,#[]⟩->ts[3]?=some (rawInt L)->Q () {s with heap:=h'}) :
 wpAny M A (do let a <-frameOf env;let pl <-entryPlaceOf L more;let b <-EntryCells.newEntry hd a .none (rawInt L) .none pl;setField (.ref e) 1 b) Q E s:=by
 refine vab (wpAny_frameOf_fun hfr hl hf λh1 so=>vab (wpAny_entryPlaceOf λpl hpl=>?_))
 have n1:Nt ((env::outer).filterMap (·.frame)) [e] s.heap h1:=⟨λb o q n _=>(so.2.1 b n).trans q,λb o q _ _=>so.2.2 b o q,Nat.le_of_eq so.1.symm⟩
 have e1:h1.get? e=some ⟨c,dx,.fields vs,sl⟩:=(so.2.1 e hne).trans he
 unfold EntryCells.newEntry newFields
 refine vab (vbg ?_ (hpl.sizeOk5 _ _ _ _ _))
 refine vd4 (vac _ e1) rfl hz ?_
 have hsz:h1.objs.size=s.heap.objs.size:=so.1
 have hlt:e<h1.objs.size:=vaj e1
 rw[hsz]
 refine h _ ([hd,.ref L,.none,rawInt L,.none]++(if pl.isEmpty then List.replicate 6 Value.none else pl)).toArray (n1.push.trans Nt.upd) (zpy (vac _ e1)) ?_ ?_
 .rw[vbx _ _ (by rw[<-hsz];exact vau hlt),<-hsz]
  exact vat _ rfl
 .first|(simp;done)|(rcases hpl with rfl|⟨_,_,_,_,_,_,_,rfl⟩<;>simp)
structure Ex(h:Heap)(e T C:Addr)(dx:Option Addr)(fl:Option Value):Prop where
 ex:∃vs sl,h.get? e=some ⟨.ref C,dx,.fields vs,sl⟩/\match fl with
  |none=>vs[1]?=some .none
  |some f=>vs[1]?=some (.ref T)/\T≠e/\∃ts,h.get? T=some ⟨.type "traceback",none,.fields ts,#[]⟩/\ts[3]?=some f
theorem note{C T:Addr}{fl:Option Value}{Q:Unit->Shared->Prop}(hfr:A.frames=some (env::outer))(hl:s.heap.FunFrames base (env::outer))(hf:env.frame=some L)
 (x:Ex s.heap e T C dx fl) (hne:e∉(env::outer).filterMap (·.frame)) (hnt:T∉(env::outer).filterMap (·.frame)) (hfl:fl=none\/fl=some .none)
 (h:∀h',Nt ((env::outer).filterMap (·.frame)) [e,T] s.heap h'->Ex h' e s.heap.objs.size C dx (some (rawInt L))->Q () {s with heap:=h'}):wpAny M A (noteFrame (.ref e) env) Q E s:=by
 obtain⟨vs,sl,he,hx⟩:=x.ex
 unfold noteFrame
 simp only[hf]
 rcases hfl with rfl|rfl
 .have h1:vs[1]?=some .none:=hx
  refine vab (va9 he rfl h1 ?_)
  rw[if_neg (by decide)]
  refine zl9 hfr hl hf he hne (vbt.mp h1).1 λh' ts n q1 q2 q3=>h h' (n.mono λb z=>by simp at z;simp[z]) ⟨_,_,q1,?_,?_,_,q2,q3⟩
  .rw[Array.getElem?_setIfInBounds_self_of_lt (vbt.mp h1).1]
  .exact vbp (vaj he)
 .obtain⟨h1,hte,ts,ht,h3⟩:=(show vs[1]?=some (.ref T)/\T≠e/\∃ts,s.heap.get? T=some ⟨.type "traceback",none,.fields ts,#[]⟩/\ts[3]?=some Value.none from hx)
  refine vab (va9 he rfl h1 ?_)
  rw[if_pos (show(Value.ref T != Value.none)=true from by simp)]
  refine vab (va9 ht rfl h3 ?_)
  rw[if_neg (show ¬((Value.none==rawInt L)=true)from by simp[rawInt])]
  refine vab (vd4 ht rfl (vbt.mp h3).1 ?_)
  have n0:Nt ((env::outer).filterMap (·.frame)) [T] s.heap (s.heap.update T (Obj.mapFields (·.setIfInBounds 3 .none))):=Nt.upd
  have sz:(s.heap.update T (Obj.mapFields (·.setIfInBounds 3 .none))).objs.size=s.heap.objs.size:=Heap.size_after_update ..
  refine zl9 (base:=base) hfr (hl.of_keeps λb o q nf=>?_) hf (n0.keep e _ he hne (by simpa using vbo hte)) hne (vbt.mp h1).1 λh' ts' n q1 q2 q3=>?_
  .by_cases hb:b=T
   .subst hb;rw[ht]at q;cases q;exact absurd rfl (nf ts)
   .exact⟨o,(vbx _ _ (vbo hb)).trans q,rfl⟩
  .rw[sz]at q1 q2
   refine h h' ((n0.mono λb z=>by simp at z;simp[z]).trans (n.mono λb z=>by simp at z;simp[z])) ⟨_,_,q1,?_,?_,_,q2,q3⟩
   .rw[Array.getElem?_setIfInBounds_self_of_lt (vbt.mp h1).1]
   .exact vbp (vaj he)
theorem land{C T:Addr}{f:Value}{fs:List Addr}{Q:Unit->Shared->Prop}(x:Ex s.heap e T C dx (some f))(h:∀h',Nt fs [T] s.heap h'->Ex h' e T C dx (some .none)->Q () {s with heap:=h'}):wpAny M A (setFlight (.ref e) none) Q E s:=by
 obtain⟨vs,sl,he,h1,hte,ts,ht,h3⟩:=x.ex
 unfold setFlight
 refine vab (va9 he rfl h1 ?_)
 rw[if_pos (show(Value.ref T != Value.none)=true from by simp)]
 have l3:=(vbt.mp h3).1
 refine vd4 ht rfl l3 (h _ Nt.upd ⟨vs,sl,(vbx _ _ hte).trans he,h1,hte,_,zpy ht,?_⟩)
 rw[Array.getElem?_setIfInBounds_self_of_lt l3];rfl
theorem leave{C T:Addr}{fl:Option Value}{Q:Unit->Shared->Prop}(hfr:A.frames=some (env::outer))(hl:s.heap.FunFrames base (env::outer))(hf:env.frame=some L)
 (x:Ex s.heap e T C dx fl) (hne:e∉(env::outer).filterMap (·.frame)) (hnt:T∉(env::outer).filterMap (·.frame)) (hfl:fl=none\/fl=some .none)
 (h:∀h',Nt ((env::outer).filterMap (·.frame)) [e,T,s.heap.objs.size] s.heap h'->Ex h' e s.heap.objs.size C dx (some .none)->Q () {s with heap:=h'}):wpAny M A (leaving env (.ref e)) Q E s:=by
 unfold leaving
 refine vab (note hfr hl hf x hne hnt hfl λh1 n1 x1=>land (fs:=(env::outer).filterMap (·.frame)) x1 λh2 n2 x2=>h h2 ((n1.mono λb z=>?_).trans (n2.mono λb z=>?_)) x2)
 .simp at z;rcases z with z|z<;>simp[z]
 .simp at z;simp[z]
end
end XR
namespace L2
open PySem PySem.Spec PyProof.Rows
noncomputable def excR(C:Addr)(dx:Option Addr)(a:Addr):HO:=.ext λh=>∃vs sl,h.get? a=some ⟨.ref C,dx,.fields vs,sl⟩
section
variable{P:Program}{w:World}{H:Hp}{h:Heap}{a C:Addr}{dx:Option Addr}{vs:Array Value}{sl:Array (Option Value)}
theorem zid(e:h.get? a=some ⟨.ref C,dx,.fields vs,sl⟩):ObjOk P w H h a (excR C dx a):=⟨⟨vs,sl,e⟩,⟨_,e⟩,λ_ _ ⟨v',s',q⟩ k=>⟨v',s',k _ q⟩⟩
theorem zma(ok:HOk P w H h)(e:H a=some (excR C dx a)):∃vs sl,h.get? a=some ⟨.ref C,dx,.fields vs,sl⟩:=(ok a _ e).1
end
noncomputable def CX1(P:Program)(w:World):CXT:=λouter H s E e s'=>∃x T C dx H',e=.ref x/\s'.os=s.os/\AllBare s'.gens/\Un (frs outer) [] H H' s.heap s'.heap/\HOk P w H' s'.heap/\XR.Ex s'.heap x T C dx (some .none)/\
 s.heap.objs.size<=x/\s.heap.objs.size<=T/\H' x=some (excR C dx x)/\H' T=none/\E (.ref C) dx H'
noncomputable def FlyIn(X:Cx)(E:XK)(e:Value)(s':Shared):Prop:=∃x T C dx fl pins σ H',e=.ref x/\Inv X pins σ H' s'/\XR.Ex s'.heap x T C dx fl/\((fl=none/\T=x)\/(fl=some .none/\H' T=none))/\
 X.s₀.heap.objs.size<=x/\X.s₀.heap.objs.size<=T/\H' x=some (excR C dx x)/\E (.ref C) dx H'
section
variable{X:Cx}{E:XK}{pins:List (Addr×Obj)}{σ:St}{H:Hp}{s:Shared}
theorem Inv.nofr{b:Addr}{c:Value}{d:Option Addr}{vs:Array Value}{sl:Array (Option Value)}(I:Inv X pins σ H s)(e:s.heap.get? b=some ⟨c,d,.fields vs,sl⟩):b∉frs X.stack:=λhb=>by
 obtain⟨_,o,ho,nf⟩:=I.stack.mem hb
 rw[e]at ho;cases ho
 exact nf vs rfl
theorem Ex.nofr{x T C:Addr}{dx:Option Addr}{fl:Option Value}(I:Inv X pins σ H s)(q:XR.Ex s.heap x T C dx fl)(h:(fl=none/\T=x)\/(fl=some .none/\H T=none)):x∉frs X.stack/\T∉frs X.stack:=by
 obtain⟨vs,sl,he,r⟩:=q.ex
 refine⟨I.nofr he,?_⟩
 rcases h with⟨_,rfl⟩|⟨rfl,_⟩
 .exact I.nofr he
 .obtain⟨_,_,ts,ht,_⟩:=r
  exact I.nofr ht
theorem HOk.noted{fs ts:List Addr}{h':Heap}{x C:Addr}{dx:Option Addr}{vs:Array Value}{sl:Array (Option Value)}{P:Program}{w:World}(ok:HOk P w H s.heap)(n:XR.Nt fs ts s.heap h')(hf:∀b∈fs,H b=none)(ht:∀b∈ts,b=x\/H b=none)
 (hx:H x=some (excR C dx x)) (e:h'.get? x=some ⟨.ref C,dx,.fields vs,sl⟩):HOk P w H h':=λb u q=>by
 by_cases hb:b=x
 .subst hb
  rw[hx]at q;cases q
  exact zid e
 .refine(ok b u q).stay (λc v hc k=>n.keep c v k ?_ ?_) (λ_ z=>z) λ_ _ z=>z
  .intro z
   have:=hf c z
   rcases hc with rfl|hc
   .rw[q]at this;cases this
   .rw[hc]at this;cases this
  .intro z
   rcases ht c z with rfl|z
   .rcases hc with rfl|hc
    .exact hb rfl
    .rw[hx]at hc;cases hc
   .rcases hc with rfl|hc
    .rw[q]at z;cases z
    .rw[hc]at z;cases z
theorem zru{e:Value}{s':Shared}{Er:Value->Shared->Prop}(hs:X.stack=X.env::X.outer)(hf:X.env.frame=some X.env.locals)(hx0:X.ex=[])(q:FlyIn X E e s') :
 wpAny (model X.prog X.w) X.A (leaving X.env e) (λ_ s''=>CX1 X.prog X.w X.outer X.H₀ X.s₀ E e s'') Er s':=by
 obtain⟨x,T,C,dx,fl,pins,σ,H',rfl,I,ex,hfl,lx,lT,hx,hE⟩:=q
 obtain⟨nx,nT⟩:=Ex.nofr I ex hfl
 have fre:=I.stkFree
 have stk:=I.stack
 have sub:=I.stkSub
 rw[hs]at nx nT fre stk sub
 refine XR.leave (base:=X.base) (L:=X.env.locals) (by rw[I.ok.frames,hs]) stk hf ex nx nT (hfl.elim (λz=>.inl z.1) λz=>.inr z.1) λh' n ex'=>?_
 have lt0:∀b o,X.s₀.heap.get? b=some o->b<X.s₀.heap.objs.size:=λb o q=>vaj q
 have sz:=I.sz
 have nts:∀b o,X.s₀.heap.get? b=some o->b∉[x,T,s'.heap.objs.size]:=λb o q z=>by
  have:=lt0 b o q
  simp at z
  rcases z with z|z|z<;>rw[z]at this
  .exact absurd lx (Nat.not_le.mpr this)
  .exact absurd lT (Nat.not_le.mpr this)
  .exact absurd sz (Nat.not_le.mpr this)
 have nL:∀b o,X.s₀.heap.get? b=some o->b≠X.env.locals:=λb o q=>vau (vah (lt0 b o q) I.ok.above)
 obtain⟨vs,sl,he,r⟩:=ex'.ex
 have hb:=I.base
 rw[hx0]at hb
 refine⟨x,s'.heap.objs.size,C,dx,H',rfl,I.os,I.bare,⟨λb o q z hb1 hb2=>?_,λb o q z hb1 hb2=>?_,hb.free,λb o q hb2=>?_,hb.tups,hb.frzs,hb.tbls⟩,HOk.noted I.hok n fre (λb z=>?_) hx he,ex',lx,sz,hx,I.hok.fresh (vad _),hE⟩
 .refine n.keep b o (hb.keep b o q z hb1 hb2) (λm=>?_) (nts b o q)
  rcases va0.mp (sub b m)with m|m
  .exact nL b o q m
  .exact hb1 m
 .obtain⟨s1,q1⟩:=hb.slot b o q z hb1 hb2
  obtain⟨s2,q2⟩:=n.slot b _ q1 (by show b∈(X.env::X.outer).filterMap (·.frame);rw[vb5,hf];exact vai _ hb1) (nts b o q)
  exact⟨s2,q2⟩
 .obtain⟨o',q1⟩:=hb.there b o q hb2
  by_cases m:b∈(X.env::X.outer).filterMap (·.frame)
  .obtain⟨s2,q2⟩:=n.slot b o' q1 m (nts b o q)
   exact⟨_,q2⟩
  .exact⟨o',n.keep b o' q1 m (nts b o q)⟩
 .simp at z
  rcases z with rfl|rfl|rfl
  .exact .inl rfl
  .rcases hfl with⟨_,z⟩|⟨_,z⟩
   .exact .inl z
   .exact .inr z
  .exact .inr (I.hok.fresh (vad _))
theorem pass1:zer (CX1 X.prog X.w) (X.wish (FlyIn X E)) E:=by
 intro pins σ H s e s' I q
 obtain⟨x,T,C,dx,H',rfl,os,bare,un,hok,ex,lx,lT,hx,hT,hE⟩:=q
 have I:=I.unwish
 obtain⟨hh,g,d,t,os'⟩:=s'
 obtain rfl:os'=s.os:=os
 exact⟨x,T,C,dx,some .none,pins,σ,H',rfl,I.call (h':=hh) (g':=g) (d':=d) (t':=t) (ch:=[]) un hok bare (λb z=>absurd z (by simp)),ex,.inr ⟨rfl,hT⟩,vas I.sz lx,vas I.sz lT,hx,hE⟩
theorem zmb{C:Addr}{x:Str}{p cpos pos:Pos}(M:MkE X.K C)(hc:X.calm=true)(hg:Gl X x)(hm:X.mg x=some (.ref C))(hdb:(x==("__debug__" : Str))=false:=by decide) :
 PS (X.wish (FlyIn X E)) (.Raise (some (.Call (.Name x p) [] [] cpos)) none pos) (λ_ _ H=>∀a,H a=none->E (.ref C) none (upd H a (excR C none a))):=by
 intro pins s σ H D I h
 have I:=I.unwish
 obtain⟨nm,qn,N,bs,bm,hd,sn,sub,ab,col,dd,k0,k1,k2,k3,k5,hC,T⟩:=XL.excCls_of I.kIn M.cls
 have hb:bm.contains (.type "BaseException")=true:=T.hasType (by decide +kernel)
 have ev:wpAny (model X.prog X.w) X.A (eval (.Call (.Name x p) [] [] cpos) X.env) (λv s1=>∃e t,v=.ref e/\s1.heap.get? C=some (excClassObj nm qn C N bs bm hd sn sub ab col dd k0 k1 k2 k3 k5 "ValueError.__new__")/\s1.heap.get? e=some (XL.excObj C none t)/\FlyIn X E (.ref e) s1) (FlyIn X E) s:=by
  refine vcb (zbl I hg hm ?_ hdb)
  refine PySem.W.callWith_K0 I.kIn M.kp (XL.make_exc0 I.kIn M.cls M.init (vbu _) λh' t kk he=>?_)
  have hle:s.heap.objs.size<=s.heap.objs.size+1:=vdm _
  exact⟨_,t,rfl,kk _ _ hC,he,_,_,C,none,none,pins,σ,_,rfl,I.laid (t':=s.toks) kk hle (zid he),⟨_,_,he,rfl⟩,.inl ⟨rfl,rfl⟩,vas I.sz hle,vas I.sz hle,zag,h _ (I.hok.fresh hle)⟩
 show wpAny (model X.prog X.w) X.A (exec (.Raise (some (.Call (.Name x p) [] [] cpos)) none pos) X.env) _ (FlyIn X E) s
 rw[arm_exec_Raise]
 first
  |exact vab (vbj (wpAny_raiseStmt_made_sub (C:=C) hb (I.ok.hd hc) (vab (thn ev λv s1 q=>vab (vbj (vae q))))))
  |(simp only[evalOpt,Option.map];exact vab (vbj (wpAny_raiseStmt_made_sub (C:=C) hb (I.ok.hd hc) (vab (thn ev λv s1 q=>vab (vbj (vae q)))))))
  |(show wpAny _ _ (do standAt pos;raiseStmt X.env (some (do let v <-eval (.Call (.Name x p) [] [] cpos) X.env;standAt pos;pure v)) none) _ _ s;exact vab (vbj (wpAny_raiseStmt_made_sub (C:=C) hb (I.ok.hd hc) (vab (thn ev λv s1 q=>vab (vbj (vae q)))))))
end
structure At(X:Cx)(pins:List (Addr×Obj))(σ:St)(H:Hp)(s:Shared)(x T C:Addr)(dx:Option Addr)(f:Value):Prop where
 I:Inv X pins σ H s
 ex:XR.Ex s.heap x T C dx (some f)
 hx:H x=some (excR C dx x)
 hT:H T=none
 lx:X.s₀.heap.objs.size<=x
 lT:X.s₀.heap.objs.size<=T
 pT:∀p∈X.pn++pins,p.1≠T
section
variable{X:Cx}{pins:List (Addr×Obj)}{σ:St}{H:Hp}{s:Shared}{x T C:Addr}{dx:Option Addr}{f f':Value}
theorem Inv.noLoc{b:Addr}{c:Value}{d:Option Addr}{vs:Array Value}{sl:Array (Option Value)}(I:Inv X pins σ H s)(e:s.heap.get? b=some ⟨c,d,.fields vs,sl⟩):b≠X.env.locals/\∀y c,X.env.cells.lookup y=some c->c≠b:=by
 refine⟨?_,?_⟩
 .rintro rfl
  obtain⟨m,⟨o,es,ep,ho,hd,_⟩,_⟩:=I.loc
  rw[e]at ho;cases ho
  cases hd
 .rintro y c' hc rfl
  obtain⟨v,o,ho,hd⟩:=I.cell y c' hc
  rw[e]at ho;cases ho
  cases hd
theorem At.step{h':Heap}{ts:List Addr}{T':Addr}(a:At X pins σ H s x T C dx f)(n:XR.Nt (frs X.stack) ts s.heap h')(hts:∀b∈ts,b=x\/b=T\/b=s.heap.objs.size)(hT':T'=T\/T'=s.heap.objs.size)
 (ex':XR.Ex h' x T' C dx (some f')):At X pins σ H {s with heap:=h'} x T' C dx f':=by
 obtain⟨vs,sl,he,_⟩:=ex'.ex
 obtain⟨vs0,sl0,he0,_,_,ts0,ht0,_⟩:=a.ex.ex
 have I:=a.I
 have fr:∀b,s.heap.objs.size<=b->H b=none:=λb z=>I.hok.fresh z
 have np:∀p∈X.pn++pins,p.1<s.heap.objs.size:=λp hp=>vaj (I.pin p hp).1
 have fx:∀b,H b=none->b≠x:=λb z q=>by rw[q,a.hx]at z;cases z
 have un:∀b∈ts,b≠x->H b=none:=λb hb q=>by
  rcases hts b hb with z|z|z
  .exact absurd z q
  .rw[z];exact a.hT
  .rw[z];exact fr _ (vad _)
 have I':Inv X pins σ H {s with heap:=h'}:=by
  refine I.call (h':=h') (g':=s.gens) (d':=s.drawn) (t':=s.toks) (ch:=ts) ⟨λb o q z hb hc=>n.keep b o q hb hc,λb o q z hb hc=>n.slot b o q hb hc,λb o q z _=>z,λb o q hc=>?_,λ_ _ q=>q,λ_ _ _ q=>q,λb ps q=>⟨#[],by rw[q];simp⟩⟩
   (HOk.noted I.hok n I.stkFree (λb z=>?_) a.hx he) I.bare λb hb=>?_
  .by_cases m:b∈frs X.stack
   .obtain⟨s2,q2⟩:=n.slot b o q m hc
    exact⟨_,q2⟩
   .exact⟨o,n.keep b o q m hc⟩
  .by_cases q:b=x
   .exact .inl q
   .exact .inr (un b z q)
  .rcases hts b hb with rfl|rfl|rfl
   .exact⟨.inr a.lx,(I.noLoc he0).1,(I.noLoc he0).2,λp hp q=>by have:=(I.pin p hp).2.1;rw[q,a.hx]at this;cases this⟩
   .exact⟨.inr a.lT,(I.noLoc ht0).1,(I.noLoc ht0).2,a.pT⟩
   .refine⟨.inr I.sz,vbp I.lt,λy c hc=>?_,λp hp=>vau (np p hp)⟩
    obtain⟨v,o,ho,_⟩:=I.cell y c hc
    exact vau (vaj ho)
 refine⟨I',ex',a.hx,?_,a.lx,?_,?_⟩
 .rcases hT' with rfl|rfl
  .exact a.hT
  .exact fr _ (vad _)
 .rcases hT' with rfl|rfl
  .exact a.lT
  .exact I.sz
 .rcases hT' with rfl|rfl
  .exact a.pT
  .exact λp hp=>vau (np p hp)
theorem At.noted{E:Value->Shared->Prop}{Q:Unit->Shared->Prop}(a:At X pins σ H s x T C dx .none)(hs:X.stack=X.env::X.outer)(hf:X.env.frame=some X.env.locals)(h:∀s' T',At X pins σ H s' x T' C dx (rawInt X.env.locals)->Q () s') :
 wpAny (model X.prog X.w) X.A (noteFrame (.ref x) X.env) Q E s:=by
 obtain⟨n1,n2⟩:=Ex.nofr a.I a.ex (.inr ⟨rfl,a.hT⟩)
 have stk:=a.I.stack
 rw[hs]at n1 n2 stk
 refine XR.note (base:=X.base) (by rw[a.I.ok.frames,hs]) stk hf a.ex n1 n2 (.inr rfl) λh' n ex'=>h _ s.heap.objs.size (a.step (by rw[hs];exact n) (λb z=>?_) (.inr rfl) ex')
 simp at z
 rcases z with z|z
 .exact .inl z
 .exact .inr (.inl z)
theorem At.lands{M:Model}{A:Around}{E:Value->Shared->Prop}{Q:Unit->Shared->Prop}(a:At X pins σ H s x T C dx f)(h:∀s',At X pins σ H s' x T C dx .none->Q () s'):wpAny M A (setFlight (.ref x) none) Q E s:=
 XR.land (fs:=frs X.stack) a.ex λh' n ex'=>h _ (a.step n (λb z=>by simp at z;exact .inr (.inl z)) (.inl rfl) ex')
theorem At.of{E:XK}{e:Value}{s':Shared}(I:Inv X pins σ H s)(q:CX1 X.prog X.w X.stack H s E e s'):∃x T C dx H',e=.ref x/\At X pins σ H' s' x T C dx .none/\E (.ref C) dx H':=by
 obtain⟨x,T,C,dx,H',rfl,os,bare,un,hok,ex,lx,lT,hx,hT,hE⟩:=q
 obtain⟨hh,g,d,t,os'⟩:=s'
 obtain rfl:os'=s.os:=os
 exact⟨x,T,C,dx,H',rfl,⟨I.call (h':=hh) (g':=g) (d':=d) (t':=t) (ch:=[]) un hok bare (λb z=>absurd z (by simp)),ex,hx,hT,vas I.sz lx,vas I.sz lT,λp hp=>vau (vah (vaj (I.pin p hp).1) lT)⟩,hE⟩
noncomputable abbrev _root_.L2.Cx.hand(X:Cx)(x:Addr):Cx:={X with A:=X.A.mark (some (.ref x)),calm:=false,xe:=λ_ _=>False}
theorem Cx.Ok.hand(ok:X.Ok)(x:Addr):(X.hand x).Ok:=
 ⟨ok.mod,ok.kind,ok.glob,ok.blt,ok.above,ok.inj,ok.has,ok.cab,(λz=>nomatch z),ok.frames,ok.stk,ok.exf,ok.bs,ok.bsz,ok.noex,ok.exfs,ok.funs,ok.frf⟩
theorem Inv.hand(I:Inv X pins σ H s)(x:Addr):Inv (X.hand x) pins σ H s:=⟨I.ok.hand x,I.os,I.bare,I.base,I.loc,I.cell,I.free,I.freeC,I.pin,I.hok,I.len⟩
theorem Inv.unhand(ok:X.Ok)(I:Inv (X.hand x) pins σ H s):Inv X pins σ H s:=⟨ok,I.os,I.bare,I.base,I.loc,I.cell,I.free,I.freeC,I.pin,I.hok,I.len⟩
theorem Inv.gone{M:Model}{A:Around}{E:Value->Shared->Prop}{i:Nat}{y:Str}{pos:Pos}{Q:Unit->Shared->Prop}(I:Inv X pins σ H s)(hN:X.N.Nodup)(hi:X.N[i]?=some y)(hk:X.env.kindOf y=some .local)
 (h:∀s',Inv X pins (σ.set i none) H s'->Q () s'):wpAny M A (do bindName X.env y .none;unbindBehindTheSuite X.env y pos) Q E s:=by
 obtain⟨m,hn,hl⟩:=I.loc
 have hcls:(X.env.scope.kind == .class|| (X.env.scope.kind == .module&&X.env.locals != X.env.globals))=false:=by rw[I.ok.kind];rfl
 have hiσ:i<σ.length:=by rw[I.len];exact(van.mp hi).1
 refine wpAny_nameGoes_keeps hk hn hcls λh' v hn' hs=>h _ ?_
 have low:∀b o,X.s₀.heap.get? b=some o->b≠X.env.locals:=λb o e=>vau (vah (vaj e) I.ok.above)
 refine⟨I.ok,I.os,I.bare,⟨λb o e n hb hx=>(hs.2 b (low b o e)).trans (I.base.keep b o e n hb hx),λb o e n hb hx=>?_,I.base.free,λb o e hx=>?_,I.base.tups,I.base.frzs,I.base.tbls⟩,⟨_,hn',λj z v' e1 e2 e3=>?_⟩,λz c e=>?_,I.free,I.freeC,λp hp=>?_,λb u e=>?_,by simpa using I.len⟩
 .obtain⟨sl,e1⟩:=I.base.slot b o e n hb hx
  exact⟨sl,(hs.2 b (low b o e)).trans e1⟩
 .obtain⟨o',e1⟩:=I.base.there b o e hx
  exact⟨o',(hs.2 b (low b o e)).trans e1⟩
 .by_cases hj:j=i
  .subst hj
   rw[va5 hiσ]at e2
   cases e2
  .rw[vcc (vbo hj)]at e2
   obtain⟨u',r',q⟩:=hl j z v' e1 e2 e3
   refine⟨u',r',?_⟩
   rcases q with⟨k,e⟩|⟨k,c,e,w⟩
   .have:z≠y:=λe=>hj (zfg hN e1 (e▸hi))
    exact .inl ⟨k,by simp[this,e]⟩
   .exact .inr ⟨k,c,e,w.sameBut hs (I.cne z c e)⟩
 .obtain⟨w',z⟩:=I.cell z c e
  exact⟨w',z.sameBut hs (I.cne _ c e)⟩
 .obtain⟨e,n,ne,nf,d⟩:=I.pin p hp
  exact⟨(hs.2 p.1 ne).trans e,n,ne,nf,d⟩
 .refine(I.hok b u e).stay (λc w' hc q=>(hs.2 c ?_).trans q) (λ_ q=>q) λ_ _ q=>q
  rintro rfl
  have fl:=I.free
  rcases hc with rfl|hc
  .rw[fl]at e;cases e
  .rw[fl]at hc;cases hc
end
noncomputable def subE(K:PySem.W.Frag)(C D:Addr):Bool:=XL.excCls K C&&XL.excCls K D&&match K.lookup C with
 |some o=>(match o.data with
  |.cls cd=>cd.mro.contains (.ref D)
  |_=>false)
 |none=>false
section
variable{M:Model}{A:Around}{E:Value->Shared->Prop}{s:Shared}{K:PySem.W.Frag}{C D x:Addr}{oe:Obj}
theorem zmc{Q:Bool->Shared->Prop}(X:K.In s.heap)(hs:subE K C D=true)(he:s.heap.get? x=some oe)(hc:oe.cls=.ref C)(h:Q true s):wpAny M A (excMatches (.ref x) (.ref D)) Q E s:=by
 unfold subE at hs
 rw[vaa,vaa]at hs
 obtain⟨⟨hC,hD⟩,hm⟩:=hs
 obtain⟨nm,qn,N,bs,bm,hd,sn,sub,ab,col,dd,k0,k1,k2,k3,k5,oC,T⟩:=XL.excCls_of X hC
 obtain⟨nm',qn',N',bs',bm',hd',sn',sub',ab',col',dd',k0',k1',k2',k3',k5',oD,T'⟩:=XL.excCls_of X hD
 have c1:(Value.ref D::bm').contains (.type "BaseException")=true:=by rw[vdv,T'.hasType (X:="BaseException") (b:=true) (by decide +kernel),vd6]
 have c2:(Value.ref C::bm).contains (.ref D)=true:=by
  cases q:K.lookup C with
  |none=>rw[q]at hm;cases hm
  |some o=>
   rw[q]at hm
   have:=X C o q
   rw[oC]at this
   cases this
   exact hm
 have f:=tc_notTuple
 obtain⟨hp,g,d,tk,os⟩:=s
 unfold excMatches
 repeat(first
  |(with_reducible refine vbh he ?_;rw[hc])
  |with_reducible refine vbh oD ?_
  |(with_reducible refine vbq oD ?_;rw[c1])
  |(with_reducible refine vbq oC ?_;rw[c2])
  |wp_step)
 exact h
end
structure RoomH(k:Nat)(A:Around):Prop where
 dp:A.depth+k+2<recursionLimit
 un:A.units+4*k+100<cLine
theorem Room.h2{k:Nat}{A:Around}(r:Room k A):RoomH 2 A:=⟨by have:=r.dp;omega,by have:=r.un;omega⟩
theorem Room.h{k:Nat}{A:Around}{v:Option Value}(r:Room k A):RoomH 2 (A.mark v):=⟨r.h2.dp,r.h2.un⟩
noncomputable abbrev bareA(A:Around):Around:={A with handled:=none}
theorem RoomH.depth{k:Nat}{A:Around}(r:RoomH k A):A.depth<recursionLimit:=by have:=r.dp;omega
theorem RoomH.deeper{k:Nat}{A:Around}(r:RoomH (k+1) A)(env:Env):RoomH k (A.deeper env):=
 ⟨by have:=r.dp;show A.depth+1+k+2<_;omega,by have:=r.un;show A.units+3+4*k+100<_;omega⟩
structure FnOkH(P:Program)(w:World)(K:PySem.W.Frag)(mg:Str->Option Value)(base:Heap)(k:Nat)(f:Addr)(fd:FuncData)(ps:List Str)(sp:List V->Hp->VK->Prop):Prop where
 len:∀vs H Q,sp vs H Q->vs.length=ps.length
 run:∀(A:Around)(outer:List Env)(s:Shared)(H:Hp)(args:Args)(us:List Value)(vs:List V)(Q:VK),RoomH k A->Env0 P w K mg base A outer s H->BindsTo s fd args (ps.zip us)->Vals vs us->sp vs H Q->
  codeAny (model P w) A (.call (.ref f) args) (CR CX0 outer P w H s Q E0) s
noncomputable abbrev cxH(P:Program)(w:World)(K:PySem.W.Frag)(mg:Str->Option Value)(base:Heap)(N:List Str)(qual:Str)(scope:Scope)(f:Addr)(cd:Value)(A:Around)(outer:List Env)(s:Shared)(H:Hp):Cx:=
 {cxOf CX0 P w K mg base N qual scope f cd A outer s H E0 with calm:=false,xe:=λ_ _=>False}
theorem fnH{P:Program}{w:World}{K:PySem.W.Frag}{mg:Str->Option Value}{base:Heap}{k:Nat}{f:Addr}{name qual:Str}{params:Arguments}{body:List Stmt}{scope:Scope}{dV kV doc pm cdv ct oc:Value}{an od:Option Addr}
 {osl:Array (Option Value)} {N ps:List Str} {sp:List V->Hp->VK->Prop} (lk:K.lookup f=some ⟨oc,od,.func (PySem.W.fnOf name qual params body scope dV kV doc pm an cdv ct),osl⟩) (hcd:PySem.W.codeIn K cdv qual=true) (S:FnScope N ps scope)
 (len:∀vs H Q,sp vs H Q->vs.length=ps.length)
 (hbody:∀(A:Around)(outer:List Env)(s:Shared)(H:Hp)(vs:List V)(Q:VK),RoomH k (A.deeper (envOfC qual scope s.heap.objs.size f cdv))->sp vs H Q->
   ∃t,PSs (cxH P w K mg base N qual scope f cdv A outer s H) body t/\t {nx:=λ_ H'=>Q .non H',rt:=Q} (start N vs) H) :
 FnOkH P w K mg base (k+1) f (PySem.W.fnOf name qual params body scope dV kV doc pm an cdv ct) ps sp:=by
 refine⟨len,λA outer s H args us vs Q hr e0 hb r hsp=>?_⟩
 have hl:=len _ _ _ hsp
 have KX:K.In s.heap:=e0.mod.kin.keeps λb o e=>(e0.bs b o e).1
 have lim:s.heap.NoLimit:=e0.mod.nolimit.keeps λb o e=>(e0.bs b o e).1
 have hkind:∀y∈ps.zip us,scope.names.lookup y.1=some .local\/(scope.names.lookup y.1=some .cell/\((cellsFrom (s.heap.objs.size+1) scope.names []).lookup y.1).isSome=true):=λhq0 hy=>by
  obtain⟨n,v⟩:=hq0
  rcases S.par n (veb hy).1 with q|q
  .exact .inl q
  .exact .inr ⟨q,PySem.W.cellsFrom_some _ _ _ (.inl q)⟩
 refine codeAny_call_function hr.depth (KX _ _ lk) rfl S.co S.gen rfl (PySem.W.codeRec_of KX hcd) (hb _ _ _ _ ?_)
 refine wpAny_newFunctionEnv_cells S.kind hkind λenv he s1 x=>?_
 subst he
 refine⟨lim.keeps x.toInCall.keep,codeAny_func ?_⟩
 obtain⟨t,ht,hq⟩:=hbody A outer s H vs Q (hr.deeper _) hsp
 have J:Inv (cxOf CX0 P w K mg base N qual scope f cdv (bareA A) outer s H E0) [] (start N vs) H s1:=zgq S rfl ⟨e0.frames,e0.mod,e0.bs,e0.bsz,e0.funs,e0.frf,e0.hok,e0.bare⟩ hl r x
 have ok:=J.ok
 have I:Inv (cxH P w K mg base N qual scope f cdv A outer s H) [] (start N vs) H s1:=
  ⟨⟨ok.mod,ok.kind,ok.glob,ok.blt,ok.above,ok.inj,ok.has,ok.cab,(λz=>nomatch z),ok.frames,ok.stk,ok.exf,ok.bs,ok.bsz,ok.noex,ok.exfs,ok.funs,ok.frf⟩,J.os,J.bare,J.base,J.loc,J.cell,J.free,J.freeC,J.pin,J.hok,J.len⟩
 refine vbc (ht [] s1 (start N vs) H _ I hq) (λfl s' hs=>?_) λe s' hs=>hs.elim
 have fin:∀{σ':St}{H':Hp}{v:V}{u:Value},Inv (cxH P w K mg base N qual scope f cdv A outer s H) [] σ' H' s'->RelV v u->Q v H'->CE outer P w H s Q u s':=
  λ{σ' H' v u} J rv q=>⟨v,H',J.os,J.bare,J.base,J.hok,rv,q⟩
 cases fl with
 |ret u=>
  obtain⟨v,σ',H',J,rv,q⟩:=hs
  exact fin J rv q
 |next=>
  obtain⟨σ',H',J,q⟩:=hs
  exact fin (v:=V.non) (u:=Value.none) J rfl q
 |brk=>
  obtain⟨_,_,_,q⟩:=hs
  exact False.elim q
 |cont=>
  obtain⟨_,_,_,q⟩:=hs
  exact False.elim q
section
variable{X:Cx}{k:Nat}{f:Addr}{fd:FuncData}{ps:List Str}{sp:List V->Hp->VK->Prop}{x:Str}{p pos:Pos}{e:Expr}{es:List Expr}{t:TA}
theorem zf0(F:FnOkH X.prog X.w X.K X.mg X.base k f fd ps sp)(hr:RoomH k X.A)(hg:Gl X x)(hm:X.mg x=some (.ref f))(hk:PySem.W.keepIn X.K (.ref f)=true)(hb:Binds X.K fd ps [])
 (ha:PA X (e::es) t) (hdb:(x==("__debug__" : Str))=false:=by decide) (he:starEach (e::es) X.env=(false,eval e X.env)::starEach es X.env:=by rfl) (hpl:(backTo pos (starEach es X.env)).any (·.1)=false:=by rfl) :
 PE X (.Call (.Name x p) (e::es) [] pos) (λσ H Q=>t σ H λvs H1=>sp vs H1 Q):=by
 intro pins s σ H Q I h
 refine vcb (zbl I hg hm ?_ hdb)
 refine vds (h₀:=X.base) I.ok.mod.kin hk (thn (ha pos pins s σ H _ I h) λus s1 z9=>z9.el λvs H1 I1 r q=>⟨I1.kIn,?_⟩) he hpl
 have len:us.length=ps.length:=by rw[<-r.length];exact F.len _ _ _ q
 have hb1:=hb s1 us I1.kIn (by rw[va7];exact len)
 rw[va7]at hb1
 refine vda (vdp (F.run X.A X.stack s1 H1 ⟨us,[]⟩ us vs Q hr I1.env0 hb1 r q) λres s' hq=>?_)
 cases res with
 |error er=>exact False.elim hq
 |ok fl=>
  cases fl with
  |ret u=>exact I1.after hq
  |next=>exact False.elim hq
  |brk=>exact False.elim hq
  |cont=>exact False.elim hq
end
end L2
namespace RF
open PySem PySem.Spec PyProof.Rows L2
noncomputable def Hx(H H':Hp):Prop:=∀a o,H a=some o->H' a=some o
theorem Hx.refl{H:Hp}:Hx H H:=λ_ _ q=>q
theorem Hx.trans{H H1 H2:Hp}(a:Hx H H1)(b:Hx H1 H2):Hx H H2:=λx o q=>b x o (a x o q)
theorem Hx.new{H:Hp}{p:Addr}{o:HO}(hp:H p=none):Hx H (upd H p o):=λa u q=>by
 rw[zae (λz=>by rw[z,hp]at q;cases q)];exact q
end RF
namespace L2
open PySem PySem.Spec PyProof.Rows
noncomputable def DxOk(dx:Option Addr)(H:Hp):Prop:=∀d,dx=some d->∃fs,H d=some (xdH fs d)
noncomputable def Err(C a:Addr)(H:Hp):Prop:=∃dx,H a=some (excR C dx a)/\DxOk dx H
theorem Err.mono{C a:Addr}{H H':Hp}(h:Err C a H)(k:RF.Hx H H'):Err C a H':=by
 obtain⟨dx,q,d⟩:=h
 exact⟨dx,k _ _ q,λe z=>let⟨fs,y⟩:=d e z;⟨fs,k _ _ y⟩⟩
noncomputable def ze5(C:Addr)(E:XK)(H:Hp):Prop:=∀H' dx a,RF.Hx H H'->H' a=some (excR C dx a)->DxOk dx H'->E (.ref C) dx H'
noncomputable abbrev fsI(x y:V):List (Str×V):=putF "column" y [("row",x)]
noncomputable def RaisF(C:Addr)(x y:V)(E:XK)(H:Hp):Prop:=∀H' dx a,RF.Hx H H'->H' a=some (excR C (some dx) a)->H' dx=some (xdH (fsI x y) dx)->E (.ref C) (some dx) H'
theorem ze5.plain{C:Addr}{E:XK}{H:Hp}(h:ze5 C E H):∀a,H a=none->E (.ref C) none (upd H a (excR C none a)):=λa ha=>h _ none a (.new ha) zag λ_ z=>nomatch z
section
variable{M:Model}{A:Around}{E:Value->Shared->Prop}{env:Env}{s:Shared}
variable{nm q:Str}{C N:Addr}{bs bm:List Value}{hdct:Bool}{sn:List Str}{sub:List Value}{ab:Bool}{col:Option Bool}{dd:Option Addr}{k0 k1 k2 k3 k5:Option Value}{nw:String}
theorem zda{x:Sem Value}{Q:Flow->Shared->Prop}(hb:bm.contains (.type "BaseException")=true)(hh:A.handled=none)
 (h:wpAny M A x (λv z=>∃e t dx,v=.ref e/\z.heap.get? C=some (excClassObj nm q C N bs bm hdct sn sub ab col dd k0 k1 k2 k3 k5 nw)/\z.heap.get? e=some (XL.excObj C dx t)/\E (.ref e) z) E s) :
 wpAny M A (raiseStmt env (some x) none) Q E s:=by
 have hB:(Value.ref C::bm).contains (.type "BaseException")=true:=by rw[vdv,hb,vd6]
 unfold raiseStmt
 refine vab (vbc h (λv z y=>?_) λ_ _ y=>y)
 obtain⟨e,t,dx,rfl,hC,he,hE⟩:=y
 obtain⟨hp,g,d,tk,os⟩:=z
 unfold XL.excObj at he
 repeat(first
  |with_reducible refine vbh he ?_
  |with_reducible refine vbh hC ?_
  |(with_reducible refine vbq hC ?_;rw[hB])
  |wp_step)
 exact wpAny_raiseNew_none hh hE
end
noncomputable def spI(C:Addr):List V->Hp->VK->Prop:=λvs H Q=>∃a x y,vs=[.ref a,x,y]/\H a=some (excH C none a)/\
 ∀dx H',H dx=none->H' a=some (excH C (some dx) a)->H' dx=some (xdH (fsI x y) dx)->(∀b o,b≠a->H b=some o->H' b=some o)->Q .non H'
theorem RoomH.make{k:Nat}{A:Around}(r:RoomH (k+1) A)(C:Addr)(us:List Value):RoomH k (A.under (.builtin "type.__call__" ⟨.ref C::us,[]⟩)):=
 ⟨by have:=r.dp;rw[zjx];omega,by have:=r.un;rw[zjy];omega⟩
section
variable{X:Cx}{E:XK}{C f:Addr}{fd:FuncData}{ps:List Str}{x:Str}{p cpos pos:Pos}{e:Expr}{es:List Expr}{t:TA}
theorem zmd(M:MkI X.K C f)(F:FnOkH X.prog X.w X.K X.mg X.base 1 f fd ps (spI C))(hr:RoomH 2 X.A)(hb:Binds X.K fd ps [])(hc:X.calm=true)(hg:Gl X x)(hm:X.mg x=some (.ref C))(ha:PA X.nox (e::es) t)
 (hdb:(x==("__debug__" : Str))=false) (he:starEach (e::es) X.env=(false,eval e X.env)::starEach es X.env) (hpl:(backTo cpos (starEach es X.env)).any (·.1)=false) :
 PS (X.wish (FlyIn X E)) (.Raise (some (.Call (.Name x p) (e::es) [] cpos)) none pos) (λ_ σ H=>t σ H λvs H1=>∃x y,vs=[x,y]/\RaisF C x y E H1):=by
 intro pins s σ H D I h
 have I:=I.unwish
 obtain⟨nm,qn,N,bs,bm,hd,sn,sub,ab,col,dd,k0,k1,k2,k3,k5,hC,T⟩:=XL.excCls_of I.kIn M.cls
 have hB:bm.contains (.type "BaseException")=true:=T.hasType (by decide +kernel)
 obtain⟨oC,hK⟩:∃o,X.K.lookup C=some o:=by
  cases z:X.K.lookup C with
  |some o=>exact⟨o,rfl⟩
  |none=>
   have:=M.cls
   unfold XL.excCls at this
   simp[z]at this
 have eC:oC=excClassObj nm qn C N bs bm hd sn sub ab col dd k0 k1 k2 k3 k5 "ValueError.__new__":=by
  have:=I.kIn C oC hK
  rw[hC]at this;cases this;rfl
 subst eC
 have ev:wpAny (model X.prog X.w) X.A (eval (.Call (.Name x p) (e::es) [] cpos) X.env) (λv s1=>∃e t dx,v=.ref e/\s1.heap.get? C=some (excClassObj nm qn C N bs bm hd sn sub ab col dd k0 k1 k2 k3 k5 "ValueError.__new__")/\s1.heap.get? e=some (XL.excObj C dx t)/\FlyIn X E (.ref e) s1) (FlyIn X E) s:=by
  refine vcb (zbl I hg hm ?_ hdb)
  refine vds (h₀:=X.base) I.ok.mod.kin M.kp (vbc (ha cpos pins s σ H _ (I.wish _) h) (λus s1 z9=>z9.el λvs H1 I1 r ⟨v1,v2,hz,q⟩=>?_) λ_ _ z=>z.elim) he hpl
  have I1:=I1.unwish
  refine⟨I1.kIn,?_⟩
  have hle:s1.heap.objs.size<=s1.heap.objs.size+1:=vdm _
  have hfr:H1 (s1.heap.objs.size+1)=none:=I1.hok.fresh hle
  have e2:((s1.heap.push {cls:=.type "tuple",data:=.seq us.toArray}).push (XL.excObj C none s1.heap.objs.size)).get? (s1.heap.objs.size+1)=some (XL.excObj C none s1.heap.objs.size):=by
   have:=vat (s1.heap.push {cls:=.type "tuple",data:=.seq us.toArray}) (o:=XL.excObj C none s1.heap.objs.size) rfl
   rwa [vb1]at this
  have I2:Inv X pins σ (upd H1 (s1.heap.objs.size+1) (excH C none (s1.heap.objs.size+1))) {s1 with heap:=(s1.heap.push {cls:=.type "tuple",data:=.seq us.toArray}).push (XL.excObj C none s1.heap.objs.size)}:=
   I1.laid (t':=s1.toks) (λb u q=>vac _ (vac _ q)) hle (zlc e2)
  have r2:Vals (V.ref (s1.heap.objs.size+1)::vs) (Value.ref (s1.heap.objs.size+1)::us):=.cons rfl r
  subst hz
  have hq:spI C [.ref (s1.heap.objs.size+1),v1,v2] (upd H1 (s1.heap.objs.size+1) (excH C none (s1.heap.objs.size+1))) (λv H2=>v=.non/\∃dx,H1 dx=none/\dx≠s1.heap.objs.size+1/\H2 (s1.heap.objs.size+1)=some (excH C (some dx) (s1.heap.objs.size+1))/\H2 dx=some (xdH (fsI v1 v2) dx)/\RF.Hx H1 H2):=
   ⟨_,v1,v2,rfl,zag,λdx H' d1 d2 d3 d4=>by
    have hne:dx≠s1.heap.objs.size+1:=λz=>by rw[z,zag]at d1;cases d1
    rw[zae hne]at d1
    exact⟨rfl,dx,d1,hne,d2,d3,λb o z=>by
     have hbn:b≠s1.heap.objs.size+1:=λy=>by rw[y,hfr]at z;cases z
     exact d4 b o hbn (by rw[zae hbn];exact z)⟩⟩
  have hl:(Value.ref (s1.heap.objs.size+1)::us++[]).length=ps.length:=by
   rw[va7,<-r2.length];exact F.len _ _ _ hq
  have hb2:=hb _ (Value.ref (s1.heap.objs.size+1)::us) I2.kIn hl
  rw[va7]at hb2
  refine vda (XL.make_excI I1.kIn M.cls M.init (vb7.mp M.fn) (by show us.length<=sizeLine;rw[<-r.length];show 2<=sizeLine;decide) (vdp (F.run _ X.stack _ _ ⟨Value.ref (s1.heap.objs.size+1)::us,[]⟩ (Value.ref (s1.heap.objs.size+1)::us) _ _ (hr.make C us)
   (I2.env0.make C us []) hb2 r2 hq) λr s' hq'=>?_))
  cases r with
  |error e=>exact False.elim hq'
  |ok fl=>
   cases fl with
   |ret u=>
    obtain⟨v,H',I3,rv,ev,dx,g1,g2,g3,g4,g5⟩:=I2.after hq'
    subst ev
    obtain⟨tt,ht⟩:=zhy I3.hok g3
    have I4:Inv X pins σ (upd H' (s1.heap.objs.size+1) (excR C (some dx) (s1.heap.objs.size+1))) s':=
     I3.write (h':=s'.heap) (t':=s'.toks) (x:=s1.heap.objs.size+1) (e:=s1.heap.objs.size+1) (by rw[g3];exact True.intro) (.inl rfl) (λb u _ z=>z) ⟨_,ht⟩ (zid ht)
    refine⟨rv,_,tt,some dx,rfl,I3.kIn _ _ hK,ht,_,_,C,some dx,none,pins,σ,_,rfl,I4,⟨_,_,ht,rfl⟩,.inl ⟨rfl,rfl⟩,vas I1.sz hle,vas I1.sz hle,zag,?_⟩
    refine q _ dx _ (λb o z=>?_) zag ?_
    .have hbn:b≠s1.heap.objs.size+1:=λy=>by rw[y,hfr]at z;cases z
     rw[zae hbn];exact g5 b o z
    .rw[zae g2];exact g4
   |next=>exact False.elim hq'
   |brk=>exact False.elim hq'
   |cont=>exact False.elim hq'
 show wpAny (model X.prog X.w) X.A (exec (.Raise (some (.Call (.Name x p) (e::es) [] cpos)) none pos) X.env) _ (FlyIn X E) s
 rw[arm_exec_Raise]
 first
  |exact vab (vbj (zda (C:=C) hB (I.ok.hd hc) (vab (thn ev λv s1 q=>vab (vbj (vae q))))))
  |(simp only[evalOpt,Option.map];exact vab (vbj (zda (C:=C) hB (I.ok.hd hc) (vab (thn ev λv s1 q=>vab (vbj (vae q)))))))
  |(show wpAny _ _ (do standAt pos;raiseStmt X.env (some (do let v <-eval (.Call (.Name x p) (e::es) [] cpos) X.env;standAt pos;pure v)) none) _ _ s;exact vab (vbj (zda (C:=C) hB (I.ok.hd hc) (vab (thn ev λv s1 q=>vab (vbj (vae q)))))))
end
theorem PS.fly{X:Cx}{E:XK}{st:Stmt}{t:TS}(h:PS (X.wish (FlyIn X E)) st t)(k:∀e s,FlyIn X E e s->X.xe e s):PS X st t:=λpins s σ H D I hw=>
 vbc (h pins s σ H D (I.wish _) hw) (λ_ _ z=>SP.unwish z) k
theorem PI.nox{X:Cx}{tg it:Expr}{t:TI}(h:PI X.nox tg it t):PI X tg it t:=λpins s σ H R I hw=>
 vbc (h pins s σ H R (I.wish _) hw) (λv s1 q=>vbc q (λitv s2 ⟨i,fp,tn,J,H',e,I',T,t0,f0,r⟩=>⟨i,fp,tn,J,H',e,I'.unwish,T,t0,f0,r⟩) λ_ _ z=>z.elim) λ_ _ z=>z.elim
theorem PG.nox{X:Cx}{tg:Expr}{t:TG}(h:PG X.nox tg t):PG X tg t:=λpins s σ H v u Q I r hw=>
 vbc (h pins s σ H v u Q (I.wish _) r hw) (λ_ _ ⟨σ',H',I',q⟩=>⟨σ',H',I'.unwish,q⟩) λ_ _ z=>z.elim
theorem PA.nox{X:Cx}{es:List Expr}{t:TA}(h:PA X.nox es t):PA X es t:=λpos pins s σ H Q I hw=>
 vbc (h pos pins s σ H Q (I.wish _) hw) (λ_ _ ⟨vs,H',I',r,q⟩=>⟨vs,H',I'.unwish,r,q⟩) λ_ _ z=>z.elim
section
variable{X:Cx}
noncomputable def zvk(K:PySem.W.Frag):V->List V->Hp->VK->Prop:=λx vs H Q=>∃p xs y ds d j e,x=.ref p/\vs=[y]/\SqL K H p xs/\Rps K (λ_=>False) H xs ds/\Rp K (λ_=>False) H y d/\ds.all SeqAt.shaped=true/\SeqAt.shaped d=true/\
 ds[j]?=some e/\PyData.eqv e d=true/\(∀(m:Nat)(e:PyData),m<j->ds[m]?=some e->PyData.eqv e d=false)/\(j:Int)<2 ^ 63-1/\Q (.int (j:Nat)) H
theorem zme(hu:X.A.in1.units+64<cLine):MtR X "list.index" (zvk X.K):=by
 intro pins s σ H x vs v us Q I rx rv h
 obtain⟨p,xs,y,ds,d,j,ej,rfl,rfl,hq,r1,r2,s1,s2,hj,hjt,hjf,hsm,q⟩:=h
 cases rx
 obtain⟨u,rfl,ru⟩:=rv.one
 obtain⟨bs,rb⟩:=r2.reads I ru
 obtain⟨its,r,pl,hz⟩:=I.list hq
 obtain⟨as,ra⟩:=r1.reads I r
 obtain⟨⟨c,dd,dt,sl⟩,n,e1,e2,e4,e3⟩:=pl
 replace e2:c=.type "list":=e2
 replace e3:dt=.seq its.toArray n:=e3
 subst e2 e3
 have len:its.length=ds.length:=zbf ra
 have hjl:j<its.toArray.size:=by rw[vag,len];exact(van.mp hj).1
 have at':∀(m:Nat)(hm:m<its.toArray.size),its[m]?=some its.toArray[m]:=λm hm=>by
  rw[vao (by simpa using hm)];rfl
 refine vc4 PySem.F.slot_list_index ⟨_,e1,rfl⟩ PySem.F.entry_list_index (PySem.F.args_list_index_2 _ _) (SeqAt.list_indexAt p its.toArray n dd sl u (eqOf its ds d) j hjl hsm ?_ λm hm hlt=>?_) ⟨e1,λw hw=>zc4 ?_ ra rb s1 s2 w (by simpa using hw),?_⟩
 .rw[zfq ra s1 (at' j hjl) hj];exact hjt
 .have hm':m<ds.length:=by rw[<-len];simpa using hm
  rw[zfq ra s1 (at' m hm) (vao hm')]
  exact hjf m _ hlt (vao hm')
 .exact hu
 .exact⟨.int _,H,I.tok _,⟨_,rfl⟩,q⟩
noncomputable def rIsE(K:PySem.W.Frag)(c:Value)(cv:V):List V->Hp->VK->Prop:=λxs H Q=>∃a C b,xs=[.ref a,cv]/\Err C a H/\XL.ExcI K C/\PySem.W.kitOne K (.ref C) c=some b/\Q (.bl b) H
theorem zoo{c:Value}{cv:V}(hc:tyVal cv=some c):CallR X (.builtin "isinstance") (rIsE X.K c cv):=by
 intro pins s σ H xs us Q I r h
 obtain⟨a,C,b,rfl,ea,kk,e,q⟩:=h
 obtain⟨u,u2,rfl,rx,rc⟩:=vals2 r
 have e2:u2=c:=by
  cases cv with
  |ty n=>cases hc;exact rc
  |ref a=>cases hc;exact rc
  |_=>cases hc
 subst e2
 obtain rfl:u=Value.ref a:=rx
 obtain⟨dx,ea,hd⟩:=ea
 obtain⟨vs,sl,ht⟩:=zma I.hok ea
 have hin:∃od,PySem.W.InstAt s.heap a ⟨.ref C,dx,.fields vs,sl⟩ C od:=by
  cases dx with
  |none=>exact⟨none,ht,rfl,rfl,trivial⟩
  |some d=>
   obtain⟨fs,ed⟩:=hd d rfl
   obtain⟨mA,n1,_⟩:=zld I.hok ed
   obtain⟨od,hod,_⟩:=zci n1
   exact⟨some od,ht,rfl,rfl,hod⟩
 obtain⟨od,hin⟩:=hin
 exact vbf (XL.kitx_exc (od:=od) kk) I.kIn hin e (λz=>nomatch z) λtk=>⟨.bl b,H,I.tok _,rfl,q⟩
end
end L2
namespace RF
open PySem PySem.Spec PyProof.Rows L2
noncomputable def spWd(C:Addr)(z:Str):List V->Hp->VK->Prop:=λvs H Q=>∃a,vs=[.ref a]/\Err C a H/\∀H',Hx H H'->Q (.str z) H'
section
variable{K:PySem.W.Frag}{m m':Nat->Addr}{n:Nat}{h h':VH}{H H':Hp}
theorem Rel.hx(r:Rel K m h H)(k:Hx H H'):Stp m h.n H m h.n H'/\Rel K m h H':=by
 have st:Stp m h.n H m h.n H':=⟨vad _,λ_ _=>rfl,λj a b=>absurd b (vb9.mpr a),λj k a b=>absurd b (vb9.mpr a),λb vs q=>k _ _ q,λb o t q=>k _ _ q,λb o nb q=>k _ _ q⟩
 refine⟨st,⟨λj hj=>?_,r.inj,r.len⟩⟩
 obtain⟨o',h1,h2⟩:=r.obj j hj
 obtain⟨u',h3⟩:=h2.some
 exact⟨o',h1,ORep.stp st (by rw[h3];exact k _ _ h3) h2⟩
noncomputable def Rais(K:PySem.W.Frag)(m:Nat->Addr)(n:Nat)(H:Hp)(C:Addr)(h':VH)(E:XK):Prop:=∀H' m',Stp m n H m' h'.n H'->Rel K m' h' H'->ze5 C E H'
noncomputable def RaisJ(K:PySem.W.Frag)(m:Nat->Addr)(n:Nat)(H:Hp)(C:Addr)(r c:Int)(h':VH)(E:XK):Prop:=∀H' m',Stp m n H m' h'.n H'->Rel K m' h' H'->RaisF C (.int r) (.int c) E H'
noncomputable def endX(K:PySem.W.Frag)(m:Nat->Addr)(n:Nat)(H:Hp)(w:W)(h':VH)(Q:VK)(E:XK):Prop:=match w with
 |.tup [x]=>Wants K m n H x h' Q
 |.int i=>Rais K m n H i.toNat h' E
 |.tup [.int i,.int r,.int c]=>RaisJ K m n H i.toNat r c h' E
 |_=>False
noncomputable def spX(K:PySem.W.Frag)(np:Nat)(g:List W->VH->Res W):Sp:=λvs H Q E=>vs.length=np/\∃h m ws w h',Rel K m h H/\VReps K m h.n H vs ws/\g ws h=.ok w h'/\endX K m h.n H w h' Q E
noncomputable def rtX(K:PySem.W.Frag)(m:Nat->Addr)(n:Nat)(H:Hp)(Q:VK)(E:XK)(w:W):Prop:=match w with
 |.tup [x]=>∀v,VRep K m n H v x->Q v H
 |.int i=>ze5 i.toNat E H
 |.tup [.int i,.int r,.int c]=>RaisF i.toNat (.int r) (.int c) E H
 |_=>False
noncomputable abbrev Rx(K:PySem.W.Frag)(E:XK):RtK:=λm n H Q w=>rtX K m n H Q E w
end
noncomputable def noRet:S->Bool
 |.seq a b=>noRet a&&noRet b
 |.ite _ a b=>noRet a&&noRet b
 |.for _ _ _ b=>noRet b
 |.whl _ b=>noRet b
 |.ret _=>false
 |.tryc _ _ _=>false
 |.try2 ..=>false
 |.rsj ..=>false
 |.tel ..=>false
 |_=>true
noncomputable def isRt:Fl->Bool
 |.rt _=>true
 |_=>false
noncomputable def NoRt(r:Res Fl):Prop:=∀fl h',r=.ok fl h'->isRt fl=false
theorem NoRt.bind{α:Type}{r:Res α}{f:α->VH->Res Fl}(k:∀a h,NoRt (f a h)):NoRt (r.bind f):=λfl h' e=>zaa e λa h1 _ e2=>k a h1 fl h' e2
theorem NoRt.no:NoRt .no:=λ_ _ e=>nomatch e
theorem NoRt.of{o:Option En}{h:VH}:NoRt (.of (o.map .nx) h):=λfl h' e=>by
 obtain⟨e,_⟩:=of_ok e
 cases o with
 |none=>cases e
 |some ρ=>cases e;rfl
theorem NoRt.nx{ρ:En}{h:VH}:NoRt (.ok (.nx ρ) h):=λ_ _ e=>by cases e;rfl
theorem zf1{nx:Nat->VH->Option (Option W)}{tg:W->VH->En->Option En}{b:En->VH->Res Fl}(hb:∀ρ h,NoRt (b ρ h)):∀(f i:Nat) (ρ:En) (h:VH),NoRt (forG nx tg b f i ρ h)
 |0,_,_,_=>.no
 |f+1,i,ρ,h=>by
  simp only[forG]
  split
  .exact .no
  .exact .nx
  .split
   .exact .no
   .intro fl h' e
    refine zaa e λfl1 h1 e1 e2=>?_
    have:=hb _ _ fl1 h1 e1
    cases fl1 with
    |nx ρ=>exact zf1 hb f _ _ _ fl h' e2
    |ct ρ=>exact zf1 hb f _ _ _ fl h' e2
    |bk ρ=>cases e2;rfl
    |rt w=>cases this
theorem zf2{c:En->VH->Res W}{b:En->VH->Res Fl}(hb:∀ρ h,NoRt (b ρ h)):∀(f:Nat) (ρ:En) (h:VH),NoRt (whlG c b f ρ h)
 |0,_,_=>.no
 |f+1,ρ,h=>by
  simp only[whlG]
  refine .bind λt h1=>?_
  split
  .exact .nx
  .intro fl h' e
   refine zaa e λfl1 h1 e1 e2=>?_
   have:=hb _ _ fl1 h1 e1
   cases fl1 with
   |nx ρ=>exact zf2 hb f _ _ fl h' e2
   |ct ρ=>exact zf2 hb f _ _ fl h' e2
   |bk ρ=>cases e2;rfl
   |rt w=>cases this
  .exact .no
theorem nort{cl:Call}:∀(s:S),noRet s=true->∀(ρ:En) (h:VH),NoRt (exs cl s ρ h):=by
 intro s
 induction s with
 |skip=>intro _ ρ h;exact .nx
 |seq a b i1 i2=>
  intro hs ρ h
  simp only[noRet,vaa]at hs
  intro fl h' e
  simp only[exs]at e
  refine zaa e λfl1 h1 e1 e2=>?_
  have:=i1 hs.1 _ _ fl1 h1 e1
  cases fl1 with
  |nx ρ1=>exact i2 hs.2 _ _ fl h' e2
  |bk _=>cases e2;rfl
  |ct _=>cases e2;rfl
  |rt _=>cases this
 |set i e=>intro _ ρ h;simp only[exs];exact .bind λw h1=>.nx
 |unp is e=>intro _ ρ h;simp only[exs];exact .bind λw h1=>.of
 |aug i o e=>
  intro _ ρ h;simp only[exs]
  split
  .exact .bind λy h1=>.bind λz h2=>.nx
  .exact .no
 |put o i v=>
  intro _ ρ h;simp only[exs]
  refine .bind λw h1=>.bind λx h2=>.bind λy h3=>?_
  split
  .split
   .split
    .exact .nx
    .exact .no
   .exact .no
  .exact .no
 |ite c a b i1 i2=>
  intro hs ρ h
  simp only[noRet,vaa]at hs
  simp only[exs]
  refine .bind λx h1=>?_
  split
  .exact i1 hs.1 _ _
  .exact i2 hs.2 _ _
  .exact .no
 |ret e=>intro hs;cases hs
 |expr e=>intro _ ρ h;simp only[exs];exact .bind λw h1=>.nx
 |brk=>intro _ ρ h fl h' e;cases e;rfl
 |cnt=>intro _ ρ h fl h' e;cases e;rfl
 | «for» k a t b i1=>intro hs ρ h;simp only[exs];exact .bind λx h1=>zf1 (i1 hs) _ _ _ _
 |whl c b i1=>intro hs ρ h;simp only[exs];exact zf2 (i1 hs) _ _ _
 |tryc f a tb=>intro hs;cases hs
 |try2 f a tb ta=>intro hs;cases hs
 |rsj D a=>intro hs;cases hs
 |tel f a b s t=>intro hs;cases hs
 |no=>intro _ ρ h;exact .no
theorem _root_.L2.PS.nox{X:Cx}{st:Stmt}{t:TS}(h:PS X.nox st t):PS X st t:=λpins s σ H D I hw=>vbc (h pins s σ H D (I.wish _) hw) (λ_ _ z=>SP.unwish z) λ_ _ z=>z.elim
section
variable{X:Cx}{E:XK}{c e:Expr}{fa fc:FE}{pos p:Pos}{x:Str}{st:Stmt}{sts sa sb:List Stmt}{gs gt:FS}
noncomputable abbrev SX(X:Cx)(E:XK)(st:Stmt)(f:FS):Prop:=SR X (Rx X.K E) st f
noncomputable abbrev SXs(X:Cx)(E:XK)(st:List Stmt)(f:FS):Prop:=SRs X (Rx X.K E) st f
structure Fly(X:Cx)(E:XK):Prop where
 fly:∀e s,FlyIn X E e s->X.xe e s
 own:PassesOwn (model X.prog X.w) X.A X.env X.xe
theorem zi2{cl:Call}{s:S}(h:SS X.nox st (exs cl s))(hs:noRet s=true):SX X E st (exs cl s):=(PS.nox h).imp λD σ H z9=>z9.el λρ h m fl h' f r e k=>.mk f r e λH' m' s' r'=>by
 have n:=nort s hs ρ h fl h' e
 have:=k H' m' s' r'
 cases fl with
 |nx _=>exact this
 |bk _=>exact this
 |ct _=>exact this
 |rt _=>cases n
theorem zvl(he:SE X.nox e fa):SX X E (.Return (some e) pos) (λρ h=>(fa ρ h).bind λw h=>.ok (.rt (.tup [w])) h):=(zgi (PE.nox he)).imp λD σ H z9=>z9.el λρ h m fl h' f r e k=>by
 refine zaa e λw h1 e1 e2=>?_
 cases e2
 exact(.mk f r e1 λv H1 m1 s1 r1 q1=>k H1 m1 s1 r1 v q1)
theorem zop{C:Addr}{cpos:Pos}(F:Fly X E)(M:MkE X.K C)(hc:X.calm=true)(hg:Gl X x)(hm:X.mg x=some (.ref C))(hdb:(x==("__debug__" : Str))=false) :
 SX X E (.Raise (some (.Call (.Name x p) [] [] cpos)) none pos) (λ_ h=>.ok (.rt (.int C)) h):=((zmb M hc hg hm hdb).fly F.fly).imp λD σ H z9=>z9.el λρ h m fl h' f r e k=>by
 cases e
 exact ze5.plain (k H m .refl r)
theorem zmf{C g:Addr}{fd:FuncData}{ps:List Str}{es:List Expr}{cpos:Pos}{ga:FE}(F:Fly X E)(M:MkI X.K C g)(G:FnOkH X.prog X.w X.K X.mg X.base 1 g fd ps (spI C))(hr:RoomH 2 X.A)(hb:Binds X.K fd ps [])(hc:X.calm=true)(hg:Gl X x)(hm:X.mg x=some (.ref C))(hdb:(x==("__debug__" : Str))=false)
 (ha:SA X.nox (e::es) ga) (hst:(e::es).all zaq=true):SX X E (.Raise (some (.Call (.Name x p) (e::es) [] cpos)) none pos) (λρ h=>(ga ρ h).bind λy h=>match y with|.tup [.int r,.int c]=>.ok (.rt (.tup [.int C,.int r,.int c])) h|_=>.no):=by
 rw[vbn,vaa]at hst
 refine((zmd M G hr hb hc hg hm ha hdb (zad hst.1) (zbd hst.2)).fly F.fly).imp λD σ H z9=>z9.el λρ h m fl h' f r e k=>?_
 refine zaa e λy h1 e1 e2=>?_
 split at e2
 .rename_i a b
  cases e2
  refine lftA.mk f r e1 λvs H1 m1 s1 r1 q1=>?_
  obtain⟨v1,v2,rfl,q2,q3⟩:=reps2 q1
  cases q2
  cases q3
  exact⟨_,_,rfl,k H1 m1 s1 r1⟩
 .cases e2
noncomputable abbrev gTel(g:List W->VH->Res W)(fa:FE)(b:Bool)(s t:FS):FS:=λρ h=>(fa ρ h).bind λy h=>match y with
 |.tup ys=>(g ys h).bind λw h=>telW b s t ρ w h
 |_=>.no
section
variable{k:Nat}{g:Addr}{fd:FuncData}{ps:List Str}{rn:List W->VH->Res W}{es:List Expr}{ga:FE}{cpos p2:Pos}
theorem zmg(F:Fly X E):zer (CX1 X.prog X.w) X E:=λpins σ H s e s' I q=>F.fly _ _ (pass1 pins σ H s e s' (I.wish _) q)
theorem zpz{b:Bool}{gs gt:FS}{Q:VK}{σ:L2.St}{H:Hp}{ρ:En}{h h':VH}{m:Nat->Addr}{fl:Fl}{D:Ends}(hlen:∀ws h w h',rn ws h=.ok w h'->ws.length=ps.length)(f:Fr X.K m h.n H σ ρ)(r:Rel X.K m h H)(e:gTel rn ga b gs gt ρ h=.ok fl h')
 (k:∀H' m',Stp m h.n H m' h'.n H'->Rel X.K m' h' H'->FlOk X.K (Rx X.K E) m' h'.n H' D fl)
 (kv:∀x h2,telW b gs gt ρ (.tup [x]) h2=.ok fl h'->∀v H' m',Stp m h.n H m' h2.n H'->Rel X.K m' h2 H'->VRep X.K m' h2.n H' v x->Q v H') :
 lftA X.K ga σ H λvs H1=>spX X.K ps.length rn (vs++[]) H1 Q E:=by
 refine zaa e λy h1 e1 e2=>?_
 cases y with
 |tup ys=>
  refine zaa e2 λw h2 e3 e4=>?_
  refine lftA.mk f r e1 λvs H1 m1 s1 r1 q1=>⟨by rw[va7,q1.length,hlen _ _ _ _ e3],h1,m1,ys,w,h2,r1,by rw[va7];exact q1,e3,?_⟩
  unfold endX
  split
  .rename_i x
   exact λv H' m' s' r' q'=>kv x h2 e4 v H' m' (s1.trans s') r' q'
  .rename_i i
   cases e4
   exact λH' m' s' r'=>k H' m' (s1.trans s') r'
  .rename_i i r c
   cases e4
   exact λH' m' s' r'=>k H' m' (s1.trans s') r'
  .rename_i n1 n2 n3
   unfold telW at e4
   split at e4
   .exact(n1 _ rfl).elim
   .exact(n2 _ rfl).elim
   .exact(n3 _ _ _ rfl).elim
   .cases e4
 |_=>cases e2
theorem zrv(F:Fly X E)(G:FnOk X.prog X.w X.K X.mg X.base (CX1 X.prog X.w) k g fd ps (spX X.K ps.length rn))(hr:Room k X.A)(hg:Gl X x)(hm:X.mg x=some (.ref g))(hk:PySem.W.keepIn X.K (.ref g)=true)(hb:Binds X.K fd ps [])
 (hlen:∀ws h w h',rn ws h=.ok w h'->ws.length=ps.length) (ha:SA X.nox (e::es) ga) (hst:(e::es).all zaq=true) (hdb:(x==("__debug__" : Str))=false) :
 SX X E (.Expr (.Call (.Name x p) (e::es) [] cpos) pos) (gTel rn ga false gSkip gSkip):=by
 rw[vbn,vaa]at hst
 refine(zkl (zfi (E:=E) G hr hg hm hk hb .nil (zmg F) (PA.nox ha) hdb (zad hst.1) (zbd hst.2)) (by rfl)).imp λD σ H z9=>z9.el λρ h m fl h' f r e k=>?_
 refine zpz (D:=D) hlen f r e k λx h2 e4 v H' m' s' r' q'=>?_
 cases e4
 exact k H' m' s' r' σ (f.stp s')
theorem zrw(F:Fly X E)(G:FnOk X.prog X.w X.K X.mg X.base (CX1 X.prog X.w) k g fd ps (spX X.K ps.length rn))(hr:Room k X.A)(hg:Gl X x)(hm:X.mg x=some (.ref g))(hk:PySem.W.keepIn X.K (.ref g)=true)(hb:Binds X.K fd ps [])
 (hlen:∀ws h w h',rn ws h=.ok w h'->ws.length=ps.length) (ha:SA X.nox (e::es) ga) (hst:(e::es).all zaq=true) (hdb:(x==("__debug__" : Str))=false) (hsa:SXs X E sa gs) (hsb:SXs X E sb gt) :
 SX X E (.If (.UnaryOp .Not (.Call (.Name x p) (e::es) [] cpos) p2) sa sb pos) (gTel rn ga true gs gt):=by
 rw[vbn,vaa]at hst
 refine(ps_if (zkk (zo9 (zfi (E:=E) G hr hg hm hk hb .nil (zmg F) (PA.nox ha) hdb (zad hst.1) (zbd hst.2)) λ_=>rfl)) hsa hsb).imp λD σ H z9=>z9.el λρ h m fl h' f r e k=>?_
 refine zpz (D:=D) hlen f r e k λx h2 e4 v H' m' s' r' q'=>?_
 unfold telW at e4
 simp only[vbk]at e4
 split at e4
 .cases q'
  exact⟨_,rfl,.mk (f.stp s') r' e4 λH3 m3 s3 r3=>k H3 m3 (s'.trans s3) r3⟩
 .cases q'
  exact⟨_,rfl,.mk (f.stp s') r' e4 λH3 m3 s3 r3=>k H3 m3 (s'.trans s3) r3⟩
 .cases e4
end
end
section
variable{K:PySem.W.Frag}{m m':Nat->Addr}{h h1 h2:VH}{H H':Hp}
theorem zrx{w w2:W}(e:leave h w h1=.ok w2 h2):w2=w:=by
 unfold leave at e
 split at e<;>cases e<;>rfl
theorem zry{x:W}(e:leave h (.tup [x]) h1=.ok (.tup [x]) h2):leave h x h1=.ok x h2:=by
 unfold leave at e ⊢
 have hl:W.lt h.n (.tup [x])=W.lt h.n x:=by simp only[W.lt,W.lts,Bool.and_true]
 rw[hl]at e
 split at e
 .rename_i z;cases e;rw[if_pos z]
 .rename_i z;cases e;rw[if_neg z]
theorem zrz{i r c:Int}(e:leave h (.tup [.int i,.int r,.int c]) h1=.ok (.tup [.int i,.int r,.int c]) h2):leave h (.int i) h1=.ok (.int i) h2:=by
 unfold leave at e ⊢
 have hl:W.lt h.n (.tup [.int i,.int r,.int c])=W.lt h.n (.int i):=by simp only[W.lt,W.lts,Bool.and_true]
 rw[hl]at e
 split at e
 .rename_i z;cases e;rw[if_pos z]
 .rename_i z;cases e;rw[if_neg z]
theorem zmh{w w2:W}{Q:VK}{E:XK}(r:Rel K m h H)(s:Stp m h.n H m' h1.n H')(r1:Rel K m' h1 H')(g:Grow ⟨h.n,h.n,h.os⟩ h1)(e:leave h w h1=.ok w2 h2)(k:endX K m h.n H w2 h2 Q E):rtX K m' h1.n H' Q E w:=by
 obtain rfl:=zrx e
 unfold endX at k
 unfold rtX
 split at k
 .rename_i x
  exact λv hv=>zcm r s r1 hv g (zry e) k
 .rename_i i
  exact zcm (v:=.int i) (Q:=λ_ H'=>ze5 i.toNat E H') r s r1 (.int i) g e (λv H' m' s r _=>k H' m' s r)
 .rename_i i ri ci
  exact zcm (v:=.int i) (Q:=λ_ H'=>RaisF i.toNat (.int ri) (.int ci) E H') r s r1 (.int i) g (zrz e) (λv H' m' s r _=>k H' m' s r)
 .cases k
end
theorem zr0{P:Program}{w:World}{K:PySem.W.Frag}{mg:Str->Option Value}{base:Heap}{F:Nat->Option Fn}{k idx:Nat}{fn:Fn}{x qual:Str}{st:Stmt}{f:Addr}{fd:FuncData}{N ps:List Str}{b:S}(hF:F idx=some fn)(Fu:FunD K x qual st f fd)(S:FnScope N ps (zai st))
 (hn:fn.n=N.length) (hp:fn.ps=ps.length) (hb:fn.body=.seq b (.ret (.cst (.tup [.non]))))
 (hbody:∀(cdv:Value)(A:Around)(outer:List Env)(s:Shared)(H:Hp)(E:XK),Room k (A.deeper (envOfC qual (zai st) s.heap.objs.size f cdv))->SXs (cxOf (CX1 P w) P w K mg base N qual (zai st) f cdv A outer s H E) E (zc2 st) (exs (run F k) b)) :
 FnOk P w K mg base (CX1 P w) (k+1) f fd ps (spX K ps.length (run F (k+1) idx)):=by
 obtain⟨_,_,_,_,_,_,_,cdv,_,_,e,lk,hcd⟩:=Fu.ex
 subst e
 refine fn_of lk hcd S (λvs H Q E h=>h.1) λA outer s H vs Q E hr hsp=>?_
 refine⟨_,hbody cdv A outer s H E hr,?_⟩
 obtain⟨hl,h,m,ws,w2,h2,r,q,e,k2⟩:=hsp
 have hws:=zc9 hF e
 simp only[run,hF]at e
 split at e
 .refine zaa e λfl h1 e1 e2=>?_
  have g:=zg3 (zg4 F k) _ _ _ _ _ e1
  have hN:fn.n-fn.ps=N.length-ws.length:=by rw[hn,hws]
  rw[hN,hb]at e1
  simp only[exs]at e1
  refine zaa e1 λfl1 h3 e3 e4=>?_
  refine⟨_,⟨h.n,h.n,h.os⟩,m,fl1,h3,zi1 q,zl7 r,e3,λH' m' s' r'=>?_⟩
  cases fl1 with
  |nx ρ=>
   cases e4
   have:=zmh (K:=K) (m:=m) (m':=m') (H:=H) (H':=H') (h:=h) (Q:=Q) (E:=E) r s' r' g e2 k2
   exact λσ' f'=>this .non .non
  |rt w3=>cases e4;exact zmh r s' r' g e2 k2
  |bk _=>cases e4;cases e2
  |ct _=>cases e4;cases e2
 .cases e
theorem zoq{P:Program}{w:World}{K:PySem.W.Frag}{mg:Str->Option Value}{base:Heap}{F:Nat->Option Fn}{idx:Nat}{f:Addr}{fd:FuncData}{ps:List Str}:FnOk P w K mg base (CX1 P w) 0 f fd ps (spX K ps.length (run F 0 idx)):=
 ⟨λvs H Q E h=>h.1,λA outer s H args us vs Q E hr he hb hv hs=>by obtain⟨_,h,m,ws,w2,h2,r,q,e,k2⟩:=hs;cases e⟩
noncomputable def oneOf{α:Type}:List α->Option α
 |[a]=>some a
 |_=>none
theorem zds{α:Type}{l:List α}{a:α}(h:oneOf l=some a):l=[a]:=by
 unfold oneOf at h
 split at h
 .cases h;rfl
 .cases h
noncomputable def nmE:Expr->Option (Str×Pos)
 |.Name x p=>some (x,p)
 |_=>none
theorem zg6{e:Expr}{q:Str×Pos}(h:nmE e=some q):e=.Name q.1 q.2:=by
 unfold nmE at h
 split at h
 .cases h;rfl
 .cases h
structure CallQ where
 f:Str
 p:Pos
 args:List Expr
 cp:Pos
noncomputable def zg7:Expr->Option CallQ
 |.Call g args [] cp=>(nmE g).map λq=>⟨q.1,q.2,args,cp⟩
 |_=>none
theorem mapS{α β:Type}{o:Option α}{f:α->β}{b:β}(h:o.map f=some b):∃a,o=some a/\f a=b:=by
 cases o with
 |none=>cases h
 |some a=>cases h;exact⟨a,rfl,rfl⟩
theorem bindS{α β:Type}{o:Option α}{f:α->Option β}{b:β}(h:o.bind f=some b):∃a,o=some a/\f a=some b:=by
 cases o with
 |none=>cases h
 |some a=>exact⟨a,rfl,h⟩
theorem zed{e:Expr}{q:CallQ}(h:zg7 e=some q):e=.Call (.Name q.f q.p) q.args [] q.cp:=by
 unfold zg7 at h
 split at h
 .obtain⟨z,h1,rfl⟩:=mapS h
  rw[zg6 h1]
 .cases h
noncomputable def stE:Stmt->Option (Expr×Pos)
 |.Expr e p=>some (e,p)
 |_=>none
theorem zvm{s:Stmt}{q:Expr×Pos}(h:stE s=some q):s=.Expr q.1 q.2:=by
 unfold stE at h
 split at h
 .cases h;rfl
 .cases h
noncomputable def stR:Stmt->Option (Expr×Pos)
 |.Return o p=>o.map λe=>(e,p)
 |_=>none
theorem zvn{s:Stmt}{q:Expr×Pos}(h:stR s=some q):s=.Return (some q.1) q.2:=by
 unfold stR at h
 split at h
 .obtain⟨e,h1,rfl⟩:=mapS h
  rw[h1]
 .cases h
noncomputable def Word(X:Cx)(C:Nat)(z:Str):Prop:=∃f fd ps,X.mg "_law_word" = some (.ref f)/\FnOkH X.prog X.w X.K X.mg X.base 2 f fd ps (spWd C z)/\PySem.W.keepIn X.K (.ref f)=true/\Binds X.K fd ps []
end RF
namespace L2
open PySem PySem.Spec PyProof.Rows
noncomputable def missE(K:PySem.W.Frag)(C D:Addr):Bool:=XL.excCls K C&&XL.excCls K D&&match K.lookup C with
 |some o=>(match o.data with
  |.cls cd=>!(cd.mro.contains (.ref D))
  |_=>false)
 |none=>false
section
variable{M:Model}{A:Around}{E:Value->Shared->Prop}{s:Shared}{K:PySem.W.Frag}{C D x:Addr}{oe:Obj}
theorem zor{Q:Bool->Shared->Prop}(X:K.In s.heap)(hs:missE K C D=true)(he:s.heap.get? x=some oe)(hc:oe.cls=.ref C)(h:Q false s):wpAny M A (excMatches (.ref x) (.ref D)) Q E s:=by
 unfold missE at hs
 rw[vaa,vaa]at hs
 obtain⟨⟨hC,hD⟩,hm⟩:=hs
 obtain⟨nm,qn,N,bs,bm,hd,sn,sub,ab,col,dd,k0,k1,k2,k3,k5,oC,T⟩:=XL.excCls_of X hC
 obtain⟨nm',qn',N',bs',bm',hd',sn',sub',ab',col',dd',k0',k1',k2',k3',k5',oD,T'⟩:=XL.excCls_of X hD
 have c1:(Value.ref D::bm').contains (.type "BaseException")=true:=by rw[vdv,T'.hasType (X:="BaseException") (b:=true) (by decide +kernel),vd6]
 have c2:(Value.ref C::bm).contains (.ref D)=false:=by
  cases q:K.lookup C with
  |none=>rw[q]at hm;cases hm
  |some o=>
   rw[q]at hm
   have:=X C o q
   rw[oC]at this
   cases this
   simpa using hm
 have f:=tc_notTuple
 obtain⟨hp,g,d,tk,os⟩:=s
 unfold excMatches
 repeat(first
  |(with_reducible refine vbh he ?_;rw[hc])
  |with_reducible refine vbh oD ?_
  |(with_reducible refine vbq oD ?_;rw[c1])
  |(with_reducible refine vbq oC ?_;rw[c2])
  |wp_step)
 exact h
end
noncomputable def tryE2(K:PySem.W.Frag)(D D2:Addr)(i:Nat)(th th2:TS)(D0:Ends)(σ:St):XK:=λc dx H2=>∃C,c=.ref C/\
 ((subE K C D=true/\∀x,H2 x=some (excR C dx x)->th {nx:=λσ' H'=>D0.nx (σ'.set i none) H',rt:=D0.rt,bk:=λσ' H'=>D0.bk (σ'.set i none) H',ct:=λσ' H'=>D0.ct (σ'.set i none) H'} (σ.set i (some (.ref x))) H2)\/
  (missE K C D=true/\subE K C D2=true/\∀x,H2 x=some (excR C dx x)->th2 {nx:=λσ' H'=>D0.nx (σ'.set i none) H',rt:=D0.rt,bk:=λσ' H'=>D0.bk (σ'.set i none) H',ct:=λσ' H'=>D0.ct (σ'.set i none) H'} (σ.set i (some (.ref x))) H2))
noncomputable def tTry2(K:PySem.W.Frag)(D D2:Addr)(i:Nat)(sp:Sp)(ta:TA)(th th2:TS):TS:=λD0 σ H=>ta σ H λvs H1=>sp vs H1 (λ_ H2=>D0.nx σ H2) (tryE2 K D D2 i th th2 D0 σ)
section
variable{X:Cx}
theorem zr1{k i:Nat}{fa D D2:Addr}{fd:FuncData}{ps:List Str}{sp:Sp}{f xb xc n:Str}{p cpos epos tp hpos tp2 hpos2 pos:Pos}{e:Expr}{es:List Expr}{b0 b1:Stmt}{suite suite1:List Stmt}{ta:TA}{th th2:TS}
 (hs:X.stack=X.env::X.outer) (hf:X.env.frame=some X.env.locals) (F:FnOk X.prog X.w X.K X.mg X.base (CX1 X.prog X.w) k fa fd ps sp) (hr:Room k X.A) (hg:Gl X f) (hm:X.mg f=some (.ref fa)) (hk:PySem.W.keepIn X.K (.ref fa)=true) (hb:Binds X.K fd ps [])
 (ha:PA X.nox (e::es) ta) (hgb:Gl X xb) (hmb:X.mg xb=some (.ref D)) (hgc:Gl X xc) (hmc:X.mg xc=some (.ref D2)) (hN:X.N.Nodup) (hi:X.N[i]?=some n) (hl:X.env.kindOf n=some .local) (hx:Loc X.env.scope n) (hfn:X.fn n=true)
 (hh:∀x,PSs (X.hand x) (b0::suite) th) (hh2:∀x,PSs (X.hand x) (b1::suite1) th2) (hdb:(f==("__debug__" : Str))=false) (hdb2:(xb==("__debug__" : Str))=false) (hdb3:(xc==("__debug__" : Str))=false)
 (he:starEach (e::es) X.env=(false,eval e X.env)::starEach es X.env ) (hpl:(backTo cpos (starEach es X.env)).any (·.1)=false ) (hsw:swapsWith (.Call (.Name f p) (e::es) [] cpos) none epos.line X.env=pure false ) :
 PS X (.Try [.Expr (.Call (.Name f p) (e::es) [] cpos) epos] [.ExceptHandler (some (.Name xb tp)) (some n) (b0::suite) hpos,.ExceptHandler (some (.Name xc tp2)) (some n) (b1::suite1) hpos2] [] [] pos) (tTry2 X.K D D2 i sp ta th th2):=by
 intro pins s σ H D0 I h
 refine wpAny_Try_except (wpAny_execs_cons (wpAny_Expr_any ?_ I.quiet hsw))
 refine vcb (zbl I hg hm ?_ hdb)
 refine vds (h₀:=X.base) I.ok.mod.kin hk (vbc (ha cpos pins s σ H _ (I.wish _) h) (λus s1 z9=>z9.el λvs H1 I1 r q=>?_) λ_ _ z=>z.elim) he hpl
 have I1:=I1.unwish
 refine⟨I1.kIn,?_⟩
 have len:us.length=ps.length:=by rw[<-r.length];exact F.len _ _ _ _ q
 have hb1:=hb s1 us I1.kIn (by rw[va7];exact len)
 rw[va7]at hb1
 refine vda (vdp (F.run X.A X.stack s1 H1 ⟨us,[]⟩ us vs (λ_ H2=>D0.nx σ H2) (tryE2 X.K D D2 i th th2 D0 σ) hr I1.env0 hb1 r q) λres s' hq=>?_)
 cases res with
 |ok fl=>
  cases fl with
  |ret u=>
   obtain⟨v,H2,I2,_,q2⟩:=I1.after hq
   exact vc8 (vc8 ⟨σ,H2,I2,q2⟩)
  |next=>exact False.elim hq
  |brk=>exact False.elim hq
  |cont=>exact False.elim hq
 |error er=>
  obtain⟨x,T,C,dx,H2,rfl,a,C',hc',hor⟩:=At.of (E:=tryE2 X.K D D2 i th th2 D0 σ) I1 hq
  cases hc'
  refine a.noted hs hf λs2 T2 a2=>a2.lands λs3 a3=>?_
  rcases hor with⟨sb,hth⟩|⟨ms,sb,hth⟩
  .refine wpAny_handleBy_cons (codeAny_handlers_test ?_) (by intro z;cases z)
   have I3:=a3.I.hand x
   refine zbl (X:=X.hand x) I3 hgb hmb ?_ hdb2
   obtain⟨vs3,sl3,he3,_⟩:=a3.ex.ex
   refine zmc a3.I.kIn sb he3 rfl ?_
   refine codeAny_handlers_suite_as (a3.lands λs4 a4=>?_)
   refine zcg (X:=X.hand x) (a4.I.hand x) hN hi hx (v:=.ref x) rfl (λs5 I5=>?_) (.inl hfn)
   refine vbc (hh x pins s5 _ H2 _ I5 (hth x a4.hx)) (λfl s6 q6=>?_) λ_ _ z=>z.elim
   cases fl with
   |next=>
    obtain⟨σ',H',I',q'⟩:=q6
    exact(I'.unhand I.ok).gone hN hi hl λs7 I7=>⟨_,H',I7,q'⟩
   |brk=>
    obtain⟨σ',H',I',q'⟩:=q6
    exact(I'.unhand I.ok).gone hN hi hl λs7 I7=>⟨_,H',I7,q'⟩
   |cont=>
    obtain⟨σ',H',I',q'⟩:=q6
    exact(I'.unhand I.ok).gone hN hi hl λs7 I7=>⟨_,H',I7,q'⟩
   |ret u=>
    obtain⟨v,σ',H',I',r',q'⟩:=q6
    exact(I'.unhand I.ok).gone hN hi hl λs7 I7=>⟨v,_,H',I7,r',q'⟩
  .refine wpAny_handleBy_cons (codeAny_handlers_test ?_) (by intro z;cases z)
   have I3:=a3.I.hand x
   refine zbl (X:=X.hand x) I3 hgb hmb ?_ hdb2
   obtain⟨vs3,sl3,he3,_⟩:=a3.ex.ex
   refine zor a3.I.kIn ms he3 rfl ?_
   refine wpAny_handleBy_cons (codeAny_handlers_test ?_) (by intro z;cases z)
   refine zbl (X:=X.hand x) I3 hgc hmc ?_ hdb3
   refine zmc a3.I.kIn sb he3 rfl ?_
   refine codeAny_handlers_suite_as (a3.lands λs4 a4=>?_)
   refine zcg (X:=X.hand x) (a4.I.hand x) hN hi hx (v:=.ref x) rfl (λs5 I5=>?_) (.inl hfn)
   refine vbc (hh2 x pins s5 _ H2 _ I5 (hth x a4.hx)) (λfl s6 q6=>?_) λ_ _ z=>z.elim
   cases fl with
   |next=>
    obtain⟨σ',H',I',q'⟩:=q6
    exact(I'.unhand I.ok).gone hN hi hl λs7 I7=>⟨_,H',I7,q'⟩
   |brk=>
    obtain⟨σ',H',I',q'⟩:=q6
    exact(I'.unhand I.ok).gone hN hi hl λs7 I7=>⟨_,H',I7,q'⟩
   |cont=>
    obtain⟨σ',H',I',q'⟩:=q6
    exact(I'.unhand I.ok).gone hN hi hl λs7 I7=>⟨_,H',I7,q'⟩
   |ret u=>
    obtain⟨v,σ',H',I',r',q'⟩:=q6
    exact(I'.unhand I.ok).gone hN hi hl λs7 I7=>⟨v,_,H',I7,r',q'⟩
end
section
variable{X:Cx}{e:Expr}{ta:TE}{f:Str}{pos:Pos}
noncomputable def zvo(K:PySem.W.Frag)(ta:TE)(f:Str):TE:=λσ H Q=>ta σ H λx H1=>∃a C dx fs v,x=.ref a/\XL.ExcK K C/\zgl K C f/\H1 a=some (excR C (some dx) a)/\H1 dx=some (xdH fs dx)/\fs.lookup f=some v/\Q v H1
theorem zi3(he:PE X e ta)(hb:attributeBase e f X.env (eval e X.env)=eval e X.env):PE X (.Attribute e f pos) (zvo X.K ta f):=by
 intro pins s σ H Q I h
 refine zqu hb (thn (he pins s σ H _ I h) λu s1 z9=>z9.el λx H1 I1 rx hq0=>?_)
 obtain⟨a,C,dx,fs,v,ex,kk,n,ea,ed,l,q⟩:=hq0
 subst ex
 obtain rfl:u=Value.ref a:=rx
 obtain⟨vs,sl,ht⟩:=zma I1.hok ea
 obtain⟨mA,n1,r1,w1,l1⟩:=zld I1.hok ed
 obtain⟨od,hod,hlk⟩:=zci n1
 obtain⟨u',hu,ru⟩:=RelO.some_of (v:=v) (o:=mA f) (by rw[<-l];exact r1 f)
 exact XL.exc_get kk I1.kIn (od:=some od) ⟨ht,rfl,rfl,hod⟩ (PySem.W.findObj_own kk.hd n rfl (by rw[hlk,hu])) (zkv ru) ⟨v,H1,I1.tok _,ru,q⟩
end
end L2
namespace RF
open PySem PySem.Spec PyProof.Rows L2
noncomputable def isBn(o:Option (Option Value))(s:String):Bool:=match o with
 |some (some (.builtin b))=>b==s
 |_=>false
theorem zmi{o:Option (Option Value)}{s:String}(h:isBn o s=true):o=some (some (.builtin s)):=by
 unfold isBn at h
 split at h
 .rename_i b;rw[show b=s by simpa using h]
 .cases h
noncomputable def excKB(K:PySem.W.Frag)(C:Addr):Bool:=(PySem.W.clsIn K C).any (λcd=>XL.onlyVE cd.mro)&&isBn (PySem.W.findIn K (.ref C) "__getattribute__") "BaseException.__getattribute__" && zcb K C "__getattr__" && isBn (PySem.W.findIn K (.ref C) "__setattr__") "object.__setattr__" && PySem.W.hasDictIn K C
theorem zi4{K:PySem.W.Frag}{C:Addr}(h:excKB K C=true):XL.ExcK K C:=by
 unfold excKB at h
 simp only[vaa]at h
 obtain⟨⟨⟨⟨h1,h2⟩,h3⟩,h4⟩,h5⟩:=h
 exact⟨h1,zmi h2,zbp h3,zmi h4,h5⟩
noncomputable def attB(K:PySem.W.Frag)(C:Addr):Bool:=excKB K C&&zcb K C "row" && zcb K C "column"
noncomputable def hTup(n:Str):Expr->Option Bool
 |.Tuple [.Call (.Name w _) [.Name y _] [] _,a,b] _ _=>if w==("_law_word" : Str)&&y==n then(match a,b with
  |.Attribute (.Name y2 _) r _,.Attribute (.Name y3 _) c _=>if y2==n&&y3==n&&r==("row" : Str)&&c==("column" : Str)then some true else none
  |.Constant (.int i) _ _,.Constant (.int j) _ _=>if i==0&&j==0 then some false else none
  |_,_=>none)else none
 |_=>none
noncomputable def AttOk(K:PySem.W.Frag)(C:Addr):Prop:=XL.ExcK K C/\zgl K C "row"/\zgl K C "column"
noncomputable def zp0(ta:List (Nat×Str))(i:Nat):TS:=λD σ H=>∃C z x dx r c,(C,z)∈ta/\(i<σ.length->σ[i]?=some (some (.ref x)))/\H x=some (excR C (some dx) x)/\H dx=some (xdH (fsI (.int r) (.int c)) dx)/\
 ∀H',Hx H H'->∀p,H' p=none->D.rt (.ref p) (upd H' p (.tup [.str z,.int r,.int c]))
noncomputable def zp1(tb:List (Nat×Str))(i:Nat):TS:=λD σ H=>∃C z x,(C,z)∈tb/\(i<σ.length->σ[i]?=some (some (.ref x)))/\Err C x H/\
 ∀H',Hx H H'->∀p,H' p=none->D.rt (.ref p) (upd H' p (.tup [.str z,.int 0,.int 0]))
theorem zr2{K:PySem.W.Frag}{C:Addr}(h:attB K C=true):AttOk K C:=by
 unfold attB at h
 rw[vaa,vaa]at h
 exact⟨zi4 h.1.1,zbp h.1.2,zbp h.2⟩
section
variable{X:Cx}{ta tb:List (Nat×Str)}{n:Str}{i:Nat}
theorem zi5{bb:Bool}{hb:Expr}{rp:Pos}{x:Addr}(hf:hTup n hb=some bb)(hr:RoomH 2 (X.hand x).A)(hw:∀C z,(C,z)∈ta\/(C,z)∈tb->Word X C z)(hat:∀C z,(C,z)∈ta->AttOk X.K C)(hgw:Gl X "_law_word")(hi:X.N[i]?=some n)(hv:Vis X.env.scope n)(hd:(n==("__debug__" : Str))=false)(hcd:(n==("__classdict__" : Str))=false) :
 PSs (X.hand x) [.Return (some hb) rp] (if bb then zp0 ta i else zp1 tb i):=by
 have pv:∀yp,PE (X.hand x) (.Name n yp) (tVar i):=λyp=>zio (X:=X.hand x) (pos:=yp) hi hv hd hcd
 unfold hTup at hf
 split at hf
 case h_2=>cases hf
 rename_i w wp y yp cp a b tc tp
 split at hf
 case isFalse=>cases hf
 rename_i hc
 rw[vaa,vb7,vb7]at hc
 obtain⟨rfl,rfl⟩:=hc
 split at hf
 .rename_i y2 p2 r p3 y3 p4 c p5
  split at hf
  case isFalse=>cases hf
  rename_i hc
  simp only[vaa,vb7]at hc
  obtain⟨⟨⟨rfl,rfl⟩,rfl⟩,rfl⟩:=hc
  cases hf
  intro pins s σ H D I ⟨C,z,y,dx,r,c,hm,hσ,h1,h2,k⟩
  have hl:i<σ.length:=by rw[I.len];exact(van.mp hi).1
  obtain⟨f,fd,ps,w1,w2,w3,w4⟩:=hw C z (.inl hm)
  obtain⟨a1,a2,a3⟩:=hat C z hm
  have pe:PE (X.hand x) (.Call (.Name "_law_word" wp) [.Name _ yp] [] cp) _:=zf0 (X:=X.hand x) (p:=wp) (pos:=cp) w2 hr hgw w1 w3 w4 (zav (pv yp) zbn)
  refine(zfh (zgi (zkx (zav pe (zav (zi3 (pv p2) rfl) (zav (zi3 (pv p4) rfl) zbn)))))) pins s σ H D I ?_
  refine⟨_,hσ hl,y,rfl,⟨some dx,h1,λd hd=>by cases hd;exact⟨_,h2⟩⟩,λH' hh=>?_⟩
  refine⟨_,hσ hl,y,C,dx,_,.int r,rfl,a1,a2,hh _ _ h1,hh _ _ h2,rfl,?_⟩
  refine⟨_,hσ hl,y,C,dx,_,.int c,rfl,a1,a3,hh _ _ h1,hh _ _ h2,rfl,?_⟩
  exact⟨by show 3<=sizeLine;decide,λp hp=>k H' hh p hp⟩
 .rename_i i1 k1 p1 i2 k2 p2
  split at hf
  case isFalse=>cases hf
  rename_i hc
  simp only[vaa,vb7]at hc
  obtain⟨rfl,rfl⟩:=hc
  cases hf
  intro pins s σ H D I ⟨C,z,y,hm,hσ,hx,k⟩
  have hl:i<σ.length:=by rw[I.len];exact(van.mp hi).1
  obtain⟨f,fd,ps,w1,w2,w3,w4⟩:=hw C z (.inr hm)
  have pe:PE (X.hand x) (.Call (.Name "_law_word" wp) [.Name _ yp] [] cp) _:=zf0 (X:=X.hand x) (p:=wp) (pos:=cp) w2 hr hgw w1 w3 w4 (zav (pv yp) zbn)
  refine(zfh (zgi (zkx (zav pe (zav ziq (zav ziq zbn)))))) pins s σ H D I ?_
  refine⟨_,hσ hl,y,rfl,hx,λH' hh=>?_⟩
  exact⟨by show 3<=sizeLine;decide,λp hp=>k H' hh p hp⟩
 .cases hf
theorem zg8:∀{ta:List (Nat×Str)} {c:Nat} {z:Str},ta.lookup c=some z->(c,z)∈ta
 |[],_,_,e=>by cases e
 |(d,y)::r,c,z,e=>by
  rw[vax]at e
  by_cases h:(c==d)=true
  .rw[h]at e
   cases e
   rw[show c=d by simpa using h];exact vaq ..
  .rw[show(c==d)=false by simpa using h]at e
   exact vai _ (zg8 e)
noncomputable def zW(z:Str):W:=.tup [.str z,.int 0,.int 0]
theorem zg9:∀{tb:List (Nat×Str)} {c:Nat} {w:W},(tb.map λp=>(p.1,zW p.2)).lookup c=some w->∃z,(c,z)∈tb/\w=zW z
 |[],_,_,e=>by cases e
 |(d,z)::r,c,w,e=>by
  rw[vav,vax]at e
  by_cases h:(c==d)=true
  .rw[h]at e
   cases e
   exact⟨z,by rw[show c=d by simpa using h];exact vaq ..,rfl⟩
  .rw[show(c==d)=false by simpa using h]at e
   obtain⟨z',h1,h2⟩:=zg9 e
   exact⟨z',vai _ h1,h2⟩
noncomputable abbrev gTry2(g:List W->VH->Res W)(fa:FE)(tb:List (Nat×W))(ta:List (Nat×Str)):FS:=λρ h=>(fa ρ h).bind λy h=>match y with
 |.tup ys=>(g ys h).bind λw h=>tryW2 tb ta ρ w h
 |_=>.no
theorem zr3{k:Nat}{fa D D2:Addr}{fd:FuncData}{ps:List Str}{g:List W->VH->Res W}{f xb xc:Str}{p cpos epos tp hpos tp2 hpos2 pos rp rp2:Pos}{e hb hb2:Expr}{es:List Expr}{ga:FE}
 (hs:X.stack=X.env::X.outer) (hf:X.env.frame=some X.env.locals) (F:FnOk X.prog X.w X.K X.mg X.base (CX1 X.prog X.w) k fa fd ps (spX X.K ps.length g)) (hr:Room k X.A) (hr2:∀x,RoomH 2 (X.hand x).A) (hg:Gl X f) (hm:X.mg f=some (.ref fa)) (hk:PySem.W.keepIn X.K (.ref fa)=true) (hbd:Binds X.K fd ps [])
 (hlen:∀ws h w h',g ws h=.ok w h'->ws.length=ps.length) (ha:SA X.nox (e::es) ga) (hst:(e::es).all zaq=true) (hgb:Gl X xb) (hmb:X.mg xb=some (.ref D)) (hgc:Gl X xc) (hmc:X.mg xc=some (.ref D2)) (hN:X.N.Nodup) (hi:X.N[i]?=some n) (hl:X.env.kindOf n=some .local) (hx:Loc X.env.scope n) (hv:Vis X.env.scope n) (hfn:X.fn n=true)
 (hfo:hTup n hb=some true) (hfo2:hTup n hb2=some false) (hw:∀C z,(C,z)∈ta\/(C,z)∈tb->Word X C z) (hat:∀C z,(C,z)∈ta->AttOk X.K C) (hgw:Gl X "_law_word") (hsub:∀C z,(C,z)∈ta->subE X.K C D=true) (hmis:∀C z,(C,z)∈tb->missE X.K C D=true/\subE X.K C D2=true)
 (hdb:(f==("__debug__" : Str))=false) (hdb2:(xb==("__debug__" : Str))=false) (hdb4:(xc==("__debug__" : Str))=false) (hdb3:(n==("__debug__" : Str))=false) (hcd:(n==("__classdict__" : Str))=false) :
 SS X (.Try [.Expr (.Call (.Name f p) (e::es) [] cpos) epos] [.ExceptHandler (some (.Name xb tp)) (some n) [.Return (some hb) rp] hpos,.ExceptHandler (some (.Name xc tp2)) (some n) [.Return (some hb2) rp2] hpos2] [] [] pos) (gTry2 g ga (tb.map λc=>(c.1,zW c.2)) ta):=by
 rw[vbn,vaa]at hst
 refine(zr1 (i:=i) (th:=zp0 ta i) (th2:=zp1 tb i) hs hf F hr hg hm hk hbd ha hgb hmb hgc hmc hN hi hl hx hfn (λx=>zi5 hfo (hr2 x) hw hat hgw hi hv hdb3 hcd) (λx=>zi5 hfo2 (hr2 x) hw hat hgw hi hv hdb3 hcd) hdb hdb2 hdb4 (zad hst.1) (zbd hst.2) rfl).imp λD0 σ H z9=>z9.el λρ h m fl h' f r e kk=>?_
 refine zaa e λy h1 e1 e2=>?_
 cases y with
 |tup ys=>
  refine zaa e2 λw h2 e3 e4=>?_
  refine lftA.mk f r e1 λvs H1 m1 s1 r1 q1=>⟨by rw[q1.length,hlen _ _ _ _ e3],h1,m1,ys,w,h2,r1,q1,e3,?_⟩
  unfold tryW2 at e4
  split at e4
  .cases e4
   exact λv H' m' s' r' _=>kk H' m' (s1.trans s') r' σ (f.stp (s1.trans s'))
  .rename_i ii
   split at e4
   .rename_i w' hlk
    cases e4
    obtain⟨z,hmem,rfl⟩:=zg9 hlk
    intro H' m' s' r' H2 dx a hk hx2 hd2
    refine⟨ii.toNat,rfl,.inr ⟨(hmis _ _ hmem).1,(hmis _ _ hmem).2,λx hx'=>⟨ii.toNat,z,x,hmem,λhl'=>va5 (by rwa [vcy]at hl'),⟨dx,hx',hd2⟩,λH'' hh p hp=>?_⟩⟩⟩
    obtain⟨st,r''⟩:=r'.hx (hk.trans hh)
    have wn:Wants X.K m' h'.n H'' (zW z) h' D0.rt:=λv H3 m3 st3 r3 q=>kk H3 m3 (((s1.trans s').trans st).trans st3) r3 v q
    exact Wants.tuple wn r'' (.cons (.str z) (.cons (.int 0) (.cons (.int 0) .nil))) hp
   .cases e4
  .rename_i ii rr cc
   split at e4
   .rename_i z hlk
    cases e4
    have hmem:=zg8 hlk
    intro H' m' s' r' H2 dx a hk hx2 hd2
    refine⟨ii.toNat,rfl,.inl ⟨hsub _ _ hmem,λx hx'=>⟨ii.toNat,z,x,dx,rr,cc,hmem,λhl'=>va5 (by rwa [vcy]at hl'),hx',hd2,λH'' hh p hp=>?_⟩⟩⟩
    obtain⟨st,r''⟩:=r'.hx (hk.trans hh)
    have wn:Wants X.K m' h'.n H'' (.tup [.str z,.int rr,.int cc]) h' D0.rt:=λv H3 m3 st3 r3 q=>kk H3 m3 (((s1.trans s').trans st).trans st3) r3 v q
    exact Wants.tuple wn r'' (.cons (.str z) (.cons (.int rr) (.cons (.int cc) .nil))) hp
   .cases e4
  .cases e4
 |_=>cases e2
end
set_option genInjectivity false in
structure CC where
 N:List Str
 names:List (Str×NameKind)
 fnAll:Bool
noncomputable def zbq:List Str->Str->Nat->Option Nat
 |[],_,_=>none
 |y::r,x,i=>if y==x then some i else zbq r x (i+1)
theorem zha:∀{N:List Str} {x:Str} {k i:Nat},zbq N x k=some i->∃j,i=k+j/\N[j]?=some x
 |[],_,_,_,e=>by cases e
 |y::r,x,k,i,e=>by
  unfold zbq at e
  split at e
  .rename_i h
   cases e
   exact⟨0,rfl,by simpa using h⟩
  .obtain⟨j,h1,h2⟩:=zha e
   exact⟨j+1,by omega,by simpa using h2⟩
theorem zcn{N:List Str}{x:Str}{i:Nat}(e:zbq N x 0=some i):N[i]?=some x:=by
 obtain⟨j,h1,h2⟩:=zha e
 rw[show i=j by omega];exact h2
noncomputable def visK:Option NameKind->Bool
 |some .local|some .cell|some .free=>true
 |_=>false
noncomputable def locK(all:Bool):Option NameKind->Bool
 |some .local=>true
 |some .cell=>all
 |_=>false
noncomputable def okN(x:Str):Bool:=!(x==("__debug__" : Str)) && !(x==("__classdict__" : Str)) && !(x==("__name__" : Str)) && !(x==("" : Str))
theorem zvp{x:Str}(h:okN x=true):x≠"":=by
 unfold okN at h
 simp only[vaa,vd2]at h
 exact λz=>by rw[z]at h;simp at h
theorem za8{x:Str}(h:okN x=true):(x==("__debug__" : Str))=false/\(x==("__classdict__" : Str))=false/\x≠"__name__":=by
 unfold okN at h
 simp only[vaa,vd2]at h
 exact⟨h.1.1.1,h.1.1.2,λz=>by rw[z]at h;simp at h⟩
noncomputable def cstW(K:PySem.W.Frag):Nat->Value->Option W
 |0,_=>none
 |n+1,v=>match v with
  |.none=>some .non
  |.bool b=>some (.bl b)
  |.int i _=>some (.int i)
  |.str x _=>some (.str x)
  |.ref a=>(match K.lookup a with
   |some o=>(match o.cls,o.dict,o.data with
    |.type t,none,.seq its _=>if t == "tuple" && Nat.ble its.size 1000 then(mapO (cstW K n) its.toList).map .tup else none
    |_,_,_=>none)
   |none=>none)
  |_=>none
theorem zmj{K:PySem.W.Frag}{f:Value->Option W}(ih:∀v w,f v=some w->∃x,RelV x v/\∀m n H,VRep K m n H x w):∀{us:List Value} {ws:List W},mapO f us=some ws->∃xs,Vals xs us/\∀m n H,VReps K m n H xs ws
 |[],_,e=>by cases e;exact⟨[],.nil,λ_ _ _=>.nil⟩
 |u::us,ws,e=>by
  unfold mapO at e
  split at e
  .rename_i b hb
   split at e
   .rename_i bs hbs
    cases e
    obtain⟨x,h1,h2⟩:=ih u b hb
    obtain⟨xs,h3,h4⟩:=zmj ih hbs
    exact⟨x::xs,.cons h1 h3,λm n H=>.cons (h2 m n H) (h4 m n H)⟩
   .cases e
  .cases e
theorem zmk{K:PySem.W.Frag}:∀(n:Nat) (v:Value) (w:W),cstW K n v=some w->∃x,RelV x v/\∀m n H,VRep K m n H x w
 |0,_,_,e=>by cases e
 |n+1,v,w,e=>by
  unfold cstW at e
  split at e
  .cases e;exact⟨.non,rfl,λ_ _ _=>.non⟩
  .cases e;exact⟨.bl _,rfl,λ_ _ _=>.bl _⟩
  .cases e;exact⟨.int _,⟨_,rfl⟩,λ_ _ _=>.int _⟩
  .cases e;exact⟨.str _,⟨_,rfl⟩,λ_ _ _=>.str _⟩
  .rename_i a
   split at e
   .rename_i o ho
    split at e
    .rename_i t its nn hc hdd hd
     split at e
     .rename_i hz
      rw[vaa]at hz
      have ht:t = "tuple":=by simpa using hz.1
      subst ht
      cases z:mapO (cstW K n) its.toList with
      |none=>rw[z]at e;cases e
      |some ws=>
       rw[z]at e
       cases e
       obtain⟨xs,h3,h4⟩:=zmj (zmk n) z
       exact⟨.ref a,rfl,λm n H=>.tup (.inr ⟨o,its,nn,ho,hc,hdd,hd,vdo (zd4 (vay hz.2)),h3⟩) (h4 m n H)⟩
     .cases e
    .cases e
   .cases e
  .cases e
noncomputable def dEnt(K:PySem.W.Frag)(e:DictEntry):Option W:=match e.key with
 |.str x _=>(cstW K 8 e.val).map λw=>.tup [.str x,w]
 |_=>none
noncomputable def zf3(w:World):List DictEntry->Prop
 |[]=>True
 |e::r=>(match e.key with
  |.str x _=>e.hash=hashStr w x
  |_=>True)/\zf3 w r
noncomputable def DctOk(w:World)(K:PySem.W.Frag):Prop:=match PySem.W.nsIn K mainGlobals "MIRRORED_RAMPS"with
 |some (some (.ref a))=>(match K.lookup a with
  |some o=>(match o.data with
   |.dict es _=>zf3 w es.toList
   |_=>True)
  |none=>True)
 |_=>True
noncomputable def zml(ps:List W):Bool:=match decK ps with
 |some kvs=>decide (kvs.map (·.1)).Nodup
 |none=>false
noncomputable def dctW(K:PySem.W.Frag):Option (List W):=match PySem.W.nsIn K mainGlobals "MIRRORED_RAMPS"with
 |some (some (.ref a))=>(match K.lookup a with
  |some o=>(match o.cls,o.dict,o.slots,o.data with
   |.type t,none,⟨[]⟩,.dict es _=>if t == "dict" && !(a==sysModules)then(match mapO (dEnt K) es.toList with
    |some ps=>if zml ps then some ps else none
    |none=>none)else none
   |_,_,_,_=>none)
  |none=>none)
 |_=>none
theorem zmm{P:Program}{w:World}{K:PySem.W.Frag}:∀{es:List DictEntry} {ps:List W},zf3 w es->mapO (dEnt K) es=some ps->
 ∃kws kvs vs,decK ps=some kws/\(∀m n H,KReps K m n H kvs kws)/\KV kvs vs/\(∀e∈es,∃k,(zao P w).is k e.key=true/\e.hash=(zao P w).hash k)/\PySem.Pairs (zao P w) es vs/\kws.map (·.1)=vs.map (·.1)
 |[],ps,_,e=>by cases e;exact⟨[],[],[],rfl,λ_ _ _=>.nil,.nil,(λ_ z=>nomatch z),.nil,rfl⟩
 |⟨hs,ky,vl⟩::es,ps,hh,e=>by
  unfold mapO at e
  split at e
  .rename_i b hb
   split at e
   .rename_i bs hbs
    cases e
    obtain⟨kws,kvs,vs,a1,a2,a3,a4,a5,a6⟩:=zmm (P:=P) hh.2 hbs
    unfold dEnt at hb
    split at hb
    .rename_i x t hk
     obtain⟨w',h1,rfl⟩:=Option.map_eq_some_iff.mp hb
     obtain⟨v,r,q⟩:=zmk 8 _ _ h1
     have hk:ky=.str x t:=hk
     subst hk
     refine⟨(.inr x,w')::kws,(.inr x,v)::kvs,(.inr x,vl)::vs,by simp only[decK,a1];rfl,λm n H=>.cons (q m n H) (a2 m n H),.cons ⟨rfl,r⟩ a3,?_,.cons (zca P w x t) rfl a5,by rw[vav,vav,a6]⟩
     intro e he
     rcases va0.mp he with rfl|he
     .exact⟨.inr x,zca P w x t,hh.1⟩
     .exact a4 e he
    .cases hb
   .cases e
  .cases e
theorem zvq{P:Program}{w:World}{K:PySem.W.Frag}{ps:List W}(hK:DctOk w K)(h:dctW K=some ps) :
 ∃a o es ep kws kvs vs,PySem.W.nsIn K mainGlobals "MIRRORED_RAMPS" = some (some (.ref a))/\K.lookup a=some o/\(a==sysModules)=false/\o.ExactDict/\o.data=.dict es ep/\PySem.KeysOf (zao P w) es/\PySem.Pairs (zao P w) es.toList vs/\(vs.map (·.1)).Nodup/\KV kvs vs/\
  decK ps=some kws/\∀m n H,KReps K m n H kvs kws:=by
 unfold dctW at h
 split at h
 .rename_i a ha
  split at h
  .rename_i o ho
   split at h
   .rename_i t es ep h1 h2 h3 h4
    split at h
    .rename_i hc
     rw[vaa]at hc
     have ht:t = "dict":=by simpa using hc.1
     subst ht
     split at h
     .rename_i ps' hps
      split at h
      .rename_i hnt
       cases h
       unfold DctOk at hK
       rw[ha]at hK
       simp only[ho,h4]at hK
       obtain⟨kws,kvs,vs,a1,a2,a3,a4,a5,a6⟩:=zmm (P:=P) hK hps
       unfold zml at hnt
       rw[a1]at hnt
       simp only[vap]at hnt
       rw[a6]at hnt
       exact⟨a,o,es,ep,kws,kvs,vs,ha,ho,by simpa using hc.2,⟨h1,h2,h3⟩,h4,λe he=>a4 e (Array.mem_toList_iff.mpr he),a5,hnt,a3,a1,a2⟩
      .cases h
     .cases h
    .cases h
   .cases h
  .cases h
 .cases h
noncomputable def isGD(C:CC):Expr->Bool
 |.Name g _=>g==("MIRRORED_RAMPS" : Str)&&C.names.lookup g==some .globalImplicit
 |_=>false
theorem zr4{C:CC}{e:Expr}(h:isGD C e=true):∃p,e=.Name "MIRRORED_RAMPS" p/\C.names.lookup ("MIRRORED_RAMPS" : Str)=some .globalImplicit:=by
 unfold isGD at h
 split at h
 .rename_i g p
  rw[vaa]at h
  have hg:g = "MIRRORED_RAMPS":=by simpa using h.1
  subst hg
  exact⟨p,rfl,by simpa using h.2⟩
 .cases h
noncomputable def cL(f:Expr->Option E):List Expr->Option E
 |[]=>some .nil
 |e::es=>match f e,cL f es with
  |some a,some r=>some (.cons a r)
  |_,_=>none
noncomputable def fnAt(K:PySem.W.Frag)(x:Str):Option (Addr×Obj×FuncData):=match refAt K x with
 |some f=>(match K.lookup f with
  |some o=>(match o.data with
   |.func fd=>some (f,o,fd)
   |_=>none)
  |none=>none)
 |none=>none
noncomputable def za5:Arguments->Option (List Arg)
 |⟨[],args,none,[],[],none,_⟩=>some args
 |_=>none
noncomputable def isNone:Value->Bool
 |.none=>true
 |_=>false
noncomputable def zf4:Data->Bool
 |.seq xs _=>(match xs.toList with
  |[v]=>isNone v
  |_=>false)
 |_=>false
noncomputable def noneD(K:PySem.W.Frag):Value->Bool
 |.ref t=>(match K.lookup t with
  |some o=>zf4 o.data
  |none=>false)
 |_=>false
noncomputable def zee(K:PySem.W.Frag)(x:Str)(n:Nat):Bool:=match fnAt K x with
 |some (_,_,fd)=>noneD K fd.defaults&&Nat.beq (n+1) fd.params.args.length
 |none=>false
noncomputable def hasD(K:PySem.W.Frag)(x:Str):Bool:=match fnAt K x with
 |some (_,_,fd)=>noneD K fd.defaults
 |none=>false
theorem zkb{K:PySem.W.Frag}{x:Str}{n:Nat}(h:zee K x n=true):hasD K x=true:=by
 unfold zee at h
 unfold hasD
 split at h
 .rw[vaa]at h;exact h.1
 .cases h
noncomputable def padE:E->E
 |.nil=>.cons (.cst .non) .nil
 |.cons a r=>.cons a (padE r)
 |e=>e
noncomputable def argsE:E->Bool
 |.nil=>true
 |.cons _ r=>argsE r
 |_=>false
theorem zvr{cl:Call}:∀{a:E},argsE a=true->∀(ρ:En) (h:VH),ev cl (padE a) ρ h=(ev cl a ρ h).bind λy h=>match y with|.tup ys=>.ok (.tup (ys++[.non])) h|_=>.no:=by
 intro a
 induction a with
 |nil=>intro _ ρ h;rfl
 |cons x r _ ih=>
  intro ha ρ h
  have ih:=ih ha
  simp only[padE,ev]
  cases ev cl x ρ h with
  |no=>rfl
  |ex _ _=>rfl
  |ok w h1=>
   show Res.bind (ev cl (padE r) ρ h1) _=Res.bind (Res.bind (ev cl r ρ h1) _) _
   rw[ih]
   cases ev cl r ρ h1 with
   |no=>rfl
   |ex _ _=>rfl
   |ok y h2=>cases y<;>rfl
 |_=>intro ha;cases ha
theorem zmn{f:Expr->Option E}:∀{es:List Expr} {a:E},cL f es=some a->argsE a=true
 |[],_,h=>by cases h;rfl
 |e::es,a,h=>by
  unfold cL at h
  split at h
  .rename_i x r h1 h2
   cases h
   show argsE r=true
   exact zmn h2
  .cases h
noncomputable def cPs(f:Expr->Option E):List (Option Expr)->List Expr->Option E
 |[],[]=>some .nil
 |some k::ks,v::vs=>match f k,f v,cPs f ks vs with
  |some a,some b,some r=>some (.cons a (.cons b r))
  |_,_,_=>none
 |_,_=>none
noncomputable def cB(and:Bool)(f:Expr->Option E):List Expr->Option E
 |[]=>none
 |[a]=>f a
 |a::b::r=>match f a,cB and f (b::r)with
  |some x,some y=>some (if and then .and x y else .or x y)
  |_,_=>none
noncomputable def cO(f:Expr->Option E):Option Expr->Option (Bool×E)
 |none=>some (false,.cst .non)
 |some e=>(f e).map λc=>(true,c)
noncomputable def zdk(K:PySem.W.Frag)(C:CC)(x:Str):Bool:=C.names.lookup x==some .globalImplicit&& (match PySem.W.nsIn K mainGlobals x with|some none=>true|_=>false)
noncomputable def tyOf(x:Str):Option Ty:=
 if x==("int" : Str)then some .int else if x==("bool" : Str)then some .bool else if x==("tuple" : Str)then some .tuple else if x==("list" : Str)then some .list else if x==("str" : Str)then some .str else if x==("dict" : Str)then some .dict else none
noncomputable def biOf(x:Str):Option Bi:=
 if x==("len" : Str)then some .len else if x==("list" : Str)then some .list else if x==("tuple" : Str)then some .tuple else if x==("int" : Str)then some .int else if x==("abs" : Str)then some .abs else if x==("min" : Str)then some .min else if x==("all" : Str)then some .all else none
noncomputable def zp2:Expr->Bool
 |.Tuple ..=>true
 |_=>false
noncomputable def okW:Kd->Expr->Bool
 |.enm,t=>zp2 t
 |.zip,t=>zp2 t
 |_,_=>true
noncomputable def nmIx(C:CC):Expr->Option Nat
 |.Name x _=>if okN x&&locK C.fnAll (C.names.lookup x)then zbq C.N x 0 else none
 |_=>none
noncomputable def cTg(C:CC):Expr->Option Tg
 |.Name x p=>(nmIx C (.Name x p)).map .one
 |.Tuple es _ _=>(mapO (nmIx C) es).map .many
 |_=>none
noncomputable def ownOf(sc:Scope):List Str:=(sc.names.filter λy=>y.2 == .local && !(y.1==(".0" : Str))).map (·.1)
noncomputable def zbc(sc:Scope):List Str:=(sc.names.filter λy=>y.2 == .free).map (·.1)
noncomputable def zef(C:CC)(sc:Scope)(ix:List Nat):Bool:=
 decide (sc.kind=.function)&&sc.names.all (λy=>decide (y.2≠.cell))&&sc.names.all (λy=>decide (y.2=.local->sc.names.lookup y.1=some .local)) &&
 (ownOf sc).all (λx=>decide (sc.names.lookup x=some .local))&&sc.names.all (λy=>decide (y.2=.free->C.names.lookup y.1=some .cell\/C.names.lookup y.1=some .free))&&decide (ix.length=(zbc sc).length) &&
 ((List.range (zbc sc).length).all λk=>match(zbc sc)[k]?,ix[k]? with
   |some x,some j=>decide (C.N[j]?=some x)&&decide (sc.names.lookup x=some .free)
   |_,_=>false)&&decide (ownOf sc++zbc sc).Nodup
noncomputable def inC(sc:Scope):CC:=⟨ownOf sc++zbc sc,sc.names,false⟩
mutual
noncomputable def cE(K:PySem.W.Frag)(T:List Str):Nat->CC->Expr->Option E
 |0,_,_=>none
 |n+1,C,e=>match e with
  |.Name x _=>if okN x then(if visK (C.names.lookup x)then(zbq C.N x 0).map .var
   else if C.names.lookup x==some .globalImplicit then(match PySem.W.nsIn K mainGlobals x with
    |some (some v)=>(cstW K 8 v).map .cst
    |_=>none)else none)else none
  |.Constant c _ _=>(match c with
   |.int i=>some (.cst (.int i))
   |.bool b=>some (.cst (.bl b))
   |.none=>some (.cst .non)
   |.str x=>some (.cst (.str x))
   |_=>none)
  |.Tuple es _ _=>(cL (cE K T n C) es).map .tup
  |.List es _=>(cL (cE K T n C) es).map .lst
  |.Dict ks vs _=>if Nat.ble ks.length 15&&Nat.beq ks.length vs.length&&ks.all (·.isSome)then(cPs (cE K T n C) ks vs).map .dsp else none
  |.BinOp a O b _=>(match opOf O,cE K T n C a,cE K T n C b with
   |some o,some x,some y=>some (.op o x y)
   |_,_,_=>none)
  |.UnaryOp o a _=>(match o with
   |.Not=>(cE K T n C a).map .not
   |.USub=>(cE K T n C a).map .neg
   |_=>none)
  |.BoolOp o es _=>(match o with
   |.And=>cB true (cE K T n C) es
   |.Or=>cB false (cE K T n C) es)
  |.Compare a Os bs _=>(match Os,bs with
   |[O],[b]=>if zb8 b then(match cpOf O,cE K T n C a,cE K T n C b with
   |some c,some x,some y=>some (.cmp c x y)
   |_,_,_=>none)else none
   |[O,O'],[b,c]=>if zb8 c then(match cpOf O,cpOf O',cE K T n C a,cE K T n C b,cE K T n C c with
   |some o,some o',some x,some y,some z=>some (.chn o o' x y z)
   |_,_,_,_,_=>none)else none
   |_,_=>none)
  |.IfExp c a b _=>(match cT K T n C c,cE K T n C a,cE K T n C b with
   |some z,some x,some y=>some (.ite z x y)
   |_,_,_=>none)
  |.Subscript a (.Slice none none (some s) _) _=>(match cE K T n C a,cE K T n C s with
   |some x,some y=>some (.bi .rev (.cons x (.cons y .nil)))
   |_,_=>none)
  |.Subscript a b _=>(match b with
   |.Slice lo hi st _=>(match st with
    |none=>(match cE K T n C a,cO (cE K T n C) lo,cO (cE K T n C) hi with
   |some x,some (bl,l),some (bh,u)=>some (.slc x bl l bh u)
   |_,_,_=>none)
    |some _=>none)
   |b=>if zc8 b then(match cE K T n C a,cE K T n C b with
   |some x,some y=>some (.idx x y)
   |_,_=>none)else none)
  |.Call fn args kw pos=>(match kw with
   |[]=>(match fn with
    |.Name f _=>if okN f&&C.names.lookup f==some .globalImplicit then(match PySem.W.nsIn K mainGlobals f with
     |some none=>if f==("isinstance" : Str)then(match args with
      |[a,.Name t _]=>(match tyOf t,cE K T n C a with
       |some ty,some x=>if okN t&&zdk K C t then some (.isi ty x)else none
       |_,_=>none)
      |_=>none)
      else(match biOf f,args with
       |some b,_::_=>(cL (cE K T n C) args).map (.bi b)
       |_,_=>none)
     |some (some _)=>(match zbq T f 0 with
      |some i=>if zee K f args.length && !args.isEmpty then(cL (cE K T n C) args).map (λa=>.call i (padE a))else(cL (cE K T n C) args).map (.call i)
      |none=>none)
     |none=>none)else none
    |.Attribute o mth ap=>if zfv o&& (ap.endLine==pos.line)then(match cE K T n C o,args with
     |some x,[a]=>if mth==("append" : Str)then(cE K T n C a).map λy=>.mt .append x (.cons y .nil)else none
     |none,[a,b]=>if mth==("get" : Str)&&isGD C o then(match dctW K,cE K T n C a,cE K T n C b with
      |some ps,some y,some z=>some (.bi .cget (.cons (.cst (.tup ps)) (.cons y (.cons z .nil))))
      |_,_,_=>none)else none
     |_,_=>none)else none
    |_=>none)
   |_=>none)
  |.ListComp elt gs sc _=>(match gs with
   |[⟨tg,iter,ifs,0⟩]=>(match mapO (λx=>zbq C.N x 0) (zbc sc)with
    |some ix=>if zef C sc ix then(match cW K T n C iter,cTg (inC sc) tg,(match ifs with|[]=>some (.cst (.bl true))|[c]=>cT K T n (inC sc) c|_=>none),cE K T n (inC sc) elt with
     |some (kd,a),some t,some c,some e=>if okW kd tg then some (.lc kd a t (ownOf sc).length ix c e)else none
     |_,_,_,_=>none)else none
    |none=>none)
   |_=>none)
  |_=>none
noncomputable def cT(K:PySem.W.Frag)(T:List Str):Nat->CC->Expr->Option E
 |0,_,_=>none
 |n+1,C,e=>match e with
  |.Compare a Os bs _=>(match Os,bs with
   |[O],[b]=>if zb8 b then(match cpOf O,cE K T n C a,cE K T n C b with
   |some c,some x,some y=>some (.cmp c x y)
   |_,_,_=>none)else none
   |[O,O'],[b,c]=>if zb8 c then(match cpOf O,cpOf O',cE K T n C a,cE K T n C b,cE K T n C c with
   |some o,some o',some x,some y,some z=>some (.chn o o' x y z)
   |_,_,_,_,_=>none)else none
   |_,_=>none)
  |.UnaryOp o a _=>(match o with
   |.Not=>(cT K T n C a).map .not
   |_=>none)
  |.BoolOp o es _=>(match o with
   |.And=>cB true (cT K T n C) es
   |.Or=>cB false (cT K T n C) es)
  |.Name x p=>(cE K T n C (.Name x p)).map .tru
  |.Call f as ks p=>(cE K T n C (.Call f as ks p)).map .tru
  |.Subscript a b p=>(cE K T n C (.Subscript a b p)).map .tru
  |_=>none
noncomputable def cW(K:PySem.W.Frag)(T:List Str):Nat->CC->Expr->Option (Kd×E)
 |0,_,_=>none
 |n+1,C,e=>match e with
  |.Call (.Name f p) args [] pos=>if f==("range" : Str)then(if zdk K C f then(match args with
   |[a]=>(cE K T n C a).map λx=>(.rng1,.cons x .nil)
   |_=>none)else none)
   else if f==("enumerate" : Str)then(if zdk K C f then(match args with
    |[a]=>(cE K T n C a).map λx=>(.enm,x)
    |_=>none)else none)
   else if f==("zip" : Str)then(if zdk K C f then(match args with
    |[a,b]=>(match cE K T n C a,cE K T n C b with
     |some x,some y=>some (.zip,.cons x (.cons y .nil))
     |_,_=>none)
    |_=>none)else none)
   else(cE K T n C (.Call (.Name f p) args [] pos)).map λx=>(.seq,x)
  |.Set ..=>none
  |e=>(cE K T n C e).map λx=>(.seq,x)
end
noncomputable def cSs(f:Stmt->Option S):List Stmt->Option S
 |[]=>some .skip
 |s::r=>match f s,cSs f r with
  |some a,some b=>some (.seq a b)
  |_,_=>none
structure RX where
 tel:List Str
 at_:Nat
 tb:List (Nat×Str)
structure HndQ where
 xb:Str×Pos
 nm:Str
 hb:Expr
 rp:Pos
 hp:Pos
noncomputable def hndOf:ExceptHandler->Option HndQ
 |.ExceptHandler t n hb hp=>(match t.bind nmE,n,(oneOf hb).bind stR with
  |some x,some nm,some r=>some ⟨x,nm,r.1,r.2,hp⟩
  |_,_,_=>none)
theorem zi6{x:ExceptHandler}{q:HndQ}(h:hndOf x=some q):x=.ExceptHandler (some (.Name q.xb.1 q.xb.2)) (some q.nm) [.Return (some q.hb) q.rp] q.hp:=by
 unfold hndOf at h
 split at h
 split at h
 .rename_i x nm r h3 h4
  cases h
  obtain⟨te,h11,h12⟩:=bindS h3
  obtain⟨s2,h13,h14⟩:=bindS h4
  rw[h11,zg6 h12,zds h13,zvn h14]
 .cases h
structure TryQ where
 c:CallQ
 ep:Pos
 a:HndQ
 b:HndQ
noncomputable def tryOf(b:List Stmt)(hs:List ExceptHandler):Option TryQ:=match((oneOf b).bind stE).bind λe=>(zg7 e.1).map λq=>(q,e.2),hs with
 |some q,[x,y]=>(match hndOf x,hndOf y with
  |some x,some y=>some ⟨q.1,q.2,x,y⟩
  |_,_=>none)
 |_,_=>none
theorem zos{b:List Stmt}{hs:List ExceptHandler}{q:TryQ}(h:tryOf b hs=some q):b=[.Expr (.Call (.Name q.c.f q.c.p) q.c.args [] q.c.cp) q.ep]/\hs=[.ExceptHandler (some (.Name q.a.xb.1 q.a.xb.2)) (some q.a.nm) [.Return (some q.a.hb) q.a.rp] q.a.hp,.ExceptHandler (some (.Name q.b.xb.1 q.b.xb.2)) (some q.b.nm) [.Return (some q.b.hb) q.b.rp] q.b.hp]:=by
 unfold tryOf at h
 split at h
 .rename_i qq x y h1
  split at h
  .rename_i u v h3 h4
   cases h
   obtain⟨s,h5,h6⟩:=bindS h1
   obtain⟨z,h7,h8⟩:=mapS h6
   obtain⟨s1,h9,h10⟩:=bindS h5
   cases h8
   rw[zds h9,zvm h10,zed h7,zi6 h3,zi6 h4]
   exact⟨rfl,rfl⟩
  .cases h
 .cases h
noncomputable def cTry2(K:PySem.W.Frag)(T:List Str)(R:RX)(d:Nat)(C:CC)(f:Str)(args:List Expr)(xa xb nm:Str)(h1 h2:Expr):Option S:=
 if okN f&&C.names.lookup f==some .globalImplicit&&okN xa&&C.names.lookup xa==some .globalImplicit&&okN xb&&C.names.lookup xb==some .globalImplicit&&okN nm&&C.names.lookup nm==some .local&&C.names.lookup ("_law_word" : Str)==some .globalImplicit then
  (match zbq R.tel f 0,PySem.W.nsIn K mainGlobals xa,PySem.W.nsIn K mainGlobals xb,zbq C.N nm 0,hTup nm h1,hTup nm h2,cL (cE K T d C) args with
    |some j,some (some (.ref D)),some (some (.ref D2)),some _,some true,some false,some a=>some (.try2 (R.at_+j) a ((R.tb.filter λc=>missE K c.1 D&&subE K c.1 D2).map λc=>(c.1,zW c.2)) (R.tb.filter λc=>subE K c.1 D&&attB K c.1))
    |_,_,_,_,_,_,_=>none)
 else none
noncomputable def cS(K:PySem.W.Frag)(T:List Str)(R:RX)(d:Nat):Nat->CC->Stmt->Option S
 |0,_,_=>none
 |n+1,C,s=>match s with
  |.Pass _=>some .skip
  |.Break _=>some .brk
  |.Continue _=>some .cnt
  |.Raise ..=>some .no
  |.Return r _=>(match r with
   |none=>some (.ret (.cst .non))
   |some e=>(cE K T d C e).map .ret)
  |.Expr e _=>if ze3 e then(cE K T d C e).map .expr else none
  |.Assign l e _=>(match l with
   |[t]=>(match t with
    |.Name x p=>(match nmIx C (.Name x p),cE K T d C e with
    |some i,some c=>some (.set i c)
    |_,_=>none)
    |.Tuple ts _ _=>if noTup e then(match mapO (nmIx C) ts,cE K T d C e with
    |some is,some c=>some (.unp is c)
    |_,_=>none)else none
    |.Subscript o i _=>if zc8 i then(match cE K T d C o,cE K T d C i,cE K T d C e with
    |some x,some y,some z=>some (.put x y z)
    |_,_,_=>none)else none
    |_=>none)
   |_=>none)
  |.AugAssign t O e _=>(match t with
   |.Name x p=>(match nmIx C (.Name x p),ipOf O,cE K T d C e with
    |some i,some o,some c=>some (.aug i o c)
    |_,_,_=>none)
   |_=>none)
  |.If c a b _=>(match cT K T d C c,cSs (cS K T R d n C) a,cSs (cS K T R d n C) b with
   |some z,some x,some y=>some (.ite z x y)
   |_,_,_=>none)
  |.For tg it b el _=>(match el with
   |[]=>(match cW K T d C it,cTg C tg,cSs (cS K T R d n C) b with
    |some (kd,a),some t,some x=>if okW kd tg then some (.for kd a t x)else none
    |_,_,_=>none)
   |_=>none)
  |.While c b el _=>(match el with
   |[]=>(match cT K T d C c,cSs (cS K T R d n C) b with
    |some z,some x=>some (.whl z x)
    |_,_=>none)
   |_=>none)
  |.Try b hs el fb _=>(match el,fb with
   |[],[]=>(match tryOf b hs with
    |some q=>if q.c.args.isEmpty then none else if q.b.nm==q.a.nm then cTry2 K T R d C q.c.f q.c.args q.a.xb.1 q.b.xb.1 q.a.nm q.a.hb q.b.hb else none
    |none=>none)
   |_,_=>none)
  |_=>none
structure XOk(X:Cx)(C:CC)(T:List Str)(R:RX)(F:Nat->Option Fn)(k:Nat):Prop where
 hN:X.N=C.N
 nd:C.N.Nodup
 vis:∀x,visK (C.names.lookup x)=true->Vis X.env.scope x
 loc:∀x,locK C.fnAll (C.names.lookup x)=true->Loc X.env.scope x/\(X.fn x=true\/X.env.scope.names.lookup x=some .local)
 gl:∀x,C.names.lookup x=some .globalImplicit->Gl X x
 cf:∀x,(C.names.lookup x=some .cell\/C.names.lookup x=some .free)->X.env.kindOf x=some .cell\/X.env.kindOf x=some .free
 calm:X.calm=true
 room:Room k X.A
 xe:X.xe=λ_ _=>False
 kfn:X.env.scope.kind=.function
 mgs:∀x v,PySem.W.nsIn X.K mainGlobals x=some (some v)->X.mg x=some v
 mgn:∀x,PySem.W.nsIn X.K mainGlobals x=some none->X.mg x=none
 fns:∀(i:Nat)(x:Str),T[i]?=some x->x≠""->∃f fd ps fn,refAt X.K x=some f/\FnOk X.prog X.w X.K X.mg X.base CX0 k f fd ps (spV X.K ps.length (run F k i))/\PySem.W.keepIn X.K (.ref f)=true/\Binds X.K fd ps []/\F i=some fn/\fn.ps=ps.length/\(hasD X.K x=true->Binds X.K fd ps [.none])
 rs:∀(j:Nat)(x:Str),R.tel[j]?=some x->∃f fd ps fn,refAt X.K x=some f/\FnOk X.prog X.w X.K X.mg X.base (CX1 X.prog X.w) k f fd ps (spX X.K ps.length (run F k (R.at_+j)))/\PySem.W.keepIn X.K (.ref f)=true/\Binds X.K fd ps []/\F (R.at_+j)=some fn/\fn.ps=ps.length
 wd:∀C z,(C,z)∈R.tb->Word X C z
 dct:DctOk X.w X.K
 kin:X.K.In X.base
section
variable{X:Cx}{C:CC}{T:List Str}{R:RX}{F:Nat->Option Fn}{k:Nat}
theorem XOk.u65(O:XOk X C T R F k):X.A.units+65<cLine:=by have:=O.room.un;omega
theorem XOk.u2(O:XOk X C T R F k):X.A.units+2<cLine:=vbv (vdn (by decide:2<=64) _) O.room.units
theorem zco(O:XOk X C T R F k){x:Str}(h:zdk X.K C x=true):Gl X x/\X.mg x=none:=by
 unfold zdk at h
 rw[vaa]at h
 refine⟨O.gl x (by simpa using h.1),O.mgn x ?_⟩
 have h2:=h.2
 split at h2
 .assumption
 .cases h2
theorem nm_ok(O:XOk X C T R F k){e:Expr}{i:Nat}(h:nmIx C e=some i):NmOk X e i:=by
 unfold nmIx at h
 split at h
 .split at h
  .rename_i hc
   rw[vaa]at hc
   obtain⟨h1,h2⟩:=O.loc _ hc.2
   exact⟨_,_,rfl,by rw[O.hN];exact zcn h,h1,h2⟩
  .cases h
 .cases h
theorem zmo(O:XOk X C T R F k):∀{es:List Expr} {is:List Nat},mapO (nmIx C) es=some is->Paired (NmOk X) es is
 |[],_,h=>by cases h;exact .nil
 |e::es,is,h=>by
  unfold mapO at h
  split at h
  .rename_i b hb
   split at h
   .rename_i bs hbs
    cases h
    exact .cons (nm_ok O hb) (zmo O hbs)
   .cases h
  .cases h
theorem tg_ok(O:XOk X C T R F k){e:Expr}{t:Tg}(h:cTg C e=some t):PG X e (lftG X.K t):=by
 unfold cTg at h
 split at h
 .rename_i x p
  cases z:nmIx C (.Name x p)with
  |none=>rw[z]at h;cases h
  |some i=>
   rw[z]at h;cases h
   obtain⟨x',p',e,h1,h2,h3⟩:=nm_ok O z
   cases e
   exact zu4 (O.hN▸O.nd) h1 h2 h3
 .rename_i es kx p
  cases z:mapO (nmIx C) es with
  |none=>rw[z]at h;cases h
  |some is=>rw[z]at h;cases h;exact zlz O.calm (O.hN▸O.nd) (zmo O z)
 .cases h
theorem cL_ok{f:Expr->Option E}{cl:Call}(ih:∀e c,f e=some c->SE X e (ev cl c)/\zaq e=true):∀{es:List Expr} {c:E},cL f es=some c->SA X es (ev cl c)/\es.all zaq=true
 |[],_,h=>by cases h;exact⟨zlm,rfl⟩
 |e::es,c,h=>by
  unfold cL at h
  split at h
  .rename_i a r ha hr
   cases h
   obtain⟨h1,h2⟩:=ih e a ha
   obtain⟨h3,h4⟩:=cL_ok ih hr
   exact⟨zfs h1 h3 (zad h2),by rw[vbn,h2,h4];rfl⟩
  .cases h
theorem zp3{f:Expr->Option E}{cl:Call}{pos:Pos}(ih:∀e c,f e=some c->SE X e (ev cl c)/\zaq e=true):∀{ks:List (Option Expr)} {vs:List Expr} {c:E},cPs f ks vs=some c->SPs X pos ks vs (ev cl c)
 |[],[],_,h=>by cases h;exact zrk
 |[],_::_,_,h=>by cases h
 |none::_,_,_,h=>by cases h
 |some _::_,[],_,h=>by cases h
 |some a::ks,v::vs,c,h=>by
  unfold cPs at h
  split at h
  .rename_i x y r hx hy hr
   cases h
   exact zof (ih _ _ hx).1 (ih _ _ hy).1 (zp3 ih hr)
  .cases h
theorem cB_ok{f:Expr->Option E}{cl:Call}{pos:Pos}(ih:∀e c,f e=some c->SE X e (ev cl c)/\zaq e=true):∀{es:List Expr} {c:E},(cB true f es=some c->SE X (.BoolOp .And es pos) (ev cl c))/\(cB false f es=some c->SE X (.BoolOp .Or es pos) (ev cl c))
 |[],_=>⟨(λh=>nomatch h),(λh=>nomatch h)⟩
 |[a],c=>⟨λh=>zpn (ih a c h).1,λh=>zpn (ih a c h).1⟩
 |a::b::r,c=>by
  refine⟨λh=>?_,λh=>?_⟩
  .unfold cB at h
   split at h
   .rename_i x y hx hy
    cases h
    exact zuj (ih a x hx).1 ((cB_ok ih).1 hy)
   .cases h
  .unfold cB at h
   split at h
   .rename_i x y hx hy
    cases h
    exact se_or (ih a x hx).1 ((cB_ok ih).2 hy)
   .cases h
theorem zi7{f:Expr->Option E}{cl:Call}{pos:Pos}(ih:∀e c,f e=some c->ST X e (ev cl c)):∀{es:List Expr} {c:E},(cB true f es=some c->SW X (.BoolOp .And es pos) (ev cl c))/\(cB false f es=some c->SW X (.BoolOp .Or es pos) (ev cl c))
 |[],_=>⟨(λh=>nomatch h),(λh=>nomatch h)⟩
 |[a],c=>⟨λh=>zpm (ih a c h),λh=>zpm (ih a c h)⟩
 |a::b::r,c=>by
  refine⟨λh=>?_,λh=>?_⟩
  .unfold cB at h
   split at h
   .rename_i x y hx hy
    cases h
    exact zui (ih a x hx) ((zi7 ih).1 hy)
   .cases h
  .unfold cB at h
   split at h
   .rename_i x y hx hy
    cases h
    exact sw_or (ih a x hx) ((zi7 ih).2 hy)
   .cases h
theorem cO_ok{f:Expr->Option E}{cl:Call}(ih:∀e c,f e=some c->SE X e (ev cl c)/\zaq e=true){o:Option Expr}{b:Bool}{c:E}(h:cO f o=some (b,c)):PO X o (lftO X.K b (ev cl c)):=by
 unfold cO at h
 split at h
 .cases h;exact zri
 .rename_i e
  cases z:f e with
  |none=>rw[z]at h;cases h
  |some c'=>rw[z]at h;cases h;exact zls (ih _ _ z).1
theorem zr5{x:Str}{t:Ty}(h:tyOf x=some t):bootBuiltins x=some (.type (tyN t)):=by
 unfold tyOf at h
 split at h
 .rename_i e;cases h;rw[show x = "int" by simpa using e];exact PyProof.Rows.boot_int
 split at h
 .rename_i e;cases h;rw[show x = "bool" by simpa using e];decide +kernel
 split at h
 .rename_i e;cases h;rw[show x = "tuple" by simpa using e];exact PyProof.Rows.boot_tuple
 split at h
 .rename_i e;cases h;rw[show x = "list" by simpa using e];exact PyProof.Rows.boot_list
 split at h
 .rename_i e;cases h;rw[show x = "str" by simpa using e];decide +kernel
 split at h
 .rename_i e;cases h;rw[show x = "dict" by simpa using e];decide +kernel
 .cases h
theorem bi_ok{x:Str}{b:Bi}{e:Expr}{es:List Expr}{fa:FE}{p pos:Pos}(h:biOf x=some b)(hg:Gl X x)(hm:X.mg x=none)(hn:okN x=true)(hc:X.calm=true)(ha:SA X (e::es) fa)(hs:(e::es).all zaq=true):SE X (.Call (.Name x p) (e::es) [] pos) (gArg fa (biW b)):=by
 obtain⟨n1,_,n2⟩:=za8 hn
 unfold biOf at h
 split at h
 .rename_i z
  cases h
  have z:x = "len":=by simpa using z
  subst z
  exact zdr zgs zuo hg hm PySem.boot_len ha hs n2 n1
 split at h
 .rename_i z
  cases h
  have z:x = "list":=by simpa using z
  subst z
  exact zec zgt zrj hg hm PyProof.Rows.boot_list ha hs n2 n1
 split at h
 .rename_i z
  cases h
  have z:x = "tuple":=by simpa using z
  subst z
  exact zec zfm zod hg hm PyProof.Rows.boot_tuple ha hs n2 n1
 split at h
 .rename_i z
  cases h
  have z:x = "int":=by simpa using z
  subst z
  exact zec zku zup hg hm PyProof.Rows.boot_int ha hs n2 n1
 split at h
 .rename_i z
  cases h
  have z:x = "abs":=by simpa using z
  subst z
  exact zdr znt zuq hg hm (by decide +kernel) ha hs n2 n1
 split at h
 .rename_i z
  cases h
  have z:x = "min":=by simpa using z
  subst z
  exact zdr (zkt hc) zur hg hm (by decide +kernel) ha hs n2 n1
 split at h
 .rename_i z
  cases h
  have z:x = "all":=by simpa using z
  subst z
  exact zdr (zob hc) zus hg hm (by decide +kernel) ha hs n2 n1
 .cases h
theorem ze6{b:Expr}(h:zc8 b=true):zfk b:=λo i=>by cases b<;>first|rfl|cases h
end
section
variable{X:Cx}{C:CC}{T:List Str}{R:RX}{F:Nat->Option Fn}{k:Nat}
theorem za0{env:Env}{kd:NameKind}(hk:kd≠.free):∀{l:List (Str×NameKind)} {x:Str},l.lookup x=some kd->
 (l.map λ(n,k)=>if(k==NameKind.free&&env.scope.kind == .function&&env.kindOf n==some .cell)then(n,NameKind.cell)else(n,k)).lookup x=some kd
 |[],_,h=>by cases h
 |(n,j)::r,x,h=>by
  rw[vav]
  simp only[vax]at h
  by_cases hx:(x==n)=true
  .simp only[hx]at h
   cases h
   have:(kd==NameKind.free)=false:=by simpa using hk
   simp only[this,vdg,vak,vbe,vax,hx]
  .have hx':(x==n)=false:=by simpa using hx
   simp only[hx']at h
   have ih:=za0 (env:=env) hk (l:=r) (x:=x) h
   by_cases hc':(j==NameKind.free&&env.scope.kind == .function&&env.kindOf n==some .cell)=true
   .simp only[hc',vbk,vax,hx'];exact ih
   .have hcf:(j==NameKind.free&&env.scope.kind == .function&&env.kindOf n==some .cell)=false:=by simpa using hc'
    simp only[hcf,vak,vbe,vax,hx'];exact ih
theorem ze7(O:XOk X C T R F k){sc:Scope}{ix:List Nat}(h:zef C sc ix=true):CompScope X (ownOf sc) (zbc sc) ix sc/\(ownOf sc++zbc sc).Nodup:=by
 unfold zef at h
 simp only[vaa,vap,va1]at h
 obtain⟨⟨⟨⟨⟨⟨⟨h1,h2⟩,h3⟩,h4⟩,h5⟩,h6⟩,h7⟩,h8⟩:=h
 refine⟨⟨h1,h2,h3,h4,λy hy e=>O.cf _ (h5 y hy e),λq x e=>?_,h6⟩,h8⟩
 have hk:q< (zbc sc).length:=(van.mp e).1
 have:=h7 q (vd3.mpr hk)
 rw[e]at this
 cases z:ix[q]? with
 |none=>rw[z]at this;cases this
 |some j=>
  rw[z]at this
  simp only[vaa,vap]at this
  exact⟨j,rfl,by rw[O.hN];exact this.1,this.2⟩
theorem zie(O:XOk X C T R F k){sc:Scope}{ix:List Nat}(h:zef C sc ix=true)(D:Addr)(s₀:Shared)(H₀:Hp)(ex:List Addr):XOk (X.comp (ownOf sc++zbc sc) sc D s₀ H₀ ex) (inC sc) T R F k:=by
 obtain⟨S,nd⟩:=ze7 O h
 refine⟨rfl,nd,λx hx=>?_,λx hx=>?_,λx hx=>?_,λx hx=>?_,O.calm,O.room,rfl,S.kind,O.mgs,O.mgn,O.fns,O.rs,O.wd,O.dct,O.kin⟩
 .have hx:visK (sc.names.lookup x)=true:=hx
  cases z:sc.names.lookup x with
  |none=>rw[z]at hx;cases hx
  |some kd=>
   cases kd with
   | «local»=>exact .inl (za0 (by decide) z)
   |cell=>exact .inr (.inl (za0 (by decide) z))
   |free=>
    have:=zbj (env:=X.env) O.kfn z
    by_cases hc:X.env.kindOf x=some .cell
    .rw[if_pos hc]at this;exact .inr (.inl this)
    .rw[if_neg hc]at this;exact .inr (.inr this)
   |globalExplicit=>rw[z]at hx;cases hx
   |globalImplicit=>rw[z]at hx;cases hx
 .have hx:locK false (sc.names.lookup x)=true:=hx
  cases z:sc.names.lookup x with
  |none=>rw[z]at hx;cases hx
  |some kd=>
   cases kd with
   | «local»=>exact⟨.inl (za0 (by decide) z),.inr (za0 (by decide) z)⟩
   |cell=>rw[z]at hx;cases hx
   |free=>rw[z]at hx;cases hx
   |globalExplicit=>rw[z]at hx;cases hx
   |globalImplicit=>rw[z]at hx;cases hx
 .exact za0 (by decide) hx
 .have hx:sc.names.lookup x=some .cell\/sc.names.lookup x=some .free:=hx
  rcases hx with z|z
  .exact .inl (za0 (by decide) z)
  .have:=zbj (env:=X.env) O.kfn z
   by_cases hc:X.env.kindOf x=some .cell
   .rw[if_pos hc]at this;exact .inl this
   .rw[if_neg hc]at this;exact .inr this
end
theorem map_some{α β:Type}{o:Option α}{f:α->β}{b:β}(h:o.map f=some b):∃a,o=some a/\b=f a:=by
 cases o with
 |none=>cases h
 |some a=>cases h;exact⟨a,rfl,rfl⟩
structure Snd(X:Cx)(C:CC)(T:List Str)(F:Nat->Option Fn)(k n:Nat):Prop where
 e:∀e c,cE X.K T n C e=some c->SE X e (ev (run F k) c)/\zaq e=true
 t:∀e c,cT X.K T n C e=some c->ST X e (ev (run F k) c)
 w:∀e kd c tg,cW X.K T n C e=some (kd,c)->okW kd tg=true->PI X tg e (lftI X.K kd (ev (run F k) c))/\∀x,foldedSetIterable e X.env x=pure x
section
variable{X:Cx}{C:CC}{T:List Str}{R:RX}{F:Nat->Option Fn}{k n:Nat}
theorem snd_t(O:XOk X C T R F k)(ih:Snd X C T F k n)(e:Expr)(c:E)(h:cT X.K T (n+1) C e=some c):ST X e (ev (run F k) c):=by
 unfold cT at h
 split at h
 .split at h
  .split at h
   .rename_i hs
    split at h
    .rename_i h1 h2 h3
     cases h
     exact zud O.u65 h1 hs (ih.e _ _ h2).1 (ih.e _ _ h3).1
    .cases h
   .cases h
  .split at h
   .rename_i hs
    split at h
    .rename_i h1 h2 h3 h4 h5
     cases h
     exact zuf O.u65 h1 h2 hs (ih.e _ _ h3).1 (ih.e _ _ h4).1 (ih.e _ _ h5).1
    .cases h
   .cases h
  .cases h
 .split at h
  .obtain⟨a,h1,rfl⟩:=map_some h
   exact zug (ih.t _ _ h1)
  .cases h
 .split at h
  .exact((zi7 ih.t).1 h).pt
  .exact((zi7 ih.t).2 h).pt
 .obtain⟨a,h1,rfl⟩:=map_some h
  exact zlq (ih.e _ _ h1).1 λ_=>rfl
 .obtain⟨a,h1,rfl⟩:=map_some h
  exact zlq (ih.e _ _ h1).1 λ_=>rfl
 .obtain⟨a,h1,rfl⟩:=map_some h
  exact zlq (ih.e _ _ h1).1 λ_=>rfl
 .cases h
theorem noSet{e:Expr}(h:∀a b c,e≠.Set a b c){env:Env}:∀x,foldedSetIterable e env x=pure x:=by
 intro x
 cases e<;>first|rfl|exact absurd rfl (h _ _ _)
theorem snd_w(O:XOk X C T R F k)(ih:Snd X C T F k n)(e:Expr)(kd:Kd)(c:E)(tg:Expr)(h:cW X.K T (n+1) C e=some (kd,c))(hw:okW kd tg=true):PI X tg e (lftI X.K kd (ev (run F k) c))/\∀x,foldedSetIterable e X.env x=pure x:=by
 unfold cW at h
 split at h
 .rename_i f p args pos
  refine⟨?_,λx=>rfl⟩
  split at h
  .rename_i hf
   have hf:f = "range":=by simpa using hf
   subst hf
   split at h
   .rename_i ha
    obtain⟨g1,g2⟩:=zco O ha
    split at h
    .rename_i a
     obtain⟨x,h1,h2⟩:=map_some h
     cases h2
     obtain⟨h3,h4⟩:=ih.e _ _ h1
     exact zrn (zfs h3 zlm (zad h4)) h4 g1 g2
    .cases h
   .cases h
  .split at h
   .rename_i hf
    have hf:f = "enumerate":=by simpa using hf
    subst hf
    split at h
    .rename_i ha
     obtain⟨g1,g2⟩:=zco O ha
     split at h
     .rename_i a
      obtain⟨x,h1,h2⟩:=map_some h
      cases h2
      obtain⟨h3,h4⟩:=ih.e _ _ h1
      cases tg<;>first|exact zu0 h3 h4 g1 g2|cases hw
     .cases h
    .cases h
   .split at h
    .rename_i hf
     have hf:f = "zip":=by simpa using hf
     subst hf
     split at h
     .rename_i ha
      obtain⟨g1,g2⟩:=zco O ha
      split at h
      .rename_i a b
       split at h
       .rename_i x y h1 h2
        cases h
        obtain⟨h3,h4⟩:=ih.e _ _ h1
        obtain⟨h5,h6⟩:=ih.e _ _ h2
        cases tg<;>first|exact zu3 (zfs h3 (zfs h5 zlm (zad h6)) (zad h4)) h4 h6 g1 g2|cases hw
       .cases h
      .cases h
     .cases h
    .obtain⟨x,h1,h2⟩:=map_some h
     cases h2
     exact zpo (ih.e _ _ h1).1
 .cases h
 .rename_i hns
  obtain⟨x,h1,h2⟩:=map_some h
  cases h2
  exact⟨zpo (ih.e _ _ h1).1,noSet (by first|exact hns|(intro a b c z;exact hns a b c z))⟩
end
section
variable{X:Cx}{C:CC}{T:List Str}{R:RX}{F:Nat->Option Fn}{k n:Nat}
theorem zot(O:XOk X C T R F k){x:Str}{p:Pos}{c:E}(h:cE X.K T (n+1) C (.Name x p)=some c):SE X (.Name x p) (ev (run F k) c):=by
 simp only[cE]at h
 split at h
 .rename_i hn
  obtain⟨n1,n2,n3⟩:=za8 hn
  split at h
  .rename_i hv
   obtain⟨i,h1,rfl⟩:=map_some h
   exact zt4 (by rw[O.hN];exact zcn h1) (O.vis x hv) n1 n2
  .split at h
   .rename_i hg
    split at h
    .rename_i v hv
     obtain⟨w,h1,rfl⟩:=map_some h
     obtain⟨y,h2,h3⟩:=zmk 8 v w h1
     exact zg0 (zht (O.gl x (by simpa using hg)) (O.mgs x v hv) h2 n1) h3
    .cases h
   .cases h
 .cases h
theorem zou(O:XOk X C T R F k)(ih:Snd X C T F k n){f:Str}{p pos:Pos}{args:List Expr}{c:E}(h:cE X.K T (n+1) C (.Call (.Name f p) args [] pos)=some c):SE X (.Call (.Name f p) args [] pos) (ev (run F k) c):=by
 simp only[cE]at h
 split at h
 .rename_i hn
  rw[vaa]at hn
  have hg:=O.gl f (by simpa using hn.2)
  split at h
  .rename_i hm
   have hm:=O.mgn f hm
   split at h
   .rename_i hf
    have hf:f = "isinstance":=by simpa using hf
    subst hf
    split at h
    .rename_i a t pt
     split at h
     .rename_i ty x h1 h2
      split at h
      .rename_i hc
       cases h
       rw[vaa]at hc
       obtain⟨g1,g2⟩:=zco O hc.2
       obtain⟨h3,h4⟩:=ih.e _ _ h2
       obtain⟨n1,n2,n3⟩:=za8 hc.1
       exact zuu ty h3 h4 hg hm g1 g2 (zr5 h1) n3 n1
      .cases h
     .cases h
    .cases h
   .split at h
    .rename_i b e es hb
     obtain⟨a,h1,rfl⟩:=map_some h
     obtain⟨h2,h3⟩:=cL_ok ih.e h1
     exact bi_ok hb hg hm hn.1 O.calm h2 h3
    .cases h
  .rename_i v hv
   split at h
   .rename_i i hi
    obtain⟨fa,fd,ps,fn,q1,q2,q3,q4,q5,q6,q7⟩:=O.fns i f (zcn hi) (zvp hn.1)
    have q1:=zb3 q1
    split at h
    .rename_i hlv
     rw[vaa]at hlv
     obtain⟨a,h1,rfl⟩:=map_some h
     obtain⟨h2,h3⟩:=cL_ok ih.e h1
     have hl:∀ws h w h',run F k i ws h=.ok w h'->ws.length=ps.length:=λws h w h' e=>by rw[zc9 q5 e,q6]
     have hev:ev (run F k) (.call i (padE a))=gArg (ev (run F k) a) (λws h=>run F k i (ws++[.non]) h):=by
      funext ρ h
      simp only[ev,zvr (zmn h1)]
      show Res.bind (Res.bind (ev (run F k) a ρ h) _) _=Res.bind (ev (run F k) a ρ h) _
      cases ev (run F k) a ρ h with
      |no=>rfl
      |ex _ _=>rfl
      |ok y h2=>cases y<;>rfl
     rw[hev]
     cases args with
     |nil=>cases hlv.2
     |cons e es=>exact zoh q2 O.room hg (O.mgs f _ q1) q3 (q7 (zkb hlv.1)) h2 h3 (za8 hn.1).1 hl
    obtain⟨a,h1,rfl⟩:=map_some h
    obtain⟨h2,h3⟩:=cL_ok ih.e h1
    have hl:∀ws h w h',run F k i ws h=.ok w h'->ws.length=ps.length:=λws h w h' e=>by rw[zc9 q5 e,q6]
    cases args with
    |nil=>
     simp only[cL]at h1
     cases h1
     exact zog q2 O.room hg (O.mgs f _ q1) q3 q4 (za8 hn.1).1 hl
    |cons e es=>exact zrm q2 O.room hg (O.mgs f _ q1) q3 q4 h2 h3 (za8 hn.1).1 hl
   .cases h
  .cases h
 .cases h
theorem zov(O:XOk X C T R F k)(ih:Snd X C T F k n){o:Expr}{m:Str}{ap pos:Pos}{args:List Expr}{c:E}(h:cE X.K T (n+1) C (.Call (.Attribute o m ap) args [] pos)=some c):SE X (.Call (.Attribute o m ap) args [] pos) (ev (run F k) c):=by
 simp only[cE]at h
 split at h
 .rename_i hn
  rw[vaa]at hn
  split at h
  .rename_i x a hx
   split at h
   .rename_i hm
    have hm:m = "append":=by simpa using hm
    subst hm
    obtain⟨y,h1,rfl⟩:=map_some h
    obtain⟨h2,h3⟩:=ih.e _ _ h1
    exact zlv (ih.e _ _ hx).1 h2 hn.1 h3 hn.2
   .cases h
  .rename_i a b hx
   split at h
   .rename_i hm
    rw[vaa]at hm
    have hg:m = "get":=by simpa using hm.1
    subst hg
    obtain⟨p,rfl,hgl⟩:=zr4 hm.2
    split at h
    .rename_i ps y z h1 h2 h3
     cases h
     obtain⟨a0,o,es,ep,kws,kvs,vs,b1,b2,b3,b4,b5,b6,b7,b8,b9,b10,b11⟩:=zvq (P:=X.prog) O.dct h1
     exact zrt (O.gl _ hgl) (by decide +kernel) (O.mgs _ _ b1) b3 (O.kin _ _ b2) b4 b5 b6 b7 b8 b9 b10 b11 (ih.e _ _ h2).1 (ih.e _ _ h3).1 hn.1 (ih.e _ _ h2).2 (ih.e _ _ h3).2 hn.2
    .cases h
   .cases h
  .cases h
 .cases h
theorem zvs{ow fr:List Str}{sc:Scope}{ifs:List Expr}{c:E}(O:∀D s₀ H₀ ex,Snd (X.comp (ow++fr) sc D s₀ H₀ ex) (inC sc) T F k n)
 (h:(match ifs with|[]=>some (E.cst (.bl true))|[c]=>cT X.K T n (inC sc) c|_=>none)=some c) (D:Addr) (s₀:Shared) (H₀:Hp) (ex:List Addr):PTs (X.comp (ow++fr) sc D s₀ H₀ ex) ifs (lftT X.K (ev (run F k) c)):=by
 split at h
 .cases h
  exact λpins s σ H Q I z9=>z9.el λρ h m b h' f r e q=>by
   cases e
   exact zq4 pins s σ H Q I (q H m .refl r)
 .exact zq5 ((O D s₀ H₀ ex).t _ _ h)
 .cases h
theorem zp4(O:XOk X C T R F k)(ih:Snd X C T F k n)(ihc:∀{sc:Scope} {ix:List Nat},zef C sc ix=true->∀D s₀ H₀ ex,Snd (X.comp (ownOf sc++zbc sc) sc D s₀ H₀ ex) (inC sc) T F k n)
 {elt tg iter:Expr} {ifs:List Expr} {sc:Scope} {pos:Pos} {c:E} (h:cE X.K T (n+1) C (.ListComp elt [⟨tg,iter,ifs,0⟩] sc pos)=some c) :
 ∃kd a t ix cc ce,c=.lc kd a t (ownOf sc).length ix cc ce/\CompScope X (ownOf sc) (zbc sc) ix sc/\PI X tg iter (lftI X.K kd (ev (run F k) a))/\(∀D s₀ H₀ ex,PG (X.comp (ownOf sc++zbc sc) sc D s₀ H₀ ex) tg (lftG X.K t))/\
  (∀D s₀ H₀ ex,PTs (X.comp (ownOf sc++zbc sc) sc D s₀ H₀ ex) ifs (lftT X.K (ev (run F k) cc)))/\(∀D s₀ H₀ ex,PE (X.comp (ownOf sc++zbc sc) sc D s₀ H₀ ex) elt (lft X.K (ev (run F k) ce)))/\∀x,foldedSetIterable iter X.env x=pure x:=by
 simp only[cE]at h
 split at h
 .rename_i ix hix
  split at h
  .rename_i hc
   split at h
   .rename_i kd a t cc ce h1 h2 h3 h4
    split at h
    case isFalse=>cases h
    rename_i hw
    cases h
    obtain⟨w1,w2⟩:=ih.w _ _ _ tg h1 hw
    exact⟨kd,a,t,ix,cc,ce,rfl,(ze7 O hc).1,w1,λD s₀ H₀ ex=>tg_ok (zie O hc D s₀ H₀ ex) h2,zvs (ihc hc) h3,λD s₀ H₀ ex=>((ihc hc D s₀ H₀ ex).e _ _ h4).1,w2⟩
   .cases h
  .cases h
 .cases h
theorem snd_e(O:XOk X C T R F k)(ih:Snd X C T F k n)(ihc:∀{sc:Scope} {ix:List Nat},zef C sc ix=true->∀D s₀ H₀ ex,Snd (X.comp (ownOf sc++zbc sc) sc D s₀ H₀ ex) (inC sc) T F k n)
 (e:Expr) (c:E) (h:cE X.K T (n+1) C e=some c):SE X e (ev (run F k) c)/\zaq e=true:=by
 have h0:=h
 unfold cE at h
 split at h
 .exact⟨zot O h0,rfl⟩
 .refine⟨?_,rfl⟩
  split at h
  .cases h;exact zt5
  .cases h;exact se_bl
  .cases h;exact zt6
  .cases h;exact zt7
  .cases h
 .obtain⟨a,h1,rfl⟩:=map_some h
  exact⟨zt8 (cL_ok ih.e h1).1,rfl⟩
 .obtain⟨a,h1,rfl⟩:=map_some h
  exact⟨zt9 (cL_ok ih.e h1).1,rfl⟩
 .refine⟨?_,rfl⟩
  rename_i ks vs pos
  split at h
  .rename_i hc
   simp only[vaa]at hc
   obtain⟨a,h1,rfl⟩:=map_some h
   cases ks with
   |nil=>
    cases vs with
    |nil=>simp only[cPs]at h1;cases h1;exact zrl
    |cons _ _=>cases h1
   |cons q ks=>exact zuv O.u2 (zp3 ih.e h1) hc.2 (vca hc.1.2) (by simp) (vay hc.1.1)
  .cases h
 .refine⟨?_,rfl⟩
  split at h
  .rename_i h1 h2 h3
   cases h
   exact se_op (op_ok h1) (zua _) (ih.e _ _ h2).1 (ih.e _ _ h3).1
  .cases h
 .split at h
  .obtain⟨a,h1,rfl⟩:=map_some h
   exact⟨zuh (ih.e _ _ h1).1,rfl⟩
  .obtain⟨a,h1,rfl⟩:=map_some h
   exact⟨zul (ih.e _ _ h1).1,rfl⟩
  .cases h
 .split at h
  .exact⟨(cB_ok ih.e).1 h,rfl⟩
  .exact⟨(cB_ok ih.e).2 h,rfl⟩
 .split at h
  .refine⟨?_,rfl⟩
   split at h
   .rename_i hs
    split at h
    .rename_i h1 h2 h3
     cases h
     exact zuc O.u65 h1 hs (ih.e _ _ h2).1 (ih.e _ _ h3).1
    .cases h
   .cases h
  .refine⟨?_,rfl⟩
   split at h
   .rename_i hs
    split at h
    .rename_i h1 h2 h3 h4 h5
     cases h
     exact zue O.u65 h1 h2 hs (ih.e _ _ h3).1 (ih.e _ _ h4).1 (ih.e _ _ h5).1
    .cases h
   .cases h
  .cases h
 .refine⟨?_,rfl⟩
  split at h
  .rename_i h1 h2 h3
   cases h
   exact zuk (ih.t _ _ h1) (ih.e _ _ h2).1 (ih.e _ _ h3).1
  .cases h
 .refine⟨?_,rfl⟩
  split at h
  .rename_i h1 h2
   cases h
   exact zvj (ih.e _ _ h1).1 (ih.e _ _ h2).1
  .cases h
 .split at h
  .split at h
   .refine⟨?_,rfl⟩
    split at h
    .rename_i h1 h2 h3
     cases h
     exact zun (ih.e _ _ h1).1 (cO_ok ih.e h2) (cO_ok ih.e h3)
    .cases h
   .cases h
  .refine⟨?_,rfl⟩
   split at h
   .rename_i hs
    split at h
    .rename_i h1 h2
     cases h
     exact zum O.u2 (ih.e _ _ h1).1 (ih.e _ _ h2).1 (ze6 hs)
    .cases h
   .cases h
 .split at h
  .split at h
   .exact⟨zou O ih h0,rfl⟩
   .exact⟨zov O ih h0,rfl⟩
   .cases h
  .cases h
 .split at h
  .refine⟨?_,rfl⟩
   obtain⟨kd,a,t,ix,cc,ce,rfl,S,w1,w2,w3,w4,w5⟩:=zp4 O ih ihc h0
   exact se_lc S O.calm w1 w2 w3 w4 w5
  .cases h
 .cases h
end
theorem zcp{T:List Str}{R:RX}{F:Nat->Option Fn}{k:Nat}:∀(n:Nat) {X:Cx} {C:CC},XOk X C T R F k->Snd X C T F k n
 |0,_,_,_=>⟨(λe c h=>nomatch h),(λe c h=>nomatch h),(λe kd c tg h _=>nomatch h)⟩
 |n+1,X,C,O=>by
  have ih:=zcp n O
  have ihc:∀{sc:Scope}{ix:List Nat},zef C sc ix=true->∀D s₀ H₀ ex,Snd (X.comp (ownOf sc++zbc sc) sc D s₀ H₀ ex) (inC sc) T F k n:=λhc D s₀ H₀ ex=>zcp n (zie O hc D s₀ H₀ ex)
  exact⟨snd_e O ih ihc,snd_t O ih,snd_w O ih⟩
section
variable{X:Cx}{C:CC}{T:List Str}{R:RX}{F:Nat->Option Fn}{k d:Nat}
theorem zcc{f:Stmt->Option S}{cl:Call}(ih:∀st c,f st=some c->SS X st (exs cl c)):∀{sts:List Stmt} {c:S},cSs f sts=some c->SSs X sts (exs cl c)
 |[],_,h=>by cases h;exact zl2
 |s::r,c,h=>by
  unfold cSs at h
  split at h
  .rename_i a b ha hb
   cases h
   exact ziz (ih s a ha) (zcc ih hb)
  .cases h
theorem zvt{K:PySem.W.Frag}{T:List Str}{n:Nat}{C:CC}{elt:Expr}{gs:List Comprehension}{sc:Scope}{lp:Pos}{c:E}(h:cE K T (n+1) C (.ListComp elt gs sc lp)=some c):∃tg iter ifs,gs=[⟨tg,iter,ifs,0⟩]:=by
 match gs,h with
 |[],h=>cases(show(none:Option E)=some c from h)
 |[⟨tg,iter,ifs,0⟩],_=>exact⟨tg,iter,ifs,rfl⟩
 |[⟨_,_,_,.ofNat (k+1)⟩],h=>cases(show(none:Option E)=some c from h)
 |[⟨_,_,_,.negSucc k⟩],h=>cases(show(none:Option E)=some c from h)
 |⟨_,_,_,0⟩::_::_,h=>cases(show(none:Option E)=some c from h)
 |⟨_,_,_,.ofNat (k+1)⟩::_::_,h=>cases(show(none:Option E)=some c from h)
 |⟨_,_,_,.negSucc k⟩::_::_,h=>cases(show(none:Option E)=some c from h)
theorem zr6(O:XOk X C T R F k){x:Str}{p pos:Pos}{e:Expr}{i:Nat}{c:E}(hi:nmIx C (.Name x p)=some i)(h:cE X.K T d C e=some c):SS X (.Assign [.Name x p] e pos) (exs (run F k) (.set i c)):=by
 obtain⟨x',p',ex,h1,h2,h3⟩:=nm_ok O hi
 cases ex
 have nd:X.N.Nodup:=O.hN▸O.nd
 have Sd:=zcp (T:=T) (F:=F) (k:=k) d O
 by_cases hc:ze3 e=true
 .exact zpt nd h1 h2 h3 (Sd.e _ _ h).1 (zfx hc)
 .cases d with
  |zero=>cases h
  |succ n=>
   cases e with
   |ListComp elt gs sc lp=>
    have sw:∃b:Bool,swapsWith (.ListComp elt gs sc lp) (some (.Name x p)) pos.line X.env=pure b:=⟨_,rfl⟩
    obtain⟨b,hb⟩:=sw
    cases b with
    |false=>exact zpt nd h1 h2 h3 (Sd.e _ _ h).1 hb
    |true=>
     obtain⟨tg,iter,ifs,rfl⟩:=zvt h
     obtain⟨kd,a,t,ix,cc,ce,rfl,S,w1,w2,w3,w4,w5⟩:=zp4 O (zcp n O) (λhc D s₀ H₀ ex=>zcp n (zie O hc D s₀ H₀ ex)) h
     exact zol nd h1 h2 h3 S O.calm w1 w2 w3 w4 hb w5
   |SetComp _ _ _ _=>unfold cE at h;cases h
   |DictComp _ _ _ _ _=>unfold cE at h;cases h
   |_=>exact absurd rfl hc
structure XTop(X:Cx)(C:CC):Prop where
 stk:X.stack=X.env::X.outer
 fr:X.env.frame=some X.env.locals
 fn:∀x,X.fn x=true
 lc:∀x,C.names.lookup x=some .local->X.env.kindOf x=some .local/\Loc X.env.scope x/\Vis X.env.scope x
theorem zow(O:XOk X C T R F k)(tp:XTop X C){f xa xb nm:Str}{e h1 h2:Expr}{es:List Expr}{p cpos epos t2 hpos t3 hpos2 pos rp rp2:Pos}{c:S}(h:cTry2 X.K T R d C f (e::es) xa xb nm h1 h2=some c) :
 SS X (.Try [.Expr (.Call (.Name f p) (e::es) [] cpos) epos] [.ExceptHandler (some (.Name xa t2)) (some nm) [.Return (some h1) rp] hpos,.ExceptHandler (some (.Name xb t3)) (some nm) [.Return (some h2) rp2] hpos2] [] [] pos) (exs (run F k) c):=by
 unfold cTry2 at h
 split at h
 case isFalse=>cases h
 rename_i hc
 simp only[vaa,vb7]at hc
 obtain⟨⟨⟨⟨⟨⟨⟨⟨c1,c2⟩,c4⟩,c5⟩,c6⟩,c7⟩,c8⟩,c9⟩,c10⟩:=hc
 split at h
 case h_2=>cases h
 rename_i j D D2 i a hj hD hD2 hi ho1 ho2 ha
 cases h
 obtain⟨fa,fd,ps,fn,q1,q2,q3,q4,q5,q6⟩:=O.rs j f (zcn hj)
 have Sd:=zcp (T:=T) (F:=F) (k:=k) d O
 have e9:X.nox=X:=by
  have:=O.xe
  obtain⟨⟩:=X
  cases this
  rfl
 obtain⟨h3,h4⟩:=cL_ok Sd.e ha
 obtain⟨l1,l2,l3⟩:=tp.lc nm c9
 refine zr3 (ta:=R.tb.filter λc=>subE X.K c.1 D&&attB X.K c.1) (tb:=R.tb.filter λc=>missE X.K c.1 D&&subE X.K c.1 D2) tp.stk tp.fr q2 O.room (λx=>O.room.h) (O.gl f c2) (O.mgs f _ (zb3 q1)) q3 q4 (λws h w h' e=>by rw[zc9 q5 e,q6]) (by rw[e9];exact h3) h4 (O.gl xa c5) (O.mgs xa _ hD) (O.gl xb c7) (O.mgs xb _ hD2) (O.hN▸O.nd) (by rw[O.hN];exact zcn hi) l1 l2 l3 (tp.fn nm) ho1 ho2 (λC z hm=>O.wd C z (hm.elim (λq=>(vcu.mp q).1) λq=>(vcu.mp q).1)) (λC z hm=>zr2 (vct.mp (vcu.mp hm).2).2) (O.gl _ c10) (λC z hm=>(vct.mp (vcu.mp hm).2).1) (λC z hm=>vct.mp (vcu.mp hm).2) (za8 c1).1 (za8 c4).1 (za8 c6).1 (za8 c8).1 (za8 c8).2.1
theorem snd_s(O:XOk X C T R F k)(tp:XTop X C):∀(n:Nat) (st:Stmt) (c:S),cS X.K T R d n C st=some c->SS X st (exs (run F k) c)
 |0,_,_,h=>by cases h
 |n+1,st,c,h=>by
  have nd:X.N.Nodup:=O.hN▸O.nd
  have Sd:=zcp (T:=T) (F:=F) (k:=k) d O
  have ih:=snd_s O tp n
  have hp:PassesOwn (model X.prog X.w) X.A X.env X.xe:=by rw[O.xe];exact PassesOwn.never
  unfold cS at h
  split at h
  .cases h;exact zrp
  .cases h;exact zu8
  .cases h;exact zu9
  .cases h;exact ss_no
  .split at h
   .cases h;exact zrq
   .obtain⟨a,h1,rfl⟩:=map_some h
    exact zva (Sd.e _ _ h1).1
  .split at h
   .rename_i hc
    obtain⟨a,h1,rfl⟩:=map_some h
    exact zl3 (Sd.e _ _ h1).1 hc
   .cases h
  .split at h
   .split at h
    .split at h
     .rename_i i a h1 h2
      cases h
      exact zr6 O h1 h2
     .cases h
    .split at h
     .rename_i ht
      split at h
      .rename_i h1 h2
       cases h
       exact zvb O.calm nd (zmo O h1) (Sd.e _ _ h2).1 ht
      .cases h
     .cases h
    .split at h
     .rename_i hs
      split at h
      .rename_i h1 h2 h3
       cases h
       exact zvc O.u2 (Sd.e _ _ h1).1 (Sd.e _ _ h2).1 (Sd.e _ _ h3).1 hs
      .cases h
     .cases h
    .cases h
   .cases h
  .split at h
   .split at h
    .rename_i h1 h2 h3
     cases h
     obtain⟨x',p',ex,a1,a2,a3⟩:=nm_ok O h1
     cases ex
     exact zvf h2 nd a1 a2 a3 (Sd.e _ _ h3).1
    .cases h
   .cases h
  .split at h
   .rename_i h1 h2 h3
    cases h
    exact zpu (Sd.t _ _ h1) (zcc ih h2) (zcc ih h3)
   .cases h
  .rename_i tg it b el pos
   split at h
   .split at h
    .rename_i h1 h2 h3
     split at h
     case isFalse=>cases h
     rename_i hw
     cases h
     obtain⟨w1,w2⟩:=Sd.w _ _ _ tg h1 hw
     exact zpv hp O.calm w1 (tg_ok O h2) (zcc ih h3) w2
    .cases h
   .cases h
  .split at h
   .split at h
    .rename_i h1 h2
     cases h
     exact zvh hp (Sd.t _ _ h1) (zcc ih h2)
    .cases h
   .cases h
  .split at h
   .split at h
    .rename_i q hq
     split at h
     .cases h
     .rename_i hne
      obtain⟨rfl,rfl⟩:=zos hq
      split at h
      .rename_i hn
       rw[vb7.mp hn]
       generalize q.c.args=as at h hne ⊢
       cases as with
       |nil=>exact absurd rfl hne
       |cons e es=>exact zow O tp h
      .cases h
    .cases h
   .cases h
  .cases h
end
noncomputable def zeg:FuncBody->Option (List Stmt)
 |.stmts b=>some b
 |_=>none
theorem zkc{d:Data}(h:zf4 d=true):∃n,d=.seq #[.none] n:=by
 cases d with
 |seq xs n=>
  obtain⟨l⟩:=xs
  unfold zf4 at h
  simp only[]at h
  split at h
  .rename_i v
   cases v<;>first|exact⟨n,rfl⟩|cases h
  .cases h
 |_=>cases h
theorem zox{K:PySem.W.Frag}{v:Value}(h:noneD K v=true):∃t o n,v=.ref t/\K.lookup t=some o/\o.data=.seq #[.none] n:=by
 cases v with
 |ref t=>
  have h:(match K.lookup t with|some o=>zf4 o.data|none=>false)=true:=h
  cases e:K.lookup t with
  |none=>rw[e]at h;cases h
  |some o=>
   rw[e]at h
   obtain⟨n,q⟩:=zkc h
   exact⟨t,o,n,rfl,e,q⟩
 |_=>cases h
noncomputable def za1(ps:List Str)(sc:Scope):List Str:=ps++(sc.names.filter λy=>(y.2 == .local||y.2 == .cell) && !(ps.contains y.1)).map (·.1)
noncomputable def zdb(N ps:List Str)(sc:Scope):Bool:=
 decide (sc.kind=.function) && !sc.isCoroutine && !sc.isGenerator&&decide N.Nodup&&decide (N.take ps.length=ps)&&ps.all (λx=>decide (sc.names.lookup x=some .local\/sc.names.lookup x=some .cell))&&sc.names.all (λy=>decide (y.2≠.free))&&decide ps.Nodup
theorem zdc{N ps:List Str}{sc:Scope}(h:zdb N ps sc=true):FnScope N ps sc/\ps.Nodup:=by
 unfold zdb at h
 simp only[vaa,vap,va1,vd2]at h
 obtain⟨⟨⟨⟨⟨⟨⟨h1,h2⟩,h3⟩,h4⟩,h5⟩,h6⟩,h7⟩,h8⟩:=h
 exact⟨⟨h1,h2,h3,h4,h5,h6,h7⟩,h8⟩
noncomputable def nmOf(x:Str):Str:=(metOf x).getD x
noncomputable def cFg(K:PySem.W.Frag)(g:CC->List Stmt->Option S)(x:Str):Option Fn:=match fnAt K x with
 |some (f,o,fd)=>(match za5 fd.params,zeg fd.body with
  |some args,some body=>if fd.name==nmOf x&&fd.qualname==x&&Nat.beq fd.globals mainGlobals&&fd.closure.isEmpty&& (isNone fd.defaults||noneD K fd.defaults && !args.isEmpty)&&Nat.beq fd.builtins builtinsNs&&PySem.W.codeIn K fd.code x&&PySem.W.keepIn K (.ref f) &&
   zdb (za1 (args.map (·.arg)) fd.scope) (args.map (·.arg)) fd.scope then
   (g ⟨za1 (args.map (·.arg)) fd.scope,fd.scope.names,true⟩ body).map λb=>⟨(args.map (·.arg)).length,(za1 (args.map (·.arg)) fd.scope).length,b⟩
   else none
  |_,_=>none)
 |none=>none
theorem zif{fd:FuncData}{x:Str}{args:List Arg}{body:List Stmt}(c1:(fd.name==nmOf x)=true)(c2:(fd.qualname==x)=true)(c3:Nat.beq fd.globals mainGlobals=true)(c4:fd.closure.isEmpty=true)(c6:Nat.beq fd.builtins builtinsNs=true)(ha:za5 fd.params=some args)(hb:zeg fd.body=some body) :
 ∃dx,fd=PySem.W.fnOf (nmOf x) x ⟨[],args,none,[],[],none,dx⟩ body fd.scope fd.defaults fd.kwdefaults fd.doc fd.pyModule fd.annotations fd.code fd.closureTuple:=by
 obtain⟨nm,qn,pr,bd,sc,gl,cl,df,kd,dc,pm,an,cdv,ct,bu⟩:=fd
 have e1:nm=nmOf x:=by simpa using c1
 have e2:qn=x:=by simpa using c2
 have e3:gl=mainGlobals:=vca c3
 have e4:cl=[]:=by simpa using c4
 have e6:bu=builtinsNs:=vca c6
 have e7:bd=.stmts body:=by
  cases bd with
  |stmts b'=>cases hb;rfl
  |expr _=>cases hb
 obtain⟨dx,e8⟩:∃dx,pr=⟨[],args,none,[],[],none,dx⟩:=by
  unfold za5 at ha
  split at ha
  .cases ha;rename_i z;exact⟨_,z⟩
  .cases ha
 exact⟨dx,by rw[e1,e2,e3,e4,e6,e7,e8]⟩
theorem zf5{K:PySem.W.Frag}{x:Str}{fd:FuncData}{args:List Arg}{body:List Stmt}{dx:List Expr}{sc:Scope}{df kd dc pm:Value}{an:Option Addr}{cdv ct:Value}{b:Bool}(e:fd=PySem.W.fnOf (nmOf x) x ⟨[],args,none,[],[],none,dx⟩ body sc df kd dc pm an cdv ct)(nd:(args.map (·.arg)).Nodup)
 (hb:b=noneD K df) (c5:(isNone df||noneD K df && !args.isEmpty)=true):Binds K fd (args.map (·.arg)) []/\(b=true->Binds K fd (args.map (·.arg)) [.none])/\(b=false->∀us:List Value,us.length=(args.map (·.arg)).length->bindArgs fd ⟨us,[]⟩=pure ((args.map (·.arg)).zip us)):=by
 subst e hb
 rw[vch,vaa]at c5
 rcases c5 with c5|⟨c5,c0⟩
 .have e5:df=.none:=by cases df<;>first|rfl|cases c5
  subst e5
  exact⟨.all λus hl=>ze4 hl nd,(λz=>nomatch z),λ_ us hl=>ze4 hl nd⟩
 .obtain⟨t,o,n,rfl,hk,hd⟩:=zox c5
  rw[c5]
  obtain⟨qs,z,hqz⟩:∃qs z,args.map (·.arg)=qs++[z]:=by
   rcases List.eq_nil_or_concat (args.map (·.arg))with q|⟨l,b,q⟩
   .rw[List.map_eq_nil_iff.mp q]at c0;cases c0
   .exact⟨l,b,by rw[q,List.concat_eq_append]⟩
  have nd':=nd
  rw[hqz]at nd'
  refine⟨λs us hK hl=>?_,λ_ s us hK hl=>?_,λz=>nomatch z⟩
  .rw[va7]at hl ⊢
   rw[hqz]at hl ⊢
   exact zj8 hqz nd' (hK _ _ hk) hd hl
  .rw[hqz]at hl ⊢
   exact zj9 hqz nd' (hK _ _ hk) hd (by rw[vaw,vaw]at hl;simpa using hl)
theorem zhb{K:PySem.W.Frag}{x:Str}{f:Addr}{o:Obj}{fd:FuncData}(h:fnAt K x=some (f,o,fd)):refAt K x=some f/\∃oc od sl,K.lookup f=some ⟨oc,od,.func fd,sl⟩:=by
 unfold fnAt at h
 split at h
 .rename_i f' hn
  split at h
  .rename_i o' ho
   split at h
   .rename_i fd' hd
    cases h
    refine⟨hn,o.cls,o.dict,o.slots,?_⟩
    rw[<-hd];exact ho
   .cases h
  .cases h
 .cases h
theorem zvu{K:PySem.W.Frag}{g:CC->List Stmt->Option S}{x:Str}{fn:Fn}:∀(f:Addr) (o:Obj) (fd:FuncData) (args:List Arg) (body:List Stmt) (b:S),fnAt K x=some (f,o,fd)->za5 fd.params=some args->zeg fd.body=some body->(fd.name==nmOf x&&fd.qualname==x&&Nat.beq fd.globals mainGlobals&&fd.closure.isEmpty&& (isNone fd.defaults||noneD K fd.defaults && !args.isEmpty)&&Nat.beq fd.builtins builtinsNs&&PySem.W.codeIn K fd.code x&&PySem.W.keepIn K (.ref f) &&
 zdb (za1 (args.map (·.arg)) fd.scope) (args.map (·.arg)) fd.scope)=true->g ⟨za1 (args.map (·.arg)) fd.scope,fd.scope.names,true⟩ body=some b->fn=⟨(args.map (·.arg)).length,(za1 (args.map (·.arg)) fd.scope).length,b⟩->∃f fd st ps N,refAt K x=some f/\FunD K (nmOf x) x st f fd/\FnScope N ps (zai st)/\fn.n=N.length/\fn.ps=ps.length/\(Binds K fd ps []/\(hasD K x=true->Binds K fd ps [.none])/\(hasD K x=false->∀us:List Value,us.length=ps.length->bindArgs fd ⟨us,[]⟩=pure (ps.zip us)))/\
 g ⟨N,(zai st).names,true⟩ (zc2 st)=some fn.body/\∃o' fd' args,fnAt K x=some (f,o',fd')/\za5 fd'.params=some args/\ps=args.map (·.arg):=by
 intro f o fd args body b hf ha hb hc h1 e
 rw[vaa,vaa,vaa,vaa,vaa,vaa,vaa,vaa]at hc
 obtain⟨⟨⟨⟨⟨⟨⟨⟨c1,c2⟩,c3⟩,c4⟩,c5⟩,c6⟩,c7⟩,c8⟩,c9⟩:=hc
 obtain⟨S,nd⟩:=zdc c9
 obtain⟨hn,oc,od,sl,lk⟩:=zhb hf
 obtain⟨dx,ef⟩:=zif c1 c2 c3 c4 c6 ha hb
 have hh:hasD K x=noneD K fd.defaults:=by unfold hasD;rw[hf]
 exact⟨f,fd,.FunctionDef (nmOf x) ⟨[],args,none,[],[],none,dx⟩ body [] none [] fd.scope none (nmOf x) ⟨0,0,0,0⟩,args.map (·.arg),za1 (args.map (·.arg)) fd.scope,hn,⟨⟨oc,od,_,_,_,_,_,fd.code,_,sl,ef,lk,c7⟩,c8⟩,S,by rw[e],by rw[e],zf5 ef nd hh c5,by rw[e];exact h1,o,fd,args,hf,ha,rfl⟩
theorem cF_ok{K:PySem.W.Frag}{g:CC->List Stmt->Option S}{x:Str}{fn:Fn}(h:cFg K g x=some fn):∃f fd st ps N,refAt K x=some f/\FunD K (nmOf x) x st f fd/\FnScope N ps (zai st)/\fn.n=N.length/\fn.ps=ps.length/\(Binds K fd ps []/\(hasD K x=true->Binds K fd ps [.none])/\(hasD K x=false->∀us:List Value,us.length=ps.length->bindArgs fd ⟨us,[]⟩=pure (ps.zip us)))/\
 g ⟨N,(zai st).names,true⟩ (zc2 st)=some fn.body/\∃o' fd' args,fnAt K x=some (f,o',fd')/\za5 fd'.params=some args/\ps=args.map (·.arg):=by
 unfold cFg at h
 split at h
 .rename_i f o fd hf
  split at h
  .rename_i args body ha hb
   split at h
   .rename_i hc
    obtain⟨b,h1,e⟩:=map_some h
    exact zvu f o fd args body b hf ha hb hc h1 e
   .cases h
  .cases h
 .cases h
theorem zf6{α β:Type}{f:α->Option β}:∀{l:List α} {r:List β},mapO f l=some r->∀(i:Nat) (a:α),l[i]?=some a->∃b,r[i]?=some b/\f a=some b
 |[],_,_,i,a,e=>by simp at e
 |x::l,r,h,i,a,e=>by
  unfold mapO at h
  split at h
  .rename_i b hb
   split at h
   .rename_i bs hbs
    cases h
    cases i with
    |zero=>simp at e;subst e;exact⟨b,rfl,hb⟩
    |succ i=>
     obtain⟨c,h1,h2⟩:=zf6 hbs i a (by simpa using e)
     exact⟨c,by simpa using h1,h2⟩
   .cases h
  .cases h
inductive MV where
 |exc|bls (bs:List Bool)|sts (xs:List Str)|bl (b:Bool)|int (i:Int)|str (x:Str)
noncomputable def MRep(C:Addr)(H:Hp)(v:V):MV->Prop
 |.exc=>∃a,v=.ref a/\Err C a H
 |.bls bs=>∃l,v=.ref l/\H l=some (.lst (bs.map .bl))
 |.sts xs=>∃l,v=.ref l/\H l=some (.lst (xs.map .str))
 |.bl b=>v=.bl b
 |.int i=>v=.int i
 |.str x=>v=.str x
theorem MRep.mono{C:Addr}{H H':Hp}{v:V}{m:MV}(h:MRep C H v m)(k:Hx H H'):MRep C H' v m:=by
 cases m with
 |exc=>obtain⟨a,e,q⟩:=h;exact⟨a,e,q.mono k⟩
 |bls bs=>obtain⟨a,e,q⟩:=h;exact⟨a,e,k _ _ q⟩
 |sts bs=>obtain⟨a,e,q⟩:=h;exact⟨a,e,k _ _ q⟩
 |bl b=>exact h
 |int i=>exact h
 |str x=>exact h
noncomputable def MReps(C:Addr)(H:Hp):List V->List MV->Prop
 |[],[]=>True
 |v::vs,m::ms=>MRep C H v m/\MReps C H vs ms
 |_,_=>False
noncomputable def EnvR(C:Addr)(H:Hp)(σ:L2.St)(ρ:List (Option MV)):Prop:=∀(i:Nat) (m:MV),ρ[i]?=some (some m)->∃v,σ[i]?=some (some v)/\MRep C H v m
theorem EnvR.mono{C:Addr}{H H':Hp}{σ:L2.St}{ρ:List (Option MV)}(h:EnvR C H σ ρ)(k:Hx H H'):EnvR C H' σ ρ:=λi m e=>let⟨v,a,b⟩:=h i m e;⟨v,a,b.mono k⟩
noncomputable def tM(C:Addr)(ρ:List (Option MV))(m:MV):TE:=λσ H Q=>EnvR C H σ ρ/\∀v H',Hx H H'->MRep C H' v m->Q v H'
noncomputable def tMs(C:Addr)(ρ:List (Option MV))(ms:List MV):TA:=λσ H Q=>EnvR C H σ ρ/\∀vs H',Hx H H'->MReps C H' vs ms->Q vs H'
noncomputable def tMT(C:Addr)(ρ:List (Option MV))(b:Bool):TT:=λσ H Q=>EnvR C H σ ρ/\∀H',Hx H H'->Q b H'
section
variable{X:Cx}{C:Addr}{ρ:List (Option MV)}{a b e:Expr}{es:List Expr}{pos:Pos}
theorem m_var{i:Nat}{x:Str}{m:MV}(hN:X.N[i]?=some x)(hv:Vis X.env.scope x)(hd:(x==("__debug__" : Str))=false)(hcd:(x==("__classdict__" : Str))=false)(hi:ρ[i]?=some (some m)):PE X (.Name x pos) (tM C ρ m):=
 (zio hN hv hd hcd).imp λσ H Q ⟨en,k⟩=>let⟨v,e,r⟩:=en i m hi;⟨v,e,k v H .refl r⟩
theorem zvv:PA X [] (tMs C ρ []):=zbn.imp λσ H Q ⟨_,k⟩=>k [] H .refl trivial
theorem zr7{m:MV}{ms:List MV}(ha:PE X e (tM C ρ m))(hr:PA X es (tMs C ρ ms))(hs:zaq e=true):PA X (e::es) (tMs C ρ (m::ms)):=
 (zav ha hr (zad hs)).imp λσ H Q ⟨en,k⟩=>⟨en,λv H1 k1 r1=>⟨en.mono k1,λvs H2 k2 r2=>k (v::vs) H2 (k1.trans k2) ⟨r1.mono k2,r2⟩⟩⟩
theorem zi8{H:Hp}:∀{vs:List V} {bs:List Bool},MReps C H vs (bs.map .bl)->vs=bs.map .bl
 |[],[],_=>rfl
 |v::vs,b::bs,h=>by rw[vav,zi8 (vs:=vs) (bs:=bs) h.2,show v=.bl b from h.1]
 |[],_::_,h=>h.elim
 |_::_,[],h=>h.elim
theorem zhc{H:Hp}:∀{vs:List V} {bs:List Str},MReps C H vs (bs.map .str)->vs=bs.map .str
 |[],[],_=>rfl
 |v::vs,b::bs,h=>by rw[vav,zhc (vs:=vs) (bs:=bs) h.2,show v=.str b from h.1]
 |[],_::_,h=>h.elim
 |_::_,[],h=>h.elim
theorem m_bls{bs:List Bool}(ha:PA X es (tMs C ρ (bs.map .bl)))(hz:bs.length<=sizeLine):PE X (.List es pos) (tM C ρ (.bls bs)):=
 (zky ha).imp λσ H Q ⟨en,k⟩=>⟨en,λvs H1 k1 r=>by
   have e:=zi8 r
   subst e
   exact⟨by rw[vaf];exact hz,λp hp=>k _ _ (k1.trans (.new hp)) ⟨p,rfl,zag⟩⟩⟩
theorem m_sts{bs:List Str}(ha:PA X es (tMs C ρ (bs.map .str)))(hz:bs.length<=sizeLine):PE X (.List es pos) (tM C ρ (.sts bs)):=
 (zky ha).imp λσ H Q ⟨en,k⟩=>⟨en,λvs H1 k1 r=>by
   have e:=zhc r
   subst e
   exact⟨by rw[vaf];exact hz,λp hp=>k _ _ (k1.trans (.new hp)) ⟨p,rfl,zag⟩⟩⟩
theorem m_cat{x y:List Bool}(ha:PE X a (tM C ρ (.bls x)))(hb:PE X b (tM C ρ (.bls y)))(hz:x.length+y.length<=sizeLine):PE X (.BinOp a .Add b pos) (tM C ρ (.bls (x++y))):=
 (pe_op zk4 ha hb).imp λσ H Q ⟨en,k⟩=>⟨en,λv H1 k1 ⟨l,e1,q1⟩=>⟨en.mono k1,λu H2 k2 ⟨l2,e2,q2⟩=>⟨l,l2,_,_,e1,e2,k2 _ _ q1,q2,by rw[vaf,vaf];exact hz,λp hp=>k _ _ ((k1.trans k2).trans (.new hp)) ⟨p,rfl,by rw[zag,vef]⟩⟩⟩⟩
theorem zvw{x y:List Str}(ha:PE X a (tM C ρ (.sts x)))(hb:PE X b (tM C ρ (.sts y)))(hz:x.length+y.length<=sizeLine):PE X (.BinOp a .Add b pos) (tM C ρ (.sts (x++y))):=
 (pe_op zk4 ha hb).imp λσ H Q ⟨en,k⟩=>⟨en,λv H1 k1 ⟨l,e1,q1⟩=>⟨en.mono k1,λu H2 k2 ⟨l2,e2,q2⟩=>⟨l,l2,_,_,e1,e2,k2 _ _ q1,q2,by rw[vaf,vaf];exact hz,λp hp=>k _ _ ((k1.trans k2).trans (.new hp)) ⟨p,rfl,by rw[zag,vef]⟩⟩⟩⟩
theorem m_isE{t:Str}{p p2:Pos}{c:Value}{cv:V}{r:Bool}(hc:tyVal cv=some c)(hT:PE X (.Name t p2) (tC cv))(ha:PE X a (tM C ρ .exc))(hs:zaq a=true)(hg:Gl X "isinstance")(hm:X.mg "isinstance" = none)(kk:XL.ExcI X.K C)(e:PySem.W.kitOne X.K (.ref C) c=some r) :
 PE X (.Call (.Name "isinstance" p) [a,.Name t p2] [] pos) (tM C ρ (.bl r)):=
 (zfj (zoo hc) hg hm PyProof.Rows.boot_isinstance (zav ha (zav hT zbn) (zad hs)) (by decide) (by decide) (zad hs) rfl).imp λσ H Q ⟨en,k⟩=>⟨en,λv H1 k1 ⟨x,e1,q1⟩=>⟨x,C,r,by rw[e1],q1,kk,e,k _ H1 k1 rfl⟩⟩
theorem zmp{K:PySem.W.Frag}{M:Addr->Prop}{H:Hp}:∀bs:List Bool,Rps K M H (bs.map .bl) (bs.map .bool)
 |[]=>.nil
 |b::r=>.cons (.bl b) (zmp r)
theorem zeh:∀bs:List Bool,(bs.map PyData.bool).all SeqAt.shaped=true
 |[]=>rfl
 |_::r=>by rw[vav,vbn,zeh r];rfl
noncomputable def eqT1(e:PyData):Bool:=PyData.eqv e (.bool true)
theorem m_cnt{o:Expr}{ap:Pos}{bs:List Bool}(hu:X.A.in1.units+64<cLine)(ho:PE X o (tM C ρ (.bls bs)))(ha:PE X a (tM C ρ (.bl true)))(hs:zaq a=true)(hb:attributeBase o "count" X.env (eval o X.env)=eval o X.env)(hl:(ap.endLine==pos.line)=true) :
 PE X (.Call (.Attribute o "count" ap) [a] [] pos) (tM C ρ (.int ((bs.map PyData.bool).countP eqT1:Nat))):=
 (pe_bm (X:=X) PySem.F.plainAttrs_list PySem.F.slot_list_count PySem.F.type_list_count (zll hu) ho (zav ha zbn (zad hs)) hb (by rw[zad hs];rfl) hl (zad hs) rfl).imp λσ H Q ⟨en,k⟩=>
   ⟨en,λv H1 k1 ⟨l,e1,q1⟩=>⟨by subst e1;exact .inl ⟨rfl,_,SqL.of q1⟩,en.mono k1,λu H2 k2 r2=>⟨l,_,u,_,.bool true,e1,rfl,SqL.of (k2 _ _ q1),zmp bs,by rw[show u=.bl true from r2];exact .bl true,zeh bs,rfl,k _ H2 (k1.trans k2) rfl⟩⟩⟩
theorem m_ind{o:Expr}{ap:Pos}{bs:List Bool}{j:Nat}(hu:X.A.in1.units+64<cLine)(ho:PE X o (tM C ρ (.bls bs)))(ha:PE X a (tM C ρ (.bl true)))(hs:zaq a=true)(hb:attributeBase o "index" X.env (eval o X.env)=eval o X.env)(hl:(ap.endLine==pos.line)=true)
 (hj:(bs.map PyData.bool).findIdx? eqT1=some j) (hz:(j:Int)<2 ^ 63-1):PE X (.Call (.Attribute o "index" ap) [a] [] pos) (tM C ρ (.int (j:Nat))):=by
 obtain⟨hlt,h1,h2⟩:=List.findIdx?_eq_some_iff_getElem.mp hj
 refine(pe_bm (X:=X) PySem.F.plainAttrs_list PySem.F.slot_list_index PySem.F.type_list_index (zme hu) ho (zav ha zbn (zad hs)) hb (by rw[zad hs];rfl) hl (zad hs) rfl).imp λσ H Q ⟨en,k⟩=>
  ⟨en,λv H1 k1 ⟨l,e1,q1⟩=>⟨by subst e1;exact .inl ⟨rfl,_,SqL.of q1⟩,en.mono k1,λu H2 k2 r2=>⟨l,_,u,_,.bool true,j,_,e1,rfl,SqL.of (k2 _ _ q1),zmp bs,by rw[show u=.bl true from r2];exact .bl true,zeh bs,rfl,vao hlt,h1,λm e hm q=>?_,hz,k _ H2 (k1.trans k2) rfl⟩⟩⟩
 have:=h2 m hm
 obtain⟨hq,rfl⟩:=van.mp q
 simpa[eqT1]using this
theorem zr8{α β:Type}{f:α->β}{xs:List α}{i:Int}{v:α}(h:atI xs i=some v):atI (xs.map f) i=some (f v):=by
 unfold atI at h ⊢
 rw[vaf]
 cases e:ixN xs.length i with
 |none=>rw[e]at h;cases h
 |some j=>
  rw[e]at h
  show(xs.map f)[j]?=_
  rw[vbm,show xs[j]?=some v from h];rfl
theorem m_sub{xs:List Str}{i:Int}{z:Str}(ha:PE X a (tM C ρ (.sts xs)))(hb:PE X b (tM C ρ (.int i)))(hs:zfk b)(hi:atI xs i=some z):PE X (.Subscript a b pos) (tM C ρ (.str z)):=
 (pe_ix zk3 ha hb hs).imp λσ H Q ⟨en,k⟩=>⟨en,λv H1 k1 ⟨l,e1,q1⟩=>⟨en.mono k1,λu H2 k2 r2=>⟨l,_,i,.str z,e1,r2,SqL.of (k2 _ _ q1),zr8 hi,k _ H2 (k1.trans k2) rfl⟩⟩⟩
theorem zvx{r:Bool}(ha:PT X a (tMT C ρ r)):PT X (.UnaryOp .Not a pos) (tMT C ρ (!r)):=λpins s σ H Q I ⟨en,k⟩=>zkk ha pins s σ H Q I ⟨en,λH1 k1=>k H1 k1⟩
theorem zvy{r:Bool}(ha:PE X a (tM C ρ (.bl r)))(he:∀whole,isTrue a X.env whole=(do let v <-whole;standAt a.pos;holding [v] (truthy v))):PT X a (tMT C ρ r):=λpins s σ H Q I ⟨en,k⟩=>
 zo9 ha he pins s σ H Q I ⟨en,λv H1 k1 e=>⟨r,e,k H1 k1⟩⟩
theorem mt_ne{i j:Int}(ha:PE X a (tM C ρ (.int i)))(hb:PE X b (tM C ρ (.int j)))(hm:behindInMarks .NotEq b=false):PT X (.Compare a [.NotEq] [b] pos) (tMT C ρ (!decide (V.int i=V.int j))):=λpins s σ H Q I ⟨en,k⟩=>
 zkr op_ne ha hb hm pins s σ H Q I ⟨en,λv H1 k1 e1=>⟨en.mono k1,λu H2 k2 e2=>by
  have e1:v=.int i:=e1
  have e2:u=.int j:=e2
  subst e1 e2
  exact⟨rfl,_,rfl,k H2 (k1.trans k2)⟩⟩⟩
theorem mw_or{rest:List Expr}{r r':Bool}(ha:PT X a (tMT C ρ r))(hb:PW X (.BoolOp .Or (b::rest) pos) (tMT C ρ r')):PW X (.BoolOp .Or (a::b::rest) pos) (tMT C ρ (r||r')):=λwh pins s σ H Q I ⟨en,k⟩=>
 pw_or ha hb wh pins s σ H Q I ⟨en,λH1 k1=>by
  cases r with
  |true=>rw[if_pos rfl];exact k H1 k1
  |false=>rw[if_neg va4];exact⟨en.mono k1,λH2 k2=>k H2 (k1.trans k2)⟩⟩
theorem zvz{r:Bool}(ha:PT X a (tMT C ρ r)):PW X (.BoolOp .Or [a] pos) (tMT C ρ r):=zpa ha
noncomputable def tMB(C:Addr)(ρ:List (Option MV))(m:MV):TS:=λD σ H=>EnvR C H σ ρ/\∀v H',Hx H H'->MRep C H' v m->D.rt v H'
theorem _root_.L2.PSs.imp'{st:List Stmt}{t t':TS}(h:PSs X st t)(k:∀D σ H,t' D σ H->t D σ H):PSs X st t':=λpins s σ H D I q=>h pins s σ H D I (k D σ H q)
theorem zv0{m:MV}(he:PE X e (tM C ρ m)):PSs X [.Return (some e) pos] (tMB C ρ m):=(zfh (zgi he)).imp' λD σ H q=>q
theorem EnvR.set{H:Hp}{σ:L2.St}{i:Nat}{v:V}{m:MV}(en:EnvR C H σ ρ)(hl:i<σ.length)(hi:i<ρ.length)(r:MRep C H v m):EnvR C H (σ.set i (some v)) (ρ.set i (some m)):=λj m' e=>by
 by_cases h:j=i
 .subst h
  rw[va5 hi]at e
  cases e
  exact⟨v,va5 hl,r⟩
 .rw[vcc (vbo h)]at e ⊢
  exact en j m' e
end
section
variable{X:Cx}{C:Addr}{ρ:List (Option MV)}{e c:Expr}{pos p:Pos}{rest a:List Stmt}{m m':MV}
theorem zv1{i:Nat}{x:Str}(hN:X.N.Nodup)(hi:X.N[i]?=some x)(hx:Loc X.env.scope x)(he:PE X e (tM C ρ m))(hf:X.fn x=true\/X.env.scope.names.lookup x=some .local)(hr:i<ρ.length)
 (hs:swapsWith e (some (.Name x p)) pos.line X.env=pure false) (h:PSs X rest (tMB C (ρ.set i (some m)) m')):PSs X (.Assign [.Name x p] e pos::rest) (tMB C ρ m'):=λpins s σ H D I ⟨en,k⟩=>
 zch (zpc hN hi hx he hs hf) h pins s σ H D I ⟨en,λv H1 k1 r1=>⟨(en.mono k1).set (by rw[I.len];exact(van.mp hi).1) hr r1,λw H2 k2 r2=>k w H2 (k1.trans k2) r2⟩⟩
theorem zp5{l:List Stmt}:PSs X l (λ_ _ _=>False):=λ_ _ _ _ _ _ h=>h.elim
theorem zv2(hc:PT X c (tMT C ρ false))(h:PSs X rest (tMB C ρ m)):PSs X (.If c a [] pos::rest) (tMB C ρ m):=
 (zch (ps_if hc (zp5 (l:=a)) zhu) h).imp' λD σ H ⟨en,k⟩=>⟨en,λH1 k1=>L2.iteF ⟨en.mono k1,λv H2 k2 r=>k v H2 (k1.trans k2) r⟩⟩
theorem zv3(hc:PT X c (tMT C ρ true))(h:PSs X a (tMB C ρ m)):PSs X (.If c a [] pos::rest) (tMB C ρ m):=
 (zch (ps_if hc h zhu) (zp5 (l:=rest))).imp' λD σ H ⟨en,k⟩=>⟨en,λH1 k1=>L2.iteT ⟨en.mono k1,λv H2 k2 r=>k v H2 (k1.trans k2) r⟩⟩
end
noncomputable def bools:List MV->Option (List Bool)
 |[]=>some []
 |.bl b::r=>(bools r).map (b :: ·)
 |_=>none
noncomputable def texts:List MV->Option (List Str)
 |[]=>some []
 |.str b::r=>(texts r).map (b :: ·)
 |_=>none
theorem zhd:∀{ms:List MV} {bs:List Bool},bools ms=some bs->ms=bs.map .bl
 |[],_,e=>by cases e;rfl
 |.bl b::r,_,e=>by
  simp only[bools]at e
  cases q:bools r with
  |none=>rw[q]at e;cases e
  |some l=>rw[q]at e;cases e;rw[zhd q];rfl
 |.exc::_,_,e=>by cases e
 |.bls _::_,_,e=>by cases e
 |.sts _::_,_,e=>by cases e
 |.int _::_,_,e=>by cases e
 |.str _::_,_,e=>by cases e
theorem zhe:∀{ms:List MV} {bs:List Str},texts ms=some bs->ms=bs.map .str
 |[],_,e=>by cases e;rfl
 |.str b::r,_,e=>by
  simp only[texts]at e
  cases q:texts r with
  |none=>rw[q]at e;cases e
  |some l=>rw[q]at e;cases e;rw[zhe q];rfl
 |.exc::_,_,e=>by cases e
 |.bls _::_,_,e=>by cases e
 |.sts _::_,_,e=>by cases e
 |.int _::_,_,e=>by cases e
 |.bl _::_,_,e=>by cases e
noncomputable def mList(ms:List MV):Option MV:=if Nat.ble ms.length 1000 then(match bools ms with
 |some bs=>some (.bls bs)
 |none=>(texts ms).map .sts)else none
noncomputable def mAdd:MV->MV->Option MV
 |.bls x,.bls y=>if Nat.ble (x.length+y.length) 1000 then some (.bls (x++y))else none
 |.sts x,.sts y=>if Nat.ble (x.length+y.length) 1000 then some (.sts (x++y))else none
 |_,_=>none
noncomputable def clsN(K:PySem.W.Frag)(c:CC)(t:Str):Option (Value×V):=if okN t&&c.names.lookup t==some .globalImplicit then(match PySem.W.nsIn K mainGlobals t with
 |some (some (.ref D))=>some (.ref D,.ref D)
 |some none=>if t==("ValueError" : Str)then some (.type "ValueError",.ty "ValueError")else none
 |_=>none)else none
noncomputable def mMeth(mth:Str):MV->MV->Option MV
 |.bls bs,.bl true=>if mth==("count" : Str)then some (.int ((bs.map PyData.bool).countP eqT1:Nat))else if mth==("index" : Str)then(match(bs.map PyData.bool).findIdx? eqT1 with
  |some j=>if Nat.ble j 1000 then some (.int (j:Nat))else none
  |none=>none)else none
 |_,_=>none
noncomputable def baseE:Expr->Bool
 |.Name .. |.Call (.Name ..) (_::_) _ _=>true
 |_=>false
theorem zi9{o:Expr}{m:Str}{env:Env}(h:baseE o=true):attributeBase o m env (eval o env)=eval o env:=by
 unfold baseE at h
 split at h
 .rfl
 .rfl
 .cases h
structure XH(X:Cx)(c:CC):Prop where
 hN:X.N=c.N
 nd:c.N.Nodup
 vis:∀x,visK (c.names.lookup x)=true->Vis X.env.scope x
 loc:∀x,locK c.fnAll (c.names.lookup x)=true->Loc X.env.scope x/\(X.fn x=true\/X.env.scope.names.lookup x=some .local)
 gl:∀x,c.names.lookup x=some .globalImplicit->Gl X x
 mgs:∀x v,PySem.W.nsIn X.K mainGlobals x=some (some v)->X.mg x=some v
 mgn:∀x,PySem.W.nsIn X.K mainGlobals x=some none->X.mg x=none
 un:X.A.units+70<cLine
noncomputable def mE(K:PySem.W.Frag)(C:Addr)(kb:Option (List Bool))(c:CC):Nat->List (Option MV)->Expr->Option MV
 |0,_,_=>none
 |n+1,ρ,e=>match e with
  |.Name x _=>if okN x&&visK (c.names.lookup x)then(match zbq c.N x 0 with
   |some i=>(ρ[i]?).join
   |none=>none)else none
  |.Constant k _ _=>(match k with
   |.bool b=>some (.bl b)
   |.int i=>some (.int i)
   |.str x=>some (.str x)
   |_=>none)
  |.List es _=>(mapO (mE K C kb c n ρ) es).bind mList
  |.BinOp a o b _=>(match o with
   |.Add=>(match mE K C kb c n ρ a,mE K C kb c n ρ b with
    |some x,some y=>mAdd x y
    |_,_=>none)
   |_=>none)
  |.Call fn args kw pos=>(match kw with
   |[]=>(match fn with
    |.Name f _=>(match args with
    |[a]=>if f==("_law_kinds" : Str)&&c.names.lookup f==some .globalImplicit then(match mE K C kb c n ρ a with
     |some .exc=>kb.map .bls
     |_=>none)else none
    |[a,b]=>(match nmE b with
     |some t=>if f==("isinstance" : Str)&&zdk K c f then(match mE K C kb c n ρ a,clsN K c t.1 with
      |some .exc,some v=>(PySem.W.kitOne K (.ref C) v.1).map .bl
      |_,_=>none)else none
     |none=>none)
    |_=>none)
    |.Attribute o m ap=>(match oneOf args with
    |some a=>if baseE o&& (ap.endLine==pos.line)then(match mE K C kb c n ρ o,mE K C kb c n ρ a with
     |some x,some y=>mMeth m x y
     |_,_=>none)else none
    |none=>none)
    |_=>none)
   |_=>none)
  |.Subscript a b _=>if zc8 b then(match mE K C kb c n ρ a,mE K C kb c n ρ b with
   |some (.sts xs),some (.int i)=>(atI xs i).map .str
   |_,_=>none)else none
  |_=>none
noncomputable def spK(C:Addr)(kb:Option (List Bool)):List V->Hp->VK->Prop:=λvs H Q=>∃a bs,vs=[.ref a]/\Err C a H/\kb=some bs/\∀v H',Hx H H'->MRep C H' v (.bls bs)->Q v H'
structure XK1(X:Cx)(C:Addr)(kb:Option (List Bool))(k:Nat):Prop where
 ex:XL.ExcI X.K C
 kinds:kb.isSome=true->∃f fd ps,X.mg "_law_kinds" = some (.ref f)/\FnOkH X.prog X.w X.K X.mg X.base k f fd ps (spK C kb)/\PySem.W.keepIn X.K (.ref f)=true/\Binds X.K fd ps []/\RoomH k X.A
section
variable{X:Cx}{C:Addr}{kb:Option (List Bool)}{c:CC}{k:Nat}
theorem zf7{n:Nat}(h:Nat.ble n 1000=true):n<=sizeLine:=vdo (zd4 (vay h))
theorem ms_ok{n:Nat}{ρ:List (Option MV)}(ih:∀(e:Expr) (m:MV),mE X.K C kb c n ρ e=some m->PE X e (tM C ρ m)/\zaq e=true):∀{es:List Expr} {ms:List MV},mapO (mE X.K C kb c n ρ) es=some ms->PA X es (tMs C ρ ms)
 |[],_,h=>by cases h;exact zvv
 |e::es,ms,h=>by
  unfold mapO at h
  split at h
  .rename_i b hb
   split at h
   .rename_i bs hbs
    cases h
    obtain⟨h1,h2⟩:=ih e b hb
    exact zr7 h1 (ms_ok ih hbs) h2
   .cases h
  .cases h
theorem zr9(O:XH X c){t:Str}{v:Value×V}{p:Pos}(h:clsN X.K c t=some v):tyVal v.2=some v.1/\PE X (.Name t p) (tC v.2):=by
 unfold clsN at h
 split at h
 .rename_i hc
  rw[vaa]at hc
  obtain⟨n1,n2,n3⟩:=za8 hc.1
  have hg:Gl X t:=O.gl t (by simpa using hc.2)
  split at h
  .rename_i D hD
   cases h
   exact⟨rfl,zht hg (O.mgs t _ hD) rfl n1⟩
  .rename_i hD
   split at h
   .rename_i ht
    cases h
    have ht:t = "ValueError":=by simpa using ht
    subst ht
    exact⟨rfl,zkj hg (O.mgn _ hD) (u:=.type "ValueError") (by first|rfl|decide +kernel) rfl n3 n1⟩
   .cases h
  .cases h
 .cases h
theorem mE_ok(O:XH X c)(K1:XK1 X C kb k):∀(n:Nat) (ρ:List (Option MV)) (e:Expr) (m:MV),mE X.K C kb c n ρ e=some m->PE X e (tM C ρ m)/\zaq e=true
 |0,_,_,_,h=>by cases h
 |n+1,ρ,e,m,h=>by
  have ih:=mE_ok O K1 n ρ
  have hu:X.A.in1.units+64<cLine:=by have:=O.un;show X.A.units+1+64<_;omega
  unfold mE at h
  split at h
  .rename_i x p
   split at h
   .rename_i hc
    rw[vaa]at hc
    obtain⟨n1,n2,n3⟩:=za8 hc.1
    split at h
    .rename_i i hi
     cases q:ρ[i]? with
     |none=>rw[q]at h;cases h
     |some o=>
      rw[q]at h
      have h:o=some m:=h
      subst h
      exact⟨m_var (by rw[O.hN];exact zcn hi) (O.vis x hc.2) n1 n2 q,rfl⟩
    .cases h
   .cases h
  .refine⟨?_,rfl⟩
   split at h<;>cases h
   .exact pe_bl.imp λσ H Q ⟨_,k⟩=>k _ H .refl rfl
   .exact ziq.imp λσ H Q ⟨_,k⟩=>k _ H .refl rfl
   .exact zo8.imp λσ H Q ⟨_,k⟩=>k _ H .refl rfl
  .refine⟨?_,rfl⟩
   rename_i es p
   cases q:mapO (mE X.K C kb c n ρ) es with
   |none=>rw[q]at h;cases h
   |some ms=>
    rw[q]at h
    have h:mList ms=some m:=h
    have ha:=ms_ok ih q
    unfold mList at h
    split at h
    .rename_i hz
     split at h
     .rename_i bs hb
      cases h
      have:=zhd hb
      subst this
      exact m_bls ha (by have:=zf7 hz;rwa [vaf]at this)
     .cases q2:texts ms with
      |none=>rw[q2]at h;cases h
      |some xs=>
       rw[q2]at h
       cases h
       have:=zhe q2
       subst this
       exact m_sts ha (by have:=zf7 hz;rwa [vaf]at this)
    .cases h
  .split at h
   .refine⟨?_,rfl⟩
    split at h
    .rename_i x y hx hy
     unfold mAdd at h
     split at h
     .split at h
      .rename_i hz;cases h;exact m_cat (ih _ _ hx).1 (ih _ _ hy).1 (zf7 hz)
      .cases h
     .split at h
      .rename_i hz;cases h;exact zvw (ih _ _ hx).1 (ih _ _ hy).1 (zf7 hz)
      .cases h
     .cases h
    .cases h
   .cases h
  .rename_i fn args kw pos
   split at h
   .split at h
    .refine⟨?_,rfl⟩
     rename_i f p
     split at h
     .rename_i a
      split at h
      .rename_i hc
       rw[vaa]at hc
       have hf:f = "_law_kinds":=by simpa using hc.1
       subst hf
       split at h
       .rename_i hx
        obtain⟨h1,h2⟩:=ih _ _ hx
        cases hkb:kb with
        |none=>rw[hkb]at h;cases h
        |some bs=>
         rw[hkb]at h
         cases h
         obtain⟨fa,fd,ps,g1,g2,g3,g4,g5⟩:=K1.kinds (by rw[hkb];rfl)
         refine(zf0 g2 g5 (O.gl _ (by simpa using hc.2)) g1 g3 g4 (zav h1 zbn (zad h2)) (by decide +kernel) (zad h2) rfl).imp λσ H Q ⟨en,k⟩=>⟨en,λv H1 k1 ⟨x,e1,q1⟩=>⟨x,bs,by rw[e1],q1,hkb,λw H2 k2 r2=>k w H2 (k1.trans k2) r2⟩⟩
       .cases h
      .cases h
     .rename_i a b
      split at h
      case h_2=>cases h
      rename_i t ht
      rw[zg6 ht]
      split at h
      .rename_i hc
       rw[vaa]at hc
       have hf:f = "isinstance":=by simpa using hc.1
       subst hf
       have hab:=hc.2
       unfold zdk at hab
       rw[vaa]at hab
       split at h
       .rename_i v hx hv
        obtain⟨h1,h2⟩:=ih _ _ hx
        obtain⟨c1,c2⟩:=zr9 (p:=t.2) O hv
        cases q:PySem.W.kitOne X.K (.ref C) v.1 with
        |none=>rw[q]at h;cases h
        |some b=>
         rw[q]at h
         cases h
         refine m_isE c1 c2 h1 h2 (O.gl _ (by simpa using hab.1)) (O.mgn _ ?_) K1.ex q
         have h3:=hab.2
         split at h3
         .assumption
         .cases h3
       .cases h
      .cases h
     .cases h
    .refine⟨?_,rfl⟩
     rename_i o mth ap
     split at h
     case h_2=>cases h
     rename_i a ha
     rw[zds ha]
     split at h
     .rename_i hc
      rw[vaa]at hc
      split at h
      .rename_i x y hx hy
       obtain⟨h1,_⟩:=ih _ _ hx
       obtain⟨h2,h3⟩:=ih _ _ hy
       unfold mMeth at h
       split at h
       .split at h
        .rename_i hm
         have hm:mth = "count":=by simpa using hm
         subst hm
         cases h
         exact m_cnt hu h1 h2 h3 (zi9 hc.1) hc.2
        .split at h
         .rename_i hm
          have hm:mth = "index":=by simpa using hm
          subst hm
          split at h
          .rename_i j hj
           split at h
           .rename_i hz
            cases h
            exact m_ind hu h1 h2 h3 (zi9 hc.1) hc.2 hj (by have:=vay hz;omega)
           .cases h
          .cases h
         .cases h
       .cases h
      .cases h
     .cases h
    .cases h
   .cases h
  .refine⟨?_,rfl⟩
   split at h
   .rename_i hb
    split at h
    .rename_i xs i hx hy
     cases q:atI xs i with
     |none=>rw[q]at h;cases h
     |some z=>
      rw[q]at h
      cases h
      exact m_sub (ih _ _ hx).1 (ih _ _ hy).1 (ze6 hb) q
    .cases h
   .cases h
  .cases h
end
noncomputable def orAll:List Bool->Bool
 |[]=>false
 |b::r=>b||orAll r
noncomputable def zp6:Expr->Bool
 |.Constant (.int _) _ _=>true
 |_=>false
noncomputable def mT(K:PySem.W.Frag)(C:Addr)(kb:Option (List Bool))(c:CC):Nat->List (Option MV)->Expr->Option Bool
 |0,_,_=>none
 |n+1,ρ,e=>match e with
  |.UnaryOp o a _=>(match o with
   |.Not=>(mT K C kb c n ρ a).map (!·)
   |_=>none)
  |.Compare a Os bs _=>(match Os,bs with
   |[O],[b]=>(match O with
   |.NotEq=>if zp6 b then(match mE K C kb c n ρ a,mE K C kb c n ρ b with
    |some (.int i),some (.int j)=>some (!decide (V.int i=V.int j))
    |_,_=>none)else none
   |_=>none)
   |_,_=>none)
  |.Call f as ks p=>(match mE K C kb c n ρ (.Call f as ks p)with
   |some (.bl b)=>some b
   |_=>none)
  |.BoolOp o es _=>(match o with
   |.Or=>if es.isEmpty then none else(mapO (mT K C kb c n ρ) es).map orAll
   |.And=>none)
  |_=>none
section
variable{X:Cx}{C:Addr}{kb:Option (List Bool)}{c:CC}{k:Nat}
theorem zmq{n:Nat}{ρ:List (Option MV)}{pos:Pos}(ih:∀(e:Expr) (b:Bool),mT X.K C kb c n ρ e=some b->PT X e (tMT C ρ b)):∀{es:List Expr} {bs:List Bool},mapO (mT X.K C kb c n ρ) es=some bs->es≠[]->PW X (.BoolOp .Or es pos) (tMT C ρ (orAll bs))
 |[],_,_,h=>absurd rfl h
 |e::es,bs,h,_=>by
  unfold mapO at h
  split at h
  .rename_i b hb
   split at h
   .rename_i bs' hbs
    cases h
    cases es with
    |nil=>
     cases hbs
     rw[orAll,orAll,Bool.or_false]
     exact zvz (ih e b hb)
    |cons e2 es=>exact mw_or (ih e b hb) (zmq ih hbs (by simp))
   .cases h
  .cases h
theorem mT_ok(O:XH X c)(K1:XK1 X C kb k):∀(n:Nat) (ρ:List (Option MV)) (e:Expr) (b:Bool),mT X.K C kb c n ρ e=some b->PT X e (tMT C ρ b)
 |0,_,_,_,h=>by cases h
 |n+1,ρ,e,b,h=>by
  have ih:=mT_ok O K1 n ρ
  have ihE:=mE_ok O K1 n ρ
  unfold mT at h
  split at h
  .split at h
   .obtain⟨r,h1,rfl⟩:=map_some h
    exact zvx (ih _ _ h1)
   .cases h
  .split at h
   .split at h
    .split at h
     .rename_i hb
      split at h
      .rename_i i j hx hy
       cases h
       refine mt_ne (ihE _ _ hx).1 (ihE _ _ hy).1 ?_
       unfold zp6 at hb
       split at hb
       .rfl
       .cases hb
      .cases h
     .cases h
    .cases h
   .cases h
  .split at h
   .rename_i r hx
    cases h
    exact zvy (ihE _ _ hx).1 λ_=>rfl
   .cases h
  .split at h
   .split at h
    .cases h
    .rename_i hne
     obtain⟨bs,h1,rfl⟩:=map_some h
     exact(zmq ih h1 (by simpa using hne)).pt
   .cases h
  .cases h
end
noncomputable def mB(K:PySem.W.Frag)(C:Addr)(kb:Option (List Bool))(c:CC):Nat->List (Option MV)->List Stmt->Option MV
 |0,_,_=>none
 |n+1,ρ,st=>match st with
  |[]=>none
  |s::rest=>(match s with
   |.Return r _=>(match r,rest with
    |some e,[]=>mE K C kb c n ρ e
    |_,_=>none)
   |.Assign l e _=>(match l with
   |[t]=>(match t with
   |.Name x p=>if ze3 e then(match nmIx c (.Name x p),mE K C kb c n ρ e with
    |some i,some m=>if Nat.blt i ρ.length then mB K C kb c n (ρ.set i (some m)) rest else none
    |_,_=>none)else none
   |_=>none)
   |_=>none)
   |.If t a el _=>(match el with
   |[]=>(match mT K C kb c n ρ t with
    |some true=>mB K C kb c n ρ a
    |some false=>mB K C kb c n ρ rest
    |none=>none)
   |_=>none)
   |_=>none)
section
variable{X:Cx}{C:Addr}{kb:Option (List Bool)}{c:CC}{k:Nat}
theorem mB_ok(O:XH X c)(K1:XK1 X C kb k):∀(n:Nat) (ρ:List (Option MV)) (st:List Stmt) (m:MV),mB X.K C kb c n ρ st=some m->PSs X st (tMB C ρ m)
 |0,_,_,_,h=>by cases h
 |n+1,ρ,st,m,h=>by
  unfold mB at h
  split at h
  .cases h
  .split at h
   .split at h
    .exact zv0 (mE_ok O K1 n ρ _ _ h).1
    .cases h
   .split at h
    .split at h
     .split at h
      .rename_i hc
       split at h
       .rename_i i m' hi he
        split at h
        .rename_i hl
         simp only[nmIx]at hi
         split at hi
         .rename_i hcc
          rw[vaa]at hcc
          obtain⟨l1,l2⟩:=O.loc _ hcc.2
          exact zv1 (by rw[O.hN];exact O.nd) (by rw[O.hN];exact zcn hi) l1 (mE_ok O K1 n ρ _ _ he).1 l2 (zax.mp hl) (zfx hc) (mB_ok O K1 n _ _ _ h)
         .cases hi
        .cases h
       .cases h
      .cases h
     .cases h
    .cases h
   .split at h
    .split at h
     .rename_i ht
      exact zv3 (mT_ok O K1 n ρ _ _ ht) (mB_ok O K1 n _ _ _ h)
     .rename_i ht
      exact zv2 (mT_ok O K1 n ρ _ _ ht) (mB_ok O K1 n _ _ _ h)
     .cases h
    .cases h
   .cases h
end
noncomputable def spM(C:Addr)(m:MV):List V->Hp->VK->Prop:=λvs H Q=>∃a,vs=[.ref a]/\Err C a H/\∀v H',Hx H H'->MRep C H' v m->Q v H'
noncomputable def cH(K:PySem.W.Frag)(C:Addr)(kb:Option (List Bool))(n:Nat)(x:Str):Option MV:=match fnAt K x with
 |some (f,o,fd)=>(match za5 fd.params,zeg fd.body with
  |some args,some body=>if(fd.name==nmOf x&&fd.qualname==x&&Nat.beq fd.globals mainGlobals&&fd.closure.isEmpty&& (isNone fd.defaults||noneD K fd.defaults && !args.isEmpty)&&Nat.beq fd.builtins builtinsNs&&PySem.W.codeIn K fd.code x&&PySem.W.keepIn K (.ref f) &&
   zdb (za1 (args.map (·.arg)) fd.scope) (args.map (·.arg)) fd.scope)&&Nat.beq args.length 1 then
   mB K C kb ⟨za1 (args.map (·.arg)) fd.scope,fd.scope.names,true⟩ n (some .exc::List.replicate ((za1 (args.map (·.arg)) fd.scope).length-1) none) body
   else none
  |_,_=>none)
 |none=>none
theorem xh_ok{P:Program}{w:World}{K:PySem.W.Frag}{mg:Str->Option Value}{base:Heap}{k:Nat}(KX:K.In base)(G:base.Ns mainGlobals mg){x:Str}{sc:Scope}{f:Addr}{N ps:List Str}(S:FnScope N ps sc)
 (cdv:Value) (A:Around) (outer:List Env) (s:Shared) (H:Hp) (hr:RoomH k (A.deeper (envOfC x sc s.heap.objs.size f cdv))):XH (cxH P w K mg base N x sc f cdv A outer s H) ⟨N,sc.names,true⟩:=by
 refine⟨rfl,S.nd,λy hy=>?_,λy hy=>?_,λy hy=>hy,λy v hv=>vea KX G hv,λy hv=>PySem.W.mg_none_of KX G hv,?_⟩
 .have hy:visK (sc.names.lookup y)=true:=hy
  cases z:sc.names.lookup y with
  |none=>rw[z]at hy;cases hy
  |some kd=>cases kd<;>first|exact .inl z|exact .inr (.inl z)|exact .inr (.inr z)|(rw[z]at hy;cases hy)
 .have hy:locK true (sc.names.lookup y)=true:=hy
  cases z:sc.names.lookup y with
  |none=>rw[z]at hy;cases hy
  |some kd=>cases kd<;>first|exact⟨.inl z,.inl rfl⟩|exact⟨.inr z,.inl rfl⟩|(rw[z]at hy;cases hy)
 .have:=hr.un
  show(A.deeper (envOfC x sc s.heap.objs.size f cdv)).units+70<cLine
  omega
theorem cH_ok{P:Program}{w:World}{K:PySem.W.Frag}{mg:Str->Option Value}{base:Heap}{C:Addr}{kb:Option (List Bool)}{n k:Nat}{x:Str}{m:MV}(KX:K.In base)(G:base.Ns mainGlobals mg)(h:cH K C kb n x=some m)(ex:XL.ExcI K C)
 (hk:kb.isSome=true->∃f fd ps,mg "_law_kinds" = some (.ref f)/\FnOkH P w K mg base k f fd ps (spK C kb)/\PySem.W.keepIn K (.ref f)=true/\Binds K fd ps []) :
 ∃f fd ps,refAt K x=some f/\FnOkH P w K mg base (k+1) f fd ps (spM C m)/\PySem.W.keepIn K (.ref f)=true/\Binds K fd ps []:=by
 unfold cH at h
 split at h
 .rename_i f o fd hf
  split at h
  .rename_i args body ha hb
   split at h
   .rename_i hc
    rw[vaa]at hc
    obtain⟨hc,h1⟩:=hc
    rw[vaa,vaa,vaa,vaa,vaa,vaa,vaa,vaa]at hc
    obtain⟨⟨⟨⟨⟨⟨⟨⟨c1,c2⟩,c3⟩,c4⟩,c5⟩,c6⟩,c7⟩,c8⟩,c9⟩:=hc
    obtain⟨S,nd⟩:=zdc c9
    obtain⟨hn,oc,od,sl,lk⟩:=zhb hf
    obtain⟨dx,ef⟩:=zif c1 c2 c3 c4 c6 ha hb
    have hl:(args.map (·.arg)).length=1:=by rw[vaf];exact vca h1
    have lk':=lk
    rw[ef]at lk'
    refine⟨f,fd,args.map (·.arg),hn,?_,c8,(zf5 ef nd rfl c5).1⟩
    rw[ef]
    refine fnH (K:=K) (N:=za1 (args.map (·.arg)) fd.scope) lk' c7 S (λvs H Q ⟨a,e,_⟩=>by rw[e,hl];rfl) λA outer s H vs Q hr hq0=>?_
    obtain⟨a,e,q1,q2⟩:=hq0
    have O:=xh_ok (P:=P) (w:=w) (mg:=mg) (base:=base) KX G (x:=x) (f:=f) S fd.code A outer s H hr
    have K1:XK1 (cxH P w K mg base (za1 (args.map (·.arg)) fd.scope) x fd.scope f fd.code A outer s H) C kb k:=⟨ex,λz=>let⟨g,gd,qs,a1,a2,a3,a4⟩:=hk z;⟨g,gd,qs,a1,a2,a3,a4,hr⟩⟩
    refine⟨_,mB_ok O K1 n _ body m h,?_,q2⟩
    subst e
    intro i mv hi
    cases i with
    |zero=>
     cases hi
     exact⟨.ref a,by unfold L2.start;rfl,a,rfl,q1⟩
    |succ i=>
     rw[vck,vc2]at hi
     split at hi<;>cases hi
   .cases h
  .cases h
 .cases h
noncomputable def varIx(C:CC):Expr->Option Nat
 |.Name x _=>if okN x&&visK (C.names.lookup x)then zbq C.N x 0 else none
 |_=>none
theorem zdt{X:Cx}{c:CC}(O:XH X c){x:Str}{p:Pos}{i:Nat}(h:varIx c (.Name x p)=some i):PE X (.Name x p) (tVar i):=by
 unfold varIx at h
 simp only at h
 split at h
 .rename_i hc
  rw[vaa]at hc
  exact zio (by rw[O.hN];exact zcn h) (O.vis _ hc.2) (za8 hc.1).1 (za8 hc.1).2.1
 .cases h
structure AsgQ where
 a:Str×Pos
 f:Str
 fp:Pos
 b:Str×Pos
 p:Pos
noncomputable def attE:Expr->Option (Expr×Str×Pos)
 |.Attribute o f p=>some (o,f,p)
 |_=>none
theorem zsa{e:Expr}{q:Expr×Str×Pos}(h:attE e=some q):e=.Attribute q.1 q.2.1 q.2.2:=by
 unfold attE at h
 split at h
 .cases h;rfl
 .cases h
noncomputable def asgOf:Stmt->Option AsgQ
 |.Assign ts e p=>(match(oneOf ts).bind attE,nmE e with
  |some t,some b=>(nmE t.1).map λa=>⟨a,t.2.1,t.2.2,b,p⟩
  |_,_=>none)
 |_=>none
theorem zja{s:Stmt}{q:AsgQ}(h:asgOf s=some q):s=.Assign [.Attribute (.Name q.a.1 q.a.2) q.f q.fp] (.Name q.b.1 q.b.2) q.p:=by
 unfold asgOf at h
 split at h
 .split at h
  .rename_i t b h1 h2
   obtain⟨a,h3,rfl⟩:=mapS h
   obtain⟨z,h4,h5⟩:=bindS h1
   rw[zds h4,zsa h5,zg6 h3,zg6 h2]
  .cases h
 .cases h
noncomputable def iniB(K:PySem.W.Frag)(D:Addr)(C:CC):List Stmt->Bool
 |[s,t]=>(match asgOf s,asgOf t with
  |some x,some y=>varIx C (.Name x.a.1 x.a.2)==some 0&&varIx C (.Name x.b.1 x.b.2)==some 1&&varIx C (.Name y.a.1 y.a.2)==some 0&&varIx C (.Name y.b.1 y.b.2)==some 2&&zcb K D x.f&&zcb K D y.f&&x.f==("row" : Str)&&y.f==("column" : Str)
  |_,_=>false)
 |_=>false
noncomputable abbrev iniX:Str:="Fault.__init__"
noncomputable def iniFd(K:PySem.W.Frag)(D f:Addr)(fd:FuncData):Bool:=match za5 fd.params,zeg fd.body with
 |some args,some body=>(fd.name==nmOf iniX&&fd.qualname==iniX&&Nat.beq fd.globals mainGlobals&&fd.closure.isEmpty&& (isNone fd.defaults||noneD K fd.defaults && !args.isEmpty)&&Nat.beq fd.builtins builtinsNs&&PySem.W.codeIn K fd.code iniX&&PySem.W.keepIn K (.ref f) &&
  zdb (za1 (args.map (·.arg)) fd.scope) (args.map (·.arg)) fd.scope)&& (Nat.beq args.length 3&&iniB K D ⟨za1 (args.map (·.arg)) fd.scope,fd.scope.names,true⟩ body)
 |_,_=>false
noncomputable def iniAt(K:PySem.W.Frag)(D:Addr):Option Addr:=match PySem.W.findIn K (.ref D) "__init__"with
 |some (some (.ref f))=>(match K.lookup f with
  |some o=>(match o.data with
   |.func fd=>if iniFd K D f fd&&XL.excCls K D&&PySem.W.isFn K (.ref f)&&PySem.W.keepIn K (.ref D)&&excKB K D then some f else none
   |_=>none)
  |none=>none)
 |_=>none
noncomputable abbrev Ini(P:Program)(w:World)(K:PySem.W.Frag)(mg:Str->Option Value)(base:Heap)(D f:Addr):Prop:=∃fd ps,MkI K D f/\FnOkH P w K mg base 1 f fd ps (spI D)/\Binds K fd ps []
theorem zoy{X:Cx}{c:CC}{D:Addr}{body:List Stmt}{a:Addr}{x y:V}{H:Hp}{Q:VK}{r:L2.St}(O:XH X c)(ex:XL.ExcK X.K D)(h:iniB X.K D c body=true)(ha:H a=some (excH D none a))
 (k:∀dx H',H dx=none->H' a=some (excH D (some dx) a)->H' dx=some (xdH (fsI x y) dx)->(∀b o,b≠a->H b=some o->H' b=some o)->Q .non H') :
 ∃t,PSs X body t/\t {nx:=λ_ H'=>Q .non H',rt:=Q} (some (.ref a)::some x::some y::r) H:=by
 unfold iniB at h
 split at h
 case h_2=>cases h
 split at h
 .rename_i q1 q2
  rw[zja q1,zja q2]
  simp only[vaa,vb7]at h
  obtain⟨⟨⟨⟨⟨⟨⟨h1,h2⟩,h3⟩,h4⟩,h5⟩,h6⟩,h7⟩,h8⟩:=h
  rw[h7]at h5 ⊢
  rw[h8]at h6 ⊢
  refine⟨_,zch (zle (zdt O h1) (zdt O h2) rfl) (zfh (zle (zdt O h3) (zdt O h4) rfl)),?_⟩
  refine⟨x,rfl,_,rfl,a,D,rfl,ex,zbp h5,.inl ⟨ha,λdx hdx=>?_⟩⟩
  have hne:dx≠a:=λz=>by rw[z,ha]at hdx;cases hdx
  refine⟨y,rfl,_,rfl,a,D,rfl,ex,zbp h6,.inr ⟨dx,_,zag,(by rw[zae hne,zag]),(by show 1<1000;decide),?_⟩⟩
  refine k dx _ hdx (by rw[zae (vbo hne),zag]) zag λb o hb e=>?_
  have hbd:b≠dx:=zaf e hdx
  rw[zae hbd,zae hb,zae hbd]
  exact e
 .cases h
theorem zv4{P:Program}{w:World}{K:PySem.W.Frag}{mg:Str->Option Value}{base:Heap}{D f:Addr}(KX:K.In base)(G:base.Ns mainGlobals mg)(h:iniAt K D=some f):Ini P w K mg base D f:=by
 unfold iniAt at h
 split at h
 case h_2=>cases h
 rename_i g hi
 split at h
 case h_2=>cases h
 rename_i o ho
 split at h
 case h_2=>cases h
 rename_i fd hd
 split at h
 case isFalse=>cases h
 rename_i hc
 cases h
 simp only[vaa]at hc
 obtain⟨⟨⟨⟨hq,h1⟩,h2⟩,h3⟩,h4⟩:=hc
 unfold iniFd at hq
 split at hq
 case h_2=>cases hq
 rename_i args body ha hb
 rw[vaa]at hq
 rw[vaa (Nat.beq _ _)]at hq
 obtain⟨hc,hl,hB⟩:=hq
 rw[vaa,vaa,vaa,vaa,vaa,vaa,vaa,vaa]at hc
 obtain⟨⟨⟨⟨⟨⟨⟨⟨c1,c2⟩,c3⟩,c4⟩,c5⟩,c6⟩,c7⟩,c8⟩,c9⟩:=hc
 obtain⟨S,nd⟩:=zdc c9
 obtain⟨dx,ef⟩:=zif c1 c2 c3 c4 c6 ha hb
 have hl:(args.map (·.arg)).length=3:=by rw[vaf];exact vca hl
 have lk':K.lookup f=some ⟨o.cls,o.dict,.func fd,o.slots⟩:=by rw[<-hd];exact ho
 rw[ef]at lk'
 refine⟨fd,args.map (·.arg),⟨h1,hi,h2,h3⟩,?_,(zf5 ef nd rfl c5).1⟩
 rw[ef]
 refine fnH (K:=K) (N:=za1 (args.map (·.arg)) fd.scope) lk' c7 S (λvs H Q ⟨a,x,y,e,_⟩=>by rw[e,hl];rfl) λA outer s H vs Q hr hq0=>?_
 obtain⟨a,x,y,e,q1,q2⟩:=hq0
 have O:=xh_ok (P:=P) (w:=w) (mg:=mg) (base:=base) KX G (x:=iniX) (f:=f) S fd.code A outer s H hr
 subst e
 exact zoy O (zi4 h4) hB q1 q2
noncomputable def mkEB(K:PySem.W.Frag)(D:Addr):Bool:=XL.excCls K D&& (match PySem.W.findIn K (.ref D) "__init__"with
 |some (some (.builtin b))=>b == "ValueError.__init__"
 |_=>false)&&PySem.W.keepIn K (.ref D)
theorem zsb{K:PySem.W.Frag}{D:Addr}(h:mkEB K D=true):MkE K D:=by
 unfold mkEB at h
 rw[vaa,vaa]at h
 obtain⟨⟨h1,h2⟩,h3⟩:=h
 refine⟨h1,?_,h3⟩
 split at h2
 .rename_i b e
  rw[e,show b = "ValueError.__init__" by simpa using h2]
 .cases h2
noncomputable def excAt(K:PySem.W.Frag)(C:CC)(x:Str):Option Addr:=if okN x&&C.names.lookup x==some .globalImplicit then(match PySem.W.nsIn K mainGlobals x with
 |some (some (.ref D))=>if mkEB K D then some D else none
 |_=>none)else none
noncomputable def fltAt(K:PySem.W.Frag)(C:CC)(x:Str):Option (Addr×Addr):=if okN x&&C.names.lookup x==some .globalImplicit then(match PySem.W.nsIn K mainGlobals x with
 |some (some (.ref D))=>(iniAt K D).map λf=>(D,f)
 |_=>none)else none
noncomputable def telAt(R:RX)(C:CC)(x:Str):Option Nat:=if okN x&&C.names.lookup x==some .globalImplicit then zbq R.tel x 0 else none
noncomputable def telOf(R:RX)(C:CC)(e:Expr):Option (CallQ×Nat):=match zg7 e with
 |some q=>if q.args.isEmpty then none else(telAt R C q.f).map λj=>(q,j)
 |none=>none
theorem zjb{R:RX}{C:CC}{e:Expr}{q:CallQ×Nat}(h:telOf R C e=some q):telAt R C q.1.f=some q.2/\∃a as,q.1.args=a::as/\e=.Call (.Name q.1.f q.1.p) (a::as) [] q.1.cp:=by
 unfold telOf at h
 split at h
 .rename_i c hc
  split at h
  .cases h
  .rename_i hne
   obtain⟨j,h1,rfl⟩:=mapS h
   have g:=zed hc
   cases ha:c.args with
   |nil=>rw[ha]at hne;exact absurd rfl hne
   |cons a as=>rw[ha]at g;exact⟨h1,a,as,rfl,g⟩
 .cases h
noncomputable def notE':Expr->Option (Expr×Pos)
 |.UnaryOp o e p=>(match o with
  |.Not=>some (e,p)
  |_=>none)
 |_=>none
theorem zoz{e:Expr}{q:Expr×Pos}(h:notE' e=some q):e=.UnaryOp .Not q.1 q.2:=by
 unfold notE' at h
 split at h
 .split at h
  .cases h;rfl
  .cases h
 .cases h
noncomputable def zmr(K:PySem.W.Frag)(T:List Str)(d:Nat)(C:CC)(q:CallQ):Option S:=match q.args with
 |[]=>(excAt K C q.f).map λD=>.ret (.cst (.int (D:Nat)))
 |[e1,e2]=>(match fltAt K C q.f,cL (cE K T d C) [e1,e2]with
  |some Df,some a=>some (.rsj Df.1 a)
  |_,_=>none)
 |_=>none
noncomputable def cX(K:PySem.W.Frag)(T:List Str)(R:RX)(d:Nat):Nat->CC->Stmt->Option S
 |0,_,_=>none
 |n+1,C,s=>match s with
  |.Raise x none _=>(match x.bind zg7 with
   |some q=>zmr K T d C q
   |none=>none)
  |.Return (some e) _=>(cE K T d C e).map λa=>.ret (.tup (.cons a .nil))
  |.If c a b _=>(match cSs (cX K T R d n C) a,cSs (cX K T R d n C) b with
   |some x,some y=>(match(notE' c).bind λq=>telOf R C q.1 with
    |some q=>(cL (cE K T d C) q.1.args).map λz=>.tel (R.at_+q.2) z true x y
    |none=>(cT K T d C c).map λz=>.ite z x y)
   |_,_=>none)
  |.Expr e _=>(match telOf R C e with
   |some q=>(cL (cE K T d C) q.1.args).map λa=>.tel (R.at_+q.2) a false .skip .skip
   |none=>if ze3 e then(cE K T d C e).map .expr else none)
  |.For tg it b [] _=>(match cW K T d C it,cTg C tg,cSs (cX K T R d n C) b with
   |some (kd,a),some t,some x=>if okW kd tg then some (.for kd a t x)else none
   |_,_,_=>none)
  |s=>(match cS K T R d (n+1) C s with
   |some c=>if noRet c then some c else none
   |none=>none)
theorem zo0{cl:Call}{a:E}:exs cl (.ret (.tup (.cons a .nil)))=λρ h=>(ev cl a ρ h).bind λw h=>.ok (.rt (.tup [w])) h:=by
 funext ρ h
 simp only[exs,ev]
 cases ev cl a ρ h<;>rfl
section
variable{X:Cx}{E:XK}{C:CC}{T:List Str}{R:RX}{F:Nat->Option Fn}{k d:Nat}
theorem zbt{f:Stmt->Option S}{cl:Call}(ih:∀st c,f st=some c->SX X E st (exs cl c)):∀{sts:List Stmt} {c:S},cSs f sts=some c->SXs X E sts (exs cl c)
 |[],_,h=>by cases h;exact zl2
 |s::r,c,h=>by
  unfold cSs at h
  split at h
  .rename_i a b ha hb
   cases h
   exact ziz (ih s a ha) (zbt ih hb)
  .cases h
theorem zms(O:XOk X.nox C T R F k){x:Str}{j:Nat}(h:telAt R C x=some j):∃g fd ps,FnOk X.prog X.w X.K X.mg X.base (CX1 X.prog X.w) k g fd ps (spX X.K ps.length (run F k (R.at_+j)))/\Gl X x/\X.mg x=some (.ref g)/\PySem.W.keepIn X.K (.ref g)=true/\Binds X.K fd ps []/\(∀ws h w h',run F k (R.at_+j) ws h=.ok w h'->ws.length=ps.length)/\(x==("__debug__" : Str))=false:=by
 unfold telAt at h
 split at h
 .rename_i hc
  simp only[vaa,vb7]at hc
  obtain⟨c1,c2⟩:=hc
  obtain⟨g,fd,ps,fn,q1,q2,q3,q4,q5,q6⟩:=O.rs j x (zcn h)
  exact⟨g,fd,ps,q2,O.gl x c2,O.mgs x _ (zb3 q1),q3,q4,λws h w h' e=>by rw[zc9 q5 e,q6],(za8 c1).1⟩
 .cases h
theorem zmt(O:XOk X.nox C T R F k)(fl:Fly X E)(hi:∀D f,iniAt X.K D=some f->Ini X.prog X.w X.K X.mg X.base D f){q:CallQ}{pos:Pos}{c:S}(h:zmr X.K T d C q=some c):SX X E (.Raise (some (.Call (.Name q.f q.p) q.args [] q.cp)) none pos) (exs (run F k) c):=by
 have Sd:=zcp (T:=T) (F:=F) (k:=k) d O
 unfold zmr at h
 split at h
 .rename_i hq
  rw[hq]
  obtain⟨D,h1,rfl⟩:=map_some h
  unfold excAt at h1
  split at h1
  .rename_i hc
   rw[vaa,vb7]at hc
   split at h1
   .rename_i D' hD
    split at h1
    .rename_i hm
     cases h1
     exact zop fl (zsb hm) O.calm (O.gl q.f hc.2) (O.mgs q.f _ hD) (za8 hc.1).1
    .cases h1
   .cases h1
  .cases h1
 .rename_i e1 e2 hq
  rw[hq]
  split at h
  case h_2=>cases h
  rename_i Df a hf ha
  cases h
  obtain⟨D,f⟩:=Df
  unfold fltAt at hf
  split at hf
  case isFalse=>cases hf
  rename_i hc
  rw[vaa,vb7]at hc
  split at hf
  case h_2=>cases hf
  rename_i D' hD
  obtain⟨f',h1,h2⟩:=map_some hf
  cases h2
  obtain⟨fd,ps,M,G,hbd⟩:=hi _ _ h1
  obtain⟨g1,g2⟩:=cL_ok Sd.e ha
  exact zmf fl M G (Room.h2 (k:=k) O.room) hbd O.calm (O.gl q.f hc.2) (O.mgs q.f _ hD) (za8 hc.1).1 g1 g2
 .cases h
theorem snd_x(O:XOk X.nox C T R F k)(tp:XTop X.nox C)(fl:Fly X E)(hi:∀D f,iniAt X.K D=some f->Ini X.prog X.w X.K X.mg X.base D f):∀(n:Nat) (st:Stmt) (c:S),cX X.K T R d n C st=some c->SX X E st (exs (run F k) c)
 |0,_,_,h=>by cases h
 |n+1,st,c,h=>by
  have Sd:=zcp (T:=T) (F:=F) (k:=k) d O
  have ih:=snd_x O tp fl hi n
  unfold cX at h
  split at h
  .split at h
   .rename_i q hq
    obtain⟨e,h1,h2⟩:=bindS hq
    rw[h1,zed h2]
    exact zmt O fl hi h
   .cases h
  .obtain⟨a,h1,rfl⟩:=map_some h
   rw[zo0]
   exact zvl (Sd.e _ _ h1).1
  .split at h
   case h_2=>cases h
   rename_i x y h2 h3
   split at h
   .rename_i q hq
    obtain⟨z,h4,rfl⟩:=map_some h
    obtain⟨e,h5,h6⟩:=bindS hq
    obtain⟨hj,a,as,ha,he⟩:=zjb h6
    rw[zoz h5,he]
    rw[ha]at h4
    obtain⟨g,fd,ps,q1,q2,q3,q4,q5,q6,q7⟩:=zms O hj
    obtain⟨g1,g2⟩:=cL_ok Sd.e h4
    exact zrw fl q1 O.room q2 q3 q4 q5 q6 g1 g2 q7 (zbt ih h2) (zbt ih h3)
   .obtain⟨z,h4,rfl⟩:=map_some h
    exact zpu (PT.nox (Sd.t _ _ h4)) (zbt ih h2) (zbt ih h3)
  .split at h
   .rename_i q hq
    obtain⟨z,h4,rfl⟩:=map_some h
    obtain⟨hj,a,as,ha,he⟩:=zjb hq
    rw[he]
    rw[ha]at h4
    obtain⟨g,fd,ps,q1,q2,q3,q4,q5,q6,q7⟩:=zms O hj
    obtain⟨g1,g2⟩:=cL_ok Sd.e h4
    exact zrv fl q1 O.room q2 q3 q4 q5 q6 g1 g2 q7
   .split at h
    .rename_i hn
     obtain⟨a,h1,rfl⟩:=map_some h
     exact zi2 (zl3 (Sd.e _ _ h1).1 hn) rfl
    .cases h
  .rename_i tg it b pos
   split at h
   .rename_i h1 h2 h3
    split at h
    case isFalse=>cases h
    rename_i hw
    cases h
    obtain⟨w1,w2⟩:=Sd.w _ _ _ tg h1 hw
    exact zpv fl.own O.calm (PI.nox w1) (PG.nox (tg_ok O h2)) (zbt ih h3) w2
   .cases h
  .split at h
   .rename_i c' hc
    split at h
    .rename_i hn
     cases h
     exact zi2 (snd_s O tp (n+1) _ _ hc) hn
    .cases h
   .cases h
end
noncomputable abbrev gS(K:PySem.W.Frag)(T:List Str)(R:RX)(d n:Nat):CC->List Stmt->Option S:=λC b=>cSs (cS K T R d n C) b
noncomputable abbrev gX(K:PySem.W.Frag)(T:List Str)(R:RX)(d n:Nat):CC->List Stmt->Option S:=λC b=>(cSs (cX K T R d n C) b).map λb=>.seq b (.ret (.cst (.tup [.non])))
noncomputable def cF0(K:PySem.W.Frag)(T:List Str)(R:RX)(d n:Nat)(x:Str):Option Fn:=if x==("" : Str)then some ⟨0,0,.no⟩else cFg K (gS K T R d n) x
theorem zmu{K:PySem.W.Frag}{T:List Str}{R:RX}{d n:Nat}{x:Str}{fn:Fn}(h:cF0 K T R d n x=some fn)(hx:x≠""):cFg K (gS K T R d n) x=some fn:=by
 unfold cF0 at h
 rw[if_neg (by simpa using hx)]at h
 exact h
noncomputable def cProg(K:PySem.W.Frag)(T:List Str)(R:RX)(d n:Nat):Option (List Fn):=match mapO (cF0 K T R d n) T,mapO (cFg K (gX K T R d n)) R.tel with
 |some a,some b=>if Nat.beq R.at_ T.length then some (a++b)else none
 |_,_=>none
theorem zjc{α β:Type}{f:α->Option β}:∀{l:List α} {r:List β},mapO f l=some r->r.length=l.length
 |[],_,h=>by cases h;rfl
 |x::l,r,h=>by
  unfold mapO at h
  split at h
  .split at h
   .rename_i bs hbs
    cases h
    rw[vam,vam,zjc hbs]
   .cases h
  .cases h
section
variable{K:PySem.W.Frag}{T:List Str}{R:RX}{d n:Nat}{Fs:List Fn}
theorem zcq(hP:cProg K T R d n=some Fs):(∀(i:Nat) (x:Str),T[i]?=some x->∃fn,Fs[i]?=some fn/\cF0 K T R d n x=some fn)/\∀(j:Nat) (x:Str),R.tel[j]?=some x->∃fn,Fs[R.at_+j]?=some fn/\cFg K (gX K T R d n) x=some fn:=by
 unfold cProg at hP
 split at hP
 .rename_i a b ha hb
  split at hP
  .rename_i hz
   cases hP
   have hl:=zjc ha
   have hz:R.at_=T.length:=vca hz
   refine⟨λi x e=>?_,λj x e=>?_⟩
   .obtain⟨fn,h1,h2⟩:=zf6 ha i x e
    exact⟨fn,by rw[vb0 (van.mp h1).1];exact h1,h2⟩
   .obtain⟨fn,h1,h2⟩:=zf6 hb j x e
    exact⟨fn,by rw[vbi (by omega),hz,hl,Nat.add_sub_cancel_left];exact h1,h2⟩
  .cases hP
 .cases hP
end
theorem gX_ok{K:PySem.W.Frag}{T:List Str}{R:RX}{d n:Nat}{C:CC}{b:List Stmt}{s:S}(h:gX K T R d n C b=some s):∃c,cSs (cX K T R d n C) b=some c/\s=.seq c (.ret (.cst (.tup [.non]))):=by
 obtain⟨c,h1,h2⟩:=map_some h
 exact⟨c,h1,h2⟩
noncomputable def Wd(P:Program)(w:World)(K:PySem.W.Frag)(mg:Str->Option Value)(base:Heap)(C:Nat)(z:Str):Prop:=∃f fd ps,mg "_law_word" = some (.ref f)/\FnOkH P w K mg base 2 f fd ps (spWd C z)/\PySem.W.keepIn K (.ref f)=true/\Binds K fd ps []
noncomputable def wordB(K:PySem.W.Frag)(C:Nat)(z:Str):Bool:=match cH K C none 60 "_law_kinds"with
 |some (.bls bs)=>(match cH K C (some bs) 60 "_law_word"with
  |some (.str y)=>y==z
  |_=>false)
 |_=>false
theorem _root_.L2.FnOkH.imp{P:Program}{w:World}{K:PySem.W.Frag}{mg:Str->Option Value}{base:Heap}{k:Nat}{f:Addr}{fd:FuncData}{ps:List Str}{sp sp':List V->Hp->VK->Prop}(F:FnOkH P w K mg base k f fd ps sp)(h:∀vs H Q,sp' vs H Q->sp vs H Q):FnOkH P w K mg base k f fd ps sp':=
 ⟨λvs H Q q=>F.len _ _ _ (h _ _ _ q),λA o s H args us vs Q hr e hb r q=>F.run A o s H args us vs Q hr e hb r (h _ _ _ q)⟩
theorem wd_ok{P:Program}{w:World}{K:PySem.W.Frag}{mg:Str->Option Value}{base:Heap}{C:Nat}{z:Str}(KX:K.In base)(G:base.Ns mainGlobals mg)(h:wordB K C z=true)(ex:XL.ExcI K C):Wd P w K mg base C z:=by
 unfold wordB at h
 split at h
 .rename_i bs h1
  split at h
  .rename_i y h2
   have hy:y=z:=by simpa using h
   subst hy
   obtain⟨f1,fd1,ps1,a1,a2,a3,a4⟩:=cH_ok (P:=P) (w:=w) (k:=0) KX G h1 ex (λz=>nomatch z)
   have a2:FnOkH P w K mg base 1 f1 fd1 ps1 (spK C (some bs)):=a2.imp λvs H Q hq0=>by obtain⟨a,bs',q1,q2,q3,q4⟩:=hq0;cases q3;exact⟨a,q1,q2,q4⟩
   obtain⟨f2,fd2,ps2,b1,b2,b3,b4⟩:=cH_ok (P:=P) (w:=w) (k:=1) KX G h2 ex (λ_=>⟨f1,fd1,ps1,vea KX G (zb3 a1),a2,a3,a4⟩)
   exact⟨f2,fd2,ps2,vea KX G (zb3 b1),b2.imp λvs H Q ⟨a,q1,q2,q3⟩=>⟨a,q1,q2,λv H' k r=>by rw[show v=.str y from r];exact q3 H' k⟩,b3,b4⟩
  .cases h
 .cases h
noncomputable abbrev AF(P:Program)(w:World)(K:PySem.W.Frag)(mg:Str->Option Value)(base:Heap)(T:List Str)(Fs:List Fn)(k:Nat):Prop:=∀(i:Nat) (x:Str),T[i]?=some x->x≠""->∃f fd ps fn,refAt K x=some f/\FnOk P w K mg base CX0 k f fd ps (spV K ps.length (run (λi=>Fs[i]?) k i))/\PySem.W.keepIn K (.ref f)=true/\Binds K fd ps []/\Fs[i]?=some fn/\fn.ps=ps.length/\(hasD K x=true->Binds K fd ps [.none])
noncomputable abbrev AR(P:Program)(w:World)(K:PySem.W.Frag)(mg:Str->Option Value)(base:Heap)(R:RX)(Fs:List Fn)(k:Nat):Prop:=∀(j:Nat) (x:Str),R.tel[j]?=some x->∃f fd ps fn,refAt K x=some f/\FnOk P w K mg base (CX1 P w) k f fd ps (spX K ps.length (run (λi=>Fs[i]?) k (R.at_+j)))/\PySem.W.keepIn K (.ref f)=true/\Binds K fd ps []/\Fs[R.at_+j]?=some fn/\fn.ps=ps.length
section
variable{P:Program}{w:World}{K:PySem.W.Frag}{mg:Str->Option Value}{base:Heap}{T:List Str}{R:RX}{Fs:List Fn}{k d n:Nat}
theorem zig(hD:DctOk w K)(KX:K.In base)(G:base.Ns mainGlobals mg){x:Str}{st:Stmt}{f:Addr}{N ps:List Str}(S:FnScope N ps (zai st))(H0:AF P w K mg base T Fs k)(HR:AR P w K mg base R Fs k)(HW:∀C z,(C,z)∈R.tb->Wd P w K mg base C z)
 (cdv:Value) (A:Around) (outer:List Env) (s:Shared) (H:Hp) (E:XK) (hr:Room k (A.deeper (envOfC x (zai st) s.heap.objs.size f cdv))):XOk (cxOf CX0 P w K mg base N x (zai st) f cdv A outer s H E).nox ⟨N,(zai st).names,true⟩ T R (λi=>Fs[i]?) k:=by
 refine⟨rfl,S.nd,λy hy=>?_,λy hy=>?_,λy hy=>hy,λy hy=>hy,rfl,hr,rfl,S.kind,λy v hv=>vea KX G hv,λy hv=>PySem.W.mg_none_of KX G hv,H0,HR,HW,hD,KX⟩
 .have hy:visK ((zai st).names.lookup y)=true:=hy
  cases z:(zai st).names.lookup y with
  |none=>rw[z]at hy;cases hy
  |some kd=>cases kd<;>first|exact .inl z|exact .inr (.inl z)|exact .inr (.inr z)|(rw[z]at hy;cases hy)
 .have hy:locK true ((zai st).names.lookup y)=true:=hy
  cases z:(zai st).names.lookup y with
  |none=>rw[z]at hy;cases hy
  |some kd=>cases kd<;>first|exact⟨.inl z,.inl rfl⟩|exact⟨.inr z,.inl rfl⟩|(rw[z]at hy;cases hy)
theorem zmv{CX:CXT}{x:Str}{st:Stmt}{f:Addr}{N:List Str}(cdv:Value)(A:Around)(outer:List Env)(s:Shared)(H:Hp)(E:XK):XTop (cxOf CX P w K mg base N x (zai st) f cdv A outer s H E).nox ⟨N,(zai st).names,true⟩:=
 ⟨rfl,rfl,λ_=>rfl,λy hy=>⟨hy,.inl hy,.inl hy⟩⟩
theorem zmw(hP:cProg K T R d n=some Fs)(hD:DctOk w K)(KX:K.In base)(G:base.Ns mainGlobals mg)(HW:∀C z,(C,z)∈R.tb->Wd P w K mg base C z)(k:Nat):∀(j:Nat),j<=k->AF P w K mg base T Fs j/\AR P w K mg base R Fs j:=by
 induction k with
 |zero=>
  intro j hj
  have:j=0:=Nat.le_zero.mp hj
  subst this
  refine⟨λi x e hx=>?_,λi x e=>?_⟩
  .obtain⟨fn,h1,h2⟩:=(zcq hP).1 i x e
   obtain⟨f,fd,st,ps,N,a1,a2,a3,a4,a5,a6,a7,_⟩:=cF_ok (zmu h2 hx)
   exact⟨f,fd,ps,fn,a1,zl8,a2.kp,a6.1,h1,a5,a6.2.1⟩
  .obtain⟨fn,h1,h2⟩:=(zcq hP).2 i x e
   obtain⟨f,fd,st,ps,N,a1,a2,a3,a4,a5,a6,a7,_⟩:=cF_ok h2
   exact⟨f,fd,ps,fn,a1,zoq,a2.kp,a6.1,h1,a5⟩
 |succ k ih=>
  intro j hj
  by_cases hjk:j<=k
  .exact ih j hjk
  .have:j=k+1:=by omega
   subst this
   refine⟨λi x e hx=>?_,λi x e=>?_⟩
   .obtain⟨fn,h1,h2⟩:=(zcq hP).1 i x e
    obtain⟨f,fd,st,ps,N,a1,a2,a3,a4,a5,a6,a7,_⟩:=cF_ok (zmu h2 hx)
    exact⟨f,fd,ps,fn,a1,zpx (F:=λi=>Fs[i]?) h1 a2 a3 a4 a5 λcdv A outer s H E hr=>zcc (snd_s (zig hD KX G a3 (ih k (vad _)).1 (ih k (vad _)).2 HW cdv A outer s H E hr) (zmv cdv A outer s H E) n) a7,a2.kp,a6.1,h1,a5,a6.2.1⟩
   .obtain⟨fn,h1,h2⟩:=(zcq hP).2 i x e
    obtain⟨f,fd,st,ps,N,a1,a2,a3,a4,a5,a6,a7,_⟩:=cF_ok h2
    obtain⟨c,b1,b2⟩:=gX_ok a7
    exact⟨f,fd,ps,fn,a1,zr0 (F:=λi=>Fs[i]?) h1 a2 a3 a4 a5 b2 λcdv A outer s H E hr=>zbt (snd_x (X:=cxOf (CX1 P w) P w K mg base N x (zai st) f cdv A outer s H E) (zig hD KX G a3 (ih k (vad _)).1 (ih k (vad _)).2 HW cdv A outer s H E hr) (zmv cdv A outer s H E) ⟨λe s' z=>zru rfl rfl rfl z,PassesOwn.leaving⟩ (λD f h=>zv4 KX G h) n) b1,a2.kp,a6.1,h1,a5⟩
end
noncomputable def zcr:Res W->Bool
 |.ok (.bl true) _=>true
 |_=>false
noncomputable def says(K:PySem.W.Frag)(T:List Str)(R:RX)(d n k i:Nat)(ns:List Int):Bool:=match cProg K T R d n with
 |some Fs=>zcr (run (λi=>Fs[i]?) k i [.fz (ns.map .int)] ⟨0,0,[]⟩)
 |none=>false
theorem zih{r:Res W}(h:zcr r=true):∃h',r=.ok (.bl true) h':=by
 cases r with
 |no=>cases h
 |ex _ _=>cases h
 |ok w h'=>cases w<;>first|(rename_i b;cases b<;>first|exact⟨h',rfl⟩|cases h)|cases h
theorem ze8{K:PySem.W.Frag}{m:Nat->Addr}{n:Nat}{H:Hp}:∀(ns:List Int),VReps K m n H (ns.map V.int) (ns.map W.int)
 |[]=>.nil
 |i::r=>.cons (.int i) (ze8 r)
theorem zmx{K:PySem.W.Frag}{T:List Str}{R:RX}{d n k i:Nat}{ns:List Int}(h:says K T R d n k i ns=true):∃Fs h',cProg K T R d n=some Fs/\run (λi=>Fs[i]?) k i [.fz (ns.map .int)] ⟨0,0,[]⟩=.ok (.bl true) h':=by
 unfold says at h
 split at h
 .rename_i Fs hF
  obtain⟨h',e⟩:=zih h
  exact⟨Fs,h',hF,e⟩
 .cases h
theorem zsc{K:PySem.W.Frag}{T:List Str}{R:RX}{d n k i:Nat}{ns:List Int}{Fs:List Fn}(hP:cProg K T R d n=some Fs)(h:zcr (run (λi=>Fs[i]?) k i [.fz (ns.map .int)] ⟨0,0,[]⟩)=true):says K T R d n k i ns=true:=by
 unfold says
 rw[hP]
 exact h
noncomputable def lawOk(K:PySem.W.Frag)(x:Str):Bool:=match fnAt K x with
 |some (_,_,fd)=>(match za5 fd.params with
  |some [a]=>a.arg==("_law_script" : Str) && !(noneD K fd.defaults)
  |_=>false)
 |none=>false
theorem zo1{l:PySem.W.OpenLaw}{q:Program}{loose:List Str}{XP:(Str->Option Value)->Heap->Prop}{YP:World->Heap->Prop}{dr:DefRec}{K:Params->PySem.W.Frag}(T:List Str)(R:RX)(d n k i:Nat)(hn:l.most=some 63)(hdf:dr.params.defaults=[])(hr:Room k callerA)
 (hD:∀w:World,DctOk w (K w.params)) (hY:∀(w:World)(h:Heap),YP w h->(K w.params).In h) (hT:T[i]?=some dr.name) (hne:dr.name≠"") (hS:∀(w:World)(ns:List Int),ns.length<=63->says (K w.params) T R d n k i ns=true) (hL:∀w:World,lawOk (K w.params) dr.name=true) (hW:∀w:World,∀C z,(C,z)∈R.tb->wordB (K w.params) C z=true/\XL.ExcI (K w.params) C) :
 PySem.W.WalkO q loose XP YP l.row.toRowW dr [] (λf vs=>PySem.call f vs):=by
 have any:∀w:World,∃Fs,cProg (K w.params) T R d n=some Fs:=λw=>let⟨Fs,_,h,_⟩:=zmx (hS w [] (vbu _));⟨Fs,h⟩
 refine L2.zq2 (n:=63) (k:=k) (x:="_law_script") (CX:=λ_=>CX0) (sp:=λw=>spV (K w.params) 1 (run (λj=>(Classical.choose (any w))[j]?) k i)) hn (by decide) hdf hr hY ?_ ?_ λ_ _ _ _ _ z=>z
 .intro w mg fa h KX G hmg
  have hP:=Classical.choose_spec (any w)
  obtain⟨fn',h1,h2⟩:=(zcq hP).1 i _ hT
  obtain⟨f',fd',st,ps',N,a1,a2,a3,a4,a5,a6,a7,o',fd'',args,a8,a9,a10⟩:=cF_ok (zmu h2 hne)
  have hps:ps'=[("_law_script" : Str)]:=by
   have hl:=hL w
   unfold lawOk at hl
   rw[a8]at hl
   simp only[a9]at hl
   cases args with
   |nil=>cases hl
   |cons z zs=>
    cases zs with
    |nil=>
     rw[vaa]at hl
     have hl:z.arg = "_law_script":=by simpa using hl.1
     rw[a10,vav,hl];rfl
    |cons _ _=>cases hl
  have hnd:hasD (K w.params) dr.name=false:=by
   have hl:=hL w
   unfold lawOk at hl
   rw[a8]at hl
   unfold hasD
   rw[a8]
   simp only[a9]at hl
   split at hl
   .rw[vaa]at hl
    simpa using hl.2
   .cases hl
  have e:=vea KX G (zb3 a1)
  rw[hmg]at e
  cases e
  subst hps
  refine⟨fd',λs u=>.of_eq (a6.2.2 hnd [u] rfl),λbase KB GB=>?_⟩
  have HW:∀C z,(C,z)∈R.tb->Wd l.prog w (K w.params) mg base C z:=λC z hm=>wd_ok KB GB (hW w C z hm).1 (hW w C z hm).2
  cases k with
  |zero=>exact zl8
  |succ k=>exact zpx (F:=λj=>(Classical.choose (any w))[j]?) h1 a2 a3 a4 a5 λcdv A outer s H E hr=>zcc (snd_s (zig (hD w) KB GB a3 (zmw hP (hD w) KB GB HW k k (vad _)).1 (zmw hP (hD w) KB GB HW k k (vad _)).2 HW cdv A outer s H E hr) (zmv cdv A outer s H E) n) a7
 .intro w H a ns hl hO hQ
  obtain⟨Fs,h',e1,e2⟩:=zmx (hS w ns hl)
  have hP:=Classical.choose_spec (any w)
  rw[hP]at e1
  cases e1
  refine⟨rfl,⟨0,0,[]⟩,λ_=>0,_,_,h',⟨λi hi=>absurd hi (Nat.not_lt_zero _),λi j hi=>absurd hi (Nat.not_lt_zero _),rfl⟩,.cons (.fz ?_ (ze8 ns)) .nil,e2,λv H' m' _ _ q=>by cases q;rfl⟩
  rcases hQ with(q|⟨o,q⟩)|q
  .rcases hO a with z|⟨o,xs,z⟩
   .rw[z]at q;cases q
   .rw[z]at q;cases q
  .exact .inl ⟨o,q⟩
  .exact .inr q
noncomputable def fn0:Fn:=⟨1,1,(.seq (.ret (.and (.isi .int (.var 0)) (.not (.isi .bool (.var 0))))) .skip)⟩
noncomputable def fn1:Fn:=⟨3,3,(.seq (.ret (.and (.call 0 (.cons (.var 0) .nil)) (.chn .le .le (.var 1) (.var 0) (.var 2)))) .skip)⟩
noncomputable def fn2:Fn:=⟨2,2,(.seq (.ite (.cmp .eq (.bi .len (.cons (.var 0) .nil)) (.cst (.int (0)))) (.seq (.ret (.op .add (.op .mul (.cst (.int (7))) (.var 1)) (.cst (.int (3))))) .skip) .skip) (.seq (.ret (.bi .abs (.cons (.idx (.var 0) (.op .mod (.var 1) (.bi .len (.cons (.var 0) .nil)))) .nil))) .skip))⟩
noncomputable def zdl:E:=(.cmp .ge (.bi .abs (.cons (.var 0) .nil)) (.op .pow (.cst (.int (10))) (.cst (.int (18)))))
noncomputable def zdm:E:=(.bi .abs (.cons (.var 0) .nil))
noncomputable def fn3:Fn:=⟨1,1,(.seq (.ret (.lst (.cons (.var 0) (.cons (.lc .seq (.var 0) (.one 0) 1 [] zdl zdm) (.cons (.cst (.int (0))) (.cons (.cst (.int (0))) .nil)))))) .skip)⟩
noncomputable def fn4:Fn:=⟨3,4,(.seq (.set 3 (.op .mod (.op .pow (.op .add (.op .mul (.op .add (.op .mod (.call 2 (.cons (.var 0) (.cons (.var 1) .nil))) (.cst (.int (1000003)))) (.cst (.int (5)))) (.op .add (.var 1) (.cst (.int (2))))) (.op .mul (.cst (.int (7919))) (.var 1))) (.cst (.int (5)))) (.cst (.int (2147483647))))) (.seq (.ret (.op .mod (.op .fdiv (.var 3) (.cst (.int (13)))) (.var 2))) .skip))⟩
noncomputable def zhf:E:=(.cmp .lt (.idx (.var 0) (.cst (.int (2)))) (.bi .len (.cons (.idx (.var 0) (.cst (.int (1)))) .nil)))
noncomputable def zei:S:=(.seq (.set 2 (.idx (.idx (.var 0) (.cst (.int (1)))) (.idx (.var 0) (.cst (.int (2)))))) (.seq (.ite (.cmp .gt (.var 2) (.cst (.int (0)))) (.seq (.put (.idx (.var 0) (.cst (.int (1)))) (.idx (.var 0) (.cst (.int (2)))) (.op .fdiv (.var 2) (.var 1))) (.seq (.ret (.op .mod (.var 2) (.var 1))) .skip)) .skip) (.seq (.put (.var 0) (.cst (.int (2))) (.op .add (.idx (.var 0) (.cst (.int (2)))) (.cst (.int (1))))) .skip)))
noncomputable def fn5:Fn:=⟨2,3,(.seq (.whl zhf zei) (.seq (.put (.var 0) (.cst (.int (3))) (.op .add (.idx (.var 0) (.cst (.int (3)))) (.cst (.int (1))))) (.seq (.ret (.call 4 (.cons (.idx (.var 0) (.cst (.int (0)))) (.cons (.idx (.var 0) (.cst (.int (3)))) (.cons (.var 1) .nil))))) .skip)))⟩
noncomputable def fn6:Fn:=⟨3,3,(.seq (.ret (.and (.isi .tuple (.var 0)) (.chn .le .le (.var 1) (.bi .len (.cons (.var 0) .nil)) (.var 2)))) .skip)⟩
noncomputable def zjd:S:=(.seq (.ite (.not (.tru (.call 1 (.cons (.var 5) (.cons (.var 3) (.cons (.var 4) .nil)))))) (.seq (.ret (.cst (.bl false))) .skip) .skip) .skip)
noncomputable def fn7:Fn:=⟨5,6,(.seq (.ite (.not (.tru (.call 6 (.cons (.var 0) (.cons (.var 1) (.cons (.var 2) .nil)))))) (.seq (.ret (.cst (.bl false))) .skip) .skip) (.seq (.«for» .seq (.var 0) (.one 5) zjd) (.seq (.ret (.cst (.bl true))) .skip)))⟩
noncomputable def zje:S:=(.seq (.ite (.not (.tru (.call 11 (.cons (.var 3) (.cons (.var 2) .nil))))) (.seq (.ret (.cst (.bl false))) .skip) .skip) .skip)
noncomputable def fn8:Fn:=⟨3,4,(.seq (.ite (.not (.tru (.call 6 (.cons (.var 0) (.cons (.var 1) (.cons (.var 1) .nil)))))) (.seq (.ret (.cst (.bl false))) .skip) .skip) (.seq (.«for» .seq (.var 0) (.one 3) zje) (.seq (.ret (.cst (.bl true))) .skip)))⟩
noncomputable def zjf:S:=(.seq (.ite (.not (.tru (.call 6 (.cons (.var 2) (.cons (.var 1) (.cons (.var 1) .nil)))))) (.seq (.ret (.cst (.bl false))) .skip) .skip) .skip)
noncomputable def fn9:Fn:=⟨2,3,(.seq (.ite (.not (.tru (.call 6 (.cons (.var 0) (.cons (.cst (.int (0))) (.cons (.cst (.int (60))) .nil)))))) (.seq (.ret (.cst (.bl false))) .skip) .skip) (.seq (.«for» .seq (.var 0) (.one 2) zjf) (.seq (.ret (.cst (.bl true))) .skip)))⟩
noncomputable def fn10:Fn:=⟨1,6,(.seq (.ite (.not (.tru (.call 6 (.cons (.var 0) (.cons (.cst (.int (5))) (.cons (.cst (.int (5))) .nil)))))) (.seq (.ret (.cst (.bl false))) .skip) .skip) (.seq (.unp [1,2,3,4,5] (.var 0)) (.seq (.ite (.or (.not (.tru (.call 1 (.cons (.var 1) (.cons (.cst (.int (1))) (.cons (.cst (.int (40))) .nil)))))) (.not (.tru (.call 1 (.cons (.var 2) (.cons (.cst (.int (0))) (.cons (.cst (.int (8))) .nil))))))) (.seq (.ret (.cst (.bl false))) .skip) .skip) (.seq (.ite (.not (.tru (.call 7 (.cons (.var 4) (.cons (.cst (.int (1))) (.cons (.cst (.int (4))) (.cons (.cst (.int (0))) (.cons (.op .sub (.var 1) (.cst (.int (1)))) .nil)))))))) (.seq (.ret (.cst (.bl false))) .skip) .skip) (.seq (.ret (.and (.call 9 (.cons (.var 3) (.cons (.var 1) .nil))) (.call 8 (.cons (.var 5) (.cons (.var 1) (.cons (.bi .len (.cons (.var 4) .nil)) .nil)))))) .skip)))))⟩
noncomputable def fn11:Fn:=⟨2,4,(.seq (.ite (.not (.tru (.call 6 (.cons (.var 0) (.cons (.cst (.int (2))) (.cons (.cst (.int (2))) .nil)))))) (.seq (.ret (.cst (.bl false))) .skip) .skip) (.seq (.unp [2,3] (.var 0)) (.seq (.ret (.and (.call 1 (.cons (.var 2) (.cons (.cst (.int (0))) (.cons (.cst (.int (99))) .nil)))) (.call 12 (.cons (.var 3) (.cons (.var 1) .nil))))) .skip)))⟩
noncomputable def fn12:Fn:=⟨2,2,(.seq (.ret (.or (.cmp .isn (.var 0) (.cst .non)) (.call 1 (.cons (.var 0) (.cons (.cst (.int (0))) (.cons (.op .sub (.var 1) (.cst (.int (1)))) .nil)))))) .skip)⟩
noncomputable def fn13:Fn:=⟨2,4,(.seq (.ite (.not (.tru (.call 6 (.cons (.var 0) (.cons (.cst (.int (2))) (.cons (.cst (.int (2))) .nil)))))) (.seq (.ret (.cst (.bl false))) .skip) .skip) (.seq (.unp [2,3] (.var 0)) (.seq (.ret (.and (.call 1 (.cons (.var 2) (.cons (.cst (.int (0))) (.cons (.op .sub (.var 1) (.cst (.int (1)))) .nil)))) (.call 1 (.cons (.var 3) (.cons (.cst (.int (0))) (.cons (.cst (.int (1))) .nil)))))) .skip)))⟩
noncomputable def zf8:S:=(.seq (.ite (.not (.tru (.call 15 (.cons (.var 7) (.cons (.var 6) (.cons (.var 1) (.cons (.var 2) .nil))))))) (.seq .no .skip) .skip) .skip)
noncomputable def zf9:S:=(.seq (.«for» .enm (.var 5) (.many [6,7]) zf8) .skip)
noncomputable def fn14:Fn:=⟨1,8,(.seq (.ite (.not (.tru (.call 10 (.cons (.var 0) .nil)))) (.seq .no .skip) .skip) (.seq (.unp [1,2,3] (.slc (.var 0) false (.cst .non) true (.cst (.int (3))))) (.seq (.«for» .enm (.var 3) (.many [4,5]) zf9) .skip)))⟩
noncomputable def fn15:Fn:=⟨4,4,(.seq (.ite (.or (.cmp .eq (.var 0) (.cst (.str (PySem.Str.ofString "x")))) (.tru (.call 13 (.cons (.var 0) (.cons (.var 3) .nil))))) (.seq (.ret (.chn .lt .lt (.cst (.int (0))) (.var 1) (.op .sub (.var 2) (.cst (.int (1)))))) .skip) .skip) (.seq (.ite (.cmp .eq (.var 0) (.cst (.str (PySem.Str.ofString "<")))) (.seq (.ret (.cmp .gt (.var 1) (.cst (.int (0))))) .skip) .skip) (.seq (.ite (.cmp .eq (.var 0) (.cst (.str (PySem.Str.ofString ">")))) (.seq (.ret (.cmp .lt (.var 1) (.op .sub (.var 2) (.cst (.int (1)))))) .skip) .skip) (.seq (.ret (.or (.cmp .eq (.var 0) (.cst (.str (PySem.Str.ofString ".")))) (.cmp .eq (.var 0) (.cst (.str (PySem.Str.ofString "s")))))) .skip))))⟩
noncomputable def fn21:Fn:=⟨4,6,(.seq (.set 4 (.call 5 (.cons (.var 0) (.cons (.cst (.int (10))) .nil)))) (.seq (.set 5 (.idx (.lst (.cons (.cst (.str (PySem.Str.ofString "."))) (.cons (.cst (.str (PySem.Str.ofString "<"))) (.cons (.cst (.str (PySem.Str.ofString ">"))) (.cons (.cst (.str (PySem.Str.ofString "x"))) (.cons (.cst (.str (PySem.Str.ofString "."))) (.cons (.cst (.str (PySem.Str.ofString "."))) .nil))))))) (.bi .min (.cons (.var 4) (.cons (.cst (.int (5))) .nil))))) (.seq (.ite (.and (.cmp .gt (.var 4) (.cst (.int (4)))) (.cmp .gt (.var 3) (.cst (.int (0))))) (.seq (.set 5 (.tup (.cons (.call 5 (.cons (.var 0) (.cons (.var 3) .nil))) (.cons (.call 5 (.cons (.var 0) (.cons (.cst (.int (2))) .nil))) .nil)))) .skip) .skip) (.seq (.ite (.and (.cmp .eq (.var 4) (.cst (.int (4)))) (.cmp .eq (.call 5 (.cons (.var 0) (.cons (.cst (.int (4))) .nil))) (.cst (.int (0))))) (.seq (.ret (.cst (.str (PySem.Str.ofString "s")))) .skip) .skip) (.seq (.ite (.or (.and (.cmp .eq (.var 1) (.cst (.int (0)))) (.cmp .nin (.var 5) (.tup (.cons (.cst (.str (PySem.Str.ofString "."))) (.cons (.cst (.str (PySem.Str.ofString ">"))) .nil))))) (.and (.cmp .eq (.var 1) (.op .sub (.var 2) (.cst (.int (1))))) (.cmp .nin (.var 5) (.tup (.cons (.cst (.str (PySem.Str.ofString "."))) (.cons (.cst (.str (PySem.Str.ofString "<"))) .nil)))))) (.seq (.ret (.idx (.lst (.cons (.cst (.str (PySem.Str.ofString ">"))) (.cons (.cst (.str (PySem.Str.ofString "<"))) (.cons (.cst (.str (PySem.Str.ofString "."))) .nil)))) (.bi .min (.cons (.op .add (.bi .int (.cons (.cmp .gt (.var 1) (.cst (.int (0)))) .nil)) (.op .mul (.cst (.int (2))) (.bi .int (.cons (.cmp .eq (.var 2) (.cst (.int (1)))) .nil)))) (.cons (.cst (.int (2))) .nil))))) .skip) .skip) (.seq (.ret (.var 5)) .skip))))))⟩
noncomputable def fn23:Fn:=⟨2,4,(.seq (.set 2 (.idx (.lst (.cons (.call 5 (.cons (.var 0) (.cons (.cst (.int (3))) .nil))) (.cons (.call 5 (.cons (.var 0) (.cons (.cst (.int (100))) .nil))) .nil))) (.bi .int (.cons (.cmp .eq (.call 5 (.cons (.var 0) (.cons (.cst (.int (4))) .nil))) (.cst (.int (0)))) .nil)))) (.seq (.set 3 (.call 5 (.cons (.var 0) (.cons (.var 1) .nil)))) (.seq (.ite (.cmp .eq (.call 5 (.cons (.var 0) (.cons (.cst (.int (8))) .nil))) (.cst (.int (0)))) (.seq (.ret (.tup (.cons (.var 2) (.cons (.cst .non) .nil)))) .skip) .skip) (.seq (.ret (.tup (.cons (.var 2) (.cons (.var 3) .nil)))) .skip))))⟩
noncomputable def zga:E:=(.call 21 (.cons (.var 1) (.cons (.var 0) (.cons (.var 3) (.cons (.var 2) .nil)))))
noncomputable def fn25:Fn:=⟨3,3,(.seq (.ret (.bi .tuple (.cons (.lc .rng1 (.cons (.var 1) .nil) (.one 0) 1 [0,2,1] (.cst (.bl true)) zga) .nil))) .skip)⟩
noncomputable def zmy:E:=(.call 25 (.cons (.var 1) (.cons (.var 3) (.cons (.var 2) .nil))))
noncomputable def zmz:E:=(.call 5 (.cons (.var 1) (.cons (.var 2) .nil)))
noncomputable def zm0:E:=(.call 23 (.cons (.var 1) (.cons (.bi .len (.cons (.var 2) .nil)) .nil)))
noncomputable def fn26:Fn:=⟨4,9,(.seq (.set 4 (.op .add (.cst (.int (1))) (.call 5 (.cons (.var 0) (.cons (.var 1) .nil))))) (.seq (.set 5 (.call 5 (.cons (.var 0) (.cons (.op .add (.var 3) (.cst (.int (1)))) .nil)))) (.seq (.set 6 (.lc .rng1 (.cons (.call 5 (.cons (.var 0) (.cons (.op .add (.var 2) (.cst (.int (1)))) .nil))) .nil) (.one 0) 1 [0,5,4] (.cst (.bl true)) zmy)) (.seq (.set 7 (.bi .tuple (.cons (.lc .rng1 (.cons (.op .add (.cst (.int (1))) (.call 5 (.cons (.var 0) (.cons (.cst (.int (4))) .nil)))) .nil) (.one 0) 1 [0,4] (.cst (.bl true)) zmz) .nil))) (.seq (.set 8 (.bi .tuple (.cons (.lc .rng1 (.cons (.var 4) .nil) (.one 0) 1 [0,7] (.cst (.bl true)) zm0) .nil))) (.seq (.ret (.tup (.cons (.var 4) (.cons (.var 5) (.cons (.bi .tuple (.cons (.var 6) .nil)) (.cons (.var 7) (.cons (.var 8) .nil))))))) .skip))))))⟩
noncomputable def fin(h:VH)(r:Res Fl):Res W:=r.bind λfl h'=>match fl with
 |.nx _=>leave h .non h'
 |.rt w=>leave h w h'
 |_=>.no
theorem zam{F:Nat->Option Fn}{k f:Nat}{fn:Fn}{ws:List W}{h:VH}(hF:F f=some fn)(hl:ws.length=fn.ps) :
 run F (k+1) f ws h=fin h (exs (run F k) fn.body (ws.map some++List.replicate (fn.n-fn.ps) none) ⟨h.n,h.n,h.os⟩):=by
 simp only[run,hF]
 rw[if_pos (by rw[hl];exact Nat.beq_refl _)]
 rfl
theorem ze9{h:VH}{w:W}{h':VH}(h1:h.n<=h'.lo)(h2:W.lt h.n w=true):leave h w h'=.ok w h:=by
 unfold leave
 rw[if_pos (by rw[vaa];exact⟨vdc.mpr h1,h2⟩)]
theorem zal{h h':VH}{w:W}(h1:h.n<=h'.lo)(h2:W.lt h.n w=true):fin h (.ok (.rt w) h')=.ok w h:=ze9 h1 h2
theorem zv5{h h':VH}{ρ:En}(h1:h.n<=h'.lo):fin h (.ok (.nx ρ) h')=.ok .non h:=ze9 h1 (by simp only[W.lt])
@[simp] theorem bindok {α β:Type} {a:α} {h:VH} {f:α->VH->Res β}:(Res.ok a h).bind f=f a h:=rfl
@[simp] theorem bindno {α β:Type} {f:α->VH->Res β}:(Res.no:Res α).bind f=.no:=rfl
@[simp] theorem ofsome {α:Type} {a:α} {h:VH}:Res.of (some a) h=.ok a h:=rfl
@[simp] theorem ofnone {α:Type} {h:VH}:Res.of (none:Option α) h=.no:=rfl
@[simp] theorem lt_non {n:Nat}:W.lt n .non=true:=by simp only[W.lt]
@[simp] theorem lt_bl {n:Nat} {b:Bool}:W.lt n (.bl b)=true:=by simp only[W.lt]
@[simp] theorem lt_int {n:Nat} {b:Int}:W.lt n (.int b)=true:=by simp only[W.lt]
@[simp] theorem lt_str {n:Nat} {b:Str}:W.lt n (.str b)=true:=by simp only[W.lt]
@[simp] theorem lt_tup {n:Nat} {b:List W}:W.lt n (.tup b)=W.lts n b:=by simp only[W.lt]
@[simp] theorem lts_nil {n:Nat}:W.lts n []=true:=by simp only[W.lts]
@[simp] theorem lts_cons {n:Nat} {b:W} {r:List W}:W.lts n (b::r)=(W.lt n b&&W.lts n r):=by simp only[W.lts]
@[simp] theorem ty_int_int:((Ty.int==Ty.int):Bool)=true:=rfl
@[simp] theorem ty_int_bool:((Ty.int==Ty.bool):Bool)=false:=rfl
@[simp] theorem ty_int_tuple:((Ty.int==Ty.tuple):Bool)=false:=rfl
@[simp] theorem ty_int_list:((Ty.int==Ty.list):Bool)=false:=rfl
@[simp] theorem ty_int_str:((Ty.int==Ty.str):Bool)=false:=rfl
@[simp] theorem ty_int_dict:((Ty.int==Ty.dict):Bool)=false:=rfl
@[simp] theorem ty_bool_int:((Ty.bool==Ty.int):Bool)=false:=rfl
@[simp] theorem ty_bool_bool:((Ty.bool==Ty.bool):Bool)=true:=rfl
@[simp] theorem ty_bool_tuple:((Ty.bool==Ty.tuple):Bool)=false:=rfl
@[simp] theorem ty_bool_list:((Ty.bool==Ty.list):Bool)=false:=rfl
@[simp] theorem ty_bool_str:((Ty.bool==Ty.str):Bool)=false:=rfl
@[simp] theorem ty_bool_dict:((Ty.bool==Ty.dict):Bool)=false:=rfl
@[simp] theorem ty_tuple_int:((Ty.tuple==Ty.int):Bool)=false:=rfl
@[simp] theorem ty_tuple_bool:((Ty.tuple==Ty.bool):Bool)=false:=rfl
@[simp] theorem ty_tuple_tuple:((Ty.tuple==Ty.tuple):Bool)=true:=rfl
@[simp] theorem ty_tuple_list:((Ty.tuple==Ty.list):Bool)=false:=rfl
@[simp] theorem ty_tuple_str:((Ty.tuple==Ty.str):Bool)=false:=rfl
@[simp] theorem ty_tuple_dict:((Ty.tuple==Ty.dict):Bool)=false:=rfl
@[simp] theorem ty_list_int:((Ty.list==Ty.int):Bool)=false:=rfl
@[simp] theorem ty_list_bool:((Ty.list==Ty.bool):Bool)=false:=rfl
@[simp] theorem ty_list_tuple:((Ty.list==Ty.tuple):Bool)=false:=rfl
@[simp] theorem ty_list_list:((Ty.list==Ty.list):Bool)=true:=rfl
@[simp] theorem ty_list_str:((Ty.list==Ty.str):Bool)=false:=rfl
@[simp] theorem ty_list_dict:((Ty.list==Ty.dict):Bool)=false:=rfl
@[simp] theorem ty_str_int:((Ty.str==Ty.int):Bool)=false:=rfl
@[simp] theorem ty_str_bool:((Ty.str==Ty.bool):Bool)=false:=rfl
@[simp] theorem ty_str_tuple:((Ty.str==Ty.tuple):Bool)=false:=rfl
@[simp] theorem ty_str_list:((Ty.str==Ty.list):Bool)=false:=rfl
@[simp] theorem ty_str_str:((Ty.str==Ty.str):Bool)=true:=rfl
@[simp] theorem ty_str_dict:((Ty.str==Ty.dict):Bool)=false:=rfl
@[simp] theorem ty_dict_int:((Ty.dict==Ty.int):Bool)=false:=rfl
@[simp] theorem ty_dict_bool:((Ty.dict==Ty.bool):Bool)=false:=rfl
@[simp] theorem ty_dict_tuple:((Ty.dict==Ty.tuple):Bool)=false:=rfl
@[simp] theorem ty_dict_list:((Ty.dict==Ty.list):Bool)=false:=rfl
@[simp] theorem ty_dict_str:((Ty.dict==Ty.str):Bool)=false:=rfl
@[simp] theorem ty_dict_dict:((Ty.dict==Ty.dict):Bool)=true:=rfl
@[simp] theorem isi_non {t:Ty} {h:VH}:tyIs t h .non=some false:=rfl
@[simp] theorem isi_bl {t:Ty} {h:VH} {b:Bool}:tyIs t h (.bl b)=some (t == .int||t == .bool):=rfl
@[simp] theorem isi_int {t:Ty} {h:VH} {i:Int}:tyIs t h (.int i)=some (t == .int):=rfl
@[simp] theorem isi_str {t:Ty} {h:VH} {x:Str}:tyIs t h (.str x)=some (t == .str):=rfl
@[simp] theorem isi_tup {t:Ty} {h:VH} {x:List W}:tyIs t h (.tup x)=some (t == .tuple):=rfl
@[simp] theorem get_lo {h:VH} {l i:Nat}:VH.get ⟨h.n,l,h.os⟩ i=h.get i:=by unfold VH.get;rfl
@[simp] theorem tru_bl {h:VH} {b:Bool}:truW h (.bl b)=some b:=rfl
noncomputable def forL(tg:W->VH->En->Option En)(b:FS):List W->En->VH->Res Fl
 |[],ρ,h=>.ok (.nx ρ) h
 |w::r,ρ,h=>match tg w h ρ with
  |none=>.no
  |some ρ=>(b ρ h).bind λfl h=>match fl with
   |.nx ρ=>forL tg b r ρ h
   |.ct ρ=>forL tg b r ρ h
   |.bk ρ=>.ok (.nx ρ) h
   |.rt w=>.ok (.rt w) h
noncomputable def lcL(tg:W->VH->En->Option En)(c e:FE):List W->En->VH->Res (List W)
 |[],_,h=>.ok [] h
 |w::r,ρ,h=>match tg w h ρ with
  |none=>.no
  |some ρ=>(c ρ h).bind λb h=>match b with
   |.bl true=>(e ρ h).bind λy h=>(lcL tg c e r ρ h).bind λys h=>.ok (y::ys) h
   |.bl false=>lcL tg c e r ρ h
   |_=>.no
theorem zfa{α β γ:Type}{r:Res α}{f:α->VH->Res β}{g:β->VH->Res γ}:(r.bind f).bind g=r.bind λa h=>(f a h).bind g:=by cases r<;>rfl
theorem zcs{nx:Nat->VH->Option (Option W)}{tg:W->VH->En->Option En}{b:FS}{ws:List W}(hx:∀i h,nx i h=some ws[i]?):∀(fu i:Nat) (ρ:En) (h:VH),i<=ws.length->ws.length<fu+i->forG nx tg b fu i ρ h=forL tg b (ws.drop i) ρ h
 |0,i,ρ,h,hi,hl=>by omega
 |fu+1,i,ρ,h,hi,hl=>by
  simp only[forG,hx]
  cases q:ws[i]? with
  |none=>
   rw[List.drop_eq_nil_of_le (vbb.mp q)]
   rfl
  |some w=>
   obtain⟨hi,e⟩:=van.mp q
   rw[List.drop_eq_getElem_cons hi,e]
   simp only[forL]
   cases tg w h ρ with
   |none=>rfl
   |some ρ'=>
    simp only
    congr 1
    funext fl h1
    cases fl<;>simp only[zcs hx fu (i+1) _ _ hi (by omega)]
theorem zb4{nx:Nat->VH->Option (Option W)}{tg:W->VH->En->Option En}{c e:FE}{ws:List W}(hx:∀i h,nx i h=some ws[i]?):∀(fu i:Nat) (ρ:En) (h:VH) (acc:List W),i<=ws.length->ws.length<fu+i->
 lcG nx tg c e fu i ρ h acc=(lcL tg c e (ws.drop i) ρ h).bind λys h=>.ok (acc.reverse++ys) h
 |0,i,ρ,h,acc,hi,hl=>by omega
 |fu+1,i,ρ,h,acc,hi,hl=>by
  simp only[lcG,hx]
  cases q:ws[i]? with
  |none=>
   rw[List.drop_eq_nil_of_le (vbb.mp q)]
   simp[lcL]
  |some w=>
   obtain⟨hi,ee⟩:=van.mp q
   rw[List.drop_eq_getElem_cons hi,ee]
   simp only[lcL]
   cases tg w h ρ with
   |none=>rfl
   |some ρ'=>
    simp only[zfa]
    congr 1
    funext bv h1
    cases bv<;>try rfl
    rename_i bb
    cases bb with
    |true=>
     simp only[zfa]
     congr 1
     funext y h2
     rw[zb4 hx fu (i+1) _ _ _ hi (by omega)]
     congr 1
     funext ys h3
     simp
    |false=>simp only[zb4 hx fu (i+1) _ _ _ hi (by omega)]
theorem zej{ws:List W}{tg:W->VH->En->Option En}{b:FS}{ρ:En}{h:VH}(hl:ws.length<1000000):forG (nxt .seq (.tup ws)) tg b fuel 0 ρ h=forL tg b ws ρ h:=by
 have:=zcs (nx:=nxt .seq (.tup ws)) (tg:=tg) (b:=b) (ws:=ws) (λi h=>rfl) fuel 0 ρ h (vbu _) (by simpa[fuel]using hl)
 simpa using this
theorem zv6{ws:List W}{tg:W->VH->En->Option En}{c e:FE}{ρ:En}{h:VH}(hl:ws.length<1000000):lcG (nxt .seq (.tup ws)) tg c e fuel 0 ρ h []=lcL tg c e ws ρ h:=by
 have:=zb4 (nx:=nxt .seq (.tup ws)) (tg:=tg) (c:=c) (e:=e) (ws:=ws) (λi h=>rfl) fuel 0 ρ h [] (vbu _) (by simpa[fuel]using hl)
 rw[this]
 simp only[vd5,List.reverse_nil,vcf]
 cases lcL tg c e ws ρ h<;>rfl
noncomputable def enumW:Nat->List W->List W
 |_,[]=>[]
 |i,w::r=>.tup [.int i,w]::enumW (i+1) r
theorem zhg:∀(ws:List W) (i j:Nat),(enumW j ws)[i]?=(ws[i]?).map λw=>.tup [.int ((j+i:Nat):Int),w]
 |[],i,j=>by simp[enumW]
 |w::r,0,j=>by simp[enumW]
 |w::r,i+1,j=>by
  simp only[enumW,vck]
  rw[zhg r i (j+1)]
  congr 1
  funext w
  rw[show j+1+i=j+ (i+1) by omega]
theorem zhh:∀(ws:List W) (j:Nat),(enumW j ws).length=ws.length
 |[],_=>rfl
 |_::r,j=>by simp[enumW,zhh r]
theorem zct{ws:List W}{tg:W->VH->En->Option En}{b:FS}{ρ:En}{h:VH}(hl:ws.length<1000000):forG (nxt .enm (.tup ws)) tg b fuel 0 ρ h=forL tg b (enumW 0 ws) ρ h:=by
 have:=zcs (nx:=nxt .enm (.tup ws)) (tg:=tg) (b:=b) (ws:=enumW 0 ws) (λi h=>by rw[zhg];simp[nxt,seqW]) fuel 0 ρ h (vbu _) (by simpa[fuel,zhh]using hl)
 simpa using this
noncomputable def za2(a:Int):Nat->List W
 |0=>[]
 |n+1=>.int a::za2 (a+1) n
theorem zdd:∀(n i:Nat) (a:Int),(za2 a n)[i]?=if i<n then some (.int (a+i))else none
 |0,i,a=>by simp[za2]
 |n+1,0,a=>by simp[za2]
 |n+1,i+1,a=>by
  simp only[za2,vck]
  rw[zdd n i (a+1)]
  by_cases q:i<n
  .rw[if_pos q,if_pos (by omega)]
   congr 2
   push_cast
   omega
  .rw[if_neg q,if_neg (by omega)]
theorem zde:∀(n:Nat) (a:Int),(za2 a n).length=n
 |0,_=>rfl
 |n+1,a=>by simp[za2,zde n]
theorem zsd{n:Nat}{tg:W->VH->En->Option En}{b:FS}{ρ:En}{h:VH}(hl:n<1000000):forG (nxt .rng1 (.tup [.int n])) tg b fuel 0 ρ h=forL tg b (za2 0 n) ρ h:=by
 have hf:fits (n:Int)=true:=by simp[fits];omega
 have:=zcs (nx:=nxt .rng1 (.tup [.int n])) (tg:=tg) (b:=b) (ws:=za2 0 n) (λi h=>by rw[zdd];simp[nxt,hf]) fuel 0 ρ h (vbu _) (by simpa[fuel,zde]using hl)
 simpa using this
theorem zv7{n:Nat}{tg:W->VH->En->Option En}{c e:FE}{ρ:En}{h:VH}(hl:n<1000000):lcG (nxt .rng1 (.tup [.int n])) tg c e fuel 0 ρ h []=lcL tg c e (za2 0 n) ρ h:=by
 have hf:fits (n:Int)=true:=by simp[fits];omega
 have:=zb4 (nx:=nxt .rng1 (.tup [.int n])) (tg:=tg) (c:=c) (e:=e) (ws:=za2 0 n) (λi h=>by rw[zdd];simp[nxt,hf]) fuel 0 ρ h [] (vbu _) (by simpa[fuel,zde]using hl)
 rw[this]
 simp only[vd5,List.reverse_nil,vcf]
 cases lcL tg c e (za2 0 n) ρ h<;>rfl
noncomputable def isInt:W->Bool
 |.int _=>true
 |_=>false
noncomputable def Kn(h:VH)(w:W):Prop:=tyIs .int h w≠none
theorem kn_lo{h:VH}{l:Nat}{w:W}:Kn ⟨h.n,l,h.os⟩ w↔Kn h w:=by
 unfold Kn
 cases w<;>simp[tyIs]
structure CoreA(F:Nat->Option Fn):Prop where
 f0:F 0=some fn0
 f1:F 1=some fn1
 f6:F 6=some fn6
 f7:F 7=some fn7
section
variable{F:Nat->Option Fn}(C:CoreA F)
include C
theorem zo2{k:Nat}{h:VH}{w:W}(hw:Kn h w):run F (k+1) 0 [w] h=.ok (.bl (isInt w)) h:=by
 rw[zam C.f0 rfl]
 cases w<;>try(simp[fn0,exs,ev,isInt,zal];done)
 .exact absurd rfl hw
 .rename_i i
  unfold Kn at hw
  simp only[tyIs]at hw
  cases g:h.get i with
  |none=>rw[g]at hw;exact absurd rfl hw
  |some o=>cases o<;>first|(simp[fn0,exs,ev,isInt,zal,tyIs,g];done)|(simp[g]at hw)
noncomputable def within(w:W)(lo hi:Int):Bool:=match w with
 |.int i=>decide (lo<=i)&&decide (i<=hi)
 |_=>false
theorem zaj{k:Nat}{h:VH}{w:W}{lo hi:Int}(hw:Kn h w):run F (k+2) 1 [w,.int lo,.int hi] h=.ok (.bl (within w lo hi)) h:=by
 rw[zam C.f1 rfl]
 have e:=zo2 C (k:=k) (h:=⟨h.n,h.n,h.os⟩) (w:=w) (kn_lo.mpr hw)
 cases w<;>simp[fn1,exs,ev,e,isInt,within,zal,cmpW,cmpI]
 rename_i i
 by_cases h1:lo<=i<;>simp[h1,zal]
noncomputable def zas(w:W)(lo hi:Int):Bool:=match w with
 |.tup ws=>decide (lo<=ws.length)&&decide ((ws.length:Int)<=hi)
 |_=>false
theorem zak{k:Nat}{h:VH}{w:W}{lo hi:Int}(hw:Kn h w):run F (k+1) 6 [w,.int lo,.int hi] h=.ok (.bl (zas w lo hi)) h:=by
 rw[zam C.f6 rfl]
 cases w<;>try(simp[fn6,exs,ev,zas,zal];done)
 .rename_i ws
  simp[fn6,exs,ev,zas,zal,cmpW,cmpI,biW,lenW,seqW]
  by_cases h1:lo<=ws.length<;>simp[h1,zal]
 .exact absurd rfl hw
 .rename_i i
  unfold Kn at hw
  simp only[tyIs]at hw
  cases g:h.get i with
  |none=>rw[g]at hw;exact absurd rfl hw
  |some o=>cases o<;>first|(simp[fn6,exs,ev,zas,zal,tyIs,g];done)|(simp[g]at hw)
theorem loop7{k:Nat}{h:VH}{t a b:W}{lo hi:Int}:∀(ws:List W) (x:Option W),(∀w∈ws,Kn h w)->∃y,forL (tgW (.one 5)) (exs (run F (k+2)) zjd) ws [some t,some a,some b,some (.int lo),some (.int hi),x] h =
 if ws.all (within · lo hi)then .ok (.nx [some t,some a,some b,some (.int lo),some (.int hi),y]) h else .ok (.rt (.bl false)) h
 |[],x,_=>⟨x,by simp[forL]⟩
 |w::r,x,hk=>by
  obtain⟨y,e⟩:=loop7 (t:=t) (a:=a) (b:=b) (k:=k) (lo:=lo) (hi:=hi) r (some w) λz hz=>hk z (vai _ hz)
  refine⟨y,?_⟩
  have e1:=zaj C (k:=k) (lo:=lo) (hi:=hi) (hk w vaq)
  have eb:exs (run F (k+2)) zjd [some t,some a,some b,some (.int lo),some (.int hi),some w] h=if within w lo hi then .ok (.nx [some t,some a,some b,some (.int lo),some (.int hi),some w]) h else .ok (.rt (.bl false)) h:=by
   cases q:within w lo hi<;>simp[zjd,exs,ev,e1,q]
  simp only[forL,tgW,List.set,eb]
  cases q:within w lo hi<;>simp[q,e]
noncomputable def zcu(w:W)(a b lo hi:Int):Bool:=match w with
 |.tup ws=>zas w a b&&ws.all (within · lo hi)
 |_=>false
theorem zbr{k:Nat}{h:VH}{w:W}{a b lo hi:Int}(hw:Kn h w)(hp:∀ws,w=.tup ws->ws.length<1000000/\∀x∈ws,Kn h x):run F (k+3) 7 [w,.int a,.int b,.int lo,.int hi] h=.ok (.bl (zcu w a b lo hi)) h:=by
 rw[zam C.f7 rfl]
 have e1:=zak C (k:=k+1) (h:=⟨h.n,h.n,h.os⟩) (w:=w) (lo:=a) (hi:=b) (kn_lo.mpr hw)
 cases q:zas w a b with
 |false=>
  have:zcu w a b lo hi=false:=by cases w<;>simp[zcu,q]
  simp[fn7,exs,ev,e1,q,this,zal]
 |true=>
  cases w<;>try(simp[zas]at q;done)
  rename_i ws
  obtain⟨hl,hk⟩:=hp ws rfl
  obtain⟨y,e2⟩:=loop7 C (k:=k) (h:=⟨h.n,h.n,h.os⟩) (t:=.tup ws) (a:=.int a) (b:=.int b) (lo:=lo) (hi:=hi) ws none λx hx=>kn_lo.mpr (hk x hx)
  have e3:zcu (.tup ws) a b lo hi=ws.all (within · lo hi):=by simp[zcu,q]
  rw[e3]
  cases q2:ws.all (within · lo hi)with
  |true=>simp[fn7,exs,ev,e1,q,zej hl,e2,q2,zal]
  |false=>simp[fn7,exs,ev,e1,q,zej hl,e2,q2,zal]
end
noncomputable def zan:Nat->W->Bool
 |0,_=>false
 |n+1,w=>match w with
  |.non=>true
  |.bl _=>true
  |.int _=>true
  |.str x=>PyData.strOk x
  |.tup ws=>ws.all (zan n)
  |_=>false
theorem zjg{f:W->Option PyData}{p:W->Bool}{n:Nat}(h:∀w,p w=true->∃d,f w=some d/\d.canLay0=true/\d.depth<=n):∀ws:List W,ws.all p=true->∃ds,mapO f ws=some ds/\PyData.canLayAll0 ds=true/\PyData.depthAll ds<=n
 |[],_=>⟨[],rfl,rfl,vbu _⟩
 |w::r,e=>by
  rw[vbn,vaa]at e
  obtain⟨d,h1,h2,h3⟩:=h w e.1
  obtain⟨ds,h4,h5,h6⟩:=zjg h r e.2
  refine⟨d::ds,by simp[mapO,h1,h4],?_,?_⟩
  .show(d.canLay0&&PyData.canLayAll0 ds)=true
   rw[h2,h5];rfl
  .show max d.depth (PyData.depthAll ds)<=n
   omega
theorem zek(h:VH):∀(n:Nat) (w:W),zan n w=true->∃d,toD h n w=some d/\d.canLay0=true/\d.depth<=n
 |0,_,e=>by cases e
 |n+1,w,e=>by
  cases w<;>simp only[zan]at e<;>try(cases e;done)
  .exact⟨.none,rfl,rfl,vbu _⟩
  .exact⟨.bool _,rfl,rfl,vbu _⟩
  .exact⟨.int _,rfl,rfl,vbu _⟩
  .exact⟨.str _,rfl,e,vbu _⟩
  .obtain⟨ds,h1,h2,h3⟩:=zjg (zek h n) _ e
   exact⟨.tuple ds,by simp[toD,h1],h2,by show PyData.depthAll ds+1<=n+1;omega⟩
mutual
theorem zjh:∀d:PyData,d.canLay0=true->PyData.eqv d d=true
 |.none,_=>rfl
 |.bool b,_=>by simp[PyData.eqv]
 |.int i,_=>by simp[PyData.eqv]
 |.str x,_=>by simp[PyData.eqv]
 |.list xs,h=>by
  simp only[PyData.eqv]
  exact zcd xs h
 |.tuple xs,h=>by
  simp only[PyData.eqv]
  exact zcd xs h
 |.dict _,h=>by cases h
theorem zcd:∀ds:List PyData,PyData.canLayAll0 ds=true->PyData.eqvAll ds ds=true
 |[],_=>rfl
 |d::ds,h=>by
  have h:(d.canLay0&&PyData.canLayAll0 ds)=true:=h
  rw[vaa]at h
  simp only[PyData.eqvAll,zjh d h.1,zcd ds h.2,Bool.and_self]
end
theorem zji{h:VH}{w:W}(p:zan 24 w=true):eqW h w w=some true:=by
 obtain⟨d,h1,h2,h3⟩:=zek h 24 w p
 have hs:SeqAt.shaped d=true:=by
  unfold SeqAt.shaped
  rw[h2,Bool.true_and,vap];omega
 unfold eqW
 rw[h1]
 simp[hs,zjh d h2]
noncomputable def isS(w:W)(x:Str):Bool:=match w with
 |.str y=>y==x
 |_=>false
theorem zce{h:VH}{w:W}{x:Str}(p:zan 24 w=true)(hx:PyData.strOk x=true):eqW h w (.str x)=some (isS w x):=by
 obtain⟨d,h1,h2,h3⟩:=zek h 24 w p
 have hs:SeqAt.shaped d=true:=by
  unfold SeqAt.shaped
  rw[h2,Bool.true_and,vap];omega
 have hs2:SeqAt.shaped (.str x)=true:=by
  unfold SeqAt.shaped
  show(PyData.strOk x&&_)=true
  rw[hx];rfl
 unfold eqW
 rw[h1]
 have h4:toD h 24 (.str x)=some (.str x):=rfl
 rw[h4]
 simp only[hs,hs2,Bool.and_self,vbk]
 cases w<;>simp only[toD]at h1<;>try(cases h1;done)
 .cases h1;simp[isS,PyData.eqv]
 .cases h1;simp[isS,PyData.eqv]
 .cases h1;simp[isS,PyData.eqv]
 .cases h1;simp[isS,PyData.eqv]
 .obtain⟨ds,h5,h6⟩:=Option.map_eq_some_iff.mp h1
  subst h6
  simp[isS,PyData.eqv]
 .simp[zan]at p
 .simp[zan]at p
theorem zcv{n:Nat}{ws:List W}:zan (n+1) (.tup ws)=ws.all (zan n):=rfl
theorem zgb{h:VH}{n:Nat}{w:W}(p:zan n w=true):Kn h w:=by
 unfold Kn
 cases n with
 |zero=>cases p
 |succ n=>cases w<;>simp[zan,tyIs]at p ⊢
structure CoreB(F:Nat->Option Fn):Prop extends CoreA F where
 f8:F 8=some fn8
 f9:F 9=some fn9
 f10:F 10=some fn10
 f11:F 11=some fn11
 f12:F 12=some fn12
 f13:F 13=some fn13
 f14:F 14=some fn14
 f15:F 15=some fn15
theorem zm1:isNon .non=true:=rfl
noncomputable def fon(w:W)(n:Int):Bool:=isNon w||within w 0 (n-1)
noncomputable def door(w:W)(n:Int):Bool:=match w with
 |.tup [a,b]=>within a 0 99&&fon b n
 |_=>false
noncomputable def za6(w:W)(g:Int):Bool:=match w with
 |.tup [a,b]=>within a 0 (g-1)&&within b 0 1
 |_=>false
noncomputable def zab(w:W)(c wd g:Int):Bool:=
 if isS w "x" || za6 w g then decide (0<c)&&decide (c<wd-1)else if isS w "<"then decide (0<c)else if isS w ">"then decide (c<wd-1)else isS w "." || isS w "s"
section
variable{F:Nat->Option Fn}(C:CoreB F)
include C
theorem zdf{k:Nat}{h:VH}{w:W}{n:Int}(hw:Kn h w):run F (k+3) 12 [w,.int n] h=.ok (.bl (fon w n)) h:=by
 rw[zam C.f12 rfl]
 have e:=zaj C.toCoreA (k:=k) (h:=⟨h.n,h.n,h.os⟩) (w:=w) (lo:=0) (hi:=n-1) (kn_lo.mpr hw)
 cases q:isNon w<;>simp[fn12,exs,ev,e,cmpW,zm1,q,fon,zal,opW,opI]
theorem zse{k:Nat}{h:VH}{w:W}{n:Int}(hw:Kn h w)(hp:∀a b,w=.tup [a,b]->Kn h a/\Kn h b):run F (k+4) 11 [w,.int n] h=.ok (.bl (door w n)) h:=by
 rw[zam C.f11 rfl]
 have e1:=zak C.toCoreA (k:=k+2) (h:=⟨h.n,h.n,h.os⟩) (w:=w) (lo:=2) (hi:=2) (kn_lo.mpr hw)
 cases q:zas w 2 2 with
 |false=>
  have:door w n=false:=by
   cases w<;>simp[door]
   rename_i ws
   rcases ws with _|⟨a,_|⟨b,_|_⟩⟩<;>simp[zas]at q ⊢
  simp[fn11,exs,ev,e1,q,this,zal]
 |true=>
  cases w<;>try(simp[zas]at q;done)
  rename_i ws
  have hl:ws.length=2:=by simp[zas]at q;omega
  rcases ws with _|⟨a,_|⟨b,_|_⟩⟩<;>simp at hl
  obtain⟨ka,kb⟩:=hp a b rfl
  have e2:=zaj C.toCoreA (k:=k+1) (h:=⟨h.n,h.n,h.os⟩) (w:=a) (lo:=0) (hi:=99) (kn_lo.mpr ka)
  have e3:=zdf C (k:=k) (h:=⟨h.n,h.n,h.os⟩) (w:=b) (n:=n) (kn_lo.mpr kb)
  cases q2:within a 0 99<;>simp[fn11,exs,ev,e1,q,e2,e3,q2,door,zal,tgW,seqW,za4]
theorem zm2{k:Nat}{h:VH}{w:W}{n:Int}(hw:Kn h w)(hp:∀a b,w=.tup [a,b]->Kn h a/\Kn h b):run F (k+3) 13 [w,.int n] h=.ok (.bl (za6 w n)) h:=by
 rw[zam C.f13 rfl]
 have e1:=zak C.toCoreA (k:=k+1) (h:=⟨h.n,h.n,h.os⟩) (w:=w) (lo:=2) (hi:=2) (kn_lo.mpr hw)
 cases q:zas w 2 2 with
 |false=>
  have:za6 w n=false:=by
   cases w<;>simp[za6]
   rename_i ws
   rcases ws with _|⟨a,_|⟨b,_|_⟩⟩<;>simp[zas]at q ⊢
  simp[fn13,exs,ev,e1,q,this,zal]
 |true=>
  cases w<;>try(simp[zas]at q;done)
  rename_i ws
  have hl:ws.length=2:=by simp[zas]at q;omega
  rcases ws with _|⟨a,_|⟨b,_|_⟩⟩<;>simp at hl
  obtain⟨ka,kb⟩:=hp a b rfl
  have e2:=zaj C.toCoreA (k:=k) (h:=⟨h.n,h.n,h.os⟩) (w:=a) (lo:=0) (hi:=n-1) (kn_lo.mpr ka)
  have e3:=zaj C.toCoreA (k:=k) (h:=⟨h.n,h.n,h.os⟩) (w:=b) (lo:=0) (hi:=1) (kn_lo.mpr kb)
  cases q2:within a 0 (n-1)<;>simp[fn13,exs,ev,e1,q,e2,e3,q2,za6,zal,tgW,seqW,za4,opW,opI]
theorem zcw{k:Nat}{h:VH}{w:W}{c wd g:Int}(p:zan 24 w=true):run F (k+4) 15 [w,.int c,.int wd,.int g] h=.ok (.bl (zab w c wd g)) h:=by
 rw[zam C.f15 rfl]
 have hp:∀a b,w=.tup [a,b]->Kn ⟨h.n,h.n,h.os⟩ a/\Kn ⟨h.n,h.n,h.os⟩ b:=λa b e=>by
  subst e
  have p:zan (23+1) (.tup [a,b])=true:=p
  rw[zcv,vbn,vbn,vaa,vaa]at p
  exact⟨zgb p.1,zgb p.2.1⟩
 have e1:=zm2 C (k:=k) (h:=⟨h.n,h.n,h.os⟩) (w:=w) (n:=g) (zgb p) hp
 have sx:=zce (h:=⟨h.n,h.n,h.os⟩) (x:=Str.ofString "x") p (by decide +kernel)
 have sl:=zce (h:=⟨h.n,h.n,h.os⟩) (x:=Str.ofString "<") p (by decide +kernel)
 have sg:=zce (h:=⟨h.n,h.n,h.os⟩) (x:=Str.ofString ">") p (by decide +kernel)
 have sd:=zce (h:=⟨h.n,h.n,h.os⟩) (x:=Str.ofString ".") p (by decide +kernel)
 have ss:=zce (h:=⟨h.n,h.n,h.os⟩) (x:=Str.ofString "s") p (by decide +kernel)
 unfold zab
 cases q1:isS w (Str.ofString "x")<;>cases q2:za6 w g<;>cases q3:isS w (Str.ofString "<")<;>cases q4:isS w (Str.ofString ">")<;>cases q5:isS w (Str.ofString ".")<;>by_cases h1:0<c<;>
  simp[fn15,exs,ev,cmpW,cmpI,sx,sl,sg,sd,ss,e1,opW,opI,q1,q2,q3,q4,q5,h1,zal]
theorem zb9{k:Nat}{h:VH}{t a:W}{n:Int}:∀(ws:List W) (x:Option W),(∀w∈ws,Kn h w/\∀a b,w=.tup [a,b]->Kn h a/\Kn h b)->∃y,forL (tgW (.one 3)) (exs (run F (k+4)) zje) ws [some t,some a,some (.int n),x] h =
 if ws.all (door · n)then .ok (.nx [some t,some a,some (.int n),y]) h else .ok (.rt (.bl false)) h
 |[],x,_=>⟨x,by simp[forL]⟩
 |w::r,x,hk=>by
  obtain⟨y,e⟩:=zb9 (t:=t) (a:=a) (k:=k) (n:=n) r (some w) λz hz=>hk z (vai _ hz)
  refine⟨y,?_⟩
  obtain⟨k1,k2⟩:=hk w vaq
  have e1:=zse C (k:=k) (n:=n) k1 k2
  have eb:exs (run F (k+4)) zje [some t,some a,some (.int n),some w] h=if door w n then .ok (.nx [some t,some a,some (.int n),some w]) h else .ok (.rt (.bl false)) h:=by
   cases q:door w n<;>simp[zje,exs,ev,e1,q]
  simp only[forL,tgW,List.set,eb]
  cases q:door w n<;>simp[q,e]
theorem zm3{k:Nat}{h:VH}{ws:List W}{wd n:Int}(hl:ws.length=wd)(hz:ws.length<1000000)(hd:∀w∈ws,door w n=true):run F (k+5) 8 [.tup ws,.int wd,.int n] h=.ok (.bl true) h:=by
 rw[zam C.f8 rfl]
 have e1:=zak C.toCoreA (k:=k+3) (h:=⟨h.n,h.n,h.os⟩) (w:=.tup ws) (lo:=wd) (hi:=wd) (by unfold Kn;simp)
 have q:zas (.tup ws) wd wd=true:=by simp[zas,hl]
 have kn:∀w∈ws,Kn ⟨h.n,h.n,h.os⟩ w/\∀a b,w=.tup [a,b]->Kn ⟨h.n,h.n,h.os⟩ a/\Kn ⟨h.n,h.n,h.os⟩ b:=λw hw=>by
  have:=hd w hw
  cases w<;>simp only[door]at this<;>try(cases this;done)
  rename_i us
  refine⟨by unfold Kn;simp,λa b e=>?_⟩
  cases e
  simp only[vaa]at this
  obtain⟨h1,h2⟩:=this
  refine⟨?_,?_⟩
  .cases a<;>simp[within]at h1
   unfold Kn;simp
  .unfold fon at h2
   cases b<;>simp[within,isNon]at h2
   .unfold Kn;simp
   .unfold Kn;simp
 obtain⟨y,e2⟩:=zb9 C (k:=k) (h:=⟨h.n,h.n,h.os⟩) (t:=.tup ws) (a:=.int wd) (n:=n) ws none kn
 have ha:ws.all (door · n)=true:=va1.mpr hd
 simp[fn8,exs,ev,e1,q,zej hz,e2,ha,zal]
theorem zcx{k:Nat}{h:VH}{t:W}{wd:Int}:∀(ws:List W) (x:Option W),(∀w∈ws,∃us,w=.tup us/\us.length=wd)->∃y,forL (tgW (.one 2)) (exs (run F (k+1)) zjf) ws [some t,some (.int wd),x] h=.ok (.nx [some t,some (.int wd),y]) h
 |[],x,_=>⟨x,by simp[forL]⟩
 |w::r,x,hk=>by
  obtain⟨y,e⟩:=zcx (h:=h) (t:=t) (k:=k) (wd:=wd) r (some w) λz hz=>hk z (vai _ hz)
  refine⟨y,?_⟩
  obtain⟨us,rfl,hl⟩:=hk w vaq
  have e1:=zak C.toCoreA (k:=k) (h:=h) (w:=.tup us) (lo:=wd) (hi:=wd) (by unfold Kn;simp)
  have q:zas (.tup us) wd wd=true:=by simp[zas,hl]
  have eb:exs (run F (k+1)) zjf [some t,some (.int wd),some (.tup us)] h=.ok (.nx [some t,some (.int wd),some (.tup us)]) h:=by
   simp[zjf,exs,ev,e1,q]
  simp only[forL,tgW,List.set,eb,bindok,e]
theorem zjj{k:Nat}{h:VH}{ws:List W}{wd:Int}(hl:ws.length<=60)(hd:∀w∈ws,∃us,w=.tup us/\us.length=wd):run F (k+2) 9 [.tup ws,.int wd] h=.ok (.bl true) h:=by
 rw[zam C.f9 rfl]
 have e1:=zak C.toCoreA (k:=k) (h:=⟨h.n,h.n,h.os⟩) (w:=.tup ws) (lo:=0) (hi:=60) (by unfold Kn;simp)
 have q:zas (.tup ws) 0 60=true:=by simp[zas];omega
 obtain⟨y,e2⟩:=zcx C (k:=k) (h:=⟨h.n,h.n,h.os⟩) (t:=.tup ws) (wd:=wd) ws none hd
 simp[fn9,exs,ev,e1,q,zej (show ws.length<1000000 by omega),e2,zal]
end
structure Bd where
 wd:Int
 gr:Int
 rows:List (List W)
 fd:List W
 dr:List W
noncomputable def Bd.w(B:Bd):W:=.tup [.int B.wd,.int B.gr,.tup (B.rows.map .tup),.tup B.fd,.tup B.dr]
noncomputable def rowOk(wd g:Int):Int->List W->Prop
 |_,[]=>True
 |c,w::r=>zab w c wd g=true/\rowOk wd g (c+1) r
structure Bd.Ok(B:Bd):Prop where
 w1:1<=B.wd
 w2:B.wd<=40
 g1:0<=B.gr
 g2:B.gr<=8
 r1:B.rows.length<=60
 r2:∀r∈B.rows,(r.length:Int)=B.wd/\rowOk B.wd B.gr 0 r
 f1:1<=B.fd.length
 f2:B.fd.length<=4
 f3:∀f∈B.fd,within f 0 (B.wd-1)=true
 d1:(B.dr.length:Int)=B.wd
 d2:∀d∈B.dr,door d B.fd.length=true
structure Bd.Ok0(B:Bd):Prop where
 w1:1<=B.wd
 w2:B.wd<=40
 g1:0<=B.gr
 g2:B.gr<=8
 r1:B.rows.length<=60
 r2:∀r∈B.rows,(r.length:Int)=B.wd
 f1:1<=B.fd.length
 f2:B.fd.length<=4
 f3:∀f∈B.fd,within f 0 (B.wd-1)=true
 d1:(B.dr.length:Int)=B.wd
 d2:∀d∈B.dr,door d B.fd.length=true
theorem Bd.Ok.ok0{B:Bd}(b:B.Ok):B.Ok0:=⟨b.w1,b.w2,b.g1,b.g2,b.r1,λr hr=>(b.r2 r hr).1,b.f1,b.f2,b.f3,b.d1,b.d2⟩
theorem zhi{w:W}{g:Int}(h:za6 w g=true)(n:Nat):zan (n+2) w=true:=by
 cases w<;>simp only[za6]at h<;>try(cases h;done)
 rename_i us
 rcases us with _|⟨a,_|⟨b,_|_⟩⟩<;>simp at h
 obtain⟨h1,h2⟩:=h
 cases a<;>simp[within]at h1
 cases b<;>simp[within]at h2
 rfl
theorem zfb{w:W}{x:Str}(h:isS w x=true):w=.str x:=by
 cases w<;>simp[isS]at h
 rw[h]
theorem zbm{w:W}{c wd g:Int}(h:zab w c wd g=true)(n:Nat):zan (n+2) w=true:=by
 have st:∀x:Str,PyData.strOk x=true->isS w x=true->zan (n+2) w=true:=λx hx e=>by rw[zfb e];exact hx
 unfold zab at h
 split at h
 .rename_i q
  rw[vch]at q
  rcases q with q|q
  .exact st _ (by decide +kernel) q
  .exact zhi q n
 .split at h
  .rename_i q;exact st _ (by decide +kernel) q
  .split at h
   .rename_i q;exact st _ (by decide +kernel) q
   .rw[vch]at h
    rcases h with q|q
    .exact st _ (by decide +kernel) q
    .exact st _ (by decide +kernel) q
section
variable{F:Nat->Option Fn}(C:CoreB F)
include C
theorem zhj{k:Nat}{h:VH}{B:Bd}(b:B.Ok0):run F (k+6) 10 [B.w] h=.ok (.bl true) h:=by
 rw[zam C.f10 rfl]
 have e1:=zak C.toCoreA (k:=k+4) (h:=⟨h.n,h.n,h.os⟩) (w:=B.w) (lo:=5) (hi:=5) (by unfold Kn Bd.w;simp)
 have q1:zas B.w 5 5=true:=by simp[zas,Bd.w]
 have e2:=zaj C.toCoreA (k:=k+3) (h:=⟨h.n,h.n,h.os⟩) (w:=.int B.wd) (lo:=1) (hi:=40) (by unfold Kn;simp)
 have q2:within (.int B.wd) 1 40=true:=by simp[within,b.w1,b.w2]
 have e3:=zaj C.toCoreA (k:=k+3) (h:=⟨h.n,h.n,h.os⟩) (w:=.int B.gr) (lo:=0) (hi:=8) (by unfold Kn;simp)
 have q3:within (.int B.gr) 0 8=true:=by simp[within,b.g1,b.g2]
 have kf:∀x∈B.fd,Kn ⟨h.n,h.n,h.os⟩ x:=λx hx=>by
  have:=b.f3 x hx
  cases x<;>simp[within]at this
  unfold Kn;simp
 have hf:=b.f2
 have e4:=zbr C.toCoreA (k:=k+2) (h:=⟨h.n,h.n,h.os⟩) (w:=.tup B.fd) (a:=1) (b:=4) (lo:=0) (hi:=B.wd-1) (by unfold Kn;simp) (λws e=>by cases e;exact⟨by omega,kf⟩)
 have q4:zcu (.tup B.fd) 1 4 0 (B.wd-1)=true:=by
  have h1:=b.f1
  simp only[zcu,zas,vaa,vap]
  exact⟨⟨by omega,by omega⟩,va1.mpr b.f3⟩
 have e5:=zjj C (k:=k+3) (h:=⟨h.n,h.n,h.os⟩) (ws:=B.rows.map .tup) (wd:=B.wd) (by rw[vaf];exact b.r1) (λw hw=>by
  obtain⟨r,hr,e⟩:=vdq.mp hw
  exact⟨r,e.symm,b.r2 r hr⟩)
 have hd:=b.d1
 have h40:=b.w2
 have e6:=zm3 C (k:=k) (h:=⟨h.n,h.n,h.os⟩) (ws:=B.dr) (wd:=B.wd) (n:=B.fd.length) hd (by omega) b.d2
 unfold Bd.w at e1 q1 ⊢
 simp[fn10,exs,ev,e1,q1,e2,q2,e3,q3,e4,q4,e5,e6,zal,tgW,seqW,za4,opW,opI,biW,lenW]
theorem zo3{k:Nat}{h:VH}{B:Bd}(b:B.Ok):run F (k+6) 10 [B.w] h=.ok (.bl true) h:=zhj C b.ok0
theorem zm4{k:Nat}{h:VH}{t rs pl:W}{wd g r0:Int}:∀(ws:List W) (c:Int) (j:Nat) (x y:Option W),c=j->rowOk wd g c ws->∃x' y',forL (tgW (.many [6,7])) (exs (run F (k+4)) zf8) (enumW j ws) [some t,some (.int wd),some (.int g),some rs,some (.int r0),some pl,x,y] h =
 .ok (.nx [some t,some (.int wd),some (.int g),some rs,some (.int r0),some pl,x',y']) h
 |[],c,j,x,y,_,_=>⟨x,y,by simp[forL,enumW]⟩
 |w::r,c,j,x,y,hc,ho=>by
  obtain⟨h1,h2⟩:=ho
  obtain⟨x',y',e⟩:=zm4 (h:=h) (t:=t) (rs:=rs) (pl:=pl) (k:=k) (wd:=wd) (g:=g) (r0:=r0) r (c+1) (j+1) (some (.int j)) (some w) (by rw[hc];push_cast;rfl) h2
  refine⟨x',y',?_⟩
  have e1:=zcw C (k:=k) (h:=h) (c:=j) (wd:=wd) (g:=g) (zbm h1 22)
  rw[<-hc,h1]at e1
  have eb:exs (run F (k+4)) zf8 [some t,some (.int wd),some (.int g),some rs,some (.int r0),some pl,some (.int j),some w] h=.ok (.nx [some t,some (.int wd),some (.int g),some rs,some (.int r0),some pl,some (.int j),some w]) h:=by
   rw[hc]at e1
   simp[zf8,exs,ev,e1]
  simp only[forL,enumW,tgW,seqW,za4,List.set,eb,bindok,e]
theorem zjk{k:Nat}{h:VH}{t rs:W}{wd g:Int}:∀(ws:List (List W)) (j:Nat) (x y z u:Option W),(∀r∈ws,(r.length:Int)<1000000/\rowOk wd g 0 r)->∃x' y' z' u',forL (tgW (.many [4,5])) (exs (run F (k+4)) zf9) (enumW j (ws.map .tup)) [some t,some (.int wd),some (.int g),some rs,x,y,z,u] h =
 .ok (.nx [some t,some (.int wd),some (.int g),some rs,x',y',z',u']) h
 |[],j,x,y,z,u,_=>⟨x,y,z,u,by simp[forL,enumW]⟩
 |w::r,j,x,y,z,u,ho=>by
  obtain⟨h1,h2⟩:=ho w vaq
  obtain⟨z1,u1,e1⟩:=zm4 C (k:=k) (h:=h) (t:=t) (rs:=rs) (pl:=.tup w) (wd:=wd) (g:=g) (r0:=j) w 0 0 z u rfl h2
  obtain⟨x',y',z',u',e⟩:=zjk (h:=h) (t:=t) (rs:=rs) (k:=k) (wd:=wd) (g:=g) r (j+1) (some (.int j)) (some (.tup w)) z1 u1 λq hq=>ho q (vai _ hq)
  refine⟨x',y',z',u',?_⟩
  have eb:exs (run F (k+4)) zf9 [some t,some (.int wd),some (.int g),some rs,some (.int j),some (.tup w),z,u] h=.ok (.nx [some t,some (.int wd),some (.int g),some rs,some (.int j),some (.tup w),z1,u1]) h:=by
   simp[zf9,exs,ev,zct (show w.length<1000000 by omega),e1]
  simp only[forL,vav,enumW,tgW,seqW,za4,List.set,eb,bindok,e]
theorem zcy{k:Nat}{h:VH}{B:Bd}(b:B.Ok):run F (k+7) 14 [B.w] h=.ok .non h:=by
 rw[zam C.f14 rfl]
 have e1:=zo3 C (k:=k) (h:=⟨h.n,h.n,h.os⟩) b
 have h40:=b.w2
 have h60:=b.r1
 obtain⟨x',y',z',u',e2⟩:=zjk C (k:=k+2) (h:=⟨h.n,h.n,h.os⟩) (t:=B.w) (rs:=.tup (B.rows.map .tup)) (wd:=B.wd) (g:=B.gr) B.rows 0 none none none none λr hr=>⟨by have:=(b.r2 r hr).1;omega,(b.r2 r hr).2⟩
 unfold Bd.w at e1 e2 ⊢
 simp[fn14,exs,ev,e1,zv5,tgW,seqW,za4,partW,cutW,HT.sIx,zct (show(B.rows.map W.tup).length<1000000 by rw[vaf];omega),e2]
end
structure CoreD(F:Nat->Option Fn):Prop where
 f2:F 2=some fn2
 f3:F 3=some fn3
 f4:F 4=some fn4
 f5:F 5=some fn5
theorem zaz{h:VH}{i j:Int}:eqW h (.int i) (.int j)=some (decide (i=j)):=by
 unfold eqW
 simp only[toD]
 show some (i==j)=_
 by_cases q:i=j<;>simp[q]
theorem zdu{i:Int}(h1:-(2 ^ 63)<=i)(h2:i<2 ^ 63):zbs i=true:=by
 unfold zbs
 simp only[vaa,vap]
 omega
theorem zay{h:VH}{i:Nat}{o o0:VO}(g:h.get i=some o0):(h.set i o).get i=some o:=by
 have hi:=zar g
 unfold VH.get at g
 rw[if_pos (zax.mpr hi)]at g
 have hl:=(van.mp g).1
 unfold VH.get VH.set
 simp only[if_pos (zax.mpr hi)]
 rw[va5 hl]
theorem zaw{h:VH}{i j:Nat}{o o0:VO}(g:h.get i=some o0)(hj:j≠i):(h.set i o).get j=h.get j:=zc5 (zar g) hj
structure Dk(h:VH)(d c:Nat)(b:Nat):Prop where
 ne:d≠c
 st:∃(ns cells:List Int) (p q:Int),h.get d=some (.lst [.fz (ns.map .int),.ref c,.int p,.int q])/\h.get c=some (.lst (cells.map .int))/\(∀x∈cells,(0:Int)<=x)/\0<=p/\0<=q/\q<=b/\cells.length<=63
theorem Dk.mono{h:VH}{d c b b':Nat}(D:Dk h d c b)(hb:b<=b'):Dk h d c b':=by
 obtain⟨ne,ns,cells,p,q,a1,a2,a3,a4,a5,a6,a7⟩:=D
 exact⟨ne,ns,cells,p,q,a1,a2,a3,a4,a5,by omega,a7⟩
structure Keep(h h':VH)(d c:Nat):Prop where
 le:h.n<=h'.n
 get:∀i o,i≠d->i≠c->h.get i=some o->h'.get i=some o
theorem Keep.refl{h:VH}{d c:Nat}:Keep h h d c:=⟨vad _,λ_ _ _ _ e=>e⟩
theorem Keep.trans{h h1 h2:VH}{d c:Nat}(a:Keep h h1 d c)(b:Keep h1 h2 d c):Keep h h2 d c:=⟨vas a.le b.le,λi o h1 h2 e=>b.get i o h1 h2 (a.get i o h1 h2 e)⟩
theorem zdg(i:Int):(if i<0 then -i else i)=(i.natAbs:Int):=by
 split<;>omega
section
variable{F:Nat->Option Fn}(C:CoreD F)
include C
theorem cell{k:Nat}{h:VH}{ns:List Int}{j:Int}(hj:0<=j):∃r,run F (k+1) 2 [.fz (ns.map .int),.int j] h=.ok (.int r) h/\0<=r:=by
 rw[zam C.f2 rfl]
 cases ns with
 |nil=>
  refine⟨7*j+3,?_,by omega⟩
  simp[fn2,exs,ev,biW,lenW,seqW,cmpW,zaz,opW,opI,zdu,zal]
 |cons n0 ns0=>
  have hl:(0:Int)< ((n0::ns0).length:Int):=by simp only[vam];omega
  have hm1:=veg j (show((n0::ns0).length:Int)≠0 by omega)
  have hm2:=vd0 j hl
  obtain⟨m,hm⟩:=va8 hm1
  have hml:m< (n0::ns0).length:=by omega
  have ha:atI (List.map W.int (n0::ns0)) (j % ((n0::ns0).length:Int))=some (.int ((n0::ns0)[m])):=by
   rw[hm]
   exact zd1 (by rw[vbm,vao hml];rfl)
  have hb:¬(((ns0.length:Int)+1)=0):=by omega
  have hp:(0:Int)< (ns0.length:Int)+1:=by omega
  refine⟨(((n0::ns0)[m]).natAbs:Int),?_,by omega⟩
  simp only[vam,Int.natCast_add,Int.cast_ofNat_Int,vav]at ha
  simp[fn2,exs,ev,biW,lenW,seqW,cmpW,zaz,opW,opI,zal,idxW,absW,hb,hp,ha,zdg]
theorem mixed{k:Nat}{h:VH}{ns:List Int}{j m:Int}(hj:0<=j)(hj2:j<=1000000000)(hm:0<m):∃r,run F (k+2) 4 [.fz (ns.map .int),.int j,.int m] h=.ok (.int r) h/\0<=r/\r<m:=by
 rw[zam C.f4 rfl]
 obtain⟨c,e1,hc⟩:=cell C (k:=k) (h:=⟨h.n,h.n,h.os⟩) (ns:=ns) hj
 have h1:=veg c (show(1000003:Int)≠0 by decide)
 have h2:=vd0 c (show(0:Int)<1000003 by decide)
 generalize hx:c % 1000003=x at h1 h2
 have s1:zbs (x+5)=true:=zdu (by omega) (by omega)
 have s2:zbs 7919=true:=zdu (by decide) (by decide)
 have hb:(x+5)* (j+2)<=1000008*1000000002:=Int.mul_le_mul (by omega) (by omega) (by omega) (by omega)
 have hb0:0<=(x+5)* (j+2):=Int.mul_nonneg (by omega) (by omega)
 generalize hy:(x+5)* (j+2)=y at hb hb0
 have hn:(y+7919*j).natAbs<2 ^ 64:=by omega
 refine⟨(y+7919*j) ^ 5 % 2147483647/13 % m,?_,veg _ (by omega),vd0 _ hm⟩
 have hn':(y+7919*j).natAbs<18446744073709551616:=by omega
 simp[fn4,exs,ev,e1,opW,opI,hx,s1,s2,hy,hn',hm,zal]
theorem zhk{k:Nat}{d c:Nat}{m q:Int}{ns:List Int}(hdc:d≠c)(hm:0<m)(hm2:m<1073741824):∀(n f:Nat) (g:VH) (x:Option W) (cells:List Int) (p:Int),n<f->(cells.length:Int)-p<=n->0<=p->(∀y∈cells,(0:Int)<=y)->
 g.get d=some (.lst [.fz (ns.map .int),.ref c,.int p,.int q])->g.get c=some (.lst (cells.map .int))->
 ∃(g':VH) (cells':List Int) (p':Int),0<=p'/\(∀y∈cells',(0:Int)<=y)/\cells'.length=cells.length/\g'.get d=some (.lst [.fz (ns.map .int),.ref c,.int p',.int q])/\g'.get c=some (.lst (cells'.map .int))/\g'.n=g.n/\(∀i,i≠d->i≠c->g'.get i=g.get i)/\
  ((∃r,whlG (ev (run F (k+2)) zhf) (exs (run F (k+2)) zei) f [some (.ref d),some (.int m),x] g=.ok (.rt (.int r)) g'/\0<=r/\r<m)\/∃y,whlG (ev (run F (k+2)) zhf) (exs (run F (k+2)) zei) f [some (.ref d),some (.int m),x] g=.ok (.nx [some (.ref d),some (.int m),y]) g')
 |n,0,g,x,cells,p,hf,_,_,_,_,_=>by omega
 |n,f+1,g,x,cells,p,hf,hn,hp,hnn,gd,gc=>by
  have ec:ev (run F (k+2)) zhf [some (.ref d),some (.int m),x] g=.ok (.bl (decide (p<cells.length))) g:=by
   simp[zhf,ev,idxW,gd,atI,ixN,biW,lenW,seqW,gc,cmpW,cmpI]
  by_cases hlt:p<cells.length
  .obtain⟨pn,rfl⟩:=va8 hp
   have hpl:pn<cells.length:=by omega
   have hat:atI (cells.map W.int) (pn:Int)=some (.int cells[pn]):=zd1 (by rw[vbm,vao hpl];rfl)
   by_cases hpos:0<cells[pn]
   .refine⟨g.set c (.lst ((cells.set pn (cells[pn]/m)).map .int)),cells.set pn (cells[pn]/m),pn,hp,?_,by simp,?_,zay gc,rfl,λi _ hi=>zaw gc hi,.inl ⟨cells[pn] % m,?_,veg _ (by omega),vd0 _ hm⟩⟩
    .intro y hy
     rcases List.mem_or_eq_of_mem_set hy with hy|rfl
     .exact hnn y hy
     .exact Int.ediv_nonneg (by omega) (by omega)
    .rw[zaw gc hdc];exact gd
    .have hix:ixN (cells.map W.int).length (pn:Int)=some pn:=by
      unfold ixN
      rw[if_pos (by omega),if_pos (by rw[vaf];omega)];simp
     have eb:exs (run F (k+2)) zei [some (.ref d),some (.int m),x] g=.ok (.rt (.int (cells[pn] % m))) (g.set c (.lst ((cells.set pn (cells[pn]/m)).map .int))):=by
      have h2:atI [W.fz (ns.map .int),.ref c,.int pn,.int q] 2=some (.int pn):=rfl
      have h1:atI [W.fz (ns.map .int),.ref c,.int pn,.int q] 1=some (.ref c):=rfl
      simp[zei,exs,ev,idxW,gd,h1,h2,gc,hat,cmpW,cmpI,hpos,opW,opI,hm,hm2]at hix ⊢
      simp[hix,hm,List.map_set]
     simp[whlG,ec,hlt,eb]
   .have gs:(g.set d (.lst [.fz (ns.map .int),.ref c,.int ((pn:Int)+1),.int q])).get c=some (.lst (cells.map .int)):=by rw[zaw gd (vbo hdc)];exact gc
    cases n with
    |zero=>omega
    |succ n=>
     obtain⟨g',cells',p',a1,a2,a3,a4,a5,a6,a7,a8⟩:=zhk (k:=k) hdc hm hm2 n f (g.set d (.lst [.fz (ns.map .int),.ref c,.int ((pn:Int)+1),.int q])) (some (.int cells[pn])) cells (pn+1) (by omega) (by omega) (by omega) hnn (zay gd) gs
     have eb:exs (run F (k+2)) zei [some (.ref d),some (.int m),x] g=.ok (.nx [some (.ref d),some (.int m),some (.int cells[pn])]) (g.set d (.lst [.fz (ns.map .int),.ref c,.int ((pn:Int)+1),.int q])):=by
      have h2:atI [W.fz (ns.map .int),.ref c,.int pn,.int q] 2=some (.int pn):=rfl
      have h1:atI [W.fz (ns.map .int),.ref c,.int pn,.int q] 1=some (.ref c):=rfl
      have h3:ixN 4 2=some 2:=rfl
      simp[zei,exs,ev,idxW,gd,h1,h2,h3,gc,hat,cmpW,cmpI,hpos,opW,opI]
     refine⟨g',cells',p',a1,a2,a3,a4,a5,a6,λi h1 h2=>by rw[a7 i h1 h2,zaw gd h1],?_⟩
     rcases a8 with⟨r,e,h3⟩|⟨y,e⟩
     .exact .inl ⟨r,by simp[whlG,ec,hlt,eb,e],h3⟩
     .exact .inr ⟨y,by simp[whlG,ec,hlt,eb,e]⟩
  .exact⟨g,cells,p,hp,hnn,rfl,gd,gc,rfl,λ_ _ _=>rfl,.inr ⟨x,by simp[whlG,ec,hlt]⟩⟩
omit C in
theorem zhl{h h':VH}{w:W}(g:Grow ⟨h.n,h.n,h.os⟩ h'):∃h2,leave h w h'=.ok w h2/\h.n<=h2.n/\∀i,i<h.n->h2.get i=h'.get i:=by
 unfold leave
 split
 .rename_i q
  rw[vaa]at q
  have hlo:=vay q.1
  exact⟨h,rfl,vad _,λi hi=>by
   rw[g.2.2 i hi (vah hi hlo)]
   exact get_lo.symm⟩
 .exact⟨_,rfl,g.1,λi hi=>get_lo⟩
theorem take{k:Nat}{h:VH}{d c b:Nat}{m:Int}(D:Dk h d c b)(hb:b<1000000000)(hm:0<m)(hm2:m<1073741824):∃r h',run F (k+3) 5 [.ref d,.int m] h=.ok (.int r) h'/\0<=r/\r<m/\Dk h' d c (b+1)/\Keep h h' d c:=by
 rw[zam C.f5 rfl]
 obtain⟨hne,ns,cells,p,q,gd,gc,hnn,hp,hq,hqb,hl⟩:=D
 have gd0:VH.get ⟨h.n,h.n,h.os⟩ d=some (.lst [.fz (ns.map .int),.ref c,.int p,.int q]):=by rw[get_lo];exact gd
 have gc0:VH.get ⟨h.n,h.n,h.os⟩ c=some (.lst (cells.map .int)):=by rw[get_lo];exact gc
 obtain⟨g',cells',p',a1,a2,a3,a4,a5,a6,a7,a8⟩:=zhk C (k:=k) hne hm hm2 63 fuel ⟨h.n,h.n,h.os⟩ none cells p (by decide) (by omega) hp hnn gd0 gc0
 have key:∀(g2:VH)(r:Int)(cells2:List Int)(p2 q2:Int),exs (run F (k+2)) fn5.body [some (.ref d),some (.int m),none] ⟨h.n,h.n,h.os⟩=.ok (.rt (.int r)) g2->0<=r->r<m->0<=p2->0<=q2->q2<=b+1->cells2.length<=63->(∀y∈cells2,(0:Int)<=y)->
  g2.get d=some (.lst [.fz (ns.map .int),.ref c,.int p2,.int q2])->g2.get c=some (.lst (cells2.map .int))->(∀i,i<h.n->i≠d->i≠c->g2.get i=h.get i)->
  ∃r h',fin h (exs (run F (k+2)) fn5.body ([W.ref d,W.int m].map some++List.replicate (fn5.n-fn5.ps) none) ⟨h.n,h.n,h.os⟩)=.ok (.int r) h'/\0<=r/\r<m/\Dk h' d c (b+1)/\Keep h h' d c:=by
  intro g2 r cells2 p2 q2 e r1 r2 b1 b2 b3 b4 b5 b6 b7 b8
  obtain⟨h2,e2,hn2,hg2⟩:=zhl (w:=.int r) (zg3 (zg4 F (k+2)) _ _ _ _ _ e)
  refine⟨r,h2,?_,r1,r2,⟨hne,ns,cells2,p2,q2,?_,?_,b5,b1,b2,by omega,b4⟩,⟨hn2,λi o h1 h3 e3=>?_⟩⟩
  .show fin h (exs (run F (k+2)) fn5.body [some (.ref d),some (.int m),none] ⟨h.n,h.n,h.os⟩)=_
   rw[e]
   exact e2
  .rw[hg2 d (zar gd)];exact b6
  .rw[hg2 c (zar gc)];exact b7
  .rw[hg2 i (zar e3),b8 i (zar e3) h1 h3];exact e3
 rcases a8 with⟨r,e,r1,r2⟩|⟨y,e⟩
 .refine key g' r cells' p' q ?_ r1 r2 a1 hq (by omega) (by omega) a2 a4 a5 λi hi h1 h2=>by rw[a7 i h1 h2,get_lo]
  simp[fn5,exs,e]
 .obtain⟨r,e2,r1,r2⟩:=mixed C (k:=k) (h:=g'.set d (.lst [.fz (ns.map .int),.ref c,.int p',.int (q+1)])) (ns:=ns) (j:=q+1) (m:=m) (by omega) (by omega) hm
  refine key (g'.set d (.lst [.fz (ns.map .int),.ref c,.int p',.int (q+1)])) r cells' p' (q+1) ?_ r1 r2 a1 (by omega) (by omega) (by omega) a2 (zay a4) (by rw[zaw a4 (vbo hne)];exact a5) λi hi h1 h2=>by rw[zaw a4 h1,a7 i h1 h2,get_lo]
  have h3:atI [W.fz (ns.map .int),.ref c,.int p',.int q] 3=some (.int q):=rfl
  have h30:atI [W.fz (ns.map .int),.ref c,.int p',.int (q+1)] 3=some (.int (q+1)):=rfl
  have h00:atI [W.fz (ns.map .int),.ref c,.int p',.int (q+1)] 0=some (.fz (ns.map .int)):=rfl
  have h33:ixN 4 3=some 3:=rfl
  have hs:=zay (o:=.lst [.fz (ns.map .int),.ref c,.int p',.int (q+1)]) a4
  simp[fn5,exs,e,ev,idxW,a4,h3,opW,opI,h33,hs,h30,h00,e2]
end
theorem zac{cl:Call}{a b:S}{ρ ρ':En}{h h':VH}(e:exs cl a ρ h=.ok (.nx ρ') h'):exs cl (.seq a b) ρ h=exs cl b ρ' h':=by
 simp only[exs,e,bindok]
theorem zah{cl:Call}{a b:S}{ρ:En}{w:W}{h h':VH}(e:exs cl a ρ h=.ok (.rt w) h'):exs cl (.seq a b) ρ h=.ok (.rt w) h':=by
 simp only[exs,e,bindok]
@[simp] theorem exs_skip {cl:Call} {ρ:En} {h:VH}:exs cl .skip ρ h=.ok (.nx ρ) h:=rfl
theorem Dk.new{h:VH}{d c b:Nat}{o:VO}(D:Dk h d c b):Dk (h.new o) d c b:=by
 obtain⟨ne,ns,cells,p,q,a1,a2,a3⟩:=D
 exact⟨ne,ns,cells,p,q,by rw[zap (zar a1)];exact a1,by rw[zap (zar a2)];exact a2,a3⟩
theorem Keep.new{h h':VH}{d c:Nat}{o:VO}(K:Keep h h' d c):Keep h (h'.new o) d c:=⟨vdd K.le,λi o' h1 h2 e=>by
 have:=K.get i o' h1 h2 e
 rw[zap (zar this)];exact this⟩
theorem Dk.lo{h:VH}{d c b l:Nat}(D:Dk h d c b):Dk ⟨h.n,l,h.os⟩ d c b:=by
 obtain⟨ne,ns,cells,p,q,a1,a2,a3⟩:=D
 exact⟨ne,ns,cells,p,q,by rw[get_lo];exact a1,by rw[get_lo];exact a2,a3⟩
theorem zcz{cl:Call}{h h':VH}{d c b:Nat}{w:W}{fl:Fl}{body:S}{ρ:En}{F:Nat->Option Fn}{k:Nat}(e:exs (run F k) body ρ ⟨h.n,h.n,h.os⟩=.ok (.rt w) h')(D0:Dk h d c 0\/∃b,Dk h d c b)(D:Dk h' d c b)(K:Keep ⟨h.n,h.n,h.os⟩ h' d c) :
 ∃h2,fin h (exs (run F k) body ρ ⟨h.n,h.n,h.os⟩)=.ok w h2/\Dk h2 d c b/\Keep h h2 d c:=by
 obtain⟨h2,e2,hn2,hg2⟩:=zhl (w:=w) (zg3 (zg4 F k) _ _ _ _ _ e)
 have hd:d<h.n/\c<h.n:=by
  rcases D0 with⟨_,ns,cells,p,q,a1,a2,_⟩|⟨b,_,ns,cells,p,q,a1,a2,_⟩<;>exact⟨zar a1,zar a2⟩
 refine⟨h2,by rw[e];exact e2,?_,⟨hn2,λi o h1 h3 e3=>?_⟩⟩
 .obtain⟨ne,ns,cells,p,q,a1,a2,a3⟩:=D
  exact⟨ne,ns,cells,p,q,by rw[hg2 d hd.1];exact a1,by rw[hg2 c hd.2];exact a2,a3⟩
 .rw[hg2 i (zar e3)]
  exact K.get i o h1 h3 (by rw[get_lo];exact e3)
theorem andB{cl:Call}{a b:E}{ρ:En}{h:VH}{x y:Bool}(ea:ev cl a ρ h=.ok (.bl x) h)(eb:ev cl b ρ h=.ok (.bl y) h):ev cl (.and a b) ρ h=.ok (.bl (x&&y)) h:=by
 rw[ev,ea,bindok]
 cases x
 .rfl
 .exact eb
theorem orB{cl:Call}{a b:E}{ρ:En}{h:VH}{x y:Bool}(ea:ev cl a ρ h=.ok (.bl x) h)(eb:ev cl b ρ h=.ok (.bl y) h):ev cl (.or a b) ρ h=.ok (.bl (x||y)) h:=by
 rw[ev,ea,bindok]
 cases x
 .exact eb
 .rfl
structure CoreP(F:Nat->Option Fn):Prop extends CoreD F where
 f21:F 21=some fn21
 f23:F 23=some fn23
 f25:F 25=some fn25
noncomputable abbrev sDot:Str:=Str.ofString "."
noncomputable abbrev sLt:Str:=Str.ofString "<"
noncomputable abbrev sGt:Str:=Str.ofString ">"
noncomputable abbrev sX:Str:=Str.ofString "x"
noncomputable abbrev sS:Str:=Str.ofString "s"
theorem zii{c wd g:Int}:zab (.str sDot) c wd g=true:=rfl
theorem may_s{c wd g:Int}:zab (.str sS) c wd g=true:=rfl
theorem zp7{c wd g:Int}(h:0<c):zab (.str sLt) c wd g=true:=by
 have:zab (.str sLt) c wd g=decide (0<c):=rfl
 rw[this];simpa using h
theorem zp8{c wd g:Int}(h:c<wd-1):zab (.str sGt) c wd g=true:=by
 have:zab (.str sGt) c wd g=decide (c<wd-1):=rfl
 rw[this];simpa using h
theorem may_x{c wd g:Int}(h:0<c)(h2:c<wd-1):zab (.str sX) c wd g=true:=by
 have:zab (.str sX) c wd g=(decide (0<c)&&decide (c<wd-1)):=rfl
 rw[this];simp[h,h2]
theorem zv8{c wd g a b:Int}(a0:0<=a)(a1:a<g)(b0:0<=b)(b1:b<2)(h:0<c)(h2:c<wd-1):zab (.tup [.int a,.int b]) c wd g=true:=by
 have h3:za6 (.tup [.int a,.int b]) g=true:=by
  simp only[za6,within,vaa,vap]
  omega
 unfold zab
 rw[h3,vd6,if_pos rfl]
 simp[h,h2]
inductive Raw(g:Int):W->Prop
 |dot:Raw g (.str sDot)
 |lt:Raw g (.str sLt)
 |gt:Raw g (.str sGt)
 |x:Raw g (.str sX)
 |rk {a b:Int}:0<=a->a<g->0<=b->b<2->Raw g (.tup [.int a,.int b])
theorem za7{h:VH}{x y z:Str}(hx:PyData.strOk x=true)(hy:PyData.strOk y=true)(hz:PyData.strOk z=true):inW h (.str x) (.tup [.str y,.str z])=some (y==x||z==x):=by
 have sx:SeqAt.shaped (.str x)=true:=by unfold SeqAt.shaped;show(PyData.strOk x&&_)=true;rw[hx];rfl
 have sy:SeqAt.shaped (.str y)=true:=by unfold SeqAt.shaped;show(PyData.strOk y&&_)=true;rw[hy];rfl
 have sz:SeqAt.shaped (.str z)=true:=by unfold SeqAt.shaped;show(PyData.strOk z&&_)=true;rw[hz];rfl
 simp[inW,seqW,toD,mapO,sx,sy,sz,anyEq,PyData.eqv]
theorem zgc{h:VH}{a b:Int}{y z:Str}(hy:PyData.strOk y=true)(hz:PyData.strOk z=true):inW h (.tup [.int a,.int b]) (.tup [.str y,.str z])=some false:=by
 have sy:SeqAt.shaped (.str y)=true:=by unfold SeqAt.shaped;show(PyData.strOk y&&_)=true;rw[hy];rfl
 have sz:SeqAt.shaped (.str z)=true:=by unfold SeqAt.shaped;show(PyData.strOk z&&_)=true;rw[hz];rfl
 have st:SeqAt.shaped (.tuple [.int a,.int b])=true:=rfl
 simp[inW,seqW,toD,mapO,sy,sz,st,anyEq,PyData.eqv]
noncomputable def pCond:E:=(.or (.and (.cmp .eq (.var 1) (.cst (.int (0)))) (.cmp .nin (.var 5) (.tup (.cons (.cst (.str sDot)) (.cons (.cst (.str sGt)) .nil))))) (.and (.cmp .eq (.var 1) (.op .sub (.var 2) (.cst (.int (1))))) (.cmp .nin (.var 5) (.tup (.cons (.cst (.str sDot)) (.cons (.cst (.str sLt)) .nil))))))
noncomputable def pIdx:E:=(.idx (.lst (.cons (.cst (.str sGt)) (.cons (.cst (.str sLt)) (.cons (.cst (.str sDot)) .nil)))) (.bi .min (.cons (.op .add (.bi .int (.cons (.cmp .gt (.var 1) (.cst (.int (0)))) .nil)) (.op .mul (.cst (.int (2))) (.bi .int (.cons (.cmp .eq (.var 2) (.cst (.int (1)))) .nil)))) (.cons (.cst (.int (2))) .nil))))
noncomputable def pTail:S:=(.seq (.ite pCond (.seq (.ret pIdx) .skip) .skip) (.seq (.ret (.var 5)) .skip))
section
variable{F:Nat->Option Fn}(C:CoreP F)
include C
theorem piece{k:Nat}{h:VH}{d c b:Nat}{co wd g:Int}(D:Dk h d c b)(hb:b+5<1000000000)(h0:0<=co)(h1:co<wd)(g0:0<=g)(g1:g<=8) :
 ∃w h',run F (k+4) 21 [.ref d,.int co,.int wd,.int g] h=.ok w h'/\zab w co wd g=true/\Dk h' d c (b+5)/\Keep h h' d c:=by
 rw[zam C.f21 rfl]
 have D0:Dk ⟨h.n,h.n,h.os⟩ d c b:=D.lo
 have tail:∀(w5:W)(lot:Int)(h3:VH),Raw g w5->∃w h4,exs (run F (k+3)) pTail
  [some (.ref d),some (.int co),some (.int wd),some (.int g),some (.int lot),some w5] h3=.ok (.rt w) h4/\zab w co wd g=true/\(h4=h3\/∃o,h4=h3.new o):=by
  intro w5 lot h3 R
  have two:zbs 2=true:=zdu (by decide) (by decide)
  have i0:atI [W.str sGt,.str sLt,.str sDot] 0=some (.str sGt):=rfl
  have i1:atI [W.str sGt,.str sLt,.str sDot] 1=some (.str sLt):=rfl
  have i2:atI [W.str sGt,.str sLt,.str sDot] 2=some (.str sDot):=rfl
  have eC:∀(b1 b2:Bool),inW h3 w5 (.tup [.str sDot,.str sGt])=some b1->inW h3 w5 (.tup [.str sDot,.str sLt])=some b2->ev (run F (k+3)) pCond [some (.ref d),some (.int co),some (.int wd),some (.int g),some (.int lot),some w5] h3=.ok (.bl ((decide (co=0) && !b1)|| (decide (co=wd-1) && !b2))) h3:=by
   intro b1 b2 n1 n2
   refine orB (andB ?_ ?_) (andB ?_ ?_)
   .simp only[ev,vdk,vck,List.getElem?_cons_zero,ofsome,bindok,cmpW,zaz,vb2]
   .simp[ev,cmpW,n1]
   .simp only[ev,vdk,vck,List.getElem?_cons_zero,ofsome,bindok,cmpW,zaz,vb2,opW,opI]
   .simp[ev,cmpW,n2]
  have fin1:∀(b1 b2:Bool),inW h3 w5 (.tup [.str sDot,.str sGt])=some b1->inW h3 w5 (.tup [.str sDot,.str sLt])=some b2->(co≠0\/b1=true)->(co≠wd-1\/b2=true)->zab w5 co wd g=true->∃w h4,exs (run F (k+3)) pTail
   [some (.ref d),some (.int co),some (.int wd),some (.int g),some (.int lot),some w5] h3=.ok (.rt w) h4/\zab w co wd g=true/\(h4=h3\/∃o,h4=h3.new o):=by
   intro b1 b2 n1 n2 o1 o2 hm
   refine⟨w5,h3,?_,hm,.inl rfl⟩
   have cond:=eC b1 b2 n1 n2
   rw[show((decide (co=0) && !b1)|| (decide (co=wd-1) && !b2))=false by rcases o1 with z|z<;>rcases o2 with z'|z'<;>simp[z,z']]at cond
   unfold pTail
   rw[exs,exs,cond,bindok]
   simp[exs,ev]
  have fin2:∀(b1 b2:Bool),inW h3 w5 (.tup [.str sDot,.str sGt])=some b1->inW h3 w5 (.tup [.str sDot,.str sLt])=some b2->((co=0/\b1=false)\/(co=wd-1/\b2=false))->∃w h4,exs (run F (k+3)) pTail
   [some (.ref d),some (.int co),some (.int wd),some (.int g),some (.int lot),some w5] h3=.ok (.rt w) h4/\zab w co wd g=true/\(h4=h3\/∃o,h4=h3.new o):=by
   intro b1 b2 n1 n2 o
   have cond:ev (run F (k+3)) pCond [some (.ref d),some (.int co),some (.int wd),some (.int g),some (.int lot),some w5] h3=.ok (.bl true) h3:=by
    rw[eC b1 b2 n1 n2,show((decide (co=0) && !b1)|| (decide (co=wd-1) && !b2))=true by rcases o with⟨z,z'⟩|⟨z,z'⟩<;>simp[z,z']]
   have r1:∀(x:Str)(j:Int),(if(2:Int)< (if 0<co then 1 else 0)+2* (if wd=1 then 1 else 0)then 2 else(if 0<co then 1 else 0)+2* (if wd=1 then 1 else 0))=j->atI [W.str sGt,.str sLt,.str sDot] j=some (.str x)->ev (run F (k+3)) pIdx [some (.ref d),some (.int co),some (.int wd),some (.int g),some (.int lot),some w5] h3=.ok (.str x) (h3.new (.lst [W.str sGt,.str sLt,.str sDot])):=by
    intro x j hj ha
    have hg:=zat (h:=h3) (o:=.lst [W.str sGt,.str sLt,.str sDot])
    by_cases c0:0<co<;>by_cases c1:wd=1<;>simp[c0,c1]at hj<;>subst hj<;>simp[pIdx,ev,cmpW,cmpI,zaz,opW,opI,two,biW,intW,minW,idxW,hg,ha,c0,c1]
   have fin:∀x:Str,ev (run F (k+3)) pIdx [some (.ref d),some (.int co),some (.int wd),some (.int g),some (.int lot),some w5] h3=.ok (.str x) (h3.new (.lst [W.str sGt,.str sLt,.str sDot]))->zab (.str x) co wd g=true->
    ∃w h4,exs (run F (k+3)) pTail [some (.ref d),some (.int co),some (.int wd),some (.int g),some (.int lot),some w5] h3=.ok (.rt w) h4/\zab w co wd g=true/\(h4=h3\/∃o,h4=h3.new o):=
    λx e hm=>⟨.str x,h3.new (.lst [W.str sGt,.str sLt,.str sDot]),by simp only[pTail,exs,cond,bindok,e],hm,.inr ⟨_,rfl⟩⟩
   by_cases w1:wd=1
   .exact fin sDot (r1 sDot 2 (by rw[if_neg (by omega:¬0<co)];simp[w1]) i2) zii
   .by_cases c0:co=0
    .exact fin sGt (r1 sGt 0 (by rw[if_neg (by omega:¬0<co)];simp[w1]) i0) (zp8 (by omega))
    .exact fin sLt (r1 sLt 1 (by rw[if_pos (by omega:0<co)];simp[w1]) i1) (zp7 (by omega))
  have d1:(sDot==sLt)=false:=by decide +kernel
  have d2:(sGt==sLt)=false:=by decide +kernel
  have d3:(sDot==sGt)=false:=by decide +kernel
  have d4:(sLt==sGt)=false:=by decide +kernel
  have d5:(sDot==sX)=false:=by decide +kernel
  have d6:(sGt==sX)=false:=by decide +kernel
  have d7:(sLt==sX)=false:=by decide +kernel
  have k1:PyData.strOk sDot=true:=by decide +kernel
  have k2:PyData.strOk sLt=true:=by decide +kernel
  have k3:PyData.strOk sGt=true:=by decide +kernel
  have k4:PyData.strOk sX=true:=by decide +kernel
  cases R with
  |dot=>exact fin1 true true (by rw[za7 k1 k1 k3];simp) (by rw[za7 k1 k1 k2];simp) (.inr rfl) (.inr rfl) zii
  |lt=>
   by_cases c0:co=0
   .exact fin2 false true (by rw[za7 k2 k1 k3,d1,d2];rfl) (by rw[za7 k2 k1 k2];simp) (.inl ⟨c0,rfl⟩)
   .exact fin1 false true (by rw[za7 k2 k1 k3,d1,d2];rfl) (by rw[za7 k2 k1 k2];simp) (.inl c0) (.inr rfl) (zp7 (by omega))
  |gt=>
   by_cases c0:co=wd-1
   .exact fin2 true false (by rw[za7 k3 k1 k3];simp) (by rw[za7 k3 k1 k2,d3,d4];rfl) (.inr ⟨c0,rfl⟩)
   .exact fin1 true false (by rw[za7 k3 k1 k3];simp) (by rw[za7 k3 k1 k2,d3,d4];rfl) (.inr rfl) (.inl c0) (zp8 (by omega))
  |x=>
   by_cases c0:co=0\/co=wd-1
   .exact fin2 false false (by rw[za7 k4 k1 k3,d5,d6];rfl) (by rw[za7 k4 k1 k2,d5,d7];rfl) (c0.elim (λz=>.inl ⟨z,rfl⟩) λz=>.inr ⟨z,rfl⟩)
   .exact fin1 false false (by rw[za7 k4 k1 k3,d5,d6];rfl) (by rw[za7 k4 k1 k2,d5,d7];rfl) (.inl (by omega)) (.inl (by omega)) (may_x (by omega) (by omega))
  |rk a0 a1 b0 b1=>
   by_cases c0:co=0\/co=wd-1
   .exact fin2 false false (zgc k1 k3) (zgc k1 k2) (c0.elim (λz=>.inl ⟨z,rfl⟩) λz=>.inr ⟨z,rfl⟩)
   .exact fin1 false false (zgc k1 k3) (zgc k1 k2) (.inl (by omega)) (.inl (by omega)) (zv8 a0 a1 b0 b1 (by omega) (by omega))
 obtain⟨lot,h1',e1,l0,l1,D1,K1⟩:=take C.toCoreD (k:=k) (m:=10) D0 (by omega) (by decide) (by decide)
 have done:∀(w5:W)(h3:VH),Raw g w5->Dk h3 d c (b+5)->Keep ⟨h.n,h.n,h.os⟩ h3 d c->exs (run F (k+3)) fn21.body [some (.ref d),some (.int co),some (.int wd),some (.int g),none,none] ⟨h.n,h.n,h.os⟩=exs (run F (k+3)) pTail [some (.ref d),some (.int co),some (.int wd),some (.int g),some (.int lot),some w5] h3->
  ∃w h',fin h (exs (run F (k+3)) fn21.body [some (.ref d),some (.int co),some (.int wd),some (.int g),none,none] ⟨h.n,h.n,h.os⟩)=.ok w h'/\zab w co wd g=true/\Dk h' d c (b+5)/\Keep h h' d c:=by
  intro w5 h3 R D3 K3 e
  obtain⟨w,h4,e4,hm,hh⟩:=tail w5 lot h3 R
  have D4:Dk h4 d c (b+5)/\Keep ⟨h.n,h.n,h.os⟩ h4 d c:=by
   rcases hh with rfl|⟨o,rfl⟩
   .exact⟨D3,K3⟩
   .exact⟨D3.new,K3.new⟩
  obtain⟨h5,e5,D5,K5⟩:=zcz (cl:=run F (k+3)) (fl:=.nx []) (e.trans e4) (.inr ⟨b,D⟩) D4.1 D4.2
  exact⟨w,h5,e5,hm,D5,K5⟩
 have hg1:=zat (h:=h1') (o:=.lst [W.str sDot,.str sLt,.str sGt,.str sX,.str sDot,.str sDot])
 have two:∀(x:Str)(j:Int),(if(5:Int)<lot then 5 else lot)=j->atI [W.str sDot,.str sLt,.str sGt,.str sX,.str sDot,.str sDot] j=some (.str x)->∀rest:S,exs (run F (k+3)) (.seq (.set 4 (.call 5 (.cons (.var 0) (.cons (.cst (.int (10))) .nil)))) (.seq (.set 5 (.idx (.lst (.cons (.cst (.str sDot)) (.cons (.cst (.str sLt)) (.cons (.cst (.str sGt)) (.cons (.cst (.str sX)) (.cons (.cst (.str sDot)) (.cons (.cst (.str sDot)) .nil))))))) (.bi .min (.cons (.var 4) (.cons (.cst (.int (5))) .nil))))) rest)) [some (.ref d),some (.int co),some (.int wd),some (.int g),none,none] ⟨h.n,h.n,h.os⟩ =
  exs (run F (k+3)) rest [some (.ref d),some (.int co),some (.int wd),some (.int g),some (.int lot),some (.str x)] (h1'.new (.lst [W.str sDot,.str sLt,.str sGt,.str sX,.str sDot,.str sDot])):=by
  intro x j hj ha rest
  refine(zac (ρ':=[some (.ref d),some (.int co),some (.int wd),some (.int g),some (.int lot),none]) (h':=h1') (by simp[exs,ev,e1])).trans ?_
  refine zac ?_
  by_cases q:(5:Int)<lot
  .rw[if_pos q]at hj
   subst hj
   simp[exs,ev,biW,minW,q,idxW,hg1,ha]
  .rw[if_neg q]at hj
   subst hj
   simp[exs,ev,biW,minW,q,idxW,hg1,ha]
 have low:∀(x:Str),lot<=3->atI [W.str sDot,.str sLt,.str sGt,.str sX,.str sDot,.str sDot] lot=some (.str x)->Raw g (.str x)->_:=λx hl ha R=>done (.str x) (h1'.new (.lst [W.str sDot,.str sLt,.str sGt,.str sX,.str sDot,.str sDot])) R (D1.new.mono (by omega)) K1.new (by
  refine(two x lot (if_neg (by omega)) ha _).trans ?_
  have n1:¬(4<lot):=by omega
  have n2:¬(lot=4):=by omega
  refine(zac (ρ':=[some (.ref d),some (.int co),some (.int wd),some (.int g),some (.int lot),some (.str x)]) (h':=h1'.new (.lst [W.str sDot,.str sLt,.str sGt,.str sX,.str sDot,.str sDot])) (by simp[exs,ev,cmpW,cmpI,n1])).trans ?_
  refine(zac (ρ':=[some (.ref d),some (.int co),some (.int wd),some (.int g),some (.int lot),some (.str x)]) (h':=h1'.new (.lst [W.str sDot,.str sLt,.str sGt,.str sX,.str sDot,.str sDot])) (by simp[exs,ev,cmpW,zaz,n2])).trans ?_
  rfl)
 by_cases l4:lot<=3
 .have:lot=0\/lot=1\/lot=2\/lot=3:=by omega
  rcases this with z|z|z|z
  .exact low sDot l4 (by rw[z];rfl) .dot
  .exact low sLt l4 (by rw[z];rfl) .lt
  .exact low sGt l4 (by rw[z];rfl) .gt
  .exact low sX l4 (by rw[z];rfl) .x
 .by_cases l5:lot=4
  ·-- a blind place,or nothing
   obtain⟨r4,h4,e4,_,_,D4,K4⟩:=take C.toCoreD (k:=k) (m:=4) (D1.new (o:=.lst [W.str sDot,.str sLt,.str sGt,.str sX,.str sDot,.str sDot])) (by omega) (by decide) (by decide)
   have n1:¬(4<lot):=by omega
   have s3:∀rest:S,exs (run F (k+3)) (.seq (.ite (.and (.cmp .gt (.var 4) (.cst (.int (4)))) (.cmp .gt (.var 3) (.cst (.int (0))))) (.seq (.set 5 (.tup (.cons (.call 5 (.cons (.var 0) (.cons (.var 3) .nil))) (.cons (.call 5 (.cons (.var 0) (.cons (.cst (.int (2))) .nil))) .nil)))) .skip) .skip) rest) [some (.ref d),some (.int co),some (.int wd),some (.int g),some (.int lot),some (.str sDot)] (h1'.new (.lst [W.str sDot,.str sLt,.str sGt,.str sX,.str sDot,.str sDot]))=exs (run F (k+3)) rest [some (.ref d),some (.int co),some (.int wd),some (.int g),some (.int lot),some (.str sDot)] (h1'.new (.lst [W.str sDot,.str sLt,.str sGt,.str sX,.str sDot,.str sDot])):=λrest=>zac (by simp[exs,ev,cmpW,cmpI,n1])
   by_cases r0:r4=0
   .obtain⟨h5,e5,D5,K5⟩:=zcz (cl:=run F (k+3)) (fl:=.nx []) (w:=.str sS) (body:=fn21.body) (ρ:=[some (.ref d),some (.int co),some (.int wd),some (.int g),none,none]) (F:=F) (k:=k+3) (h:=h) (h':=h4) (b:=b+5) ((two sDot 4 (by rw[l5];rfl) rfl _).trans ((s3 _).trans (zah (by simp[exs,ev,cmpW,zaz,l5,e4,r0])))) (.inr ⟨b,D⟩) (D4.mono (by omega)) (K1.new.trans K4)
    exact⟨_,h5,e5,may_s,D5,K5⟩
   .exact done (.str sDot) h4 .dot (D4.mono (by omega)) (K1.new.trans K4) ((two sDot 4 (by rw[l5];rfl) rfl _).trans ((s3 _).trans (zac (by simp[exs,ev,cmpW,zaz,l5,e4,r0]))))
  ·-- a za6,if there are groups
   have n1:4<lot:=by omega
   have n2:¬(lot=4):=by omega
   have ha:∃j:Int,(if(5:Int)<lot then 5 else lot)=j/\atI [W.str sDot,.str sLt,.str sGt,.str sX,.str sDot,.str sDot] j=some (.str sDot):=⟨5,by split<;>omega,rfl⟩
   obtain⟨j,hj,ha⟩:=ha
   by_cases hg:0<g
   .obtain⟨ra,h4,e4,a0,a1,D4,K4⟩:=take C.toCoreD (k:=k) (m:=g) (D1.new (o:=.lst [W.str sDot,.str sLt,.str sGt,.str sX,.str sDot,.str sDot])) (by omega) hg (by omega)
    obtain⟨rb,h5,e5,b0,b1,D5,K5⟩:=take C.toCoreD (k:=k) (m:=2) D4 (by omega) (by decide) (by decide)
    exact done (.tup [.int ra,.int rb]) h5 (.rk a0 a1 b0 b1) (D5.mono (by omega)) ((K1.new.trans K4).trans K5) ((two sDot j hj ha _).trans ((zac (ρ':=[some (.ref d),some (.int co),some (.int wd),some (.int g),some (.int lot),some (.tup [.int ra,.int rb])]) (h':=h5) (by simp[exs,ev,cmpW,cmpI,n1,hg,e4,e5])).trans (zac (by simp[exs,ev,cmpW,zaz,n2]))))
   .exact done (.str sDot) (h1'.new (.lst [W.str sDot,.str sLt,.str sGt,.str sX,.str sDot,.str sDot])) .dot (D1.new.mono (by omega)) K1.new ((two sDot j hj ha _).trans ((zac (ρ':=[some (.ref d),some (.int co),some (.int wd),some (.int g),some (.int lot),some (.str sDot)]) (h':=h1'.new (.lst [W.str sDot,.str sLt,.str sGt,.str sX,.str sDot,.str sDot])) (by simp[exs,ev,cmpW,cmpI,n1,hg])).trans (zac (by simp[exs,ev,cmpW,zaz,n2]))))
end
noncomputable def allF(P:Int->W->Prop):Int->List W->Prop
 |_,[]=>True
 |a,w::r=>P a w/\allF P (a+1) r
theorem zdv{P:W->Prop}:∀{ws:List W} {a:Int},allF (λ_ w=>P w) a ws->∀w∈ws,P w
 |[],_,_,w,h=>by cases h
 |x::r,a,⟨h1,h2⟩,w,h=>by
  rcases va0.mp h with rfl|h
  .exact h1
  .exact zdv h2 w h
theorem zel{cl:Call}{P:Int->W->Prop}{e:E}{tl:En}{d c m lim:Nat}(hs:∀(i:Int) (h:VH) (b:Nat),0<=i->i<lim->Dk h d c b->b+m<1000000000->∃w h',ev cl e (some (.int i)::tl) h=.ok w h'/\P i w/\Dk h' d c (b+m)/\Keep h h' d c) :
 ∀(n:Nat)(a:Int)(x:Option W)(h:VH)(b:Nat),0<=a->a+n<=lim->Dk h d c b->b+m*n<1000000000->
  ∃ws h',lcL (tgW (.one 0)) (λ_ h=>.ok (.bl true) h) (ev cl e) (za2 a n) (x::tl) h=.ok ws h'/\allF P a ws/\ws.length=n/\Dk h' d c (b+m*n)/\Keep h h' d c
 |0,a,x,h,b,_,_,D,_=>⟨[],h,rfl,trivial,rfl,by simpa using D,.refl⟩
 |n+1,a,x,h,b,ha,hl,D,hb=>by
  have e1:m* (n+1)=m*n+m:=Nat.mul_succ m n
  obtain⟨w,h1,e2,p1,D1,K1⟩:=hs a h b ha (by omega) D (by omega)
  obtain⟨ws,h2,e3,p2,l2,D2,K2⟩:=zel hs n (a+1) (some (.int a)) h1 (b+m) (by omega) (by omega) D1 (by omega)
  refine⟨w::ws,h2,?_,⟨p1,p2⟩,by rw[vam,l2],D2.mono (by omega),K1.trans K2⟩
  simp only[za2,lcL,tgW,List.set,ev,bindok,e2,e3]
theorem zdh{n:Nat}(h:n<=1000000):Nat.ble n big=true:=vdc.mpr (vas h (by decide))
theorem zp9{cl:Call}{a:E}{ρ:En}{h h1 h2:VH}{n ow:Nat}{ix:List Nat}{e:E}{ys:List W}(ea:ev cl a ρ h=.ok (.tup [.int n]) h1)(hn:n<1000000)(el:lcL (tgW (.one 0)) (λ_ h=>.ok (.bl true) h) (ev cl e) (za2 0 n) (inner ow ix ρ) h1=.ok ys h2)(hy:ys.length<=1000000) :
 ev cl (.lc .rng1 a (.one 0) ow ix (.cst (.bl true)) e) ρ h=.ok (.ref h2.n) (h2.new (.lst ys)):=by
 have l:=zv7 (n:=n) (tg:=tgW (.one 0)) (c:=λ_ h=>.ok (.bl true) h) (e:=ev cl e) (ρ:=inner ow ix ρ) (h:=h1) hn
 rw[el]at l
 have q:ev cl (.lc .rng1 a (.one 0) ow ix (.cst (.bl true)) e) ρ h=(ev cl a ρ h).bind λx h=>(lcG (nxt .rng1 x) (tgW (.one 0)) (ev cl (.cst (.bl true))) (ev cl e) fuel 0 (inner ow ix ρ) h []).bind λys h=>if Nat.ble ys.length big then .ok (.ref h.n) (h.new (.lst ys))else .no:=by rw[ev]
 rw[q,ea,bindok]
 show(lcG (nxt .rng1 (.tup [.int n])) (tgW (.one 0)) (λ_ h=>.ok (.bl true) h) (ev cl e) fuel 0 (inner ow ix ρ) h1 []).bind _=_
 rw[l,bindok,if_pos (zdh hy)]
theorem zqa{cl:Call}{x:E}{ρ:En}{h h1:VH}{i:Nat}{ys:List W}(e:ev cl x ρ h=.ok (.ref i) h1)(g:h1.get i=some (.lst ys)):ev cl (.bi .tuple (.cons x .nil)) ρ h=.ok (.tup ys) h1:=by
 simp only[ev,e,bindok,biW,zd9,seqW,g,vb2,ofsome]
theorem zm5{cl:Call}{a:E}{ρ:En}{h h1 h2:VH}{n ow:Nat}{ix:List Nat}{e:E}{ys:List W}(ea:ev cl a ρ h=.ok (.tup [.int n]) h1)(hn:n<1000000)(el:lcL (tgW (.one 0)) (λ_ h=>.ok (.bl true) h) (ev cl e) (za2 0 n) (inner ow ix ρ) h1=.ok ys h2)(hy:ys.length<=1000000) :
 ev cl (.bi .tuple (.cons (.lc .rng1 a (.one 0) ow ix (.cst (.bl true)) e) .nil)) ρ h=.ok (.tup ys) (h2.new (.lst ys)):=zqa (zp9 ea hn el hy) zat
theorem zfc{wd g:Int}:∀{ws:List W} {c:Int},allF (λi w=>zab w i wd g=true) c ws->rowOk wd g c ws
 |[],_,_=>trivial
 |_::_,_,⟨h1,h2⟩=>⟨h1,zfc h2⟩
section
variable{F:Nat->Option Fn}(C:CoreP F)
include C
theorem row{k:Nat}{h:VH}{d c b:Nat}{wd:Nat}{g:Int}(D:Dk h d c b)(hb:b+200<1000000000)(h1:wd<=40)(g0:0<=g)(g1:g<=8) :
 ∃ws h',run F (k+5) 25 [.ref d,.int wd,.int g] h=.ok (.tup ws) h'/\ws.length=wd/\rowOk wd g 0 ws/\Dk h' d c (b+200)/\Keep h h' d c:=by
 rw[zam C.f25 rfl]
 have D0:Dk ⟨h.n,h.n,h.os⟩ d c b:=D.lo
 obtain⟨ws,h2,e2,p2,l2,D2,K2⟩:=zel (cl:=run F (k+4)) (P:=λi w=>zab w i wd g=true) (e:=zga) (tl:=[some (.ref d),some (.int g),some (.int wd)]) (m:=5) (lim:=wd) (λi h b h0 hl D hb=>by
  obtain⟨w,h',e,a1,a2,a3⟩:=piece C (k:=k) (co:=i) (wd:=wd) (g:=g) D hb h0 hl g0 g1
  exact⟨w,h',by simp[zga,ev,e],a1,a2,a3⟩) wd 0 none ⟨h.n,h.n,h.os⟩ b (by omega) (by omega) D0 (by omega)
 have e3:=zm5 (cl:=run F (k+4)) (a:=.cons (.var 1) .nil) (ρ:=[some (.ref d),some (.int wd),some (.int g)]) (h:=⟨h.n,h.n,h.os⟩) (ow:=1) (ix:=[0,2,1]) (e:=zga) (by simp[ev]) (by omega) e2 (by omega)
 obtain⟨h5,e5,D5,K5⟩:=zcz (cl:=run F (k+4)) (fl:=.nx []) (w:=.tup ws) (body:=fn25.body) (ρ:=[some (.ref d),some (.int wd),some (.int g)]) (F:=F) (k:=k+4) (h:=h) (h':=h2.new (.lst ws)) (by simp only[fn25,exs,e3,bindok]) (.inr ⟨b,D⟩) (D2.new.mono (show _<=b+200 by omega)) K2.new
 exact⟨ws,h5,e5,l2,zfc p2,D5,K5⟩
theorem zkd{k:Nat}{h:VH}{d c b:Nat}{nf:Int}(D:Dk h d c b)(hb:b+5<1000000000)(n0:1<=nf)(n1:nf<=4) :
 ∃w h',run F (k+4) 23 [.ref d,.int nf] h=.ok w h'/\door w nf=true/\Dk h' d c (b+5)/\Keep h h' d c:=by
 rw[zam C.f23 rfl]
 have D0:Dk ⟨h.n,h.n,h.os⟩ d c b:=D.lo
 obtain⟨r1,h1,e1,a1,b1,D1,K1⟩:=take C.toCoreD (k:=k) (m:=3) D0 (by omega) (by decide) (by decide)
 obtain⟨r2,h2,e2,a2,b2,D2,K2⟩:=take C.toCoreD (k:=k) (m:=100) D1 (by omega) (by decide) (by decide)
 have hg:=zat (h:=h2) (o:=.lst [.int r1,.int r2])
 obtain⟨r3,h3,e3,a3,b3,D3,K3⟩:=take C.toCoreD (k:=k) (m:=4) (D2.new (o:=.lst [.int r1,.int r2])) (by omega) (by decide) (by decide)
 obtain⟨r4,h4,e4,a4,b4,D4,K4⟩:=take C.toCoreD (k:=k) (m:=nf) D3 (by omega) (by omega) (by omega)
 obtain⟨r5,h5,e5,a5,b5,D5,K5⟩:=take C.toCoreD (k:=k) (m:=8) D4 (by omega) (by decide) (by decide)
 obtain⟨_,ns,cells,p,q,gd,gc,_⟩:=D2
 have hg3:h3.get h2.n=some (.lst [.int r1,.int r2]):=K3.get _ _ (vbp (zar gd)) (vbp (zar gc)) hg
 have KK:Keep ⟨h.n,h.n,h.os⟩ h5 d c:=((((K1.trans K2).new (o:=.lst [.int r1,.int r2])).trans K3).trans K4).trans K5
 have nm:∃x:Int,0<=x/\x<=99/\exs (run F (k+3)) (.set 2 (.idx (.lst (.cons (.call 5 (.cons (.var 0) (.cons (.cst (.int (3))) .nil))) (.cons (.call 5 (.cons (.var 0) (.cons (.cst (.int (100))) .nil))) .nil))) (.bi .int (.cons (.cmp .eq (.call 5 (.cons (.var 0) (.cons (.cst (.int (4))) .nil))) (.cst (.int (0)))) .nil)))) [some (.ref d),some (.int nf),none,none] ⟨h.n,h.n,h.os⟩=.ok (.nx [some (.ref d),some (.int nf),some (.int x),none]) h3:=by
  have i0:atI [W.int r1,.int r2] 0=some (.int r1):=rfl
  have i1:atI [W.int r1,.int r2] 1=some (.int r2):=rfl
  by_cases z:r3=0
  .exact⟨r2,a2,by omega,by simp[exs,ev,e1,e2,e3,cmpW,zaz,z,biW,intW,idxW,hg3,i1]⟩
  .exact⟨r1,a1,by omega,by simp[exs,ev,e1,e2,e3,cmpW,zaz,z,biW,intW,idxW,hg3,i0]⟩
 obtain⟨x,x0,x1,ex⟩:=nm
 have e6:exs (run F (k+3)) (.set 3 (.call 5 (.cons (.var 0) (.cons (.var 1) .nil)))) [some (.ref d),some (.int nf),some (.int x),none] h3=.ok (.nx [some (.ref d),some (.int nf),some (.int x),some (.int r4)]) h4:=by simp[exs,ev,e4]
 have hd:∀w:W,w=.tup [.int x,.non]\/w=.tup [.int x,.int r4]->door w nf=true:=by
  intro w hw
  rcases hw with rfl|rfl
  .simp[door,within,fon,isNon,x0,x1]
  .simp only[door,within,fon,isNon,vaa,vap,Bool.false_or]
   omega
 have body:∃w,exs (run F (k+3)) fn23.body [some (.ref d),some (.int nf),none,none] ⟨h.n,h.n,h.os⟩=.ok (.rt w) h5/\door w nf=true:=by
  by_cases z:r5=0
  .exact⟨.tup [.int x,.non],(zac ex).trans ((zac e6).trans (by simp[exs,ev,e5,cmpW,zaz,z])),hd _ (.inl rfl)⟩
  .exact⟨.tup [.int x,.int r4],(zac ex).trans ((zac e6).trans (by simp[exs,ev,e5,cmpW,zaz,z])),hd _ (.inr rfl)⟩
 obtain⟨w,eb,hw⟩:=body
 obtain⟨h6,e7,D6,K6⟩:=zcz (cl:=run F (k+3)) (fl:=.nx []) eb (.inr ⟨b,D⟩) (D5.mono (show _<=b+5 by omega)) KK
 exact⟨w,h6,e7,hw,D6,K6⟩
theorem zsf{k:Nat}{d c wd n b:Nat}{g:Int}{h:VH}{x:Option W}(D:Dk h d c b)(hb:b+200*n<1000000000)(h1:wd<=40)(g0:0<=g)(g1:g<=8) :
 ∃(rs:List (List W)) (h':VH),lcL (tgW (.one 0)) (λ_ h=>.ok (.bl true) h) (ev (run F (k+5)) (.call 25 (.cons (.var 1) (.cons (.var 3) (.cons (.var 2) .nil))))) (za2 0 n) [x,some (.ref d),some (.int g),some (.int wd)] h=.ok (rs.map .tup) h'/\rs.length=n/\(∀r∈rs,(r.length:Int)=wd/\rowOk wd g 0 r)/\Dk h' d c (b+200*n)/\Keep h h' d c:=by
 obtain⟨ws,h',e,p,l,D',K'⟩:=zel (cl:=run F (k+5)) (P:=λ_ w=>∃r,w=.tup r/\(r.length:Int)=wd/\rowOk wd g 0 r) (e:=.call 25 (.cons (.var 1) (.cons (.var 3) (.cons (.var 2) .nil)))) (tl:=[some (.ref d),some (.int g),some (.int wd)]) (m:=200) (lim:=n) (λi h b _ _ D hb=>by
  obtain⟨ws,h',e,a1,a2,a3,a4⟩:=row C (k:=k) (wd:=wd) (g:=g) D hb h1 g0 g1
  exact⟨.tup ws,h',by simp[ev,e],⟨ws,rfl,by omega,a2⟩,a3,a4⟩) n 0 x h b (by omega) (by omega) D hb
 replace p:=zdv p
 have hr:∃rs:List (List W),ws=rs.map .tup/\∀r∈rs,(r.length:Int)=wd/\rowOk wd g 0 r:=by
  clear e l
  induction ws with
  |nil=>exact⟨[],rfl,λr hr=>by cases hr⟩
  |cons w ws ih=>
   obtain⟨rs,e1,e2⟩:=ih λw hw=>p w (vai _ hw)
   obtain⟨r,e3,e4⟩:=p w vaq
   refine⟨r::rs,by rw[e3,e1];rfl,λq hq=>?_⟩
   rcases va0.mp hq with rfl|hq
   .exact e4
   .exact e2 q hq
 obtain⟨rs,rfl,hrs⟩:=hr
 exact⟨rs,h',e,by rw[<-l,vaf],hrs,D',K'⟩
theorem zke{k:Nat}{d c wd n b:Nat}{h:VH}{x:Option W}(D:Dk h d c b)(hb:b+1*n<1000000000)(h0:1<=wd)(h1:wd<=40) :
 ∃(fs:List W) (h':VH),lcL (tgW (.one 0)) (λ_ h=>.ok (.bl true) h) (ev (run F (k+3)) (.call 5 (.cons (.var 1) (.cons (.var 2) .nil)))) (za2 0 n) [x,some (.ref d),some (.int wd)] h=.ok fs h'/\fs.length=n/\(∀f∈fs,within f 0 ((wd:Int)-1)=true)/\Dk h' d c (b+1*n)/\Keep h h' d c:=by
 obtain⟨ws,h',e,p,l,D',K'⟩:=zel (cl:=run F (k+3)) (P:=λ_ w=>within w 0 ((wd:Int)-1)=true) (e:=.call 5 (.cons (.var 1) (.cons (.var 2) .nil))) (tl:=[some (.ref d),some (.int wd)]) (m:=1) (lim:=n) (λi h b _ _ D hb=>by
  obtain⟨r,h',e,a1,a2,a3,a4⟩:=take C.toCoreD (k:=k) (m:=wd) D (by omega) (by omega) (by omega)
  exact⟨.int r,h',by simp[ev,e],by simp only[within,vaa,vap];omega,a3,a4⟩) n 0 x h b (by omega) (by omega) D hb
 exact⟨ws,h',e,l,zdv p,D',K'⟩
theorem zo4{k:Nat}{d c n b:Nat}{h:VH}{x:Option W}{fs:List W}(D:Dk h d c b)(hb:b+5*n<1000000000)(h0:1<=fs.length)(h1:fs.length<=4) :
 ∃(ds:List W) (h':VH),lcL (tgW (.one 0)) (λ_ h=>.ok (.bl true) h) (ev (run F (k+4)) (.call 23 (.cons (.var 1) (.cons (.bi .len (.cons (.var 2) .nil)) .nil)))) (za2 0 n) [x,some (.ref d),some (.tup fs)] h=.ok ds h'/\ds.length=n/\(∀w∈ds,door w fs.length=true)/\Dk h' d c (b+5*n)/\Keep h h' d c:=by
 obtain⟨ws,h',e,p,l,D',K'⟩:=zel (cl:=run F (k+4)) (P:=λ_ w=>door w fs.length=true) (e:=.call 23 (.cons (.var 1) (.cons (.bi .len (.cons (.var 2) .nil)) .nil))) (tl:=[some (.ref d),some (.tup fs)]) (m:=5) (lim:=n) (λi h b _ _ D hb=>by
  obtain⟨w,h',e,a1,a2,a3⟩:=zkd C (k:=k) (nf:=fs.length) D hb (by omega) (by omega)
  exact⟨w,h',by simp[ev,e,biW,lenW,seqW],a1,a2,a3⟩) n 0 x h b (by omega) (by omega) D hb
 exact⟨ws,h',e,l,zdv p,D',K'⟩
end
structure CoreQ(F:Nat->Option Fn):Prop extends CoreP F where
 f26:F 26=some fn26
theorem lb{b n k:Nat}(hb:b+n<1000000000)(h:k<=n):b+k<1000000000:=by omega
theorem bd0{m:Int}(h:m<=60):m+1<1073741824:=by omega
theorem bd1{t m:Int}(a:0<=t)(b:t<m)(h:m<=40):∃n:Nat,1+t=n/\1<=n/\n<=40/\(n:Int)<=m:=⟨(1+t).toNat,by omega,by omega,by omega,by omega⟩
theorem bd3{b c n k m:Nat}(h:n<=m):b+c+k*n<=b+ (c+k*m):=by
 rw[Nat.add_assoc]
 exact vdn (vdn (Nat.mul_le_mul_left k h) c) b
section
variable{F:Nat->Option Fn}(C:CoreQ F)
include C
theorem zij{k:Nat}{h:VH}{d c b:Nat}{mw mr mg:Int}(D:Dk h d c b)(hb:b+13000<1000000000)(w0:1<=mw)(w1:mw<=40)(r0:0<=mr)(r1:mr<=60)(g0:0<=mg)(g1:mg<=8) :
 ∃B h',run F (k+6) 26 [.ref d,.int mw,.int mr,.int mg] h=.ok (Bd.w B) h'/\B.Ok/\B.wd<=mw/\B.gr<=mg/\(B.rows.length:Int)<=mr/\Dk h' d c (b+13000)/\Keep h h' d c:=by
 rw[zam C.f26 rfl]
 have D0:Dk ⟨h.n,h.n,h.os⟩ d c b:=D.lo
 obtain⟨t1,h1,e1,a1,b1,D1,K1⟩:=take C.toCoreD (k:=k+2) (m:=mw) D0 (lb (k:=0) hb (by decide)) (Int.lt_of_lt_of_le (by decide) w0) (Int.lt_of_le_of_lt w1 (by decide))
 obtain⟨wd,hwd,wd1,wd2,wd3⟩:=bd1 a1 b1 w1
 obtain⟨gr,h2,e2,a2,b2,D2,K2⟩:=take C.toCoreD (k:=k+2) (m:=mg+1) D1 (lb (k:=1) hb (by decide)) (Int.lt_add_one_of_le g0) (bd0 (Int.le_trans g1 (by decide)))
 have b2:=Int.le_of_lt_add_one b2
 have g2:=Int.le_trans b2 g1
 obtain⟨t3,h3,e3,a3,b3,D3,K3⟩:=take C.toCoreD (k:=k+2) (m:=mr+1) D2 (lb (k:=2) hb (by decide)) (Int.lt_add_one_of_le r0) (bd0 r1)
 obtain⟨nr,hnr⟩:=va8 a3
 have nr1:(nr:Int)<=mr:=hnr▸Int.le_of_lt_add_one b3
 have nr2:nr<=60:=Int.ofNat_le.mp (Int.le_trans nr1 r1)
 obtain⟨rs,h4,e4,l4,p4,D4,K4⟩:=zsf C.toCoreP (k:=k) (n:=nr) (wd:=wd) (g:=gr) (x:=none) D3 (vbv (bd3 (c:=3) nr2) (lb hb (by decide))) wd2 a2 g2
 have D4:=D4.mono (bd3 (c:=3) nr2)
 have D4':=D4.new (o:=.lst (rs.map .tup))
 obtain⟨t5,h5,e5,a5,b5,D5,K5⟩:=take C.toCoreD (k:=k+2) (m:=4) D4' (lb hb (by decide)) (by decide) (by decide)
 obtain⟨nf,hnf,nf1,_,nf2⟩:=bd1 a5 b5 (by decide)
 have nf2:=Int.ofNat_le.mp nf2
 obtain⟨fs,h6,e6,l6,p6,D6,K6⟩:=zke C.toCoreP (k:=k+2) (n:=nf) (wd:=wd) (x:=none) D5 (vbv (bd3 (c:=12004) nf2) (lb hb (by decide))) wd1 wd2
 have D6:=D6.mono (bd3 (c:=12004) nf2)
 have D6':=D6.new (o:=.lst fs)
 obtain⟨ds,h7,e7,l7,p7,D7,K7⟩:=zo4 C.toCoreP (k:=k+1) (n:=wd) (fs:=fs) (x:=none) D6' (vbv (bd3 (c:=12008) wd2) (lb hb (by decide))) (l6▸nf1) (l6▸nf2)
 obtain⟨hne,ns,cells,p,q,gd,gc,_⟩:=D4
 have gl:(h7.new (.lst ds)).get h4.n=some (.lst (rs.map .tup)):=by
  have n1:h4.n≠d:=vbp (zar gd)
  have n2:h4.n≠c:=vbp (zar gc)
  have q1:=K5.get h4.n _ n1 n2 zat
  have q2:=K6.get h4.n _ n1 n2 q1
  have q3:(h6.new (.lst fs)).get h4.n=some (.lst (rs.map .tup)):=by rw[zap (zar q2)];exact q2
  have q4:=K7.get h4.n _ n1 n2 q3
  rw[zap (zar q4)];exact q4
 have s1:exs (run F (k+5)) (.set 4 (.op .add (.cst (.int (1))) (.call 5 (.cons (.var 0) (.cons (.var 1) .nil))))) [some (.ref d),some (.int mw),some (.int mr),some (.int mg),none,none,none,none,none] ⟨h.n,h.n,h.os⟩=.ok (.nx [some (.ref d),some (.int mw),some (.int mr),some (.int mg),some (.int wd),none,none,none,none]) h1:=by
  simp[exs,ev,e1,opW,opI,hwd]
 have s2:exs (run F (k+5)) (.set 5 (.call 5 (.cons (.var 0) (.cons (.op .add (.var 3) (.cst (.int (1)))) .nil)))) [some (.ref d),some (.int mw),some (.int mr),some (.int mg),some (.int wd),none,none,none,none] h1=.ok (.nx [some (.ref d),some (.int mw),some (.int mr),some (.int mg),some (.int wd),some (.int gr),none,none,none]) h2:=by
  simp[exs,ev,e2,opW,opI]
 have s3:=zp9 (cl:=run F (k+5)) (a:=.cons (.call 5 (.cons (.var 0) (.cons (.op .add (.var 2) (.cst (.int (1)))) .nil))) .nil) (ρ:=[some (.ref d),some (.int mw),some (.int mr),some (.int mg),some (.int wd),some (.int gr),none,none,none]) (h:=h2) (h1:=h3) (n:=nr) (ow:=1) (ix:=[0,5,4]) (by simp[ev,opW,opI,e3,hnr]) (vbv nr2 (by decide)) e4 (by rw[vaf,l4];exact vas nr2 (by decide))
 have s4:=zm5 (cl:=run F (k+5)) (a:=.cons (.op .add (.cst (.int (1))) (.call 5 (.cons (.var 0) (.cons (.cst (.int (4))) .nil)))) .nil) (ρ:=[some (.ref d),some (.int mw),some (.int mr),some (.int mg),some (.int wd),some (.int gr),some (.ref h4.n),none,none]) (h:=h4.new (.lst (rs.map .tup))) (h1:=h5) (n:=nf) (ow:=1) (ix:=[0,4]) (by simp[ev,opW,opI,e5,hnf]) (vbv nf2 (by decide)) e6 (by rw[l6];exact vas nf2 (by decide))
 have s5:=zm5 (cl:=run F (k+5)) (a:=.cons (.var 4) .nil) (ρ:=[some (.ref d),some (.int mw),some (.int mr),some (.int mg),some (.int wd),some (.int gr),some (.ref h4.n),some (.tup fs),none]) (h:=h6.new (.lst fs)) (h1:=h6.new (.lst fs)) (n:=wd) (ow:=1) (ix:=[0,7]) (by simp[ev]) (vbv wd2 (by decide)) e7 (by rw[l7];exact vas wd2 (by decide))
 have body:exs (run F (k+5)) fn26.body [some (.ref d),some (.int mw),some (.int mr),some (.int mg),none,none,none,none,none] ⟨h.n,h.n,h.os⟩=.ok (.rt (Bd.w ⟨wd,gr,rs,fs,ds⟩)) (h7.new (.lst ds)):=by
  refine(zac s1).trans ((zac s2).trans ?_)
  refine(zac (ρ':=[some (.ref d),some (.int mw),some (.int mr),some (.int mg),some (.int wd),some (.int gr),some (.ref h4.n),none,none]) (h':=h4.new (.lst (rs.map .tup))) (by unfold zmy;simp only[exs,s3,bindok];rfl)).trans ?_
  refine(zac (ρ':=[some (.ref d),some (.int mw),some (.int mr),some (.int mg),some (.int wd),some (.int gr),some (.ref h4.n),some (.tup fs),none]) (h':=h6.new (.lst fs)) (by unfold zmz;simp only[exs,s4,bindok];rfl)).trans ?_
  refine(zac (ρ':=[some (.ref d),some (.int mw),some (.int mr),some (.int mg),some (.int wd),some (.int gr),some (.ref h4.n),some (.tup fs),some (.tup ds)]) (h':=h7.new (.lst ds)) (by unfold zm0;simp only[exs,s5,bindok];rfl)).trans ?_
  simp[exs,ev,biW,zd9,seqW,gl,Bd.w]
 have KK:Keep ⟨h.n,h.n,h.os⟩ (h7.new (.lst ds)) d c:=((((((K1.trans K2).trans K3).trans K4).new.trans K5).trans K6).new.trans K7).new
 obtain⟨h8,e8,D8,K8⟩:=zcz (cl:=run F (k+5)) (fl:=.nx []) body (.inr ⟨b,D⟩) (D7.new.mono (vas (bd3 (c:=12008) wd2) (vdn (show _<=13000 by decide) b))) KK
 refine⟨⟨wd,gr,rs,fs,ds⟩,h8,e8,⟨Int.ofNat_le.mpr wd1,Int.ofNat_le.mpr wd2,a2,g2,by show rs.length<=60;rw[l4];exact nr2,p4,by show 1<=fs.length;rw[l6];exact nf1,by show fs.length<=4;rw[l6];exact nf2,p6,vdh _ l7,p7⟩,wd3,b2,by show(rs.length:Int)<=mr;rw[l4];exact nr1,D8,K8⟩
end
structure Gw(h h':VH):Prop where
 le:h.n<=h'.n
 lo:h'.lo=h.lo
 get:∀i o,h.get i=some o->h'.get i=some o
theorem Gw.refl{h:VH}:Gw h h:=⟨vad _,rfl,λ_ _ e=>e⟩
theorem Gw.trans{h h1 h2:VH}(a:Gw h h1)(b:Gw h1 h2):Gw h h2:=⟨vas a.le b.le,b.lo.trans a.lo,λi o e=>b.get i o (a.get i o e)⟩
theorem Gw.new{h h':VH}{o:VO}(a:Gw h h'):Gw h (h'.new o):=⟨vdd a.le,a.lo,λi o' e=>by
 have:=a.get i o' e
 rw[zap (zar this)];exact this⟩
theorem zjl{h h':VH}{w:W}{n:Nat}(g:Gw ⟨h.n,h.n,h.os⟩ h')(hw:∀m,W.lt m w=true):fin h (.ok (.rt w) h')=.ok w h:=zal (by rw[g.lo];exact vad _) (hw _)
theorem zsg{n:Nat}(h:n<=1000000):Nat.blt n big=true:=zax.mpr (vbv h (by decide))
theorem rep1{w:W}:∀n:Nat,(List.replicate n [w]).flatten=List.replicate n w
 |0=>rfl
 |n+1=>by rw[vba,vcd,rep1 n,vba];rfl
theorem zem{cl:Call}{e:E}{tl:En}{f:W->W}:∀(ws:List W) (x:Option W) (h:VH),(∀w∈ws,∀h,∃h',ev cl e (some w::tl) h=.ok (f w) h'/\Gw h h')->∃h',lcL (tgW (.one 0)) (λ_ h=>.ok (.bl true) h) (ev cl e) ws (x::tl) h=.ok (ws.map f) h'/\Gw h h'
 |[],x,h,_=>⟨h,rfl,.refl⟩
 |w::r,x,h,hs=>by
  obtain⟨h1,e1,g1⟩:=hs w vaq h
  obtain⟨h2,e2,g2⟩:=zem r (some w) h1 λw hw=>hs w (vai _ hw)
  refine⟨h2,?_,g1.trans g2⟩
  simp only[lcL,tgW,List.set,bindok,e1,e2,vav]
theorem zsh{cl:Call}{a:E}{ρ:En}{h h1 h2:VH}{ow:Nat}{ix:List Nat}{e:E}{t:Tg}{ws ys:List W}(ea:ev cl a ρ h=.ok (.tup ws) h1)(hn:ws.length<1000000)(el:lcL (tgW t) (λ_ h=>.ok (.bl true) h) (ev cl e) ws (inner ow ix ρ) h1=.ok ys h2)(hy:ys.length<=1000000) :
 ev cl (.lc .seq a t ow ix (.cst (.bl true)) e) ρ h=.ok (.ref h2.n) (h2.new (.lst ys)):=by
 have l:=zv6 (ws:=ws) (tg:=tgW t) (c:=λ_ h=>.ok (.bl true) h) (e:=ev cl e) (ρ:=inner ow ix ρ) (h:=h1) hn
 rw[el]at l
 have q:ev cl (.lc .seq a t ow ix (.cst (.bl true)) e) ρ h=(ev cl a ρ h).bind λx h=>(lcG (nxt .seq x) (tgW t) (ev cl (.cst (.bl true))) (ev cl e) fuel 0 (inner ow ix ρ) h []).bind λys h=>if Nat.ble ys.length big then .ok (.ref h.n) (h.new (.lst ys))else .no:=by rw[ev]
 rw[q,ea,bindok]
 show(lcG (nxt .seq (.tup ws)) (tgW t) (λ_ h=>.ok (.bl true) h) (ev cl e) fuel 0 (inner ow ix ρ) h1 []).bind _=_
 rw[l,bindok,if_pos (zdh hy)]
theorem zgd{cl:Call}{a:E}{ρ:En}{h h1 h2:VH}{ow:Nat}{ix:List Nat}{e:E}{t:Tg}{ws ys:List W}(ea:ev cl a ρ h=.ok (.tup ws) h1)(hn:ws.length<1000000)(el:lcL (tgW t) (λ_ h=>.ok (.bl true) h) (ev cl e) ws (inner ow ix ρ) h1=.ok ys h2)(hy:ys.length<=1000000) :
 ev cl (.bi .tuple (.cons (.lc .seq a t ow ix (.cst (.bl true)) e) .nil)) ρ h=.ok (.tup ys) (h2.new (.lst ys)):=zqa (zsh ea hn el hy) zat
theorem zhm{cl:Call}{i l:Nat}{x:E}{ρ:En}{h h1:VH}{w:W}{acc acc0:List W}(hρ:ρ[i]?=some (some (.ref l)))(g0:h.get l=some (.lst acc0))(e:ev cl x ρ h=.ok w h1)(g:h1.get l=some (.lst acc))(hl:acc.length<=1000000) :
 ev cl (.mt .append (.var i) (.cons x .nil)) ρ h=.ok .non (h1.set l (.lst (acc++[w]))):=by
 have hk:zgy .append h (.ref l)=true:=by simp only[zgy,g0]
 have hm:mtW .append (.ref l) [w] h1=.ok .non (h1.set l (.lst (acc++[w]))):=by
  simp only[mtW,g]
  rw[if_pos (zsg hl)]
 simp only[ev,hρ,vdk,ofsome,bindok,hk,vbk,e,hm]
theorem zik{w:W}{g:Int}(h:za6 w g=true):∃a b:Int,w=.tup [.int a,.int b]/\0<=a/\a<g/\0<=b/\b<2:=by
 cases w<;>simp only[za6]at h<;>try(cases h;done)
 rename_i us
 rcases us with _|⟨a,_|⟨b,_|_⟩⟩<;>simp at h
 obtain⟨h1,h2⟩:=h
 cases a<;>simp[within]at h1
 cases b<;>simp[within]at h2
 exact⟨_,_,rfl,by omega,by omega,by omega,by omega⟩
theorem zm6{wd g g':Int}{f:W->W}(hf:∀w c,zab w c wd g=true->zab (f w) c wd g'=true):∀{ws:List W} {c:Int},rowOk wd g c ws->rowOk wd g' c (ws.map f)
 |[],_,_=>trivial
 |_::_,_,⟨h1,h2⟩=>⟨hf _ _ h1,zm6 hf h2⟩
theorem zhn{w:W}{n:Int}(h:door w n=true):∃(a:Int) (b:W),w=.tup [.int a,b]/\0<=a/\a<=99/\(b=.non\/∃i:Int,b=.int i/\0<=i/\i<n):=by
 cases w<;>simp only[door]at h<;>try(cases h;done)
 rename_i us
 rcases us with _|⟨a,_|⟨b,_|_⟩⟩<;>simp at h
 obtain⟨h1,h2⟩:=h
 cases a<;>simp[within]at h1
 unfold fon at h2
 cases b<;>simp[within,isNon]at h2
 .exact⟨_,_,rfl,h1.1,h1.2,.inl rfl⟩
 .exact⟨_,_,rfl,h1.1,h1.2,.inr ⟨_,rfl,by omega,by omega⟩⟩
theorem zho{wd g:Int}{n:Nat}:∀{ws:List W} {c:Int},rowOk wd g c ws->ws.all (zan (n+2))=true
 |[],_,_=>rfl
 |_::_,_,⟨h1,h2⟩=>by rw[vbn,zbm h1,zho h2];rfl
theorem zjm{B:Bd}(b:B.Ok):zan 24 B.w=true:=by
 have h1:(B.rows.map W.tup).all (zan 22)=true:=by
  rw[va1]
  intro w hw
  obtain⟨r,hr,rfl⟩:=vdq.mp hw
  exact zho (n:=19) (b.r2 r hr).2
 have h2:B.fd.all (zan 22)=true:=by
  rw[va1]
  intro w hw
  have:=b.f3 w hw
  cases w<;>simp[within]at this
  rfl
 have h3:B.dr.all (zan 22)=true:=by
  rw[va1]
  intro w hw
  obtain⟨a,c,rfl,_,_,h⟩:=zhn (b.d2 w hw)
  rcases h with rfl|⟨i,rfl,_⟩<;>rfl
 show(zan 23 (.int B.wd)&& (zan 23 (.int B.gr)&& (zan 23 (.tup (B.rows.map .tup))&& (zan 23 (.tup B.fd)&& (zan 23 (.tup B.dr)&&true)))))=true
 rw[zcv,zcv,zcv,h1,h2,h3]
 rfl
theorem zbz{w:W}{c wd g:Int}(h:zab w c wd g=true):(w=.str sX/\0<c/\c<wd-1)\/(w=.str sLt/\0<c)\/(w=.str sGt/\c<wd-1)\/w=.str sDot\/w=.str sS\/∃a b:Nat,w=.tup [.int a,.int b]/\(a:Int)<g/\b<2/\0<c/\c<wd-1:=by
 unfold zab at h
 split at h
 .rename_i q
  rw[vaa,vap,vap]at h
  rw[vch]at q
  rcases q with q|q
  .exact .inl ⟨zfb q,h⟩
  .obtain⟨a,b,rfl,h1,h2,h3,h4⟩:=zik q
   obtain⟨a,rfl⟩:=va8 h1
   obtain⟨b,rfl⟩:=va8 h3
   exact .inr (.inr (.inr (.inr (.inr ⟨a,b,rfl,h2,by omega,h⟩))))
 .split at h
  .rename_i q;exact .inr (.inl ⟨zfb q,by simpa using h⟩)
  .split at h
   .rename_i q;exact .inr (.inr (.inl ⟨zfb q,by simpa using h⟩))
   .rw[vch]at h
    rcases h with q|q
    .exact .inr (.inr (.inr (.inl (zfb q))))
    .exact .inr (.inr (.inr (.inr (.inl (zfb q)))))
theorem zjn{wd g:Int}:∀{ws:List W} {c:Int} (i:Nat) {w:W},rowOk wd g c ws->ws[i]?=some w->zab w (c+i) wd g=true
 |[],_,_,_,_,e=>by simp at e
 |x::r,c,0,w,⟨h1,h2⟩,e=>by
  simp at e;subst e;simpa using h1
 |x::r,c,i+1,w,⟨h1,h2⟩,e=>by
  have:=zjn i h2 (by simpa using e)
  rw[show c+ ((i+1:Nat):Int)=c+1+i by push_cast;omega]
  exact this
theorem eqS{h:VH}{x y:Str}(hx:PyData.strOk x=true)(hy:PyData.strOk y=true):eqW h (.str x) (.str y)=some (x==y):=by
 rw[zce (x:=y) (by exact hx) hy];rfl
@[simp] theorem eq_X_X {h:VH}:eqW h (.str sX) (.str (PySem.Str.ofString "x"))=some true:=(eqS (by decide +kernel) (by decide +kernel)).trans (by decide +kernel)
@[simp] theorem eq_X_Lt {h:VH}:eqW h (.str sX) (.str (PySem.Str.ofString "<"))=some false:=(eqS (by decide +kernel) (by decide +kernel)).trans (by decide +kernel)
@[simp] theorem eq_X_Gt {h:VH}:eqW h (.str sX) (.str (PySem.Str.ofString ">"))=some false:=(eqS (by decide +kernel) (by decide +kernel)).trans (by decide +kernel)
@[simp] theorem eq_X_Dot {h:VH}:eqW h (.str sX) (.str (PySem.Str.ofString "."))=some false:=(eqS (by decide +kernel) (by decide +kernel)).trans (by decide +kernel)
@[simp] theorem eq_X_S {h:VH}:eqW h (.str sX) (.str (PySem.Str.ofString "s"))=some false:=(eqS (by decide +kernel) (by decide +kernel)).trans (by decide +kernel)
@[simp] theorem eq_Lt_X {h:VH}:eqW h (.str sLt) (.str (PySem.Str.ofString "x"))=some false:=(eqS (by decide +kernel) (by decide +kernel)).trans (by decide +kernel)
@[simp] theorem eq_Lt_Lt {h:VH}:eqW h (.str sLt) (.str (PySem.Str.ofString "<"))=some true:=(eqS (by decide +kernel) (by decide +kernel)).trans (by decide +kernel)
@[simp] theorem eq_Lt_Gt {h:VH}:eqW h (.str sLt) (.str (PySem.Str.ofString ">"))=some false:=(eqS (by decide +kernel) (by decide +kernel)).trans (by decide +kernel)
@[simp] theorem eq_Lt_Dot {h:VH}:eqW h (.str sLt) (.str (PySem.Str.ofString "."))=some false:=(eqS (by decide +kernel) (by decide +kernel)).trans (by decide +kernel)
@[simp] theorem eq_Lt_S {h:VH}:eqW h (.str sLt) (.str (PySem.Str.ofString "s"))=some false:=(eqS (by decide +kernel) (by decide +kernel)).trans (by decide +kernel)
@[simp] theorem eq_Gt_X {h:VH}:eqW h (.str sGt) (.str (PySem.Str.ofString "x"))=some false:=(eqS (by decide +kernel) (by decide +kernel)).trans (by decide +kernel)
@[simp] theorem eq_Gt_Lt {h:VH}:eqW h (.str sGt) (.str (PySem.Str.ofString "<"))=some false:=(eqS (by decide +kernel) (by decide +kernel)).trans (by decide +kernel)
@[simp] theorem eq_Gt_Gt {h:VH}:eqW h (.str sGt) (.str (PySem.Str.ofString ">"))=some true:=(eqS (by decide +kernel) (by decide +kernel)).trans (by decide +kernel)
@[simp] theorem eq_Gt_Dot {h:VH}:eqW h (.str sGt) (.str (PySem.Str.ofString "."))=some false:=(eqS (by decide +kernel) (by decide +kernel)).trans (by decide +kernel)
@[simp] theorem eq_Gt_S {h:VH}:eqW h (.str sGt) (.str (PySem.Str.ofString "s"))=some false:=(eqS (by decide +kernel) (by decide +kernel)).trans (by decide +kernel)
@[simp] theorem eq_Dot_X {h:VH}:eqW h (.str sDot) (.str (PySem.Str.ofString "x"))=some false:=(eqS (by decide +kernel) (by decide +kernel)).trans (by decide +kernel)
@[simp] theorem eq_Dot_Lt {h:VH}:eqW h (.str sDot) (.str (PySem.Str.ofString "<"))=some false:=(eqS (by decide +kernel) (by decide +kernel)).trans (by decide +kernel)
@[simp] theorem eq_Dot_Gt {h:VH}:eqW h (.str sDot) (.str (PySem.Str.ofString ">"))=some false:=(eqS (by decide +kernel) (by decide +kernel)).trans (by decide +kernel)
@[simp] theorem eq_Dot_Dot {h:VH}:eqW h (.str sDot) (.str (PySem.Str.ofString "."))=some true:=(eqS (by decide +kernel) (by decide +kernel)).trans (by decide +kernel)
@[simp] theorem eq_Dot_S {h:VH}:eqW h (.str sDot) (.str (PySem.Str.ofString "s"))=some false:=(eqS (by decide +kernel) (by decide +kernel)).trans (by decide +kernel)
@[simp] theorem eq_S_X {h:VH}:eqW h (.str sS) (.str (PySem.Str.ofString "x"))=some false:=(eqS (by decide +kernel) (by decide +kernel)).trans (by decide +kernel)
@[simp] theorem eq_S_Lt {h:VH}:eqW h (.str sS) (.str (PySem.Str.ofString "<"))=some false:=(eqS (by decide +kernel) (by decide +kernel)).trans (by decide +kernel)
@[simp] theorem eq_S_Gt {h:VH}:eqW h (.str sS) (.str (PySem.Str.ofString ">"))=some false:=(eqS (by decide +kernel) (by decide +kernel)).trans (by decide +kernel)
@[simp] theorem eq_S_Dot {h:VH}:eqW h (.str sS) (.str (PySem.Str.ofString "."))=some false:=(eqS (by decide +kernel) (by decide +kernel)).trans (by decide +kernel)
@[simp] theorem eq_S_S {h:VH}:eqW h (.str sS) (.str (PySem.Str.ofString "s"))=some true:=(eqS (by decide +kernel) (by decide +kernel)).trans (by decide +kernel)
theorem zfd{cl:Call}{a b:S}{ρ ρ':En}{h h':VH}(e:exs cl a ρ h=.ok (.bk ρ') h'):exs cl (.seq a b) ρ h=.ok (.bk ρ') h':=by
 simp only[exs,e,bindok]
theorem zge{cl:Call}{i l:Nat}{ρ:En}{h:VH}{ws:List W}(hρ:ρ[i]?=some (some (.ref l)))(g:h.get l=some (.lst ws)):ev cl (.bi .tuple (.cons (.var i) .nil)) ρ h=.ok (.tup ws) h:=by
 simp only[ev,hρ,vdk,ofsome,bindok,biW,zd9,seqW,g,vb2]
theorem zfe{h:VH}{p q:Int}{x:Str}(hx:PyData.strOk x=true):eqW h (.tup [.int p,.int q]) (.str x)=some false:=by
 rw[zce (x:=x) rfl hx];rfl
theorem zqb{n:Nat}:∀{ws:List W},(∀w∈ws,W.lt n w=true)->W.lts n ws=true
 |[],_=>by simp
 |w::r,h=>by rw[lts_cons,h w vaq,zqb λw hw=>h w (vai _ hw)];rfl
section
variable{F:Nat->Option Fn}
theorem zb0{wd g:Int}:∀{ws:List W} {c:Int},rowOk wd g c ws->∀w∈ws,∃c,zab w c wd g=true
 |[],_,_,w,h=>by cases h
 |x::r,c,⟨h1,h2⟩,w,h=>by
  rcases va0.mp h with rfl|h
  .exact⟨c,h1⟩
  .exact zb0 h2 w h
theorem zgf{m:Nat}:∀(n:Nat) (w:W),zan n w=true->W.lt m w=true
 |0,_,e=>by cases e
 |n+1,w,e=>by
  cases w<;>simp only[zan]at e<;>try(cases e;done)
  .simp
  .simp
  .simp
  .simp
  .rw[lt_tup]
   exact zqb λw hw=>zgf n w (va1.mp e w hw)
end
section
variable{F:Nat->Option Fn}(C:CoreD F)
include C
theorem zff{k:Nat}:∀(ns:List Int) (x:Option W) (h:VH),∃cells:List Int,lcL (tgW (.one 0)) (ev (run F k) zdl) (ev (run F k) zdm) (ns.map .int) [x] h=.ok (cells.map .int) h/\(∀y∈cells,(0:Int)<=y)/\cells.length<=ns.length
 |[],x,h=>⟨[],rfl,(λy hy=>by cases hy),vad _⟩
 |n::ns,x,h=>by
  obtain⟨cells,e,h1,h2⟩:=zff (k:=k) ns (some (.int n)) h
  have s10:((10:Int).natAbs<2 ^ 64):=by decide
  have ec:ev (run F k) zdl [some (.int n)] h=.ok (.bl (decide (1000000000000000000<=(n.natAbs:Int)))) h:=by
   simp[zdl,ev,biW,absW,opW,opI,cmpW,cmpI,zdg]
  have ee:ev (run F k) zdm [some (.int n)] h=.ok (.int (n.natAbs:Int)) h:=by
   simp[zdm,ev,biW,absW,zdg]
  by_cases q:1000000000000000000<=(n.natAbs:Int)
  .refine⟨(n.natAbs:Int)::cells,?_,λy hy=>?_,by rw[vam,vam];omega⟩
   .simp only[lcL,vav,tgW,List.set,ec,bindok,q,decide_true,ee,e]
   .rcases va0.mp hy with rfl|hy
    .omega
    .exact h1 y hy
  .refine⟨cells,?_,h1,by rw[vam];omega⟩
   simp only[lcL,vav,tgW,List.set,ec,bindok,q,decide_false,e]
theorem deck{k:Nat}{h:VH}{ns:List Int}(hl:ns.length<=63):∃h',run F (k+1) 3 [.fz (ns.map .int)] h=.ok (.ref (h.n+1)) h'/\Dk h' (h.n+1) h.n 0:=by
 rw[zam C.f3 rfl]
 obtain⟨cells,e,h1,h2⟩:=zff C (k:=k) ns none ⟨h.n,h.n,h.os⟩
 have l:=zb4 (nx:=nxt .seq (.fz (ns.map .int))) (tg:=tgW (.one 0)) (c:=ev (run F k) zdl) (e:=ev (run F k) zdm) (ws:=ns.map .int) (λi h=>rfl) fuel 0 [none] ⟨h.n,h.n,h.os⟩ [] (vbu _) (by rw[vaf];unfold fuel;omega)
 rw[vd5,e]at l
 have l:lcG (nxt .seq (.fz (ns.map .int))) (tgW (.one 0)) (ev (run F k) zdl) (ev (run F k) zdm) fuel 0 [none] ⟨h.n,h.n,h.os⟩ []=.ok (cells.map .int) ⟨h.n,h.n,h.os⟩:=l
 have q:ev (run F k) (.lc .seq (.var 0) (.one 0) 1 [] zdl zdm) [some (.fz (ns.map .int))] ⟨h.n,h.n,h.os⟩=.ok (.ref h.n) (VH.new ⟨h.n,h.n,h.os⟩ (.lst (cells.map .int))):=by
  rw[ev]
  have:ev (run F k) (.var 0) [some (.fz (ns.map .int))] ⟨h.n,h.n,h.os⟩=.ok (.fz (ns.map .int)) ⟨h.n,h.n,h.os⟩:=rfl
  rw[this,bindok]
  show(lcG (nxt .seq (.fz (ns.map .int))) (tgW (.one 0)) (ev (run F k) zdl) (ev (run F k) zdm) fuel 0 [none] ⟨h.n,h.n,h.os⟩ []).bind _=_
  rw[l,bindok,if_pos (zdh (by rw[vaf];omega))]
 let h1':VH:=VH.new ⟨h.n,h.n,h.os⟩ (.lst (cells.map .int))
 let o:VO:=.lst [.fz (ns.map .int),.ref h.n,.int 0,.int 0]
 have eb:exs (run F k) fn3.body [some (.fz (ns.map .int))] ⟨h.n,h.n,h.os⟩=.ok (.rt (.ref (h.n+1))) (h1'.new o):=by
  simp only[fn3,exs,ev,bindok,ofsome,List.getElem?_cons_zero,vdk]at q ⊢
  rw[q]
  rfl
 refine⟨⟨h.n+2,if Nat.ble h.lo h.n then h.lo else h.n,(h1'.new o).os⟩,?_,?_⟩
 .show fin h (exs (run F k) fn3.body [some (.fz (ns.map .int))] ⟨h.n,h.n,h.os⟩)=_
  rw[eb]
  show leave h (.ref (h.n+1)) (h1'.new o)=_
  unfold leave
  rw[if_neg (by
   rw[vaa]
   intro z
   have:=z.2
   simp only[W.lt]at this
   have:=zax.mp this
   omega)]
  rfl
 .refine⟨by omega,ns,cells,0,0,?_,?_,h1,by omega,by omega,by omega,by omega⟩
  .show VH.get ⟨(h1'.new o).n,_,(h1'.new o).os⟩ (h.n+1)=_
   rw[get_lo]
   exact zat (h:=h1')
  .show VH.get ⟨(h1'.new o).n,_,(h1'.new o).os⟩ h.n=_
   rw[get_lo,zap (h:=h1') (by show h.n<h.n+1;omega)]
   exact zat (h:=⟨h.n,h.n,h.os⟩)
end
noncomputable def zipW(ws zs:List W):List W:=List.zipWith (λa b=>W.tup [a,b]) ws zs
theorem zo5{ws zs:List W}(i:Nat)(h:VH):nxt .zip (.tup [.tup ws,.tup zs]) i h=some (zipW ws zs)[i]?:=by
 simp only[nxt,seqW,zipW,List.getElem?_zipWith]
 cases ws[i]?<;>cases zs[i]?<;>rfl
theorem zsi{cl:Call}{a:E}{ρ:En}{h h1 h2:VH}{ow:Nat}{ix:List Nat}{e:E}{t:Tg}{ws zs ys:List W}(ea:ev cl a ρ h=.ok (.tup [.tup ws,.tup zs]) h1)(hn:(zipW ws zs).length<1000000)(el:lcL (tgW t) (λ_ h=>.ok (.bl true) h) (ev cl e) (zipW ws zs) (inner ow ix ρ) h1=.ok ys h2)(hy:ys.length<=1000000) :
 ev cl (.lc .zip a t ow ix (.cst (.bl true)) e) ρ h=.ok (.ref h2.n) (h2.new (.lst ys)):=by
 have l:=zb4 (nx:=nxt .zip (.tup [.tup ws,.tup zs])) (tg:=tgW t) (c:=λ_ h=>.ok (.bl true) h) (e:=ev cl e) (ws:=zipW ws zs) (λi h=>zo5 i h) fuel 0 (inner ow ix ρ) h1 [] (vbu _) (by simpa[fuel]using hn)
 rw[vd5,el]at l
 have q:ev cl (.lc .zip a t ow ix (.cst (.bl true)) e) ρ h=(ev cl a ρ h).bind λx h=>(lcG (nxt .zip x) (tgW t) (ev cl (.cst (.bl true))) (ev cl e) fuel 0 (inner ow ix ρ) h []).bind λys h=>if Nat.ble ys.length big then .ok (.ref h.n) (h.new (.lst ys))else .no:=by rw[ev]
 rw[q,ea,bindok]
 show(lcG (nxt .zip (.tup [.tup ws,.tup zs])) (tgW t) (λ_ h=>.ok (.bl true) h) (ev cl e) fuel 0 (inner ow ix ρ) h1 []).bind _=_
 rw[l]
 show(if Nat.ble ([].reverse++ys).length big then _ else _)=_
 rw[List.reverse_nil,vcf,if_pos (zdh hy)]
theorem opE{cl:Call}{o:Op}{a b:E}{ρ:En}{h h1 h2:VH}{x y:W}{r:Res W}(ea:ev cl a ρ h=.ok x h1)(eb:ev cl b ρ h1=.ok y h2)(e:opW o x y h2=r):ev cl (.op o a b) ρ h=r:=by
 rw[ev,ea,bindok,eb,bindok,e]
theorem retE{cl:Call}{a:E}{ρ:En}{h h1:VH}{x:W}(ea:ev cl a ρ h=.ok x h1):exs cl (.ret a) ρ h=.ok (.rt x) h1:=by
 rw[exs,ea,bindok]
theorem setE{cl:Call}{i:Nat}{a:E}{ρ:En}{h h1:VH}{x:W}(ea:ev cl a ρ h=.ok x h1):exs cl (.set i a) ρ h=.ok (.nx (ρ.set i (some x))) h1:=by
 rw[exs,ea,bindok]
theorem varE{cl:Call}{i:Nat}{ρ:En}{h:VH}{x:W}(e:ρ[i]?=some (some x)):ev cl (.var i) ρ h=.ok x h:=by
 rw[ev,e];rfl
theorem idxE{cl:Call}{a b:E}{ρ:En}{h h1 h2:VH}{x y z:W}(ea:ev cl a ρ h=.ok x h1)(eb:ev cl b ρ h1=.ok y h2)(e:idxW h2 x y=some z):ev cl (.idx a b) ρ h=.ok z h2:=by
 rw[ev,ea,bindok,eb,bindok,e];rfl
theorem lenE{cl:Call}{a:E}{ρ:En}{h h1:VH}{x:W}{ws:List W}(ea:ev cl a ρ h=.ok x h1)(e:seqW h1 x=some ws):ev cl (.bi .len (.cons a .nil)) ρ h=.ok (.int ws.length) h1:=by
 rw[ev,ev,ea,bindok,ev,bindok]
 show lenW [x] h1=_
 simp only[lenW,e,ofsome]
theorem zbg{cl:Call}{ρ:En}{h h1 h':VH}{n:Nat}{a:E}{x w:W}(ea:ev cl a ρ h=.ok x h1)(e:cl n [x] h1=.ok w h'):ev cl (.call n (.cons a .nil)) ρ h=.ok w h':=by
 rw[ev,ev,ea,bindok,ev]
 exact e
theorem zen{cl:Call}{ρ:En}{h h1 h2 h':VH}{n:Nat}{a b:E}{x y w:W}(ea:ev cl a ρ h=.ok x h1)(eb:ev cl b ρ h1=.ok y h2)(e:cl n [x,y] h2=.ok w h'):ev cl (.call n (.cons a (.cons b .nil))) ρ h=.ok w h':=by
 rw[ev,ev,ea,bindok,ev,eb,bindok,ev]
 exact e
theorem zjo{cl:Call}{ρ:En}{h h1 h2 h3 h4 h':VH}{n:Nat}{a b c d:E}{x y z u w:W}(ea:ev cl a ρ h=.ok x h1)(eb:ev cl b ρ h1=.ok y h2)(ec:ev cl c ρ h2=.ok z h3)(ed:ev cl d ρ h3=.ok u h4)(e:cl n [x,y,z,u] h4=.ok w h'):ev cl (.call n (.cons a (.cons b (.cons c (.cons d .nil))))) ρ h=.ok w h':=by
 rw[ev,ev,ea,bindok,ev,eb,bindok,ev,ec,bindok,ev,ed,bindok,ev]
 exact e
theorem tup2E{cl:Call}{a b:E}{ρ:En}{h h1 h2:VH}{x y:W}(ea:ev cl a ρ h=.ok x h1)(eb:ev cl b ρ h1=.ok y h2):ev cl (.tup (.cons a (.cons b .nil))) ρ h=.ok (.tup [x,y]) h2:=by
 rw[ev,ev,ea,bindok,ev,eb,bindok,ev];rfl
theorem tup3E{cl:Call}{a b c:E}{ρ:En}{h h1 h2 h3:VH}{x y z:W}(ea:ev cl a ρ h=.ok x h1)(eb:ev cl b ρ h1=.ok y h2)(ec:ev cl c ρ h2=.ok z h3):ev cl (.tup (.cons a (.cons b (.cons c .nil)))) ρ h=.ok (.tup [x,y,z]) h3:=by
 rw[ev,ev,ea,bindok,ev,eb,bindok,ev,ec,bindok,ev];rfl
theorem tup5E{cl:Call}{a b c d e:E}{ρ:En}{h h1 h2 h3 h4 h5:VH}{x y z u v:W}(ea:ev cl a ρ h=.ok x h1)(eb:ev cl b ρ h1=.ok y h2)(ec:ev cl c ρ h2=.ok z h3)(ed:ev cl d ρ h3=.ok u h4)(ee:ev cl e ρ h4=.ok v h5):ev cl (.tup (.cons a (.cons b (.cons c (.cons d (.cons e .nil)))))) ρ h=.ok (.tup [x,y,z,u,v]) h5:=by
 rw[ev,ev,ea,bindok,ev,eb,bindok,ev,ec,bindok,ev,ed,bindok,ev,ee,bindok,ev];rfl
theorem slcE{cl:Call}{a lo hi:E}{bl bh:Bool}{ρ:En}{h h1 h2 h3 h4:VH}{x l u w:W}{l' u':Option Int}(ea:ev cl a ρ h=.ok x h1)(el:ev cl lo ρ h1=.ok l h2)(eu:ev cl hi ρ h2=.ok u h3)(pl:partW bl l=some l')(pu:partW bh u=some u')(e:slcW x l' u' h3=.ok w h4):ev cl (.slc a bl lo bh hi) ρ h=.ok w h4:=by
 rw[ev,ea,bindok,el,bindok,eu,bindok,pl,pu]
 exact e
theorem iteF{cl:Call}{c:E}{a b:S}{ρ:En}{h h1:VH}(e:ev cl c ρ h=.ok (.bl false) h1):exs cl (.ite c a b) ρ h=exs cl b ρ h1:=by
 rw[exs,e];rfl
theorem iteT{cl:Call}{c:E}{a b:S}{ρ:En}{h h1:VH}(e:ev cl c ρ h=.ok (.bl true) h1):exs cl (.ite c a b) ρ h=exs cl a ρ h1:=by
 rw[exs,e];rfl
theorem truE{cl:Call}{a:E}{ρ:En}{h h1:VH}{b:Bool}(e:ev cl a ρ h=.ok (.bl b) h1):ev cl (.tru a) ρ h=.ok (.bl b) h1:=by
 rw[ev,e,bindok];rfl
theorem exprE{cl:Call}{a:E}{ρ:En}{h h1:VH}{x:W}(ea:ev cl a ρ h=.ok x h1):exs cl (.expr a) ρ h=.ok (.nx ρ) h1:=by
 rw[exs,ea,bindok]
theorem neF{cl:Call}{a b:E}{ρ:En}{h h1 h2:VH}{w:W}(ea:ev cl a ρ h=.ok w h1)(eb:ev cl b ρ h1=.ok w h2)(p:zan 24 w=true):ev cl (.cmp .ne a b) ρ h=.ok (.bl false) h2:=by
 rw[ev,ea,bindok,eb,bindok]
 simp only[cmpW,zji p,vb2,ofsome,vdy]
theorem notT{cl:Call}{a:E}{ρ:En}{h h1:VH}{b:Bool}(ea:ev cl a ρ h=.ok (.bl b) h1):ev cl (.not (.tru a)) ρ h=.ok (.bl (!b)) h1:=by
 rw[ev,truE ea,bindok]
theorem orF{cl:Call}{a b:E}{ρ:En}{h h1 h2:VH}{r:Bool}(ea:ev cl a ρ h=.ok (.bl false) h1)(eb:ev cl b ρ h1=.ok (.bl r) h2):ev cl (.or a b) ρ h=.ok (.bl r) h2:=by
 rw[ev,ea,bindok];exact eb
noncomputable def mirW(w:W):W:=match w with
 |.tup [.int g,.int s]=>.tup [.int g,.int (1-s)]
 |.str x=>if x==sLt then .str sGt else if x==sGt then .str sLt else .str x
 |w=>w
noncomputable def mirF(wd:Int)(w:W):W:=match w with
 |.int c=>.int (wd-1-c)
 |w=>w
noncomputable def mirR(r:List W):List W:=r.reverse.map mirW
noncomputable def mirB(B:Bd):Bd:=⟨B.wd,B.gr,B.rows.map mirR,B.fd.map (mirF B.wd),B.dr.reverse⟩
theorem mir_x:mirW (.str sX)=.str sX:=rfl
theorem zv9:mirW (.str sLt)=.str sGt:=rfl
theorem zwa:mirW (.str sGt)=.str sLt:=rfl
theorem zwb{a b:Nat}:mirW (.tup [.int a,.int b])=.tup [.int a,.int (1- (b:Int))]:=rfl
theorem mm_x{c wd g:Int}(h1:0<c)(h2:c<wd-1):zab (.str sX) c wd g=true:=by
 unfold zab
 rw[if_pos (show(isS (.str sX) "x" || za6 (.str sX) g)=true from rfl),vc5 h1,vc5 h2];rfl
theorem mm_lt{c wd g:Int}(h1:0<c):zab (.str sLt) c wd g=true:=vc5 h1
theorem mm_gt{c wd g:Int}(h2:c<wd-1):zab (.str sGt) c wd g=true:=vc5 h2
theorem zwc{c wd g:Int}:zab (.str sDot) c wd g=true:=rfl
theorem mm_s{c wd g:Int}:zab (.str sS) c wd g=true:=rfl
theorem mm_rk{a b:Int}{c wd g:Int}(a0:0<=a)(a1:a<g)(b0:0<=b)(b1:b<=1)(h1:0<c)(h2:c<wd-1):zab (.tup [.int a,.int b]) c wd g=true:=by
 have hr:za6 (.tup [.int a,.int b]) g=true:=by
  show(within (.int a) 0 (g-1)&&within (.int b) 0 1)=true
  simp only[within,vaa,vap]
  omega
 unfold zab
 rw[hr,vd6,if_pos rfl,vc5 h1,vc5 h2];rfl
theorem zsj{w:W}{c wd g:Int}(h:zab w c wd g=true):zab (mirW w) (wd-1-c) wd g=true:=by
 rcases zbz h with⟨rfl,h3,h4⟩|⟨rfl,h3⟩|⟨rfl,h3⟩|rfl|rfl|⟨p,q,rfl,h3,h4,h5,h6⟩
 .rw[mir_x];exact mm_x (by omega) (by omega)
 .rw[zv9];exact mm_gt (by omega)
 .rw[zwa];exact mm_lt (by omega)
 .exact zwc
 .exact mm_s
 .rw[zwb];exact mm_rk (by omega) (by omega) (by omega) (by omega) (by omega) (by omega)
theorem zjp{wd g:Int}:∀{ws:List W} {c:Int},(∀i w,ws[i]?=some w->zab w (c+ (i:Nat)) wd g=true)->rowOk wd g c ws
 |[],_,_=>trivial
 |w::r,c,h=>by
  refine⟨?_,zjp λi x e=>?_⟩
  .have:=h 0 w rfl
   simpa using this
  .have:=h (i+1) x e
   rw[show c+ ((i+1:Nat):Int)=c+1+ (i:Int) by omega]at this
   exact this
theorem zm7{r:List W}{i:Nat}(hi:i<r.length):(mirR r)[i]?=(r[r.length-1-i]?).map mirW:=by
 unfold mirR
 rw[vbm,List.getElem?_reverse hi]
theorem zsk{wd g:Int}{r:List W}(h:(r.length:Int)=wd/\rowOk wd g 0 r):((mirR r).length:Int)=wd/\rowOk wd g 0 (mirR r):=by
 have hl:(mirR r).length=r.length:=by unfold mirR;rw[vaf,vbl]
 refine⟨by rw[hl];exact h.1,zjp λi w e=>?_⟩
 have hi:i<r.length:=by rw[<-hl];exact(van.mp e).1
 rw[zm7 hi]at e
 cases q:r[r.length-1-i]? with
 |none=>rw[q]at e;cases e
 |some x=>
  rw[q]at e
  cases e
  have:=zsj (zjn _ h.2 q)
  have e1:=h.1
  rw[show wd-1- (0+ ((r.length-1-i:Nat):Int))=0+ (i:Int) by omega]at this
  exact this
theorem zm8{B:Bd}(b:B.Ok):(mirB B).Ok where
 w1:=b.w1
 w2:=b.w2
 g1:=b.g1
 g2:=b.g2
 r1:=by show(B.rows.map mirR).length<=60;rw[vaf];exact b.r1
 r2:=λr hr=>by
  obtain⟨x,hx,rfl⟩:=vdq.mp (show r∈B.rows.map mirR from hr)
  exact zsk (b.r2 x hx)
 f1:=by show 1<=(B.fd.map (mirF B.wd)).length;rw[vaf];exact b.f1
 f2:=by show(B.fd.map (mirF B.wd)).length<=4;rw[vaf];exact b.f2
 f3:=λf hf=>by
  obtain⟨x,hx,rfl⟩:=vdq.mp (show f∈B.fd.map (mirF B.wd)from hf)
  have:=b.f3 x hx
  cases x<;>simp only[within]at this<;>try(cases this;done)
  rw[vaa,vap,vap]at this
  show(decide _&&decide _)=true
  rw[vaa,vap,vap]
  show 0<=B.wd-1-_/\B.wd-1-_<=B.wd-1
  omega
 d1:=by show(B.dr.reverse.length:Int)=B.wd;rw[vbl];exact b.d1
 d2:=λd hd=>by
  have:=b.d2 d (List.mem_reverse.mp (show d∈B.dr.reverse from hd))
  show door d ((B.fd.map (mirF B.wd)).length:Nat)=true
  rw[vaf];exact this
noncomputable def zjq:E:=(.call 189 (.cons (.var 0) .nil))
noncomputable def zgg:E:=(.bi .tuple (.cons (.lc .seq (.bi .rev (.cons (.var 0) (.cons (.neg (.cst (.int (1)))) .nil))) (.one 0) 1 [] (.cst (.bl true)) zjq) .nil))
noncomputable def zjr:E:=(.op .sub (.op .sub (.var 1) (.cst (.int (1)))) (.var 0))
noncomputable def fn188:Fn:=⟨1,8,(.seq (.expr (.call 14 (.cons (.var 0) .nil))) (.seq (.unp [1,2,3,4,5] (.var 0)) (.seq (.set 6 (.bi .tuple (.cons (.lc .seq (.var 3) (.one 0) 1 [] (.cst (.bl true)) zgg) .nil))) (.seq (.set 7 (.bi .tuple (.cons (.lc .seq (.var 4) (.one 0) 1 [1] (.cst (.bl true)) zjr) .nil))) (.seq (.ret (.tup (.cons (.var 1) (.cons (.var 2) (.cons (.var 6) (.cons (.var 7) (.cons (.bi .rev (.cons (.var 5) (.cons (.neg (.cst (.int (1)))) .nil))) .nil))))))) .skip)))))⟩
noncomputable def fn189:Fn:=⟨1,3,(.seq (.ite (.tru (.isi .tuple (.var 0))) (.seq (.unp [1,2] (.var 0)) (.seq (.ret (.tup (.cons (.var 1) (.cons (.op .sub (.cst (.int (1))) (.var 2)) .nil)))) .skip)) .skip) (.seq (.ret (.bi .cget (.cons (.cst (.tup [(.tup [(.str (PySem.Str.ofString "<")),(.str (PySem.Str.ofString ">"))]),(.tup [(.str (PySem.Str.ofString ">")),(.str (PySem.Str.ofString "<"))])])) (.cons (.var 0) (.cons (.var 0) .nil))))) .skip))⟩
theorem revE{cl:Call}{a:E}{ρ:En}{h h1:VH}{ws:List W}(ea:ev cl a ρ h=.ok (.tup ws) h1):ev cl (.bi .rev (.cons a (.cons (.neg (.cst (.int (1)))) .nil))) ρ h=.ok (.tup ws.reverse) h1:=by
 rw[ev,ev,ea,bindok];rfl
theorem unp5T{cl:Call}{a b c d f:Nat}{e:E}{ρ:En}{h h1:VH}{x y z u v:W}(ee:ev cl e ρ h=.ok (.tup [x,y,z,u,v]) h1):exs cl (.unp [a,b,c,d,f] e) ρ h=.ok (.nx (((((ρ.set a (some x)).set b (some y)).set c (some z)).set d (some u)).set f (some v))) h1:=by
 rw[exs,ee,bindok];rfl
noncomputable def mirT(w:W):W:=match w with
 |.tup r=>.tup (mirR r)
 |w=>w
section
variable{F:Nat->Option Fn}(f189:F 189=some fn189)
include f189
theorem zm9{k:Nat}{h:VH}{w:W}{c wd g:Int}(hm:zab w c wd g=true):run F (k+1) 189 [w] h=.ok (mirW w) h:=by
 rw[zam f189 rfl]
 have eb:exs (run F k) fn189.body [some w,none,none] ⟨h.n,h.n,h.os⟩=.ok (.rt (mirW w)) ⟨h.n,h.n,h.os⟩/\∀m,W.lt m (mirW w)=true:=by
  rcases zbz hm with⟨rfl,h3,h4⟩|⟨rfl,h3⟩|⟨rfl,h3⟩|rfl|rfl|⟨p,q,rfl,h3,h4,h5,h6⟩<;>exact⟨rfl,λ_=>rfl⟩
 show fin h (exs (run F k) fn189.body [some w,none,none] ⟨h.n,h.n,h.os⟩)=_
 rw[eb.1]
 exact zjl (n:=0) .refl eb.2
theorem zo6{k:Nat}{h:VH}{r:List W}{wd g:Int}(hr:(r.length:Int)=wd/\rowOk wd g 0 r)(hw:wd<=40):∃h',ev (run F (k+1)) zgg [some (.tup r)] h=.ok (.tup (mirR r)) h'/\Gw h h':=by
 have e1:=hr.1
 obtain⟨h',e,gw⟩:=zem (cl:=run F (k+1)) (e:=zjq) (tl:=[]) (f:=mirW) r.reverse none h λw hw h=>⟨h,zbg (varE rfl) (zm9 f189 (zb0 hr.2 w (List.mem_reverse.mp hw)).choose_spec),.refl⟩
 have hl:(r.reverse.map mirW).length<=1000000:=by rw[vaf,vbl];omega
 exact⟨_,zgd (revE (varE rfl)) (by rw[vbl];omega) e hl,gw.new⟩
end
section
variable{F:Nat->Option Fn}(C:CoreB F)(f188:F 188=some fn188)(f189:F 189=some fn189)
include C f188 f189
theorem zhp{k:Nat}{h:VH}{B:Bd}(b:B.Ok):run F (k+8) 188 [B.w] h=.ok (mirB B).w h:=by
 rw[zam f188 rfl]
 have e1:=zcy C (k:=k) (h:=⟨h.n,h.n,h.os⟩) b
 have hw2:=b.w2
 have hr1:=b.r1
 have hf2:=b.f2
 obtain⟨h2,e2,g2⟩:=zem (cl:=run F (k+7)) (e:=zgg) (tl:=[]) (f:=mirT) (B.rows.map .tup) none ⟨h.n,h.n,h.os⟩ λw hw h=>by
  obtain⟨r,hr,rfl⟩:=vdq.mp hw
  exact zo6 f189 (k:=k+6) (b.r2 r hr) hw2
 have m2:(B.rows.map W.tup).map mirT=(B.rows.map mirR).map W.tup:=by rw[vei,vei];rfl
 rw[m2]at e2
 obtain⟨h3,e3,g3⟩:=zem (cl:=run F (k+7)) (e:=zjr) (tl:=[some (.int B.wd)]) (f:=mirF B.wd) B.fd none (h2.new (.lst ((B.rows.map mirR).map .tup))) λw hw h=>by
  have:=b.f3 w hw
  cases w<;>simp only[within]at this<;>try(cases this;done)
  exact⟨h,rfl,.refl⟩
 have hl2:((B.rows.map mirR).map W.tup).length<=1000000:=by rw[vaf,vaf];omega
 have hl3:(B.fd.map (mirF B.wd)).length<=1000000:=by rw[vaf];omega
 have eb:exs (run F (k+7)) fn188.body [some B.w,none,none,none,none,none,none,none] ⟨h.n,h.n,h.os⟩=.ok (.rt (mirB B).w) (h3.new (.lst (B.fd.map (mirF B.wd)))):=
  (zac (exprE (zbg (varE rfl) e1))).trans ((zac (unp5T (varE rfl))).trans
    ((zac (setE (zgd (varE rfl) (by rw[vaf];omega) e2 hl2))).trans
    ((zac (setE (zgd (varE rfl) (by omega) e3 hl3))).trans
    (zah (retE (tup5E (varE rfl) (varE rfl) (varE rfl) (varE rfl) (revE (varE rfl))))))))
 have hpl:=zjm (zm8 b)
 show fin h (exs (run F (k+7)) fn188.body [some B.w,none,none,none,none,none,none,none] ⟨h.n,h.n,h.os⟩)=_
 rw[eb]
 exact zjl (n:=0) (g2.new.trans g3.new) λm=>zgf 24 _ hpl
end
section
variable{cl:Call}{ρ:En}{h h1 h2 h3 h':VH}{a b r:E}
theorem consE{x:W}{xs:List W}(ea:ev cl a ρ h=.ok x h1)(er:ev cl r ρ h1=.ok (.tup xs) h2):ev cl (.cons a r) ρ h=.ok (.tup (x::xs)) h2:=by
 rw[ev,ea,bindok,er];rfl
theorem orT(ea:ev cl a ρ h=.ok (.bl true) h1):ev cl (.or a b) ρ h=.ok (.bl true) h1:=by rw[ev,ea,bindok]
theorem nilE:ev cl .nil ρ h=.ok (.tup []) h:=by rw[ev]
theorem cstE{w:W}:ev cl (.cst w) ρ h=.ok w h:=by rw[ev]
theorem lstE{ys:List W}(ea:ev cl a ρ h=.ok (.tup ys) h1)(hl:Nat.ble ys.length 1000=true):ev cl (.lst a) ρ h=.ok (.ref h1.n) (h1.new (.lst ys)):=by
 rw[ev,ea,bindok]
 show(if Nat.ble ys.length 1000=true then _ else _)=_
 rw[if_pos hl]
variable{f:Nat}{ys:List W}{s t:S}{c:Bool}
theorem telX{i:Int}(ea:ev cl a ρ h=.ok (.tup ys) h1)(ec:cl f ys h1=.ok (.int i) h2):exs cl (.tel f a c s t) ρ h=.ok (.rt (.int i)) h2:=by
 rw[exs,ea,bindok]
 show(cl f ys h1).bind _=_
 rw[ec];rfl
end
theorem Dk.ltn{h:VH}{d c b:Nat}(D:Dk h d c b):d<h.n/\c<h.n:=by
 obtain⟨ne,ns,cells,p,q,a1,a2,a3⟩:=D
 exact⟨zar a1,zar a2⟩
theorem draw{F:Nat->Option Fn}(C:CoreD F){k:Nat}{h h1:VH}{ρ:En}{e:E}{ys:List W}{m:Int}{i d c b:Nat}(e0:ρ[i]?=some (some (.ref d)))(ea:ev (run F (k+3)) e ρ h=.ok (.tup ys) h1)(hl:(ys.length:Int)=m)(hm:0<m)(hm2:m<=1000)(D:Dk h1 d c b)(hb:b<1000000000) :
 ∃w h',ev (run F (k+3)) (.idx (.lst e) (.call 5 (.cons (.var i) (.cons (.cst (.int m)) .nil)))) ρ h=.ok w h'/\w∈ys/\Dk h' d c (b+1)/\Keep h1 h' d c:=by
 have l1:=D.ltn
 obtain⟨r,h',e1,a1,b1,D1,K1⟩:=take C (k:=k) (m:=m) (D.new (o:=.lst ys)) hb hm (by omega)
 obtain⟨j,rfl⟩:=va8 a1
 have hj:j<ys.length:=by omega
 have g:h'.get h1.n=some (.lst ys):=K1.get _ _ (by omega) (by omega) zat
 refine⟨ys[j],h',idxE (lstE ea (vdc.mpr (by omega))) (zen (varE e0) cstE e1) ?_,vc3 hj,D1,(Keep.refl.new).trans K1⟩
 simp only[idxW,g]
 exact zd1 (vao hj)
theorem allE{cl:Call}{a:E}{ρ:En}{h h1:VH}{j:Nat}{n:Nat}(ea:ev cl a ρ h=.ok (.ref j) h1)(g:h1.get j=some (.lst (List.replicate n (.bl true)))):ev cl (.bi .all (.cons a .nil)) ρ h=.ok (.bl true) h1:=by
 have hm:mapO blW (List.replicate n (W.bl true))=some (List.replicate n true):=by
  clear g
  induction n with
  |zero=>rfl
  |succ n ih=>simp only[vba,mapO,blW,ih]
 have ha:(List.replicate n true).all id=true:=by
  rw[va1];intro x hx;exact(List.mem_replicate.mp hx).2
 rw[ev,consE ea nilE,bindok]
 show allW [.ref j] h1=_
 simp only[allW,g,hm,vb2,ha,ofsome]
theorem addT{xs ys:List W}{h:VH}(hl:xs.length+ys.length<=1000000):opW .add (.tup xs) (.tup ys) h=.ok (.tup (xs++ys)) h:=by
 simp only[opW,opT,zdh hl,vbk,vb2,ofsome]
theorem zsl{h h':VH}{w:W}:∃h2,fin h (.ok (.rt w) h')=.ok w h2:=by
 show ∃h2,leave h w h'=.ok w h2
 unfold leave
 split
 .exact⟨_,rfl⟩
 .exact⟨_,rfl⟩
noncomputable def zbh:S:=(.seq (.set 10 (.idx (.var 7) (.op .sub (.op .sub (.var 1) (.cst (.int (1)))) (.var 9)))) (.seq (.ite (.or (.cmp .eq (.var 10) (.cst (.str (PySem.Str.ofString "<")))) (.cmp .eq (.var 10) (.cst (.str (PySem.Str.ofString ">"))))) (.seq (.set 10 (.idx (.lst (.cons (.cst (.str (PySem.Str.ofString ">"))) (.cons (.cst (.str (PySem.Str.ofString "<"))) .nil))) (.bi .int (.cons (.cmp .eq (.var 10) (.cst (.str (PySem.Str.ofString ">")))) .nil)))) .skip) (.seq (.ite (.not (.tru (.isi .str (.var 10)))) (.seq (.set 10 (.tup (.cons (.idx (.var 10) (.cst (.int (0)))) (.cons (.idx (.lst (.cons (.cst (.int (1))) (.cons (.cst (.int (0))) .nil))) (.idx (.var 10) (.cst (.int (1))))) .nil)))) .skip) .skip) .skip)) (.seq (.expr (.mt .append (.var 8) (.cons (.var 10) .nil))) .skip)))
noncomputable def zbi:S:=(.seq (.set 8 (.lst .nil)) (.seq (.«for» .rng1 (.cons (.var 1) .nil) (.one 9) zbh) (.seq (.expr (.mt .append (.var 6) (.cons (.bi .tuple (.cons (.var 8) .nil)) .nil))) .skip)))
noncomputable def zeo:E:=(.op .sub (.op .sub (.var 1) (.cst (.int (1)))) (.var 0))
noncomputable def zc0:Fn:=⟨1,11,(.seq (.unp [1,2,3,4,5] (.var 0)) (.seq (.set 6 (.lst .nil)) (.seq (.«for» .seq (.var 3) (.one 7) zbi) (.seq (.ret (.tup (.cons (.var 1) (.cons (.var 2) (.cons (.bi .tuple (.cons (.var 6) .nil)) (.cons (.bi .tuple (.cons (.lc .seq (.var 4) (.one 0) 1 [1] (.cst (.bl true)) zeo) .nil)) (.cons (.bi .rev (.cons (.var 5) (.cons (.neg (.cst (.int (1)))) .nil))) .nil))))))) .skip))))⟩
noncomputable def zcf:E:=(.call 701 (.cons (.var 0) (.cons (.var 1) .nil)))
noncomputable def zbu:Fn:=⟨2,2,(.seq (.ite (.tru (.isi .tuple (.var 1))) (.seq (.ite (.or (.not (.tru (.isi .tuple (.var 0)))) (.cmp .ne (.bi .len (.cons (.var 0) .nil)) (.bi .len (.cons (.var 1) .nil)))) (.seq (.ret (.cst (.bl false))) .skip) .skip) (.seq (.ret (.bi .all (.cons (.lc .zip (.cons (.var 0) (.cons (.var 1) .nil)) (.many [0,1]) 2 [] (.cst (.bl true)) zcf) .nil))) .skip)) .skip) (.seq (.ite (.tru (.isi .str (.var 1))) (.seq (.ret (.and (.isi .str (.var 0)) (.cmp .eq (.var 0) (.var 1)))) .skip) .skip) (.seq (.ite (.cmp .isn (.var 1) (.cst .non)) (.seq (.ret (.cmp .isn (.var 0) (.cst .non))) .skip) .skip) (.seq (.ret (.and (.isi .int (.var 0)) (.and (.not (.isi .bool (.var 0))) (.cmp .eq (.var 0) (.var 1))))) .skip))))⟩
noncomputable def zb5:Fn:=⟨1,2,(.seq (.try2 705 (.cons (.var 0) .nil) [(.mk 37 (.tup [(.str (PySem.Str.ofString "board")),(.int (0)),(.int (0))]))] [(.mk 56 (PySem.Str.ofString "fault"))]) (.seq (.ret (.tup (.cons (.cst (.str (PySem.Str.ofString "told"))) (.cons (.cst (.int (0))) (.cons (.cst (.int (0))) .nil))))) .skip))⟩
noncomputable def zc1:Fn:=⟨1,14,(.seq (.set 1 (.call 3 (.cons (.var 0) .nil))) (.seq (.set 2 (.call 5 (.cons (.var 1) (.cons (.cst (.int (8))) .nil)))) (.seq (.set 3 (.call 26 (.cons (.var 1) (.cons (.idx (.lst (.cons (.cst (.int (9))) (.cons (.cst (.int (9))) (.cons (.cst (.int (9))) (.cons (.cst (.int (9))) (.cons (.cst (.int (9))) (.cons (.cst (.int (9))) (.cons (.cst (.int (9))) (.cons (.cst (.int (40))) .nil))))))))) (.var 2)) (.cons (.idx (.lst (.cons (.cst (.int (8))) (.cons (.cst (.int (8))) (.cons (.cst (.int (8))) (.cons (.cst (.int (8))) (.cons (.cst (.int (8))) (.cons (.cst (.int (8))) (.cons (.cst (.int (60))) (.cons (.cst (.int (3))) .nil))))))))) (.var 2)) (.cons (.cst (.int (8))) .nil)))))) (.seq (.set 4 (.call 188 (.cons (.var 3) .nil))) (.seq (.ite (.or (.not (.tru (.call 701 (.cons (.var 4) (.cons (.call 700 (.cons (.var 3) .nil)) .nil))))) (.cmp .notn (.call 14 (.cons (.var 4) .nil)) (.cst .non))) (.seq (.ret (.cst (.bl false))) .skip) .skip) (.seq (.ite (.or (.not (.tru (.call 701 (.cons (.call 188 (.cons (.var 4) .nil)) (.cons (.var 3) .nil))))) (.not (.tru (.call 701 (.cons (.call 188 (.cons (.var 3) .nil)) (.cons (.var 4) .nil)))))) (.seq (.ret (.cst (.bl false))) .skip) .skip) (.seq (.unp [5,6,7,8,9] (.var 3)) (.seq (.set 10 (.call 5 (.cons (.var 1) (.cons (.var 5) .nil)))) (.seq (.set 11 (.idx (.lst (.cons (.cst .non) (.cons (.cst (.str (PySem.Str.ofString "X"))) (.cons (.tup (.cons (.var 6) (.cons (.cst (.int (0))) .nil))) (.cons (.tup (.cons (.cst (.int (0))) (.cons (.cst (.int (2))) .nil))) (.cons (.cst (.int (7))) .nil)))))) (.call 5 (.cons (.var 1) (.cons (.cst (.int (5))) .nil))))) (.seq (.set 12 (.op .mul (.lst (.cons (.cst (.str (PySem.Str.ofString "."))) .nil)) (.var 5))) (.seq (.put (.var 12) (.var 10) (.var 11)) (.seq (.set 13 (.tup (.cons (.var 5) (.cons (.var 6) (.cons (.op .add (.slc (.var 7) false (.cst .non) true (.cst (.int (59)))) (.slc (.tup (.cons (.bi .tuple (.cons (.var 12) .nil)) (.cons (.bi .tuple (.cons (.var 12) .nil)) .nil))) false (.cst .non) true (.op .sub (.cst (.int (60))) (.bi .len (.cons (.slc (.var 7) false (.cst .non) true (.cst (.int (59)))) .nil))))) (.cons (.var 8) (.cons (.var 9) .nil))))))) (.seq (.ite (.cmp .ne (.call 702 (.cons (.var 13) .nil)) (.tup (.cons (.cst (.str (PySem.Str.ofString "fault"))) (.cons (.bi .len (.cons (.slc (.var 7) false (.cst .non) true (.cst (.int (59)))) .nil)) (.cons (.var 10) .nil))))) (.seq (.ret (.cst (.bl false))) .skip) .skip) (.seq (.ret (.cmp .eq (.call 702 (.cons (.tup (.cons (.var 5) (.cons (.var 6) (.cons (.idx (.var 13) (.cst (.int (2)))) (.cons (.var 8) (.cons (.op .add (.var 9) (.slc (.var 9) false (.cst .non) true (.cst (.int (1))))) .nil)))))) .nil)) (.tup (.cons (.cst (.str (PySem.Str.ofString "board"))) (.cons (.cst (.int (0))) (.cons (.cst (.int (0))) .nil)))))) .skip))))))))))))))⟩
noncomputable def za9:S:=(.seq (.ite (.not (.tru (.call 15 (.cons (.var 7) (.cons (.var 6) (.cons (.var 1) (.cons (.var 2) .nil))))))) (.seq (.rsj 56 (.cons (.var 4) (.cons (.var 6) .nil))) .skip) .skip) .skip)
noncomputable def zba:S:=(.seq (.«for» .enm (.var 5) (.many [6,7]) za9) .skip)
noncomputable def zbk:Fn:=⟨1,8,(.seq (.seq (.ite (.not (.tru (.call 10 (.cons (.var 0) .nil)))) (.seq (.ret (.cst (.int (37)))) .skip) .skip) (.seq (.unp [1,2,3] (.slc (.var 0) false (.cst .non) true (.cst (.int (3))))) (.seq (.«for» .enm (.var 3) (.many [4,5]) zba) .skip))) (.ret (.cst (.tup [.non]))))⟩
noncomputable def zil:E:=(.call 189 (.cons (.var 0) .nil))
noncomputable def zim:E:=(.bi .tuple (.cons (.lc .seq (.bi .rev (.cons (.var 0) (.cons (.neg (.cst (.int (1)))) .nil))) (.one 0) 1 [] (.cst (.bl true)) zil) .nil))
noncomputable def zin:E:=(.op .sub (.op .sub (.var 1) (.cst (.int (1)))) (.var 0))
noncomputable def zb6:Fn:=⟨1,8,(.seq (.seq (.tel 704 (.cons (.var 0) .nil) false .skip .skip) (.seq (.unp [1,2,3,4,5] (.var 0)) (.seq (.set 6 (.bi .tuple (.cons (.lc .seq (.var 3) (.one 0) 1 [] (.cst (.bl true)) zim) .nil))) (.seq (.set 7 (.bi .tuple (.cons (.lc .seq (.var 4) (.one 0) 1 [1] (.cst (.bl true)) zin) .nil))) (.seq (.ret (.tup (.cons (.tup (.cons (.var 1) (.cons (.var 2) (.cons (.var 6) (.cons (.var 7) (.cons (.bi .rev (.cons (.var 5) (.cons (.neg (.cst (.int (1)))) .nil))) .nil)))))) .nil))) .skip))))) (.ret (.cst (.tup [.non]))))⟩
structure C03(F:Nat->Option Fn):Prop where
 q:CoreQ F
 b:CoreB F
 f188:F 188=some fn188
 f189:F 189=some fn189
 f700:F 700=some zc0
 f701:F 701=some zbu
 f702:F 702=some zb5
 f703:F 703=some zc1
 t0:F 704=some zbk
 t1:F 705=some zb6
noncomputable def nestS:Nat->W->Bool
 |_,.int _=>true
 |_,.non=>true
 |_,.str x=>PyData.strOk x
 |n+1,.tup ws=>Nat.ble ws.length 5000&&ws.all (nestS n)
 |_,_=>false
theorem zhq{cl:Call}{e:E}:∀(ws:List W) (x y:Option W) (h:VH),(∀w∈ws,∀h,ev cl e [some w,some w] h=.ok (.bl true) h)->lcL (tgW (.many [0,1])) (λ_ h=>.ok (.bl true) h) (ev cl e) (zipW ws ws) [x,y] h=.ok (List.replicate ws.length (.bl true)) h
 |[],x,y,h,_=>rfl
 |a::ws,x,y,h,hs=>by
  have e1:=hs a vaq h
  have e2:=zhq (e:=e) ws (some a) (some a) h λw hw=>hs w (vai _ hw)
  show lcL _ _ _ (.tup [a,a]::zipW ws ws) _ _=_
  simp only[lcL,tgW,seqW,za4,List.set,bindok,e1,e2];rfl
section
variable{F:Nat->Option Fn}(C:C03 F)
include C
theorem zqc:∀(n:Nat) {k:Nat} {h:VH} {w:W},nestS n w=true->run F (k+n+1) 701 [w,w] h=.ok (.bl true) h:=by
 have hint:∀{k:Nat}{h:VH}{i:Int},run F (k+1) 701 [.int i,.int i] h=.ok (.bl true) h:=by
  intro k h i
  rw[zam C.f701 rfl]
  simp[zbu,exs,ev,truW,cmpW,isNon,zaz,zal]
 have hnon:∀{k:Nat}{h:VH},run F (k+1) 701 [.non,.non] h=.ok (.bl true) h:=by
  intro k h
  rw[zam C.f701 rfl]
  simp[zbu,exs,ev,truW,cmpW,isNon,zal]
 have hstr:∀{k:Nat}{h:VH}{x:Str},PyData.strOk x=true->run F (k+1) 701 [.str x,.str x] h=.ok (.bl true) h:=by
  intro k h x hx
  rw[zam C.f701 rfl]
  simp[zbu,exs,ev,truW,cmpW,isNon,eqS hx hx,zal]
 intro n
 induction n with
 |zero=>
  intro k h w hw
  cases w<;>simp only[nestS]at hw<;>first|exact hint|exact hnon|exact hstr hw|cases hw
 |succ n ih=>
  intro k h w hw
  cases w<;>simp only[nestS]at hw<;>first|(exact hint (k:=k+n+1))|(exact hnon (k:=k+n+1))|(exact hstr (k:=k+n+1) hw)|(cases hw;done)|skip
  rename_i ws
  rw[vaa]at hw
  have hlen:=vay hw.1
  have hall:=va1.mp hw.2
  rw[show k+ (n+1)+1=(k+n+1)+1 by omega,zam C.f701 rfl]
  have hz:(zipW ws ws).length<1000000:=by unfold zipW;rw[List.length_zipWith];omega
  have e1:=zhq (cl:=run F (k+n+1)) (e:=zcf) ws none none ⟨h.n,h.n,h.os⟩ λw hw h=>zen (varE rfl) (varE rfl) (ih (k:=k) (hall w hw))
  have e2:=zsi (cl:=run F (k+n+1)) (a:=.cons (.var 0) (.cons (.var 1) .nil)) (ρ:=[some (.tup ws),some (.tup ws)]) (h:=⟨h.n,h.n,h.os⟩) (h1:=⟨h.n,h.n,h.os⟩) (ow:=2) (ix:=[]) (e:=zcf) (t:=.many [0,1]) rfl hz e1 (by rw[vb8];omega)
  have e3:=allE e2 zat
  have e4:ev (run F (k+n+1)) (.or (.not (.tru (.isi .tuple (.var 0)))) (.cmp .ne (.bi .len (.cons (.var 0) .nil)) (.bi .len (.cons (.var 1) .nil)))) [some (.tup ws),some (.tup ws)] ⟨h.n,h.n,h.os⟩=.ok (.bl false) ⟨h.n,h.n,h.os⟩:=by
   simp[ev,biW,lenW,seqW,cmpW,zaz,truW]
  have e5:ev (run F (k+n+1)) (.tru (.isi .tuple (.var 1))) [some (.tup ws),some (.tup ws)] ⟨h.n,h.n,h.os⟩=.ok (.bl true) ⟨h.n,h.n,h.os⟩:=by
   simp[ev,truW]
  have eb:exs (run F (k+n+1)) zbu.body [some (.tup ws),some (.tup ws)] ⟨h.n,h.n,h.os⟩=.ok (.rt (.bl true)) (VH.new ⟨h.n,h.n,h.os⟩ (.lst (List.replicate ws.length (.bl true)))):=by
   refine zah ?_
   rw[iteT e5]
   exact(zac ((iteF e4).trans rfl)).trans (zah (retE e3))
  show fin h (exs (run F (k+n+1)) zbu.body [some (.tup ws),some (.tup ws)] ⟨h.n,h.n,h.os⟩)=_
  rw[eb]
  exact zal (vad _) lt_bl
end
section
variable{F:Nat->Option Fn}(B':CoreB F)(t0:F 704=some zbk)
include B' t0
theorem zsm{k:Nat}{h:VH}{w:W}(e1:run F (k+6) 10 [w] ⟨h.n,h.n,h.os⟩=.ok (.bl false) ⟨h.n,h.n,h.os⟩):run F (k+7) 704 [w] h=.ok (.int 37) h:=by
 rw[zam t0 rfl]
 show fin h (exs (run F (k+6)) zbk.body [some w,none,none,none,none,none,none,none] ⟨h.n,h.n,h.os⟩)=_
 rw[show exs (run F (k+6)) zbk.body [some w,none,none,none,none,none,none,none] ⟨h.n,h.n,h.os⟩=.ok (.rt (.int 37)) ⟨h.n,h.n,h.os⟩from zah (zah ((iteT (notT (zbg (varE rfl) e1))).trans (zah (retE cstE))))]
 exact zal (vad _) lt_int
theorem zna{k:Nat}{h:VH}{t rs pl:W}{wd g r0:Int}:∀(ws:List W) (c:Int) (j:Nat) (x y:Option W),c=j->rowOk wd g c ws->∃x' y',forL (tgW (.many [6,7])) (exs (run F (k+4)) za9) (enumW j ws) [some t,some (.int wd),some (.int g),some rs,some (.int r0),some pl,x,y] h =
 .ok (.nx [some t,some (.int wd),some (.int g),some rs,some (.int r0),some pl,x',y']) h
 |[],c,j,x,y,_,_=>⟨x,y,by simp[forL,enumW]⟩
 |w::r,c,j,x,y,hc,ho=>by
  obtain⟨h1,h2⟩:=ho
  obtain⟨x',y',e⟩:=zna (h:=h) (t:=t) (rs:=rs) (pl:=pl) (k:=k) (wd:=wd) (g:=g) (r0:=r0) r (c+1) (j+1) (some (.int j)) (some w) (by rw[hc];push_cast;rfl) h2
  refine⟨x',y',?_⟩
  have e1:=zcw B' (k:=k) (h:=h) (c:=j) (wd:=wd) (g:=g) (zbm h1 22)
  rw[<-hc,h1,hc]at e1
  have eb:exs (run F (k+4)) za9 [some t,some (.int wd),some (.int g),some rs,some (.int r0),some pl,some (.int j),some w] h=.ok (.nx [some t,some (.int wd),some (.int g),some rs,some (.int r0),some pl,some (.int j),some w]) h:=
   (zac ((iteF (notT (zjo (varE rfl) (varE rfl) (varE rfl) (varE rfl) e1))).trans rfl)).trans rfl
  simp only[forL,enumW,tgW,seqW,za4,List.set,eb,bindok,e]
theorem znb{k:Nat}{h:VH}{B:Bd}{fl:Fl}(b:B.Ok0)(e2:forL (tgW (.many [4,5])) (exs (run F (k+6)) zba) (enumW 0 (B.rows.map .tup)) [some B.w,some (.int B.wd),some (.int B.gr),some (.tup (B.rows.map .tup)),none,none,none,none] ⟨h.n,h.n,h.os⟩=.ok fl ⟨h.n,h.n,h.os⟩) :
 run F (k+7) 704 [B.w] h=fin h ((exs (run F (k+6)) .skip [] ⟨h.n,h.n,h.os⟩).bind λ_ h=>match fl with|.nx ρ=>.ok (.rt (.tup [.non])) h|fl=>.ok fl h):=by
 rw[zam t0 rfl]
 have e1:=zhj B' (k:=k) (h:=⟨h.n,h.n,h.os⟩) b
 have h60:=b.r1
 show fin h (exs (run F (k+6)) zbk.body [some B.w,none,none,none,none,none,none,none] ⟨h.n,h.n,h.os⟩)=_
 have ef:exs (run F (k+6)) (.«for» .enm (.var 3) (.many [4,5]) zba) [some B.w,some (.int B.wd),some (.int B.gr),some (.tup (B.rows.map .tup)),none,none,none,none] ⟨h.n,h.n,h.os⟩=.ok fl ⟨h.n,h.n,h.os⟩:=by
  rw[exs,varE (x:=.tup (B.rows.map .tup)) rfl,bindok,zct (by rw[vaf];omega)]
  exact e2
 have eu:exs (run F (k+6)) (.unp [1,2,3] (.slc (.var 0) false (.cst .non) true (.cst (.int (3))))) [some B.w,none,none,none,none,none,none,none] ⟨h.n,h.n,h.os⟩=.ok (.nx [some B.w,some (.int B.wd),some (.int B.gr),some (.tup (B.rows.map .tup)),none,none,none,none]) ⟨h.n,h.n,h.os⟩:=rfl
 unfold zbk
 cases fl with
 |nx ρ=>
  rw[zac ((zac ((iteF (notT (zbg (varE rfl) e1))).trans rfl)).trans ((zac eu).trans ((zac ef).trans rfl)))]
  rfl
 |rt w=>
  rw[zah ((zac ((iteF (notT (zbg (varE rfl) e1))).trans rfl)).trans ((zac eu).trans (zah ef)))]
  rfl
 |bk ρ=>
  rw[zfd ((zac ((iteF (notT (zbg (varE rfl) e1))).trans rfl)).trans ((zac eu).trans (zfd ef)))]
  rfl
 |ct ρ=>
  have:∀{cl:Call}{a b:S}{ρ ρ':En}{h h':VH},exs cl a ρ h=.ok (.ct ρ') h'->exs cl (.seq a b) ρ h=.ok (.ct ρ') h':=λe=>by rw[exs,e];rfl
  rw[this ((zac ((iteF (notT (zbg (varE rfl) e1))).trans rfl)).trans ((zac eu).trans (this ef)))]
  rfl
theorem zjs{k c:Nat}{h:VH}{t rs pl bad:W}{post:List W}{wd g r0:Int}(hp:zan 24 bad=true):∀(n j:Nat) (x y:Option W),j+n=c->zab bad c wd g=false->forL (tgW (.many [6,7])) (exs (run F (k+4)) za9) (enumW j (List.replicate n (.str sDot)++bad::post)) [some t,some (.int wd),some (.int g),some rs,some (.int r0),some pl,x,y] h =
 .ok (.rt (.tup [.int 56,.int r0,.int c])) h
 |0,j,x,y,hj,hm=>by
  have hj:j=c:=hj
  subst hj
  have e1:=zcw B' (k:=k) (h:=h) (c:=j) (wd:=wd) (g:=g) hp
  rw[hm]at e1
  have e0:exs (run F (k+4)) za9 [some t,some (.int wd),some (.int g),some rs,some (.int r0),some pl,some (.int j),some bad] h=.ok (.rt (.tup [.int 56,.int r0,.int j])) h:=by
   refine zah ((iteT (notT (zjo (varE rfl) (varE rfl) (varE rfl) (varE rfl) e1))).trans (zah ?_))
   rw[exs,consE (varE rfl) (consE (varE rfl) nilE),bindok];rfl
  show forL _ _ (.tup [.int j,bad]::enumW (j+1) post) _ _=_
  simp only[forL,tgW,seqW,za4,List.set,e0,bindok]
 |n+1,j,x,y,hj,hm=>by
  have e1:=zcw B' (k:=k) (h:=h) (c:=j) (wd:=wd) (g:=g) (w:=.str sDot) (by decide +kernel)
  rw[zii]at e1
  have e0:exs (run F (k+4)) za9 [some t,some (.int wd),some (.int g),some rs,some (.int r0),some pl,some (.int j),some (.str sDot)] h=.ok (.nx [some t,some (.int wd),some (.int g),some rs,some (.int r0),some pl,some (.int j),some (.str sDot)]) h:=
   (zac ((iteF (notT (zjo (varE rfl) (varE rfl) (varE rfl) (varE rfl) e1))).trans rfl)).trans rfl
  have ih:=zjs (t:=t) (rs:=rs) (pl:=pl) (post:=post) (h:=h) (k:=k) (r0:=r0) hp n (j+1) (some (.int j)) (some (.str sDot)) (by omega) hm
  show forL _ _ (.tup [.int j,.str sDot]::enumW (j+1) (List.replicate n (.str sDot)++bad::post)) _ _=_
  simp only[forL,tgW,seqW,za4,List.set,e0,bindok]
  exact ih
end
noncomputable def Pl(w:W):Prop:=∀n,W.lt n w=true
structure Cf(h h':VH):Prop where
 le:h.n<=h'.n
 lo:∀b,b<=h.n->b<=h.lo->b<=h'.lo
 get:∀i o,h.get i=some o->h'.get i=some o
theorem Cf.refl{h:VH}:Cf h h:=⟨vad _,λ_ _ e=>e,λ_ _ e=>e⟩
theorem Cf.new{h h':VH}{o:VO}(a:Cf h h'):Cf h (h'.new o):=⟨vdd a.le,a.lo,λi o' e=>by
 have:=a.get i o' e
 rw[zap (zar this)];exact this⟩
structure Up(b:Nat)(h h':VH):Prop where
 le:h.n<=h'.n
 lo:∀x,x<=b->x<=h.lo->x<=h'.lo
 get:∀i o,i<b->h.get i=some o->h'.get i=some o
theorem Up.refl{b:Nat}{h:VH}:Up b h h:=⟨vad _,λ_ _ e=>e,λ_ _ _ e=>e⟩
theorem Up.trans{b:Nat}{h h1 h2:VH}(a:Up b h h1)(c:Up b h1 h2):Up b h h2:=⟨vas a.le c.le,λx hx e=>c.lo x hx (a.lo x hx e),λi o hi e=>c.get i o hi (a.get i o hi e)⟩
theorem Up.mono{b b':Nat}{h h1:VH}(a:Up b h h1)(hb:b'<=b):Up b' h h1:=⟨a.le,λx hx=>a.lo x (vas hx hb),λi o hi=>a.get i o (vah hi hb)⟩
theorem Up.cf{b:Nat}{h h1 h2:VH}(a:Up b h h1)(c:Cf h1 h2)(hb:b<=h.n):Up b h h2:=⟨vas a.le c.le,λx hx e=>c.lo x (vas hx (vas hb a.le)) (a.lo x hx e),λi o hi e=>c.get i o (a.get i o hi e)⟩
theorem Cf.up{b:Nat}{h h1:VH}(c:Cf h h1)(hb:b<=h.n):Up b h h1:=Up.refl.cf c hb
theorem Up.set{b l:Nat}{h h':VH}{o o0:VO}(a:Up b h h')(g:h'.get l=some o0)(hl:b<=l):Up b h (h'.set l o):=by
 refine⟨a.le,λx hx e=>?_,λi o' hi e=>by rw[zaw g (by omega)];exact a.get i o' hi e⟩
 have:=a.lo x hx e
 show x<=if Nat.blt l h'.lo then l else h'.lo
 split<;>omega
theorem zwd{h h':VH}{w:W}(u:Up h.n ⟨h.n,h.n,h.os⟩ h')(hw:Pl w):fin h (.ok (.rt w) h')=.ok w h:=zal (u.lo _ (vad _) (vad _)) (hw _)
section
variable{cl:Call}{ρ:En}{h h1 h2:VH}{a:E}{f:Nat}{ys:List W}{i r c:Int}{s t:S}
theorem telJ(ea:ev cl a ρ h=.ok (.tup ys) h1)(ec:cl f ys h1=.ok (.tup [.int i,.int r,.int c]) h2):exs cl (.tel f a false s t) ρ h=.ok (.rt (.tup [.int i,.int r,.int c])) h2:=by
 rw[exs,ea,bindok]
 show(cl f ys h1).bind _=_
 rw[ec];rfl
theorem try2J{tb:List (Nat×W)}{ta:List (Nat×Str)}{z:Str}(ea:ev cl a ρ h=.ok (.tup ys) h1)(ec:cl f ys h1=.ok (.tup [.int i,.int r,.int c]) h2)(hz:ta.lookup i.toNat=some z):exs cl (.try2 f a tb ta) ρ h=.ok (.rt (.tup [.str z,.int r,.int c])) h2:=by
 rw[exs,ea,bindok]
 show(cl f ys h1).bind _=_
 rw[ec]
 show tryW2 tb ta ρ (.tup [.int i,.int r,.int c]) h2=_
 unfold tryW2
 simp only[hz]
theorem try2I{tb:List (Nat×W)}{ta:List (Nat×Str)}{w:W}(ea:ev cl a ρ h=.ok (.tup ys) h1)(ec:cl f ys h1=.ok (.int i) h2)(hz:tb.lookup i.toNat=some w):exs cl (.try2 f a tb ta) ρ h=.ok (.rt w) h2:=by
 rw[exs,ea,bindok]
 show(cl f ys h1).bind _=_
 rw[ec]
 show tryW2 tb ta ρ (.int i) h2=_
 unfold tryW2
 simp only[hz]
end
theorem lt3i{n:Nat}{i r c:Int}:W.lt n (.tup [.int i,.int r,.int c])=true:=by
 rw[lt_tup,lts_cons,lts_cons,lts_cons,lt_int,lt_int,lt_int,lts_nil];rfl
section
variable{F:Nat->Option Fn}(B':CoreB F)(t0:F 704=some zbk)
include B' t0
theorem zhr{k c:Nat}{h:VH}{t rs bad:W}{post rest:List W}{wd g:Int}(hl:(List.replicate c (W.str sDot)++bad::post).length<1000000)(hp:zan 24 bad=true)(hm:zab bad c wd g=false):∀(ws:List (List W)) (j:Nat) (x y z u:Option W),(∀r∈ws,(r.length:Int)<1000000/\rowOk wd g 0 r)->
 forL (tgW (.many [4,5])) (exs (run F (k+4)) zba) (enumW j (ws.map .tup++.tup (List.replicate c (.str sDot)++bad::post)::rest)) [some t,some (.int wd),some (.int g),some rs,x,y,z,u] h=.ok (.rt (.tup [.int 56,.int (j+ws.length:Nat),.int c])) h
 |[],j,x,y,z,u,_=>by
  have e0:exs (run F (k+4)) zba [some t,some (.int wd),some (.int g),some rs,some (.int j),some (.tup (List.replicate c (.str sDot)++bad::post)),z,u] h=.ok (.rt (.tup [.int 56,.int j,.int c])) h:=by
   refine zah ?_
   rw[exs,varE (x:=.tup (List.replicate c (.str sDot)++bad::post)) rfl,bindok,zct hl]
   exact zjs B' t0 hp c 0 z u (by omega) hm
  show forL _ _ (.tup [.int j,.tup (List.replicate c (.str sDot)++bad::post)]::enumW (j+1) rest) _ _=_
  simp only[forL,tgW,seqW,za4,List.set,e0,bindok]
  rfl
 |r::ws,j,x,y,z,u,ho=>by
  obtain⟨h1,h2⟩:=ho r (vaq ..)
  obtain⟨x',y',e1⟩:=zna B' t0 (k:=k) (h:=h) (t:=t) (rs:=rs) (pl:=.tup r) (wd:=wd) (g:=g) (r0:=j) r 0 0 z u rfl h2
  have e0:exs (run F (k+4)) zba [some t,some (.int wd),some (.int g),some rs,some (.int j),some (.tup r),z,u] h=.ok (.nx [some t,some (.int wd),some (.int g),some rs,some (.int j),some (.tup r),x',y']) h:=by
   refine(zac (ρ':=[some t,some (.int wd),some (.int g),some rs,some (.int j),some (.tup r),x',y']) (h':=h) ?_).trans rfl
   rw[exs,varE (x:=.tup r) rfl,bindok,zct (by omega)]
   exact e1
  have ih:=zhr (t:=t) (rs:=rs) (rest:=rest) (h:=h) (k:=k) hl hp hm ws (j+1) (some (.int j)) (some (.tup r)) x' y' λr hr=>ho r (vai _ hr)
  show forL _ _ (.tup [.int j,.tup r]::enumW (j+1) (ws.map .tup++.tup (List.replicate c (.str sDot)++bad::post)::rest)) _ _=_
  simp only[forL,tgW,seqW,za4,List.set,e0,bindok]
  rw[vam,show j+ (ws.length+1)=j+1+ws.length by omega]
  exact ih
theorem zkf{k c:Nat}{h:VH}{B:Bd}{oks rest:List (List W)}{bad:W}{post:List W}(b:B.Ok0)(hr:B.rows=oks++(List.replicate c (.str sDot)++bad::post)::rest)(ho:∀r∈oks,rowOk B.wd B.gr 0 r)(hp:zan 24 bad=true)(hm:zab bad c B.wd B.gr=false):run F (k+7) 704 [B.w] h=.ok (.tup [.int 56,.int oks.length,.int c]) h:=by
 have h40:=b.w2
 have hl:((List.replicate c (W.str sDot)++bad::post).length:Int)=B.wd:=b.r2 _ (by rw[hr];simp)
 have e2:=zhr B' t0 (k:=k+2) (h:=⟨h.n,h.n,h.os⟩) (t:=B.w) (rs:=.tup (B.rows.map .tup)) (wd:=B.wd) (g:=B.gr) (rest:=rest.map .tup) (post:=post) (by omega) hp hm oks 0 none none none none λr hr'=>⟨by have:=b.r2 r (by rw[hr];exact vde _ hr');omega,ho r hr'⟩
 rw[<-vav,<-vef,<-hr,Nat.zero_add]at e2
 rw[znb B' t0 b e2]
 exact zal (vad _) lt3i
end
section
variable{F:Nat->Option Fn}(C:C03 F)
include C
theorem zsn{k:Nat}{h:VH}{w:W}{r c:Int}(e:∀h,run F (k+7) 704 [w] h=.ok (.tup [.int 56,.int r,.int c]) h):run F (k+9) 702 [w] h=.ok (.tup [.str (PySem.Str.ofString "fault"),.int r,.int c]) h:=by
 have e1:run F (k+8) 705 [w] ⟨h.n,h.n,h.os⟩=.ok (.tup [.int 56,.int r,.int c]) ⟨h.n,h.n,h.os⟩:=by
  rw[zam C.t1 rfl]
  show fin ⟨h.n,h.n,h.os⟩ (exs (run F (k+7)) zb6.body [some w,none,none,none,none,none,none,none] ⟨h.n,h.n,h.os⟩)=_
  rw[show exs (run F (k+7)) zb6.body [some w,none,none,none,none,none,none,none] ⟨h.n,h.n,h.os⟩=.ok (.rt (.tup [.int 56,.int r,.int c])) ⟨h.n,h.n,h.os⟩from zah (zah (telJ (consE (varE rfl) nilE) (e _)))]
  exact zal (vad _) lt3i
 rw[zam C.f702 rfl]
 show fin h (exs (run F (k+8)) zb5.body [some w,none] ⟨h.n,h.n,h.os⟩)=_
 rw[show exs (run F (k+8)) zb5.body [some w,none] ⟨h.n,h.n,h.os⟩=.ok (.rt (.tup [.str (PySem.Str.ofString "fault"),.int r,.int c])) ⟨h.n,h.n,h.os⟩from zah (try2J (consE (varE rfl) nilE) e1 rfl)]
 exact zal (vad _) (by rw[lt_tup,lts_cons,lts_cons,lts_cons,lt_str,lt_int,lt_int,lts_nil];rfl)
theorem zso{k:Nat}{h:VH}{w:W}(e:∀h,run F (k+6) 10 [w] h=.ok (.bl false) h):run F (k+9) 702 [w] h=.ok (.tup [.str (PySem.Str.ofString "board"),.int 0,.int 0]) h:=by
 have e1:run F (k+8) 705 [w] ⟨h.n,h.n,h.os⟩=.ok (.int 37) ⟨h.n,h.n,h.os⟩:=by
  rw[zam C.t1 rfl]
  show fin ⟨h.n,h.n,h.os⟩ (exs (run F (k+7)) zb6.body [some w,none,none,none,none,none,none,none] ⟨h.n,h.n,h.os⟩)=_
  rw[show exs (run F (k+7)) zb6.body [some w,none,none,none,none,none,none,none] ⟨h.n,h.n,h.os⟩=.ok (.rt (.int 37)) ⟨h.n,h.n,h.os⟩from zah (zah (telX (consE (varE rfl) nilE) (zsm C.b C.t0 (e _))))]
  exact zal (vad _) lt_int
 rw[zam C.f702 rfl]
 show fin h (exs (run F (k+8)) zb5.body [some w,none] ⟨h.n,h.n,h.os⟩)=_
 rw[show exs (run F (k+8)) zb5.body [some w,none] ⟨h.n,h.n,h.os⟩=.ok (.rt (.tup [.str (PySem.Str.ofString "board"),.int 0,.int 0])) ⟨h.n,h.n,h.os⟩from zah (try2I (consE (varE rfl) nilE) e1 rfl)]
 exact zal (vad _) (by rw[lt_tup,lts_cons,lts_cons,lts_cons,lt_str,lt_int,lts_nil];rfl)
end
noncomputable def midP:S:=(.ite (.or (.cmp .eq (.var 10) (.cst (.str (PySem.Str.ofString "<")))) (.cmp .eq (.var 10) (.cst (.str (PySem.Str.ofString ">"))))) (.seq (.set 10 (.idx (.lst (.cons (.cst (.str (PySem.Str.ofString ">"))) (.cons (.cst (.str (PySem.Str.ofString "<"))) .nil))) (.bi .int (.cons (.cmp .eq (.var 10) (.cst (.str (PySem.Str.ofString ">")))) .nil)))) .skip) (.seq (.ite (.not (.tru (.isi .str (.var 10)))) (.seq (.set 10 (.tup (.cons (.idx (.var 10) (.cst (.int (0)))) (.cons (.idx (.lst (.cons (.cst (.int (1))) (.cons (.cst (.int (0))) .nil))) (.idx (.var 10) (.cst (.int (1))))) .nil)))) .skip) .skip) .skip))
theorem eqE{cl:Call}{ρ:En}{h h1:VH}{a:E}{w x:W}{b:Bool}(ea:ev cl a ρ h=.ok w h1)(e:eqW h1 w x=some b):ev cl (.cmp .eq a (.cst x)) ρ h=.ok (.bl b) h1:=by
 rw[ev,ea,bindok,cstE,bindok]
 simp only[cmpW,e,vb2];rfl
theorem intB{cl:Call}{ρ:En}{h h1:VH}{a:E}{b:Bool}(ea:ev cl a ρ h=.ok (.bl b) h1):ev cl (.bi .int (.cons a .nil)) ρ h=.ok (.int (if b then 1 else 0)) h1:=by
 rw[ev,consE ea nilE];rfl
theorem isiS{cl:Call}{ρ:En}{h:VH}{i:Nat}{x:Str}(e:ρ[i]?=some (some (.str x))):ev cl (.isi .str (.var i)) ρ h=.ok (.bl true) h:=by
 rw[ev,varE e];rfl
section
variable{cl:Call}{h:VH}{v0 v1 v2 v3 v4 v5 v6 v7 v8 v9:Option W}
theorem mid03{w:W}{c wd g:Int}(hm:zab w c wd g=true):∃h',exs cl midP [v0,v1,v2,v3,v4,v5,v6,v7,v8,v9,some w] h=.ok (.nx [v0,v1,v2,v3,v4,v5,v6,v7,v8,v9,some (mirW w)]) h'/\Cf h h':=by
 have keep:∀x:Str,eqW h (.str x) (.str sLt)=some false->eqW h (.str x) (.str sGt)=some false->exs cl midP [v0,v1,v2,v3,v4,v5,v6,v7,v8,v9,some (.str x)] h=.ok (.nx [v0,v1,v2,v3,v4,v5,v6,v7,v8,v9,some (.str x)]) h:=λx e1 e2=>
  (iteF (orB (x:=false) (y:=false) (eqE (varE rfl) e1) (eqE (varE rfl) e2))).trans ((zac ((iteF (notT (b:=true) (isiS rfl))).trans rfl)).trans rfl)
 rcases zbz hm with⟨rfl,h3,h4⟩|⟨rfl,h3⟩|⟨rfl,h3⟩|rfl|rfl|⟨p,q,rfl,h3,h4,h5,h6⟩
 .exact⟨h,keep _ eq_X_Lt eq_X_Gt,.refl⟩
 .refine⟨h.new (.lst [.str sGt,.str sLt]),?_,Cf.refl.new⟩
  refine(iteT (orT (eqE (varE rfl) eq_Lt_Lt))).trans ((zac (setE (x:=.str sGt) (idxE (x:=.ref h.n) (y:=.int 0) (lstE (ys:=[.str sGt,.str sLt]) (consE cstE (consE cstE nilE)) rfl) (intB (b:=false) (eqE (varE rfl) eq_Lt_Gt)) ?_))).trans rfl)
  simp only[idxW,zat];rfl
 .refine⟨h.new (.lst [.str sGt,.str sLt]),?_,Cf.refl.new⟩
  refine(iteT (orB (x:=false) (y:=true) (eqE (varE rfl) eq_Gt_Lt) (eqE (varE rfl) eq_Gt_Gt))).trans ((zac (setE (x:=.str sLt) (idxE (x:=.ref h.n) (y:=.int 1) (lstE (ys:=[.str sGt,.str sLt]) (consE cstE (consE cstE nilE)) rfl) (intB (b:=true) (eqE (varE rfl) eq_Gt_Gt)) ?_))).trans rfl)
  simp only[idxW,zat];rfl
 .exact⟨h,keep _ eq_Dot_Lt eq_Dot_Gt,.refl⟩
 .exact⟨h,keep _ eq_S_Lt eq_S_Gt,.refl⟩
 .refine⟨h.new (.lst [.int 1,.int 0]),?_,Cf.refl.new⟩
  have n1:eqW h (.tup [.int p,.int q]) (.str sLt)=some false:=zfe (by decide +kernel)
  have n2:eqW h (.tup [.int p,.int q]) (.str sGt)=some false:=zfe (by decide +kernel)
  have hi:ev cl (.isi .str (.var 10)) [v0,v1,v2,v3,v4,v5,v6,v7,v8,v9,some (.tup [.int p,.int q])] h=.ok (.bl false) h:=by rw[ev,varE (x:=.tup [.int p,.int q]) rfl];rfl
  refine(iteF (orB (x:=false) (y:=false) (eqE (varE rfl) n1) (eqE (varE rfl) n2))).trans ((zac ((iteT (notT hi)).trans ((zac (setE (x:=.tup [.int p,.int (1- (q:Int))]) (tup2E (idxE (varE rfl) cstE rfl) (idxE (x:=.ref h.n) (y:=.int q) (lstE (ys:=[.int 1,.int 0]) (consE cstE (consE cstE nilE)) rfl) (idxE (varE rfl) cstE rfl) ?_)))).trans rfl))).trans rfl)
  simp only[idxW,zat]
  have:q=0\/q=1:=by omega
  rcases this with rfl|rfl<;>rfl
end
section
variable{cl:Call}{v0 v2 v3 v4 v5 v6:Option W}{wd g:Int}
theorem zqd{l:Nat}{r:List W}(hr:(r.length:Int)=wd/\rowOk wd g 0 r)(hw:wd<=40):∀(n k:Nat) (x9 x10:Option W) (h:VH),k+n=r.length->l<=h.n->h.get l=some (.lst ((mirR r).take k))->
 ∃x9' x10' h',forL (tgW (.one 9)) (exs cl zbh) (za2 (k:Int) n) [v0,some (.int wd),v2,v3,v4,v5,v6,some (.tup r),some (.ref l),x9,x10] h=.ok (.nx [v0,some (.int wd),v2,v3,v4,v5,v6,some (.tup r),some (.ref l),x9',x10']) h'/\h'.get l=some (.lst ((mirR r).take (k+n)))/\Up l h h'
 |0,k,x9,x10,h,_,_,gl=>⟨x9,x10,h,rfl,gl,.refl⟩
 |n+1,k,x9,x10,h,hk,hn,gl=>by
  have hlt:r.length-1-k<r.length:=by omega
  obtain⟨cc,hm⟩:=zb0 hr.2 r[r.length-1-k] (vc3 hlt)
  obtain⟨h1,e1,c1⟩:=mid03 (cl:=cl) (h:=h) (v0:=v0) (v1:=some (.int wd)) (v2:=v2) (v3:=v3) (v4:=v4) (v5:=v5) (v6:=v6) (v7:=some (.tup r)) (v8:=some (.ref l)) (v9:=some (.int k)) hm
  have g1:=c1.get _ _ gl
  have ml:(mirR r).length=r.length:=by unfold mirR;rw[vaf,vbl]
  have ei:ev cl (.idx (.var 7) (.op .sub (.op .sub (.var 1) (.cst (.int (1)))) (.var 9))) [v0,some (.int wd),v2,v3,v4,v5,v6,some (.tup r),some (.ref l),some (.int k),x10] h=.ok r[r.length-1-k] h:=by
   refine idxE (y:=.int (wd-1-k)) (varE rfl) (opE (x:=.int (wd-1)) (y:=.int k) (opE (varE rfl) cstE rfl) (varE rfl) rfl) ?_
   rw[show wd-1- (k:Int)=((r.length-1-k:Nat):Int) by omega]
   exact zd1 (vao hlt)
  have tk:(mirR r).take k++[mirW r[r.length-1-k]]=(mirR r).take (k+1):=by
   rw[List.take_succ,zm7 (by omega),vao hlt];rfl
  have eb:exs cl zbh [v0,some (.int wd),v2,v3,v4,v5,v6,some (.tup r),some (.ref l),some (.int k),x10] h=.ok (.nx [v0,some (.int wd),v2,v3,v4,v5,v6,some (.tup r),some (.ref l),some (.int k),some (mirW r[r.length-1-k])]) (h1.set l (.lst ((mirR r).take (k+1)))):=by
   refine(zac (setE ei)).trans ?_
   refine(zac (ρ':=[v0,some (.int wd),v2,v3,v4,v5,v6,some (.tup r),some (.ref l),some (.int k),some (mirW r[r.length-1-k])]) (h':=h1) e1).trans ?_
   rw[<-tk]
   exact(zac (exprE (zhm (i:=8) (l:=l) rfl g1 (varE rfl) g1 (by rw[vb3];omega)))).trans rfl
  have u1:Up l h (h1.set l (.lst ((mirR r).take (k+1)))):=(c1.up hn).set g1 (vad _)
  obtain⟨x9',x10',h',e2,g2,u2⟩:=zqd hr hw n (k+1) (some (.int k)) (some (mirW r[r.length-1-k])) _ (by omega) (vas hn u1.le) (zay g1)
  refine⟨x9',x10',h',?_,by rw[show k+ (n+1)=k+1+n by omega];exact g2,u1.trans u2⟩
  show(exs cl zbh [v0,some (.int wd),v2,v3,v4,v5,v6,some (.tup r),some (.ref l),some (.int k),x10] h).bind _=_
  rw[eb]
  exact e2
theorem zqe{l bb:Nat}(hb:bb<=l)(hw:wd<=40):∀(rs:List (List W)) (x7 x8 x9 x10:Option W) (acc:List W) (h:VH),(∀r∈rs,(r.length:Int)=wd/\rowOk wd g 0 r)->bb<=h.n->h.get l=some (.lst acc)->acc.length+rs.length<=1000->
 ∃x7' x8' x9' x10' h',forL (tgW (.one 7)) (exs cl zbi) (rs.map .tup) [v0,some (.int wd),v2,v3,v4,v5,some (.ref l),x7,x8,x9,x10] h=.ok (.nx [v0,some (.int wd),v2,v3,v4,v5,some (.ref l),x7',x8',x9',x10']) h'/\h'.get l=some (.lst (acc++(rs.map mirR).map .tup))/\Up bb h h'
 |[],x7,x8,x9,x10,acc,h,_,_,gl,_=>⟨x7,x8,x9,x10,h,rfl,by rw[vc9,vc9,va7];exact gl,.refl⟩
 |r::rs,x7,x8,x9,x10,acc,h,hr,hn,gl,hl=>by
  have h1:=hr r (vaq ..)
  have hl':=zar gl
  rw[vam]at hl
  obtain⟨y9,y10,h2,e2,g2,u2⟩:=zqd (cl:=cl) (v0:=v0) (v2:=v2) (v3:=v3) (v4:=v4) (v5:=v5) (v6:=some (.ref l)) (l:=h.n) h1 hw r.length 0 x9 x10 (h.new (.lst [])) (by omega) (vdm _) zat
  have ml:(mirR r).length=r.length:=by unfold mirR;rw[vaf,vbl]
  rw[Nat.zero_add,List.take_of_length_le (by omega)]at g2
  have gl2:h2.get l=some (.lst acc):=u2.get l _ hl' (by rw[zap hl'];exact gl)
  have eb:exs cl zbi [v0,some (.int wd),v2,v3,v4,v5,some (.ref l),some (.tup r),x8,x9,x10] h=.ok (.nx [v0,some (.int wd),v2,v3,v4,v5,some (.ref l),some (.tup r),some (.ref h.n),y9,y10]) (h2.set l (.lst (acc++[.tup (mirR r)]))):=by
   refine(zac (setE (x:=.ref h.n) (h1:=h.new (.lst [])) (lstE nilE rfl))).trans ?_
   refine(zac (ρ':=[v0,some (.int wd),v2,v3,v4,v5,some (.ref l),some (.tup r),some (.ref h.n),y9,y10]) (h':=h2) ?_).trans ?_
   .show exs cl (.«for» .rng1 (.cons (.var 1) .nil) (.one 9) zbh) [v0,some (.int wd),v2,v3,v4,v5,some (.ref l),some (.tup r),some (.ref h.n),x9,x10] (h.new (.lst []))=_
    rw[exs,consE (varE (x:=.int wd) rfl) nilE,bindok,<-h1.1,zsd (by omega)]
    rw[h1.1]
    exact e2
   .exact(zac (exprE (zhm (i:=6) (l:=l) rfl gl2 (zge (i:=8) rfl g2) gl2 (by omega)))).trans rfl
  have u1:Up bb h (h2.set l (.lst (acc++[.tup (mirR r)]))):=by
   have q:Up bb h h2:=(((Cf.refl (h:=h)).new (o:=.lst [])).up hn).trans (u2.mono hn)
   exact q.set gl2 hb
  obtain⟨z7,z8,z9,z10,h',e3,g3,u3⟩:=zqe hb hw rs (some (.tup r)) (some (.ref h.n)) y9 y10 (acc++[.tup (mirR r)]) _ (λr hr'=>hr r (vai _ hr')) (vas hn u1.le) (zay gl2) (by rw[vaw,vcq];omega)
  refine⟨z7,z8,z9,z10,h',?_,by rw[g3,vav,vav,List.append_assoc];rfl,u1.trans u3⟩
  show(exs cl zbi [v0,some (.int wd),v2,v3,v4,v5,some (.ref l),some (.tup r),x8,x9,x10] h).bind _=_
  rw[eb]
  exact e3
end
theorem Gw.cf{h h':VH}(g:Gw h h'):Cf h h':=⟨g.le,λb _ hl=>by rw[g.lo];exact hl,g.get⟩
theorem bd_pl{B:Bd}(b:B.Ok):Pl B.w:=λn=>zgf 24 _ (zjm b)
section
variable{F:Nat->Option Fn}(f700:F 700=some zc0)
include f700
theorem zwe{k:Nat}{h:VH}{B:Bd}(b:B.Ok):run F (k+1) 700 [B.w] h=.ok (mirB B).w h:=by
 rw[zam f700 rfl]
 have hw2:=b.w2
 have hr1:=b.r1
 have hf2:=b.f2
 obtain⟨y7,y8,y9,y10,h2,e2,g2,u2⟩:=zqe (cl:=run F k) (wd:=B.wd) (g:=B.gr) (v0:=some B.w) (v2:=some (.int B.gr)) (v3:=some (.tup (B.rows.map .tup))) (v4:=some (.tup B.fd)) (v5:=some (.tup B.dr)) (l:=h.n) (bb:=h.n) (vad _) hw2 B.rows none none none none [] (VH.new ⟨h.n,h.n,h.os⟩ (.lst [])) b.r2 (vdm _) zat (by rw[vdw];omega)
 rw[vcf]at g2
 obtain⟨h3,e3,g3⟩:=zem (cl:=run F k) (e:=zeo) (tl:=[some (.int B.wd)]) (f:=mirF B.wd) B.fd none h2 λw hw h=>by
  have:=b.f3 w hw
  cases w<;>simp only[within]at this<;>try(cases this;done)
  exact⟨h,rfl,.refl⟩
 have hl3:(B.fd.map (mirF B.wd)).length<=1000000:=by rw[vaf];omega
 have eb:exs (run F k) zc0.body [some B.w,none,none,none,none,none,none,none,none,none,none] ⟨h.n,h.n,h.os⟩=.ok (.rt (mirB B).w) (h3.new (.lst (B.fd.map (mirF B.wd)))):=by
  refine(zac (unp5T (varE rfl))).trans ?_
  refine(zac (setE (x:=.ref h.n) (h1:=VH.new ⟨h.n,h.n,h.os⟩ (.lst [])) (lstE nilE rfl))).trans ?_
  refine(zac (ρ':=[some B.w,some (.int B.wd),some (.int B.gr),some (.tup (B.rows.map .tup)),some (.tup B.fd),some (.tup B.dr),some (.ref h.n),y7,y8,y9,y10]) (h':=h2) ?_).trans ?_
  .show exs (run F k) (.«for» .seq (.var 3) (.one 7) zbi) [some B.w,some (.int B.wd),some (.int B.gr),some (.tup (B.rows.map .tup)),some (.tup B.fd),some (.tup B.dr),some (.ref h.n),none,none,none,none] (VH.new ⟨h.n,h.n,h.os⟩ (.lst []))=_
   rw[exs,varE (x:=.tup (B.rows.map .tup)) rfl,bindok,zej (by rw[vaf];omega)]
   exact e2
  .exact zah (retE (tup5E (varE rfl) (varE rfl) (zge (i:=6) rfl g2) (zgd (varE rfl) (by omega) e3 hl3) (revE (varE rfl))))
 show fin h (exs (run F k) zc0.body [some B.w,none,none,none,none,none,none,none,none,none,none] ⟨h.n,h.n,h.os⟩)=_
 rw[eb]
 have u:Up h.n ⟨h.n,h.n,h.os⟩ h2:=(((Cf.refl (h:=⟨h.n,h.n,h.os⟩)).new (o:=.lst [])).up (vad _)).trans u2
 exact zwd (u.cf g3.new.cf (vad _)) (bd_pl (zm8 b))
end
theorem znc{w:W}{c wd g:Int}(h:zab w c wd g=true):mirW (mirW w)=w:=by
 rcases zbz h with⟨rfl,h3,h4⟩|⟨rfl,h3⟩|⟨rfl,h3⟩|rfl|rfl|⟨p,q,rfl,h3,h4,h5,h6⟩<;>try rfl
 show W.tup [.int p,.int (1- (1- (q:Int)))]=_
 rw[show 1- (1- (q:Int))=q by omega]
theorem znd{r:List W}{wd g:Int}(h:rowOk wd g 0 r):mirR (mirR r)=r:=by
 unfold mirR
 rw[<-List.map_reverse,List.reverse_reverse,vei]
 have:∀w∈r,(mirW∘mirW) w=id w:=λw hw=>znc (zb0 h w hw).choose_spec
 rw[List.map_congr_left this,List.map_id]
theorem zsp{B:Bd}(b:B.Ok):mirB (mirB B)=B:=by
 obtain⟨wd,gr,rows,fd,dr⟩:=B
 unfold mirB
 have h1:(rows.map mirR).map mirR=rows:=by
  rw[vei]
  have:∀w∈rows,(mirR∘mirR) w=id w:=λw hw=>znd (b.r2 w hw).2
  rw[List.map_congr_left this,List.map_id]
 have h2:(fd.map (mirF wd)).map (mirF wd)=fd:=by
  rw[vei]
  have:∀w∈fd,(mirF wd∘mirF wd) w=id w:=λw hw=>by
   have:=b.f3 w hw
   cases w<;>simp only[within]at this<;>try(cases this;done)
   show W.int _=.int _
   rw[Int.sub_sub_self]
  rw[List.map_congr_left this,List.map_id]
 simp only[h1,h2,List.reverse_reverse]
theorem zne{B:Bd}(b:B.Ok):nestS 4 B.w=true:=by
 have hw2:=b.w2
 have hr1:=b.r1
 have hf2:=b.f2
 have hd1:=b.d1
 have hp:∀{w:W}{c wd g:Int},zab w c wd g=true->nestS 1 w=true:=by
  intro w c wd g h
  rcases zbz h with⟨rfl,h3,h4⟩|⟨rfl,h3⟩|⟨rfl,h3⟩|rfl|rfl|⟨p,q,rfl,h3,h4,h5,h6⟩<;>first|(decide +kernel)|rfl
 have q1:nestS 3 (.tup (B.rows.map .tup))=true:=by
  rw[nestS,vaa,va1]
  refine⟨vdc.mpr (by rw[vaf];omega),λw hw=>?_⟩
  obtain⟨r,hr,rfl⟩:=vdq.mp hw
  obtain⟨e1,e2⟩:=b.r2 r hr
  rw[nestS,vaa,va1]
  exact⟨vdc.mpr (by omega),λw hw=>hp (zb0 e2 w hw).choose_spec⟩
 have q2:nestS 3 (.tup B.fd)=true:=by
  rw[nestS,vaa,va1]
  refine⟨vdc.mpr (by omega),λw hw=>?_⟩
  have:=b.f3 w hw
  cases w<;>simp only[within]at this<;>try(cases this;done)
  rfl
 have q3:nestS 3 (.tup B.dr)=true:=by
  rw[nestS,vaa,va1]
  refine⟨vdc.mpr (by omega),λw hw=>?_⟩
  obtain⟨a,x,rfl,_,_,hx⟩:=zhn (b.d2 w hw)
  rcases hx with rfl|⟨i,rfl,_,_⟩<;>rfl
 show nestS 4 (.tup [.int B.wd,.int B.gr,.tup (B.rows.map .tup),.tup B.fd,.tup B.dr])=true
 rw[nestS,vaa,va1]
 refine⟨rfl,λw hw=>?_⟩
 simp only[va0,vcp,vem]at hw
 rcases hw with rfl|rfl|rfl|rfl|rfl
 .rfl
 .rfl
 .exact q1
 .exact q2
 .exact q3
theorem zdw{ws:List W}{k:Nat}:cutW ws none (some (k:Int))=ws.take k:=by
 unfold cutW
 rw[HT.sIx_none,HT.sIx_nat,vd5,Nat.sub_zero]
 by_cases h:k<=ws.length
 .rw[Nat.min_eq_left h]
 .rw[Nat.min_eq_right (by omega),List.take_length,List.take_of_length_le (by omega)]
theorem zsq{n c:Nat}{x bad:W}(h:c<n):(List.replicate n x).set c bad=List.replicate c x++bad::List.replicate (n- (c+1)) x:=by
 rw[List.set_eq_take_append_cons_drop,if_pos (by rw[vb8];exact h),List.take_replicate,List.drop_replicate,Nat.min_eq_left (by omega)]
theorem eqT03{cl:Call}{a b:E}{ρ:En}{h h1 h2:VH}{w:W}(ea:ev cl a ρ h=.ok w h1)(eb:ev cl b ρ h1=.ok w h2)(p:zan 24 w=true):ev cl (.cmp .eq a b) ρ h=.ok (.bl true) h2:=by
 rw[ev,ea,bindok,eb,bindok]
 simp only[cmpW,zji p];rfl
theorem zwf{cl:Call}{a:E}{ρ:En}{h h1:VH}(ea:ev cl a ρ h=.ok .non h1):ev cl (.cmp .notn a (.cst .non)) ρ h=.ok (.bl false) h1:=by
 rw[ev,ea,bindok,cstE,bindok];rfl
theorem put03{cl:Call}{ρ:En}{h:VH}{a c:Nat}{w:W}{ws:List W}{x y z:Nat}(e1:ρ[z]?=some (some w))(e2:ρ[x]?=some (some (.ref a)))(e3:ρ[y]?=some (some (.int c)))(g:h.get a=some (.lst ws))(hc:c<ws.length):exs cl (.put (.var x) (.var y) (.var z)) ρ h=.ok (.nx ρ) (h.set a (.lst (ws.set c w))):=by
 rw[exs,varE e1,bindok,varE e2,bindok,varE e3,bindok]
 have hk:ixN ws.length (c:Int)=some c:=by
  unfold ixN
  rw[if_pos (Int.natCast_nonneg c),if_pos (Int.ofNat_lt.mpr hc),vcx]
 simp only[g,hk]
theorem pl3{x:Str}{r c:Int}(hx:PyData.strOk x=true):zan 24 (.tup [.str x,.int r,.int c])=true:=by
 simp[zan,hx]
section
variable{F:Nat->Option Fn}(C:CoreB F)
include C
theorem zo7{k:Nat}{h:VH}{ws:List W}{wd n:Int}(hl:(ws.length:Int)≠wd):run F (k+5) 8 [.tup ws,.int wd,.int n] h=.ok (.bl false) h:=by
 rw[zam C.f8 rfl]
 have e1:=zak C.toCoreA (k:=k+3) (h:=⟨h.n,h.n,h.os⟩) (w:=.tup ws) (lo:=wd) (hi:=wd) (by unfold Kn;simp)
 have q:zas (.tup ws) wd wd=false:=by
  simp only[zas,Bool.and_eq_false_iff,decide_eq_false_iff_not]
  omega
 simp[fn8,exs,ev,e1,q,zal]
theorem znf{k:Nat}{h:VH}{B:Bd}{ds:List W}(b:B.Ok0)(hl:(ds.length:Int)≠B.wd):run F (k+6) 10 [.tup [.int B.wd,.int B.gr,.tup (B.rows.map .tup),.tup B.fd,.tup ds]] h=.ok (.bl false) h:=by
 rw[zam C.f10 rfl]
 have e1:=zak C.toCoreA (k:=k+4) (h:=⟨h.n,h.n,h.os⟩) (w:=.tup [.int B.wd,.int B.gr,.tup (B.rows.map .tup),.tup B.fd,.tup ds]) (lo:=5) (hi:=5) (by unfold Kn;simp)
 have q1:zas (.tup [.int B.wd,.int B.gr,.tup (B.rows.map .tup),.tup B.fd,.tup ds]) 5 5=true:=by simp[zas]
 have e2:=zaj C.toCoreA (k:=k+3) (h:=⟨h.n,h.n,h.os⟩) (w:=.int B.wd) (lo:=1) (hi:=40) (by unfold Kn;simp)
 have q2:within (.int B.wd) 1 40=true:=by simp[within,b.w1,b.w2]
 have e3:=zaj C.toCoreA (k:=k+3) (h:=⟨h.n,h.n,h.os⟩) (w:=.int B.gr) (lo:=0) (hi:=8) (by unfold Kn;simp)
 have q3:within (.int B.gr) 0 8=true:=by simp[within,b.g1,b.g2]
 have kf:∀x∈B.fd,Kn ⟨h.n,h.n,h.os⟩ x:=λx hx=>by
  have:=b.f3 x hx
  cases x<;>simp[within]at this
  unfold Kn;simp
 have hf:=b.f2
 have e4:=zbr C.toCoreA (k:=k+2) (h:=⟨h.n,h.n,h.os⟩) (w:=.tup B.fd) (a:=1) (b:=4) (lo:=0) (hi:=B.wd-1) (by unfold Kn;simp) (λws e=>by cases e;exact⟨by omega,kf⟩)
 have q4:zcu (.tup B.fd) 1 4 0 (B.wd-1)=true:=by
  have h1:=b.f1
  simp only[zcu,zas,vaa,vap]
  exact⟨⟨by omega,by omega⟩,va1.mpr b.f3⟩
 have e5:=zjj C (k:=k+3) (h:=⟨h.n,h.n,h.os⟩) (ws:=B.rows.map .tup) (wd:=B.wd) (by rw[vaf];exact b.r1) (λw hw=>by
  obtain⟨r,hr,e⟩:=vdq.mp hw
  exact⟨r,e.symm,b.r2 r hr⟩)
 have e6:=zo7 C (k:=k) (h:=⟨h.n,h.n,h.os⟩) (ws:=ds) (wd:=B.wd) (n:=B.fd.length) hl
 simp[fn10,exs,ev,e1,q1,e2,q2,e3,q3,e4,q4,e5,e6,zal,tgW,seqW,za4,opW,opI,biW,lenW]
end
theorem bad03{w:W}{c wd g:Int}(g0:0<=g)(h:w∈[W.non,.str (PySem.Str.ofString "X"),.tup [.int g,.int 0],.tup [.int 0,.int 2],.int 7]):zan 24 w=true/\zab w c wd g=false:=by
 simp only[va0,vcp,vem]at h
 have hX:PyData.strOk (PySem.Str.ofString "X")=true:=by decide +kernel
 rcases h with rfl|rfl|rfl|rfl|rfl
 .exact⟨rfl,rfl⟩
 .exact⟨by decide +kernel,rfl⟩
 .refine⟨rfl,?_⟩
  have:za6 (.tup [.int g,.int 0]) g=false:=by
   simp only[za6,within,Bool.and_eq_false_iff,decide_eq_false_iff_not];omega
  unfold zab
  rw[this];rfl
 .refine⟨rfl,?_⟩
  have:za6 (.tup [.int 0,.int 2]) g=false:=by
   simp only[za6,within,Bool.and_eq_false_iff,decide_eq_false_iff_not];omega
  unfold zab
  rw[this];rfl
 .exact⟨rfl,rfl⟩
noncomputable def lineW(n c:Nat)(bad:W):List W:=List.replicate c (.str sDot)++bad::List.replicate (n- (c+1)) (.str sDot)
theorem zng{n c:Nat}{bad:W}(h:c<n):(lineW n c bad).length=n:=by
 unfold lineW
 rw[vaw,vam,vb8,vb8];omega
noncomputable def spB(B:Bd)(l:List W):Bd:=⟨B.wd,B.gr,B.rows.take 59++l :: [l].take (59- (B.rows.take 59).length),B.fd,B.dr⟩
theorem sp_ok{B:Bd}(b:B.Ok){l:List W}(hl:(l.length:Int)=B.wd):(spB B l).Ok0:=⟨b.w1,b.w2,b.g1,b.g2,by
 show(B.rows.take 59++l :: [l].take (59- (B.rows.take 59).length)).length<=60
 have:(B.rows.take 59).length<=59:=by rw[vb3];omega
 have h2:([l].take (59- (B.rows.take 59).length)).length<=59- (B.rows.take 59).length:=by rw[vb3];omega
 rw[vaw,vam];omega,λr hr=>by
 have hr:r∈B.rows.take 59++l :: [l].take (59- (B.rows.take 59).length):=hr
 rcases List.mem_append.mp hr with hr|hr
 .exact(b.r2 r (List.mem_of_mem_take hr)).1
 rcases va0.mp hr with rfl|hr
 .exact hl
 .have:=vdz.mp (List.mem_of_mem_take hr)
  rw[this];exact hl,b.f1,b.f2,b.f3,b.d1,b.d2⟩
theorem zqf{cl:Call}{e:E}{ρ:En}{h h1:VH}{ys:List W}{i j:Nat}(ea:ev cl e ρ h=.ok (.tup ys) h1)(hl:ys.length<=1000)(ei:ρ[i]?=some (some (.int j)))(hj:j<ys.length):ev cl (.idx (.lst e) (.var i)) ρ h=.ok ys[j] (h1.new (.lst ys)):=
 idxE (lstE ea (vdc.mpr hl)) (varE ei) (by
  simp only[idxW,zat]
  exact zd1 (vao hj))
theorem zsr{w:W}{n:Nat}(hn:n<=1000000):repW .mul [w] n=some (List.replicate n w):=by
 have hf:fits (n:Int)=true:=by unfold fits;rw[vaa,vap,vap];omega
 unfold repW
 rw[if_pos (by
  rw[vaa]
  exact⟨hf,zdh (by rw[vcq,Nat.one_mul,vcx];exact hn)⟩)]
 rw[vcx,rep1]
theorem znh{h:VH}{xs zs:List W}{m:Int}{i:Nat}{o:Op}(g:h.get i=some (.lst xs))(e:repW o xs m=some zs):opW o (.ref i) (.int m) h=.ok (.ref h.n) (h.new (.lst zs)):=by
 simp only[opW,g,e]
noncomputable def lstS:E:=(.op .mul (.lst (.cons (.cst (.str (PySem.Str.ofString "."))) .nil)) (.var 5))
theorem lst03{cl:Call}{ρ:En}{h:VH}{n:Nat}(e5:ρ[5]?=some (some (.int n)))(hn:n<=1000000):ev cl lstS ρ h=.ok (.ref (h.n+1)) ((h.new (.lst [.str sDot])).new (.lst (List.replicate n (.str sDot)))):=by
 refine opE (x:=.ref h.n) (y:=.int n) (lstE (ys:=[.str sDot]) (consE cstE nilE) rfl) (varE e5) ?_
 exact znh zat (zsr hn)
noncomputable def spE:E:=(.tup (.cons (.var 5) (.cons (.var 6) (.cons (.op .add (.slc (.var 7) false (.cst .non) true (.cst (.int (59)))) (.slc (.tup (.cons (.bi .tuple (.cons (.var 12) .nil)) (.cons (.bi .tuple (.cons (.var 12) .nil)) .nil))) false (.cst .non) true (.op .sub (.cst (.int (60))) (.bi .len (.cons (.slc (.var 7) false (.cst .non) true (.cst (.int (59)))) .nil))))) (.cons (.var 8) (.cons (.var 9) .nil))))))
section
variable{cl:Call}{ρ:En}{h:VH}{B:Bd}{l:Nat}{L:List W}
theorem cut59(e7:ρ[7]?=some (some (.tup (B.rows.map .tup)))):ev cl (.slc (.var 7) false (.cst .non) true (.cst (.int (59)))) ρ h=.ok (.tup ((B.rows.take 59).map .tup)) h:=by
 rw[List.map_take,<-zdw]
 exact slcE (l':=none) (u':=some 59) (varE e7) cstE cstE rfl rfl rfl
theorem len59(e7:ρ[7]?=some (some (.tup (B.rows.map .tup)))):ev cl (.bi .len (.cons (.slc (.var 7) false (.cst .non) true (.cst (.int (59)))) .nil)) ρ h=.ok (.int (B.rows.take 59).length) h:=by
 have:=lenE (cut59 (cl:=cl) (h:=h) e7) (ws:=(B.rows.take 59).map .tup) rfl
 rw[vaf]at this
 exact this
theorem sp03(b:B.Ok)(e5:ρ[5]?=some (some (.int B.wd)))(e6:ρ[6]?=some (some (.int B.gr)))(e7:ρ[7]?=some (some (.tup (B.rows.map .tup))))(e8:ρ[8]?=some (some (.tup B.fd)))(e9:ρ[9]?=some (some (.tup B.dr)))(e12:ρ[12]?=some (some (.ref l)))(g:h.get l=some (.lst L)):ev cl spE ρ h=.ok (spB B L).w h:=by
 have hm:(B.rows.take 59).length<=59:=by rw[vb3];omega
 have e2:ev cl (.slc (.tup (.cons (.bi .tuple (.cons (.var 12) .nil)) (.cons (.bi .tuple (.cons (.var 12) .nil)) .nil))) false (.cst .non) true (.op .sub (.cst (.int (60))) (.bi .len (.cons (.slc (.var 7) false (.cst .non) true (.cst (.int (59)))) .nil)))) ρ h=.ok (.tup ((L :: [L].take (59- (B.rows.take 59).length)).map .tup)) h:=by
  have:(L :: [L].take (59- (B.rows.take 59).length)).map W.tup=cutW [W.tup L,.tup L] none (some ((60- (B.rows.take 59).length:Nat):Int)):=by
   rw[zdw,show 60- (B.rows.take 59).length=(59- (B.rows.take 59).length)+1 by omega,List.take_succ_cons,vav,List.map_take];rfl
  rw[this]
  refine slcE (l':=none) (u':=some ((60- (B.rows.take 59).length:Nat):Int)) (tup2E (zge e12 g) (zge e12 g)) cstE (opE cstE (len59 e7) rfl) rfl ?_ rfl
  rw[show(60:Int)- ((B.rows.take 59).length:Int)=((60- (B.rows.take 59).length:Nat):Int) by omega];rfl
 have e3:=opE (o:=.add) (cut59 (cl:=cl) (h:=h) e7) e2 (addT (by
  have:([L].take (59- (B.rows.take 59).length)).length<=59:=by rw[vb3];omega
  rw[vaf,vaf,vam];omega))
 rw[<-vef]at e3
 exact tup5E (varE e5) (varE e6) e3 (varE e8) (varE e9)
end
section
variable{F:Nat->Option Fn}(C:C03 F)
include C
theorem law03{ns:List Int}(hl:ns.length<=63):zcr (run F 30 703 [.fz (ns.map .int)] ⟨0,0,[]⟩)=true:=by
 rw[show(30:Nat)=29+1 from rfl,zam C.f703 rfl]
 obtain⟨h1,e1,D1⟩:=deck (F:=F) C.q.toCoreD (k:=28) (h:=⟨0,0,[]⟩) hl
 obtain⟨r2,h2,e2,a2,b2,D2,K2⟩:=take C.q.toCoreD (k:=26) (m:=8) D1 (by omega) (by decide) (by decide)
 obtain⟨j,rfl⟩:=va8 a2
 generalize hY1:[W.int 9,W.int 9,W.int 9,W.int 9,W.int 9,W.int 9,W.int 9,W.int 40]=Y1
 generalize hY2:[W.int 8,W.int 8,W.int 8,W.int 8,W.int 8,W.int 8,W.int 60,W.int 3]=Y2
 have z1:Y1.length=8:=by rw[<-hY1];rfl
 have z2:Y2.length=8:=by rw[<-hY2];rfl
 obtain⟨mw,m1,m2,m3⟩:∃mw:Int,Y1[j]'(by omega)=.int mw/\1<=mw/\mw<=40:=by
  have:=vc3 (l:=Y1) (n:=j) (by omega)
  generalize Y1[j]'(by omega)=y at this
  rw[<-hY1]at this
  simp only[va0,vcp,vem]at this
  rcases this with rfl|rfl|rfl|rfl|rfl|rfl|rfl|rfl<;>exact⟨_,rfl,by decide,by decide⟩
 obtain⟨mr,r1,r3,r4⟩:∃mr:Int,Y2[j]'(by omega)=.int mr/\0<=mr/\mr<=60:=by
  have:=vc3 (l:=Y2) (n:=j) (by omega)
  generalize Y2[j]'(by omega)=y at this
  rw[<-hY2]at this
  simp only[va0,vcp,vem]at this
  rcases this with rfl|rfl|rfl|rfl|rfl|rfl|rfl|rfl<;>exact⟨_,rfl,by decide,by decide⟩
 obtain⟨B,h3,e3,bo,_,_,_,D3,K3⟩:=zij C.q (k:=23) (mw:=mw) (mr:=mr) (mg:=8) ((D2.new (o:=.lst Y1)).new (o:=.lst Y2)) (by omega) m2 m3 r3 r4 (by decide) (by decide)
 have w1:=bo.w1
 have w2:=bo.w2
 have d1:=bo.d1
 obtain⟨n,hn⟩:=va8 (show 0<=B.wd by omega)
 obtain⟨r4,h4,e4,a4,b4,D4,K4⟩:=take C.q.toCoreD (k:=26) (m:=B.wd) D3 (by omega) (by omega) (by omega)
 obtain⟨c,rfl⟩:=va8 a4
 have hc:c<n:=by omega
 have mo:=zm8 bo
 have e5:=zhp C.b C.f188 C.f189 (k:=21) (h:=h3) bo
 have e6:=zhp C.b C.f188 C.f189 (k:=21) (h:=h3) mo
 rw[zsp bo]at e6
 have e7:=zwe C.f700 (k:=28) (h:=h3) bo
 have s1:=zqc C 4 (k:=24) (h:=h3) (zne mo)
 have s2:=zqc C 4 (k:=24) (h:=h3) (zne bo)
 have e8:=zcy C.b (k:=22) (h:=h3) mo
 obtain⟨bad,h5,e9,hm,D5,K5⟩:=draw C.q.toCoreD (k:=26) (i:=1) (e:=.cons (.cst .non) (.cons (.cst (.str (PySem.Str.ofString "X"))) (.cons (.tup (.cons (.var 6) (.cons (.cst (.int (0))) .nil))) (.cons (.tup (.cons (.cst (.int (0))) (.cons (.cst (.int (2))) .nil))) (.cons (.cst (.int (7))) .nil))))) (ρ:=[some (.fz (ns.map .int)),some (.ref 1),some (.int j),some B.w,some (mirB B).w,some (.int B.wd),some (.int B.gr),some (.tup (B.rows.map .tup)),some (.tup B.fd),some (.tup B.dr),some (.int c),none,none,none]) (h:=h4) (h1:=h4) (ys:=[W.non,.str (PySem.Str.ofString "X"),.tup [.int B.gr,.int 0],.tup [.int 0,.int 2],.int 7]) (m:=5) rfl
  (consE cstE (consE cstE (consE (tup2E (varE rfl) cstE) (consE (tup2E cstE cstE) (consE cstE nilE))))) rfl (by decide) (by decide) D4 (by omega)
 obtain⟨hp,hms⟩:=bad03 (c:=(c:Int)) (wd:=B.wd) bo.g1 hm
 have eL:=lst03 (cl:=run F 29) (ρ:=[some (.fz (ns.map .int)),some (.ref 1),some (.int j),some B.w,some (mirB B).w,some (.int B.wd),some (.int B.gr),some (.tup (B.rows.map .tup)),some (.tup B.fd),some (.tup B.dr),some (.int c),some bad,none,none]) (h:=h5) (n:=n) (vdh (λz=>some (some (W.int z))) hn) (by omega)
 generalize hh6:(h5.new (.lst [.str sDot])).new (.lst (List.replicate n (.str sDot)))=h6 at eL
 have g6:h6.get (h5.n+1)=some (.lst (List.replicate n (.str sDot))):=by rw[<-hh6];exact zat
 have g7:(h6.set (h5.n+1) (.lst ((List.replicate n (.str sDot)).set c bad))).get (h5.n+1)=some (.lst (lineW n c bad)):=by
  rw[zay g6,zsq hc];rfl
 have eP:=put03 (cl:=run F 29) (ρ:=[some (.fz (ns.map .int)),some (.ref 1),some (.int j),some B.w,some (mirB B).w,some (.int B.wd),some (.int B.gr),some (.tup (B.rows.map .tup)),some (.tup B.fd),some (.tup B.dr),some (.int c),some bad,some (.ref (h5.n+1)),none]) (h:=h6) (a:=h5.n+1) (c:=c) (w:=bad) (x:=12) (y:=10) (z:=11) rfl rfl rfl g6 (by rw[vb8];exact hc)
 generalize h6.set (h5.n+1) (.lst ((List.replicate n (.str sDot)).set c bad))=h7 at eP g7
 have so:=sp_ok bo (l:=lineW n c bad) (by rw[zng hc,hn])
 have eS:=sp03 (cl:=run F 29) (ρ:=[some (.fz (ns.map .int)),some (.ref 1),some (.int j),some B.w,some (mirB B).w,some (.int B.wd),some (.int B.gr),some (.tup (B.rows.map .tup)),some (.tup B.fd),some (.tup B.dr),some (.int c),some bad,some (.ref (h5.n+1)),none]) (h:=h7) bo rfl rfl rfl rfl rfl rfl g7
 have eF:=zsn C (k:=20) (h:=h7) (w:=(spB B (lineW n c bad)).w) (r:=(B.rows.take 59).length) (c:=c) λh=>zkf C.b C.t0 (k:=20) so (show(spB B (lineW n c bad)).rows=B.rows.take 59++(List.replicate c (.str sDot)++bad::List.replicate (n- (c+1)) (.str sDot)) :: [lineW n c bad].take (59- (B.rows.take 59).length)from rfl) (λr hr=>(bo.r2 r (List.mem_of_mem_take hr)).2) hp hms
 have eD:ev (run F 29) (.op .add (.var 9) (.slc (.var 9) false (.cst .non) true (.cst (.int (1))))) [some (.fz (ns.map .int)),some (.ref 1),some (.int j),some B.w,some (mirB B).w,some (.int B.wd),some (.int B.gr),some (.tup (B.rows.map .tup)),some (.tup B.fd),some (.tup B.dr),some (.int c),some bad,some (.ref (h5.n+1)),some (spB B (lineW n c bad)).w] h7=.ok (.tup (B.dr++B.dr.take 1)) h7:=by
  rw[<-zdw (k:=1)]
  exact opE (varE rfl) (slcE (l':=none) (u':=some 1) (varE rfl) cstE cstE rfl rfl rfl) (addT (by rw[show cutW B.dr none (some 1)=B.dr.take 1 from zdw (k:=1),vb3];omega))
 have eB:=zso C (k:=20) (h:=h7) λh=>znf C.b (k:=20) (ds:=B.dr++B.dr.take 1) so (show((B.dr++B.dr.take 1).length:Int)≠B.wd by rw[vaw,vb3];omega)
 have hf:PyData.strOk (PySem.Str.ofString "fault")=true:=by decide +kernel
 have hb:PyData.strOk (PySem.Str.ofString "board")=true:=by decide +kernel
 have eb:exs (run F 29) zc1.body [some (.fz (ns.map .int)),none,none,none,none,none,none,none,none,none,none,none,none,none] ⟨0,0,[]⟩=.ok (.rt (.bl true)) h7:=by
  unfold zc1
  refine(zac (setE (zbg (varE rfl) e1))).trans ?_
  refine(zac (setE (zen (varE rfl) cstE e2))).trans ?_
  refine(zac (setE (zjo (varE rfl) (zqf (ys:=Y1) (j:=j) (h1:=h2) (by rw[<-hY1];exact consE cstE (consE cstE (consE cstE (consE cstE (consE cstE (consE cstE (consE cstE (consE cstE nilE)))))))) (by omega) rfl (by omega)) (zqf (ys:=Y2) (j:=j) (h1:=h2.new (.lst Y1)) (by rw[<-hY2];exact consE cstE (consE cstE (consE cstE (consE cstE (consE cstE (consE cstE (consE cstE (consE cstE nilE)))))))) (by omega) rfl (by omega)) cstE (by rw[m1,r1];exact e3)))).trans ?_
  refine(zac (setE (zbg (varE rfl) e5))).trans ?_
  refine(zac ((iteF (orF (notT (zen (varE rfl) (zbg (varE rfl) e7) s1)) (zwf (zbg (varE rfl) e8)))).trans rfl)).trans ?_
  refine(zac ((iteF (orF (notT (zen (zbg (varE rfl) e6) (varE rfl) s2)) (notT (zen (zbg (varE rfl) e5) (varE rfl) s1)))).trans rfl)).trans ?_
  refine(zac (unp5T (varE rfl))).trans ?_
  refine(zac (setE (zen (varE rfl) (varE rfl) e4))).trans ?_
  refine(zac (setE e9)).trans ?_
  refine(zac (setE eL)).trans ?_
  refine(zac eP).trans ?_
  refine(zac (setE eS)).trans ?_
  refine(zac ((iteF (neF (zbg (varE rfl) eF) (tup3E cstE (len59 rfl) (varE rfl)) (pl3 hf))).trans rfl)).trans ?_
  exact zah (retE (eqT03 (zbg (tup5E (varE rfl) (varE rfl) (idxE (varE rfl) cstE rfl) (varE rfl) eD) eB) (tup3E cstE cstE cstE) (pl3 hb)))
 show zcr (fin ⟨0,0,[]⟩ (exs (run F 29) zc1.body [some (.fz (ns.map .int)),none,none,none,none,none,none,none,none,none,none,none,none,none] ⟨0,0,[]⟩))=true
 rw[eb]
 obtain⟨hz,ez⟩:=zsl (h:=⟨0,0,[]⟩) (h':=h7) (w:=.bl true)
 rw[ez]
 rfl
end
end RF
namespace HD
open PySem PySem.W PySem.Calls PyProof.Rows
noncomputable section
noncomputable def p:Program:=PySem.Challenge.pw_ballrockers_k03_mirrored
noncomputable abbrev S(x:String):Str:=Str.ofString x
noncomputable abbrev U(x:String)(t:Tok):Value:=Value.str (S x) t
noncomputable abbrev R(a:Addr):Value:=Value.ref a
noncomputable abbrev I(i:Int)(t:Tok):Value:=Value.int i t
noncomputable abbrev E(P:Params)(x:String)(t:Tok)(v:Value):DictEntry:=DictEntry.mk (PyData.keyHash P (S x)) (Value.str (S x) t) v
noncomputable abbrev N(o:Obj)(l r:BT):BT:=BT.node o l r
noncomputable abbrev Z:BT:=BT.nil
noncomputable abbrev L(o:Obj):BT:=BT.node o Z Z
noncomputable abbrev Y(c:String)(d:Data):Obj:=Obj.mk (Value.type c) none d #[]
noncomputable abbrev X(d:Data):Obj:=Obj.mk Value.none none d #[]
noncomputable def atN(l:List Stmt)(i:Nat):Stmt:=l.getD i (Stmt.Pass ⟨0,0,0,0⟩)
noncomputable def fbS:Stmt->List Stmt
 |.FunctionDef _ _ b _ _ _ _ _ _ _=>b
 |.ClassDef _ _ _ b _ _ _ _ _ _ _=>b
 |_=>[]
noncomputable def faS:Stmt->Arguments
 |.FunctionDef _ a _ _ _ _ _ _ _ _=>a
 |_=>⟨[],[],none,[],[],none,[]⟩
noncomputable def fsS:Stmt->Scope
 |.FunctionDef _ _ _ _ _ _ s _ _ _=>s
 |_=>p.main.scope
noncomputable def fb(i:Nat):List Stmt:=fbS (atN p.main.body i)
noncomputable def fa(i:Nat):Arguments:=faS (atN p.main.body i)
noncomputable def fs(i:Nat):Scope:=fsS (atN p.main.body i)
noncomputable def cb(i j:Nat):List Stmt:=fbS (atN (fb i) j)
noncomputable def ca(i j:Nat):Arguments:=faS (atN (fb i) j)
noncomputable def cs(i j:Nat):Scope:=fsS (atN (fb i) j)
noncomputable abbrev O:Value:=Value.none
noncomputable abbrev J(i:Int):Value:=Value.int i 0
noncomputable abbrev V(t:Tok):Value:=Value.str (S "/claim/cut.py") t
noncomputable abbrev A(l:Array Value):Data:=Data.fields l
noncomputable abbrev B(f:FuncData):Data:=Data.func f
noncomputable abbrev G(x:String)(i:Nat)(g:Addr)(c:List (Str×Addr))(d k o m:Value)(n:Option Addr)(cd ct:Value)(b:Addr):FuncData:=FuncData.mk (S x) (S x) (fa i) (FuncBody.stmts (fb i)) (fs i) g c d k o m n cd ct b
section
variable(P:Params)
noncomputable def N0:Nat:=9366
noncomputable def lo:List Str:=[S "MIRRORED_RAMPS"]
noncomputable def keep:List Nat:=[1,2,3,4,5,6,7,8,9,10,11,12,13,14,15,16,17,19,20,21,22,24,25,26,27,28,29,30,31,32,33,34,35,36,38,39,40,42,43,44,45,46,47,48,49,50,51,52,53,54,55]
noncomputable def life:Life:=(Life.mk [] [] [] 0 [] [] false #[] [] 0 false false false 0 [2000,10,10] false 0 true [] [] 0 false)
noncomputable def m0:Nat:=11
noncomputable def ann:Option Value:=(some (R 6))
noncomputable def env:Env:={scope:=p.main.scope,locals:=mainNs,globals:=mainNs,cells:=[],code:=(R 13),frame:=some 14}
noncomputable def bd:List Stmt:=behindTheImports p
noncomputable def cd:Code:=Code.body bd env
noncomputable def fr:List Frame:=[topFrame (Pos.mk 0 0 0 0)]
noncomputable abbrev qC(n:String)(t:Nat)(l k:Int)(r m:Nat):Obj:=Y "code" (A #[U n t,U n (t+1),V (t+2),J l,J k,J 0,J 0,J 3,R r,Value.bool true,J 181,R (r+1),O,R (r+2),R (r+3),R (r+4),J (Int.ofNat m),J l,V (m+1)])
noncomputable abbrev qD(n:String)(t:Nat)(l k:Int)(r m:Nat):Obj:=Y "code" (A #[U n t,U n (t+1),V (t+2),J l,J k,J 0,J 0,J 3,R r,Value.bool true,J 181,R (r+1),O,O,O,R (r+2),J (Int.ofNat m),J l,V (m+1)])
noncomputable def qU:Nat->List String->List Value
 |_,[]=>[]
 |t,x::r=>U x t::qU (t+1) r
noncomputable abbrev qT(t:Nat)(l:List String):Obj:=Y "tuple" (Data.seq (qU t l).toArray 0)
noncomputable abbrev qF(n:String)(i:Nat)(u:Value)(r:Addr):Obj:=Y "function" (B (G n i 3 [] O O O u none (R r) O 0))
noncomputable abbrev qG(n:String)(i:Nat):Obj:=X (B (G n i 0 [] O O O O none O O 0))
noncomputable def qJ:List (Int×Nat)->List Value
 |[]=>[]
 |(a,b)::r=>J a::J 0::R b::qJ r
noncomputable def qO:List Obj->List Obj
 |x::_::r=>x::qO r
 |x=>x
noncomputable def qE:List Obj->List Obj
 |_::y::r=>y::qE r
 |_=>[]
noncomputable def qB:Nat->List Obj->BT
 |f+1,x::r=>N x (qB f (qO r)) (qB f (qE r))
 |_,_=>Z
 def a0:=(Y "tuple" (Data.seq #[] 0))
 def a1:=(X (A #[]))
 def a2:=(Y "code" (A #[(U "<module>" 182),(U "<module>" 183),(V 184),(J 1),(J 0),(J 0),(J 0),(J 0),(R 11),(Value.bool false),(J 181),(R 12),O,O,O,O,(J 185),(J 1),(V 186)]))
 def a3:=(Obj.mk (Value.type "frame") none Data.plain #[(some (R 13)),(some (R 3)),(some (R 3)),none,(some (U "__main__" 164)),none,(some (R 0))])
 def ha:Heap:=Heap.mk (Array.mk [(boot_o_0 P),(boot_o_1 P),(boot_o_2 P),(boot_o_3 P),(boot_o_4 P),(boot_o_5 P),(boot_o_6 P),(boot_o_7 P),(boot_o_8 P),(boot_o_9 P),(boot_o_10 P),a0,a1,a2,a3]) (Life.mk [] [] [] 0 [] [] false #[] [] 0 false false false 0 [2000,10,10] false 0 true [] [] 0 false)
noncomputable def sa(w:World)(os:OsState):Shared:=⟨ha w.params,(Array.mk []),(Drawn.mk 0 0 0 0),187,os⟩
theorem seg_q{w:World}{n:Nat}{s s':SharedT}{l:List Stmt}{pos pos':Pos}(h:PySem.W.Fast.tw10110043849684766642 PySem.W.Fast.tw14364793385576792824 p w m0 ann 1 n s (piecesOf l env cd pos fr)=some (.next,s',cd,pos')) :
 segRun treeTable p w m0 ann 1 n s.abs (piecesOf l env cd pos fr)=some (.next,s'.abs,cd,pos'):=
 segRun_of (by rw[PySem.W.Fast.te10110043849684766642,vb6];exact h)
theorem pre_q{w:World}{n:Nat}{s s':Shared}{pos:Pos}(h:PySem.W.Fast.tw15667345088766844465 PySem.W.Fast.tw14364793385576792824 p w m0 ann n s (topStub p)=some (s',⟨PySem.W.Fast.tw11892475500146522536 PySem.W.Fast.tw14364793385576792824 cd,cd,pos,fr⟩)) :
 topGo treeTable p w m0 ann n s (topStub p)=some (s',⟨denote treeTable cd,cd,pos,fr⟩):=by
 rw[PySem.W.Fast.te15667345088766844465,vb6,PySem.W.Fast.te11892475500146522536];exact h
theorem zss{w:World}{n:Nat}{s s':Shared}{pos pos':Pos}(h:PySem.W.Fast.tw14374325043358763698 PySem.W.Fast.tw14364793385576792824 p w m0 ann 1 n s (blockOf bd env cd pos fr)=some (.next,s',cd,pos')) :
 segRun treeTable p w m0 ann 1 n s (blockOf bd env cd pos fr)=some (.next,s',cd,pos'):=by
 rw[PySem.W.Fast.te14374325043358763698,vb6];exact h
theorem fin_q{w:World}{n:Nat}{s s':Shared}{pos:Pos}(h:PySem.W.Fast.tw14082659384304107361 PySem.W.Fast.tw14364793385576792824 p w m0 ann n s ⟨doneF .next,cd,pos,fr⟩=some s') :
 topRun treeTable p w m0 ann n s ⟨doneF .next,cd,pos,fr⟩=some s':=by
 rw[PySem.W.Fast.te14082659384304107361,vb6];exact h
set_option maxHeartbeats 0 in
theorem pre(w:World)(os:OsState):topGo treeTable p w m0 ann 12 ⟨boot_heap w.params,Array.mk [],boot_drawn,boot_toks,os⟩ (topStub p)=some (sa w os,⟨denote treeTable cd,cd,(Pos.mk 0 0 0 0),fr⟩):=pre_q (by kernel_rfl)
 def vtb:List Obj:=[(boot_o_0 P),(boot_o_1 P),(boot_o_2 P),(boot_o_3 P),(boot_o_4 P),(boot_o_5 P),(boot_o_6 P),(boot_o_7 P),(boot_o_8 P),(boot_o_9 P),(boot_o_10 P),a0,a1,a2,a3]
 def tb:=qB 20 (vtb P)
noncomputable def sb(w:World)(os:OsState):SharedT:=⟨tb w.params,15,life,(Array.mk []),(Drawn.mk 0 0 0 0),187,os⟩
set_option maxHeartbeats 0 in
theorem block(w:World)(os:OsState):segRun treeTable p w m0 ann 1 1 (sa w os) (blockOf bd env cd (Pos.mk 0 0 0 0) fr)=some (.next,(sb w os).abs,cd,(Pos.mk 0 0 0 0)):=zss (by kernel_rfl)
 def ea4:=[(E P "__doc__" 166 O),(E P "__package__" 167 O),(E P "__loader__" 168 (Value.builtin "__main__.__loader__#opaque")),(E P "__spec__" 169 O),(E P "__annotations__" 170 (R 6)),(E P "__builtins__" 171 (R 4)),(E P "__file__" 173 (V 172)),(E P "__cached__" 174 O),(E P "BoardError" 206 (R 24)),(E P "NoBoard" 222 (R 37)),(E P "Fault" 249 (R 56)),(E P "NoLeans" 265 (R 68)),(E P "NoStand" 281 (R 80)),(E P "NoFeeder" 297 (R 92))]
 def a4:=Y "dict" (Data.dict ((E P "__name__" 165 (U "ballrockers.errors" 187))::ea4 P).toArray 15)
 def ja5:List (Int×Nat):=[(2,20),(4,33),(6,45),(11,64),(13,76),(15,88)]
 def a5:=X (A (qJ ja5).toArray)
 def a6:=(Y "tuple" (Data.seq #[(Value.type "ValueError")] 0))
 def a7:=(Y "builtin_function_or_method" (A #[(Value.builtin "type.__prepare__"),(Value.type "type")]))
 def a8:=(Y "dict" (Data.dict #[(E P "__module__" 196 (U "ballrockers.errors" 187)),(E P "__qualname__" 198 (U "BoardError" 197)),(E P "__firstlineno__" 200 (I 2 199)),(E P "__static_attributes__" 201 (R 22))] 4))
 def a9:=(Y "code" (A #[(U "BoardError" 191),(U "BoardError" 192),(V 193),(J 2),(J 0),(J 0),(J 0),(J 0),(R 18),(Value.bool false),(J 181),(R 19),O,O,O,O,(J 194),(J 2),(V 195)]))
 def a10:=(Obj.mk (Value.type "frame") none Data.plain #[(some (R 20)),(some (R 3)),(some (R 17)),none,(some (U "ballrockers.errors" 187)),none,(some (R 0))])
 def a11:=(Y "dict" (Data.dict #[(E P "__module__" 196 (U "ballrockers.errors" 187)),(E P "__firstlineno__" 200 (I 2 199)),(E P "__static_attributes__" 201 (R 22)),(E P "__weakref__" 203 (R 25)),(E P "__doc__" 204 O)] 3))
 def a12:=(Obj.mk (Value.type "type") none (Data.cls (ClassData.mk (S "BoardError") [(Value.type "ValueError")] [(R 24),(Value.type "ValueError"),(Value.type "Exception"),(Value.type "BaseException"),(Value.type "object")] 23 (S "BoardError") true [] [(R 37),(R 56),(R 68),(R 80),(R 92)] false none false)) #[(some (R 15)),none,(some (U "BoardError" 189)),(some (U "BoardError" 197)),(some (Value.builtin "ValueError.__new__")),(some (Value.bool true))])
 def a13:=(Y "getset_descriptor" (A #[(U "__weakref__" 202),(R 24),(Value.builtin "ExceptionGroup.__weakref__"),O]))
 def a14:=(Y "super" (A #[(R 24),(R 24),(R 24)]))
 def a15:=(Y "builtin_function_or_method" (A #[(Value.builtin "object.__init_subclass__"),(R 24)]))
 def a16:=(Y "tuple" (Data.seq #[(R 24)] 0))
 def a17:=(Y "dict" (Data.dict #[(E P "__module__" 214 (U "ballrockers.errors" 187)),(E P "__qualname__" 216 (U "NoBoard" 215)),(E P "__firstlineno__" 218 (I 4 217)),(E P "__static_attributes__" 219 (R 35))] 4))
 def a18:=(Y "code" (A #[(U "NoBoard" 209),(U "NoBoard" 210),(V 211),(J 4),(J 0),(J 0),(J 0),(J 0),(R 31),(Value.bool false),(J 181),(R 32),O,O,O,O,(J 212),(J 4),(V 213)]))
 def a19:=(Obj.mk (Value.type "frame") none Data.plain #[(some (R 33)),(some (R 3)),(some (R 30)),none,(some (U "ballrockers.errors" 187)),none,(some (R 0))])
 def a20:=(Y "dict" (Data.dict #[(E P "__module__" 214 (U "ballrockers.errors" 187)),(E P "__firstlineno__" 218 (I 4 217)),(E P "__static_attributes__" 219 (R 35)),(E P "__doc__" 220 O)] 2))
 def a21:=(Obj.mk (Value.type "type") none (Data.cls (ClassData.mk (S "NoBoard") [(R 24)] [(R 37),(R 24),(Value.type "ValueError"),(Value.type "Exception"),(Value.type "BaseException"),(Value.type "object")] 36 (S "NoBoard") true [] [] false none false)) #[(some (R 28)),none,(some (U "NoBoard" 207)),(some (U "NoBoard" 215)),(some (Value.builtin "ValueError.__new__")),(some (Value.bool true))])
 def a22:=(Y "super" (A #[(R 37),(R 37),(R 37)]))
 def a23:=(Y "builtin_function_or_method" (A #[(Value.builtin "object.__init_subclass__"),(R 37)]))
 def a24:=(Y "dict" (Data.dict #[(E P "__module__" 230 (U "ballrockers.errors" 187)),(E P "__qualname__" 232 (U "Fault" 231)),(E P "__firstlineno__" 234 (I 6 233)),(E P "__init__" 243 (R 53)),(E P "__static_attributes__" 246 (R 54))] 5))
 def a25:=(X (A #[(J 8),(J 4),(R 52)]))
 def a26:=(Y "code" (A #[(U "Fault" 225),(U "Fault" 226),(V 227),(J 6),(J 0),(J 0),(J 0),(J 0),(R 43),(Value.bool false),(J 181),(R 44),O,O,O,O,(J 228),(J 6),(V 229)]))
 def a27:=(Obj.mk (Value.type "frame") none Data.plain #[(some (R 45)),(some (R 3)),(some (R 42)),none,(some (U "ballrockers.errors" 187)),none,(some (R 0))])
 def a28:=qT 238 ["self","row","column"]
 def a29:=(X (B (FuncData.mk (S "__init__") (S "Fault.__init__") (ca 3 0) (FuncBody.stmts (cb 3 0)) (cs 3 0) 0 [] O O O O none O O 0)))
 def a30:=(Y "code" (A #[(U "__init__" 235),(U "Fault.__init__" 236),(V 237),(J 8),(J 3),(J 0),(J 0),(J 3),(R 47),(Value.bool true),(J 181),(R 48),O,(R 49),(R 50),(R 51),(J 241),(J 8),(V 242)]))
 def a31:=(Y "function" (B (FuncData.mk (S "__init__") (S "Fault.__init__") (ca 3 0) (FuncBody.stmts (cb 3 0)) (cs 3 0) 3 [] O O O (U "ballrockers.errors" 187) none (R 52) O 0)))
 def a32:=qT 244 ["column","row"]
 def a33:=(Y "dict" (Data.dict #[(E P "__module__" 230 (U "ballrockers.errors" 187)),(E P "__firstlineno__" 234 (I 6 233)),(E P "__init__" 243 (R 53)),(E P "__static_attributes__" 246 (R 54)),(E P "__doc__" 247 O)] 2))
 def a34:=(Obj.mk (Value.type "type") none (Data.cls (ClassData.mk (S "Fault") [(R 24)] [(R 56),(R 24),(Value.type "ValueError"),(Value.type "Exception"),(Value.type "BaseException"),(Value.type "object")] 55 (S "Fault") true [] [] false none false)) #[(some (R 40)),none,(some (U "Fault" 223)),(some (U "Fault" 231)),(some (Value.builtin "ValueError.__new__")),(some (Value.bool true))])
 def a35:=(Y "super" (A #[(R 56),(R 56),(R 56)]))
 def a36:=(Y "builtin_function_or_method" (A #[(Value.builtin "object.__init_subclass__"),(R 56)]))
 def a37:=(Y "dict" (Data.dict #[(E P "__module__" 257 (U "ballrockers.errors" 187)),(E P "__qualname__" 259 (U "NoLeans" 258)),(E P "__firstlineno__" 261 (I 11 260)),(E P "__static_attributes__" 262 (R 66))] 4))
 def a38:=(Y "code" (A #[(U "NoLeans" 252),(U "NoLeans" 253),(V 254),(J 11),(J 0),(J 0),(J 0),(J 0),(R 62),(Value.bool false),(J 181),(R 63),O,O,O,O,(J 255),(J 11),(V 256)]))
 def a39:=(Obj.mk (Value.type "frame") none Data.plain #[(some (R 64)),(some (R 3)),(some (R 61)),none,(some (U "ballrockers.errors" 187)),none,(some (R 0))])
 def a40:=(Y "dict" (Data.dict #[(E P "__module__" 257 (U "ballrockers.errors" 187)),(E P "__firstlineno__" 261 (I 11 260)),(E P "__static_attributes__" 262 (R 66)),(E P "__doc__" 263 O)] 2))
 def a41:=(Obj.mk (Value.type "type") none (Data.cls (ClassData.mk (S "NoLeans") [(R 24)] [(R 68),(R 24),(Value.type "ValueError"),(Value.type "Exception"),(Value.type "BaseException"),(Value.type "object")] 67 (S "NoLeans") true [] [] false none false)) #[(some (R 59)),none,(some (U "NoLeans" 250)),(some (U "NoLeans" 258)),(some (Value.builtin "ValueError.__new__")),(some (Value.bool true))])
 def a42:=(Y "super" (A #[(R 68),(R 68),(R 68)]))
 def a43:=(Y "builtin_function_or_method" (A #[(Value.builtin "object.__init_subclass__"),(R 68)]))
 def a44:=(Y "dict" (Data.dict #[(E P "__module__" 273 (U "ballrockers.errors" 187)),(E P "__qualname__" 275 (U "NoStand" 274)),(E P "__firstlineno__" 277 (I 13 276)),(E P "__static_attributes__" 278 (R 78))] 4))
 def a45:=(Y "code" (A #[(U "NoStand" 268),(U "NoStand" 269),(V 270),(J 13),(J 0),(J 0),(J 0),(J 0),(R 74),(Value.bool false),(J 181),(R 75),O,O,O,O,(J 271),(J 13),(V 272)]))
 def a46:=(Obj.mk (Value.type "frame") none Data.plain #[(some (R 76)),(some (R 3)),(some (R 73)),none,(some (U "ballrockers.errors" 187)),none,(some (R 0))])
 def a47:=(Y "dict" (Data.dict #[(E P "__module__" 273 (U "ballrockers.errors" 187)),(E P "__firstlineno__" 277 (I 13 276)),(E P "__static_attributes__" 278 (R 78)),(E P "__doc__" 279 O)] 2))
 def a48:=(Obj.mk (Value.type "type") none (Data.cls (ClassData.mk (S "NoStand") [(R 24)] [(R 80),(R 24),(Value.type "ValueError"),(Value.type "Exception"),(Value.type "BaseException"),(Value.type "object")] 79 (S "NoStand") true [] [] false none false)) #[(some (R 71)),none,(some (U "NoStand" 266)),(some (U "NoStand" 274)),(some (Value.builtin "ValueError.__new__")),(some (Value.bool true))])
 def a49:=(Y "super" (A #[(R 80),(R 80),(R 80)]))
 def a50:=(Y "builtin_function_or_method" (A #[(Value.builtin "object.__init_subclass__"),(R 80)]))
 def a51:=(Y "dict" (Data.dict #[(E P "__module__" 289 (U "ballrockers.errors" 187)),(E P "__qualname__" 291 (U "NoFeeder" 290)),(E P "__firstlineno__" 293 (I 15 292)),(E P "__static_attributes__" 294 (R 90))] 4))
 def a52:=(Y "code" (A #[(U "NoFeeder" 284),(U "NoFeeder" 285),(V 286),(J 15),(J 0),(J 0),(J 0),(J 0),(R 86),(Value.bool false),(J 181),(R 87),O,O,O,O,(J 287),(J 15),(V 288)]))
 def a53:=(Obj.mk (Value.type "frame") none Data.plain #[(some (R 88)),(some (R 3)),(some (R 85)),none,(some (U "ballrockers.errors" 187)),none,(some (R 0))])
 def a54:=(Y "dict" (Data.dict #[(E P "__module__" 289 (U "ballrockers.errors" 187)),(E P "__firstlineno__" 293 (I 15 292)),(E P "__static_attributes__" 294 (R 90)),(E P "__doc__" 295 O)] 2))
 def a55:=(Obj.mk (Value.type "type") none (Data.cls (ClassData.mk (S "NoFeeder") [(R 24)] [(R 92),(R 24),(Value.type "ValueError"),(Value.type "Exception"),(Value.type "BaseException"),(Value.type "object")] 91 (S "NoFeeder") true [] [] false none false)) #[(some (R 83)),none,(some (U "NoFeeder" 282)),(some (U "NoFeeder" 290)),(some (Value.builtin "ValueError.__new__")),(some (Value.bool true))])
 def a56:=(Y "super" (A #[(R 92),(R 92),(R 92)]))
 def a57:=(Y "builtin_function_or_method" (A #[(Value.builtin "object.__init_subclass__"),(R 92)]))
 def vt0:List Obj:=((vtb P).set 3 (a4 P)).set 12 a5++[a6,a7,(a8 P),a0,a1,a9,a10,a0,(a11 P),a12,a13,a14,a15,a16,a7,(a17 P),a0,a1,a18,a19,a0,(a20 P),a21,a22,a23,a16,a7,(a24 P),a0,a25,a26,a27,a0,a1,a28,a0,a29,a30,a31,a32,(a33 P),a34,a35,a36,a16,a7,(a37 P),a0,a1,a38,a39,a0,(a40 P),a41,a42,a43,a16,a7,(a44 P),a0,a1,a45,a46,a0,(a47 P),a48,a49,a50,a16,a7,(a51 P),a0,a1,a52,a53,a0,(a54 P),a55,a56,a57]
 def t0:=qB 20 (vt0 P)
noncomputable def s0(w:World)(os:OsState):SharedT:=⟨t0 w.params,95,life,(Array.mk []),(Drawn.mk 0 0 0 0),298,os⟩
noncomputable def st0:List Stmt:=(bd.drop 0).take 7
set_option maxHeartbeats 0 in
theorem seg0(w:World)(os:OsState):segRun treeTable p w m0 ann 1 1295 (sb w os).abs (piecesOf st0 env cd (Pos.mk 0 0 0 0) fr)=some (.next,(s0 w os).abs,cd,(Pos.mk 15 0 16 8)):=seg_q (by kernel_rfl)
 def ea58:=(ea4 P++[(E P "NoRow" 313 (R 104)),(E P "NoNumber" 329 (R 116)),(E P "NoFit" 345 (R 128)),(E P "TooGreat" 361 (R 140)),(E P "NoMachine" 377 (R 152)),(E P "NoWord" 393 (R 164)),(E P "NoFault" 409 (R 176))])
 def a58:=Y "dict" (Data.dict ((E P "__name__" 165 (U "ballrockers.errors" 187))::ea58 P).toArray 22)
 def ja59:List (Int×Nat):=ja5++[(17,100),(19,112),(21,124),(23,136),(25,148),(27,160),(29,172)]
 def a59:=X (A (qJ ja59).toArray)
 def a60:=(Obj.mk (Value.type "type") none (Data.cls (ClassData.mk (S "BoardError") [(Value.type "ValueError")] [(R 24),(Value.type "ValueError"),(Value.type "Exception"),(Value.type "BaseException"),(Value.type "object")] 23 (S "BoardError") true [] [(R 37),(R 56),(R 68),(R 80),(R 92),(R 104),(R 116),(R 128),(R 140),(R 152),(R 164),(R 176)] false none false)) #[(some (R 15)),none,(some (U "BoardError" 189)),(some (U "BoardError" 197)),(some (Value.builtin "ValueError.__new__")),(some (Value.bool true))])
 def a61:=(Y "dict" (Data.dict #[(E P "__module__" 305 (U "ballrockers.errors" 187)),(E P "__qualname__" 307 (U "NoRow" 306)),(E P "__firstlineno__" 309 (I 17 308)),(E P "__static_attributes__" 310 (R 102))] 4))
 def a62:=(Y "code" (A #[(U "NoRow" 300),(U "NoRow" 301),(V 302),(J 17),(J 0),(J 0),(J 0),(J 0),(R 98),(Value.bool false),(J 181),(R 99),O,O,O,O,(J 303),(J 17),(V 304)]))
 def a63:=(Obj.mk (Value.type "frame") none Data.plain #[(some (R 100)),(some (R 3)),(some (R 97)),none,(some (U "ballrockers.errors" 187)),none,(some (R 0))])
 def a64:=(Y "dict" (Data.dict #[(E P "__module__" 305 (U "ballrockers.errors" 187)),(E P "__firstlineno__" 309 (I 17 308)),(E P "__static_attributes__" 310 (R 102)),(E P "__doc__" 311 O)] 2))
 def a65:=(Obj.mk (Value.type "type") none (Data.cls (ClassData.mk (S "NoRow") [(R 24)] [(R 104),(R 24),(Value.type "ValueError"),(Value.type "Exception"),(Value.type "BaseException"),(Value.type "object")] 103 (S "NoRow") true [] [] false none false)) #[(some (R 95)),none,(some (U "NoRow" 298)),(some (U "NoRow" 306)),(some (Value.builtin "ValueError.__new__")),(some (Value.bool true))])
 def a66:=(Y "super" (A #[(R 104),(R 104),(R 104)]))
 def a67:=(Y "builtin_function_or_method" (A #[(Value.builtin "object.__init_subclass__"),(R 104)]))
 def a68:=(Y "dict" (Data.dict #[(E P "__module__" 321 (U "ballrockers.errors" 187)),(E P "__qualname__" 323 (U "NoNumber" 322)),(E P "__firstlineno__" 325 (I 19 324)),(E P "__static_attributes__" 326 (R 114))] 4))
 def a69:=(Y "code" (A #[(U "NoNumber" 316),(U "NoNumber" 317),(V 318),(J 19),(J 0),(J 0),(J 0),(J 0),(R 110),(Value.bool false),(J 181),(R 111),O,O,O,O,(J 319),(J 19),(V 320)]))
 def a70:=(Obj.mk (Value.type "frame") none Data.plain #[(some (R 112)),(some (R 3)),(some (R 109)),none,(some (U "ballrockers.errors" 187)),none,(some (R 0))])
 def a71:=(Y "dict" (Data.dict #[(E P "__module__" 321 (U "ballrockers.errors" 187)),(E P "__firstlineno__" 325 (I 19 324)),(E P "__static_attributes__" 326 (R 114)),(E P "__doc__" 327 O)] 2))
 def a72:=(Obj.mk (Value.type "type") none (Data.cls (ClassData.mk (S "NoNumber") [(R 24)] [(R 116),(R 24),(Value.type "ValueError"),(Value.type "Exception"),(Value.type "BaseException"),(Value.type "object")] 115 (S "NoNumber") true [] [] false none false)) #[(some (R 107)),none,(some (U "NoNumber" 314)),(some (U "NoNumber" 322)),(some (Value.builtin "ValueError.__new__")),(some (Value.bool true))])
 def a73:=(Y "super" (A #[(R 116),(R 116),(R 116)]))
 def a74:=(Y "builtin_function_or_method" (A #[(Value.builtin "object.__init_subclass__"),(R 116)]))
 def a75:=(Y "dict" (Data.dict #[(E P "__module__" 337 (U "ballrockers.errors" 187)),(E P "__qualname__" 339 (U "NoFit" 338)),(E P "__firstlineno__" 341 (I 21 340)),(E P "__static_attributes__" 342 (R 126))] 4))
 def a76:=(Y "code" (A #[(U "NoFit" 332),(U "NoFit" 333),(V 334),(J 21),(J 0),(J 0),(J 0),(J 0),(R 122),(Value.bool false),(J 181),(R 123),O,O,O,O,(J 335),(J 21),(V 336)]))
 def a77:=(Obj.mk (Value.type "frame") none Data.plain #[(some (R 124)),(some (R 3)),(some (R 121)),none,(some (U "ballrockers.errors" 187)),none,(some (R 0))])
 def a78:=(Y "dict" (Data.dict #[(E P "__module__" 337 (U "ballrockers.errors" 187)),(E P "__firstlineno__" 341 (I 21 340)),(E P "__static_attributes__" 342 (R 126)),(E P "__doc__" 343 O)] 2))
 def a79:=(Obj.mk (Value.type "type") none (Data.cls (ClassData.mk (S "NoFit") [(R 24)] [(R 128),(R 24),(Value.type "ValueError"),(Value.type "Exception"),(Value.type "BaseException"),(Value.type "object")] 127 (S "NoFit") true [] [] false none false)) #[(some (R 119)),none,(some (U "NoFit" 330)),(some (U "NoFit" 338)),(some (Value.builtin "ValueError.__new__")),(some (Value.bool true))])
 def a80:=(Y "super" (A #[(R 128),(R 128),(R 128)]))
 def a81:=(Y "builtin_function_or_method" (A #[(Value.builtin "object.__init_subclass__"),(R 128)]))
 def a82:=(Y "dict" (Data.dict #[(E P "__module__" 353 (U "ballrockers.errors" 187)),(E P "__qualname__" 355 (U "TooGreat" 354)),(E P "__firstlineno__" 357 (I 23 356)),(E P "__static_attributes__" 358 (R 138))] 4))
 def a83:=(Y "code" (A #[(U "TooGreat" 348),(U "TooGreat" 349),(V 350),(J 23),(J 0),(J 0),(J 0),(J 0),(R 134),(Value.bool false),(J 181),(R 135),O,O,O,O,(J 351),(J 23),(V 352)]))
 def a84:=(Obj.mk (Value.type "frame") none Data.plain #[(some (R 136)),(some (R 3)),(some (R 133)),none,(some (U "ballrockers.errors" 187)),none,(some (R 0))])
 def a85:=(Y "dict" (Data.dict #[(E P "__module__" 353 (U "ballrockers.errors" 187)),(E P "__firstlineno__" 357 (I 23 356)),(E P "__static_attributes__" 358 (R 138)),(E P "__doc__" 359 O)] 2))
 def a86:=(Obj.mk (Value.type "type") none (Data.cls (ClassData.mk (S "TooGreat") [(R 24)] [(R 140),(R 24),(Value.type "ValueError"),(Value.type "Exception"),(Value.type "BaseException"),(Value.type "object")] 139 (S "TooGreat") true [] [] false none false)) #[(some (R 131)),none,(some (U "TooGreat" 346)),(some (U "TooGreat" 354)),(some (Value.builtin "ValueError.__new__")),(some (Value.bool true))])
 def a87:=(Y "super" (A #[(R 140),(R 140),(R 140)]))
 def a88:=(Y "builtin_function_or_method" (A #[(Value.builtin "object.__init_subclass__"),(R 140)]))
 def a89:=(Y "dict" (Data.dict #[(E P "__module__" 369 (U "ballrockers.errors" 187)),(E P "__qualname__" 371 (U "NoMachine" 370)),(E P "__firstlineno__" 373 (I 25 372)),(E P "__static_attributes__" 374 (R 150))] 4))
 def a90:=(Y "code" (A #[(U "NoMachine" 364),(U "NoMachine" 365),(V 366),(J 25),(J 0),(J 0),(J 0),(J 0),(R 146),(Value.bool false),(J 181),(R 147),O,O,O,O,(J 367),(J 25),(V 368)]))
 def a91:=(Obj.mk (Value.type "frame") none Data.plain #[(some (R 148)),(some (R 3)),(some (R 145)),none,(some (U "ballrockers.errors" 187)),none,(some (R 0))])
 def a92:=(Y "dict" (Data.dict #[(E P "__module__" 369 (U "ballrockers.errors" 187)),(E P "__firstlineno__" 373 (I 25 372)),(E P "__static_attributes__" 374 (R 150)),(E P "__doc__" 375 O)] 2))
 def a93:=(Obj.mk (Value.type "type") none (Data.cls (ClassData.mk (S "NoMachine") [(R 24)] [(R 152),(R 24),(Value.type "ValueError"),(Value.type "Exception"),(Value.type "BaseException"),(Value.type "object")] 151 (S "NoMachine") true [] [] false none false)) #[(some (R 143)),none,(some (U "NoMachine" 362)),(some (U "NoMachine" 370)),(some (Value.builtin "ValueError.__new__")),(some (Value.bool true))])
 def a94:=(Y "super" (A #[(R 152),(R 152),(R 152)]))
 def a95:=(Y "builtin_function_or_method" (A #[(Value.builtin "object.__init_subclass__"),(R 152)]))
 def a96:=(Y "dict" (Data.dict #[(E P "__module__" 385 (U "ballrockers.errors" 187)),(E P "__qualname__" 387 (U "NoWord" 386)),(E P "__firstlineno__" 389 (I 27 388)),(E P "__static_attributes__" 390 (R 162))] 4))
 def a97:=(Y "code" (A #[(U "NoWord" 380),(U "NoWord" 381),(V 382),(J 27),(J 0),(J 0),(J 0),(J 0),(R 158),(Value.bool false),(J 181),(R 159),O,O,O,O,(J 383),(J 27),(V 384)]))
 def a98:=(Obj.mk (Value.type "frame") none Data.plain #[(some (R 160)),(some (R 3)),(some (R 157)),none,(some (U "ballrockers.errors" 187)),none,(some (R 0))])
 def a99:=(Y "dict" (Data.dict #[(E P "__module__" 385 (U "ballrockers.errors" 187)),(E P "__firstlineno__" 389 (I 27 388)),(E P "__static_attributes__" 390 (R 162)),(E P "__doc__" 391 O)] 2))
 def a100:=(Obj.mk (Value.type "type") none (Data.cls (ClassData.mk (S "NoWord") [(R 24)] [(R 164),(R 24),(Value.type "ValueError"),(Value.type "Exception"),(Value.type "BaseException"),(Value.type "object")] 163 (S "NoWord") true [] [] false none false)) #[(some (R 155)),none,(some (U "NoWord" 378)),(some (U "NoWord" 386)),(some (Value.builtin "ValueError.__new__")),(some (Value.bool true))])
 def a101:=(Y "super" (A #[(R 164),(R 164),(R 164)]))
 def a102:=(Y "builtin_function_or_method" (A #[(Value.builtin "object.__init_subclass__"),(R 164)]))
 def a103:=(Y "dict" (Data.dict #[(E P "__module__" 401 (U "ballrockers.errors" 187)),(E P "__qualname__" 403 (U "NoFault" 402)),(E P "__firstlineno__" 405 (I 29 404)),(E P "__static_attributes__" 406 (R 174))] 4))
 def a104:=(Y "code" (A #[(U "NoFault" 396),(U "NoFault" 397),(V 398),(J 29),(J 0),(J 0),(J 0),(J 0),(R 170),(Value.bool false),(J 181),(R 171),O,O,O,O,(J 399),(J 29),(V 400)]))
 def a105:=(Obj.mk (Value.type "frame") none Data.plain #[(some (R 172)),(some (R 3)),(some (R 169)),none,(some (U "ballrockers.errors" 187)),none,(some (R 0))])
 def a106:=(Y "dict" (Data.dict #[(E P "__module__" 401 (U "ballrockers.errors" 187)),(E P "__firstlineno__" 405 (I 29 404)),(E P "__static_attributes__" 406 (R 174)),(E P "__doc__" 407 O)] 2))
 def a107:=(Obj.mk (Value.type "type") none (Data.cls (ClassData.mk (S "NoFault") [(R 24)] [(R 176),(R 24),(Value.type "ValueError"),(Value.type "Exception"),(Value.type "BaseException"),(Value.type "object")] 175 (S "NoFault") true [] [] false none false)) #[(some (R 167)),none,(some (U "NoFault" 394)),(some (U "NoFault" 402)),(some (Value.builtin "ValueError.__new__")),(some (Value.bool true))])
 def a108:=(Y "super" (A #[(R 176),(R 176),(R 176)]))
 def a109:=(Y "builtin_function_or_method" (A #[(Value.builtin "object.__init_subclass__"),(R 176)]))
 def vt1:List Obj:=(((vt0 P).set 3 (a58 P)).set 12 a59).set 24 a60++[a16,a7,(a61 P),a0,a1,a62,a63,a0,(a64 P),a65,a66,a67,a16,a7,(a68 P),a0,a1,a69,a70,a0,(a71 P),a72,a73,a74,a16,a7,(a75 P),a0,a1,a76,a77,a0,(a78 P),a79,a80,a81,a16,a7,(a82 P),a0,a1,a83,a84,a0,(a85 P),a86,a87,a88,a16,a7,(a89 P),a0,a1,a90,a91,a0,(a92 P),a93,a94,a95,a16,a7,(a96 P),a0,a1,a97,a98,a0,(a99 P),a100,a101,a102,a16,a7,(a103 P),a0,a1,a104,a105,a0,(a106 P),a107,a108,a109]
 def t1:=qB 20 (vt1 P)
noncomputable def s1(w:World)(os:OsState):SharedT:=⟨t1 w.params,179,life,(Array.mk []),(Drawn.mk 0 0 0 0),410,os⟩
noncomputable def st1:List Stmt:=(bd.drop 7).take 7
set_option maxHeartbeats 0 in
theorem seg1(w:World)(os:OsState):segRun treeTable p w m0 ann 1 1492 (s0 w os).abs (piecesOf st1 env cd (Pos.mk 15 0 16 8) fr)=some (.next,(s1 w os).abs,cd,(Pos.mk 29 0 30 8)):=seg_q (by kernel_rfl)
 def ea110:=(ea58 P++[(E P "NoNames" 425 (R 188)),(E P "NoText" 441 (R 200)),(E P "NoSaying" 457 (R 212)),(E P "NoName" 473 (R 224)),(E P "is_whole" 482 (R 233)),(E P "is_whole_within" 491 (R 240)),(E P "is_tuple_within" 500 (R 247)),(E P "are_wholes_within" 512 (R 254)),(E P "MOST_COLUMNS" 516 (I 40 515)),(E P "MOST_ROWS" 518 (I 60 517)),(E P "MOST_GROUPS" 520 (I 8 519)),(E P "MOST_FEEDERS" 522 (I 4 521)),(E P "MOST_NAME" 524 (I 99 523)),(E P "look_at_board" 538 (R 261)),(E P "is_board_but_for_places" 550 (R 268)),(E P "are_rows" 559 (R 275)),(E P "are_doors" 569 (R 282)),(E P "is_door" 579 (R 289)),(E P "is_feeder_or_none" 587 (R 296)),(E P "may_stand" 597 (R 303)),(E P "is_rocker" 607 (R 310)),(E P "MIRRORED_RAMPS" 616 (R 311)),(E P "mirrored" 622 (R 316)),(E P "mirrored_piece" 631 (R 323)),(E P "_law_cell" 641 (R 330)),(E P "_law_mixed" 651 (R 337))])
 def a110:=Y "dict" (Data.dict ((E P "__name__" 165 (U "law_ballrockers_k03_mirrored" 632))::ea110 P).toArray 48)
 def ja111:List (Int×Nat):=ja59++[(31,184),(33,196),(35,208),(37,220),(40,232),(42,239),(44,246),(46,253),(59,260),(67,267),(76,274),(83,281),(90,288),(95,295),(97,302),(105,309),(112,315),(118,322),(124,329),(128,336)]
 def a111:=X (A (qJ ja111).toArray)
 def a112:=(Obj.mk (Value.type "type") none (Data.cls (ClassData.mk (S "BoardError") [(Value.type "ValueError")] [(R 24),(Value.type "ValueError"),(Value.type "Exception"),(Value.type "BaseException"),(Value.type "object")] 23 (S "BoardError") true [] [(R 37),(R 56),(R 68),(R 80),(R 92),(R 104),(R 116),(R 128),(R 140),(R 152),(R 164),(R 176),(R 188),(R 200),(R 212),(R 224)] false none false)) #[(some (R 15)),none,(some (U "BoardError" 189)),(some (U "BoardError" 197)),(some (Value.builtin "ValueError.__new__")),(some (Value.bool true))])
 def a113:=(Y "dict" (Data.dict #[(E P "__module__" 417 (U "ballrockers.errors" 187)),(E P "__qualname__" 419 (U "NoNames" 418)),(E P "__firstlineno__" 421 (I 31 420)),(E P "__static_attributes__" 422 (R 186))] 4))
 def a114:=(Y "code" (A #[(U "NoNames" 412),(U "NoNames" 413),(V 414),(J 31),(J 0),(J 0),(J 0),(J 0),(R 182),(Value.bool false),(J 181),(R 183),O,O,O,O,(J 415),(J 31),(V 416)]))
 def a115:=(Obj.mk (Value.type "frame") none Data.plain #[(some (R 184)),(some (R 3)),(some (R 181)),none,(some (U "ballrockers.errors" 187)),none,(some (R 0))])
 def a116:=(Y "dict" (Data.dict #[(E P "__module__" 417 (U "ballrockers.errors" 187)),(E P "__firstlineno__" 421 (I 31 420)),(E P "__static_attributes__" 422 (R 186)),(E P "__doc__" 423 O)] 2))
 def a117:=(Obj.mk (Value.type "type") none (Data.cls (ClassData.mk (S "NoNames") [(R 24)] [(R 188),(R 24),(Value.type "ValueError"),(Value.type "Exception"),(Value.type "BaseException"),(Value.type "object")] 187 (S "NoNames") true [] [] false none false)) #[(some (R 179)),none,(some (U "NoNames" 410)),(some (U "NoNames" 418)),(some (Value.builtin "ValueError.__new__")),(some (Value.bool true))])
 def a118:=(Y "super" (A #[(R 188),(R 188),(R 188)]))
 def a119:=(Y "builtin_function_or_method" (A #[(Value.builtin "object.__init_subclass__"),(R 188)]))
 def a120:=(Y "dict" (Data.dict #[(E P "__module__" 433 (U "ballrockers.errors" 187)),(E P "__qualname__" 435 (U "NoText" 434)),(E P "__firstlineno__" 437 (I 33 436)),(E P "__static_attributes__" 438 (R 198))] 4))
 def a121:=(Y "code" (A #[(U "NoText" 428),(U "NoText" 429),(V 430),(J 33),(J 0),(J 0),(J 0),(J 0),(R 194),(Value.bool false),(J 181),(R 195),O,O,O,O,(J 431),(J 33),(V 432)]))
 def a122:=(Obj.mk (Value.type "frame") none Data.plain #[(some (R 196)),(some (R 3)),(some (R 193)),none,(some (U "ballrockers.errors" 187)),none,(some (R 0))])
 def a123:=(Y "dict" (Data.dict #[(E P "__module__" 433 (U "ballrockers.errors" 187)),(E P "__firstlineno__" 437 (I 33 436)),(E P "__static_attributes__" 438 (R 198)),(E P "__doc__" 439 O)] 2))
 def a124:=(Obj.mk (Value.type "type") none (Data.cls (ClassData.mk (S "NoText") [(R 24)] [(R 200),(R 24),(Value.type "ValueError"),(Value.type "Exception"),(Value.type "BaseException"),(Value.type "object")] 199 (S "NoText") true [] [] false none false)) #[(some (R 191)),none,(some (U "NoText" 426)),(some (U "NoText" 434)),(some (Value.builtin "ValueError.__new__")),(some (Value.bool true))])
 def a125:=(Y "super" (A #[(R 200),(R 200),(R 200)]))
 def a126:=(Y "builtin_function_or_method" (A #[(Value.builtin "object.__init_subclass__"),(R 200)]))
 def a127:=(Y "dict" (Data.dict #[(E P "__module__" 449 (U "ballrockers.errors" 187)),(E P "__qualname__" 451 (U "NoSaying" 450)),(E P "__firstlineno__" 453 (I 35 452)),(E P "__static_attributes__" 454 (R 210))] 4))
 def a128:=(Y "code" (A #[(U "NoSaying" 444),(U "NoSaying" 445),(V 446),(J 35),(J 0),(J 0),(J 0),(J 0),(R 206),(Value.bool false),(J 181),(R 207),O,O,O,O,(J 447),(J 35),(V 448)]))
 def a129:=(Obj.mk (Value.type "frame") none Data.plain #[(some (R 208)),(some (R 3)),(some (R 205)),none,(some (U "ballrockers.errors" 187)),none,(some (R 0))])
 def a130:=(Y "dict" (Data.dict #[(E P "__module__" 449 (U "ballrockers.errors" 187)),(E P "__firstlineno__" 453 (I 35 452)),(E P "__static_attributes__" 454 (R 210)),(E P "__doc__" 455 O)] 2))
 def a131:=(Obj.mk (Value.type "type") none (Data.cls (ClassData.mk (S "NoSaying") [(R 24)] [(R 212),(R 24),(Value.type "ValueError"),(Value.type "Exception"),(Value.type "BaseException"),(Value.type "object")] 211 (S "NoSaying") true [] [] false none false)) #[(some (R 203)),none,(some (U "NoSaying" 442)),(some (U "NoSaying" 450)),(some (Value.builtin "ValueError.__new__")),(some (Value.bool true))])
 def a132:=(Y "super" (A #[(R 212),(R 212),(R 212)]))
 def a133:=(Y "builtin_function_or_method" (A #[(Value.builtin "object.__init_subclass__"),(R 212)]))
 def a134:=(Y "dict" (Data.dict #[(E P "__module__" 465 (U "ballrockers.errors" 187)),(E P "__qualname__" 467 (U "NoName" 466)),(E P "__firstlineno__" 469 (I 37 468)),(E P "__static_attributes__" 470 (R 222))] 4))
 def a135:=(Y "code" (A #[(U "NoName" 460),(U "NoName" 461),(V 462),(J 37),(J 0),(J 0),(J 0),(J 0),(R 218),(Value.bool false),(J 181),(R 219),O,O,O,O,(J 463),(J 37),(V 464)]))
 def a136:=(Obj.mk (Value.type "frame") none Data.plain #[(some (R 220)),(some (R 3)),(some (R 217)),none,(some (U "ballrockers.errors" 187)),none,(some (R 0))])
 def a137:=(Y "dict" (Data.dict #[(E P "__module__" 465 (U "ballrockers.errors" 187)),(E P "__firstlineno__" 469 (I 37 468)),(E P "__static_attributes__" 470 (R 222)),(E P "__doc__" 471 O)] 2))
 def a138:=(Obj.mk (Value.type "type") none (Data.cls (ClassData.mk (S "NoName") [(R 24)] [(R 224),(R 24),(Value.type "ValueError"),(Value.type "Exception"),(Value.type "BaseException"),(Value.type "object")] 223 (S "NoName") true [] [] false none false)) #[(some (R 215)),none,(some (U "NoName" 458)),(some (U "NoName" 466)),(some (Value.builtin "ValueError.__new__")),(some (Value.bool true))])
 def a139:=(Y "super" (A #[(R 224),(R 224),(R 224)]))
 def a140:=(Y "builtin_function_or_method" (A #[(Value.builtin "object.__init_subclass__"),(R 224)]))
 def a141:=qT 479 ["thing"]
 def a142:=qG "is_whole" 19
 def a143:=qC "is_whole" 476 40 1 227 480
 def u474:=U "ballrockers.whole" 474
 def a144:=qF "is_whole" 19 u474 232
 def a145:=qT 486 ["thing","low","high"]
 def a146:=qG "is_whole_within" 20
 def a147:=qC "is_whole_within" 483 42 3 234 489
 def a148:=qF "is_whole_within" 20 u474 239
 def a149:=qT 495 ["thing","fewest","most"]
 def a150:=qG "is_tuple_within" 21
 def a151:=qC "is_tuple_within" 492 44 3 241 498
 def a152:=qF "is_tuple_within" 21 u474 246
 def a153:=qT 504 ["thing","fewest","most","low","high","number"]
 def a154:=qG "are_wholes_within" 22
 def a155:=qC "are_wholes_within" 501 46 5 248 510
 def a156:=qF "are_wholes_within" 22 u474 253
 def a157:=qT 528 ["board","width","groups","rows","row","places","column","piece"]
 def a158:=qG "look_at_board" 29
 def a159:=qC "look_at_board" 525 59 1 255 536
 def u513:=U "ballrockers.boards" 513
 def a160:=qF "look_at_board" 29 u513 260
 def a161:=qT 542 ["board","width","groups","rows","feeders","doors"]
 def a162:=qG "is_board_but_for_places" 30
 def a163:=qC "is_board_but_for_places" 539 67 1 262 548
 def a164:=qF "is_board_but_for_places" 30 u513 267
 def a165:=qT 554 ["thing","width","places"]
 def a166:=qG "are_rows" 31
 def a167:=qC "are_rows" 551 76 2 269 557
 def a168:=qF "are_rows" 31 u513 274
 def a169:=qT 563 ["thing","width","feeders","door"]
 def a170:=qG "are_doors" 32
 def a171:=qC "are_doors" 560 83 3 276 567
 def a172:=qF "are_doors" 32 u513 281
 def a173:=qT 573 ["thing","feeders","name","call"]
 def a174:=qG "is_door" 33
 def a175:=qC "is_door" 570 90 2 283 577
 def a176:=qF "is_door" 33 u513 288
 def a177:=qT 583 ["thing","feeders"]
 def a178:=qG "is_feeder_or_none" 34
 def a179:=qC "is_feeder_or_none" 580 95 2 290 585
 def a180:=qF "is_feeder_or_none" 34 u513 295
 def a181:=qT 591 ["piece","column","width","groups"]
 def a182:=qG "may_stand" 35
 def a183:=qC "may_stand" 588 97 4 297 595
 def a184:=qF "may_stand" 35 u513 302
 def a185:=qT 601 ["thing","groups","group","side"]
 def a186:=qG "is_rocker" 36
 def a187:=qC "is_rocker" 598 105 2 304 605
 def a188:=qF "is_rocker" 36 u513 309
 def a189:=(Y "dict" (Data.dict #[(E P "<" 610 (U ">" 611)),(E P ">" 612 (U "<" 613))] 2))
 def a190:=qG "mirrored" 39
 def a191:=qD "mirrored" 617 112 1 312 620
 def a192:=qF "mirrored" 39 (U "ballrockers.mirrors" 608) 315
 def a193:=qT 626 ["piece","group","side"]
 def a194:=qG "mirrored_piece" 40
 def a195:=qC "mirrored_piece" 623 118 1 317 629
 def a196:=qF "mirrored_piece" 40 (U "ballrockers.mirrors" 608) 322
 def a197:=qT 637 ["_law_script","_law_k"]
 def a198:=qG "_law_cell" 42
 def a199:=qC "_law_cell" 634 124 2 324 639
 def u632:=U "law_ballrockers_k03_mirrored" 632
 def a200:=qF "_law_cell" 42 u632 329
 def a201:=qT 645 ["_law_script","_law_k","_law_many","_law_number"]
 def a202:=qG "_law_mixed" 43
 def a203:=qC "_law_mixed" 642 128 3 331 649
 def a204:=qF "_law_mixed" 43 u632 336
 def vt2:List Obj:=(((vt1 P).set 3 (a110 P)).set 12 a111).set 24 a112++[a16,a7,(a113 P),a0,a1,a114,a115,a0,(a116 P),a117,a118,a119,a16,a7,(a120 P),a0,a1,a121,a122,a0,(a123 P),a124,a125,a126,a16,a7,(a127 P),a0,a1,a128,a129,a0,(a130 P),a131,a132,a133,a16,a7,(a134 P),a0,a1,a135,a136,a0,(a137 P),a138,a139,a140,a0,a1,a141,a0,a142,a143,a144,a0,a1,a145,a0,a146,a147,a148,a0,a1,a149,a0,a150,a151,a152,a0,a1,a153,a0,a154,a155,a156,a0,a1,a157,a0,a158,a159,a160,a0,a1,a161,a0,a162,a163,a164,a0,a1,a165,a0,a166,a167,a168,a0,a1,a169,a0,a170,a171,a172,a0,a1,a173,a0,a174,a175,a176,a0,a1,a177,a0,a178,a179,a180,a0,a1,a181,a0,a182,a183,a184,a0,a1,a185,a0,a186,a187,a188,(a189 P),a0,a1,a190,a191,a192,a0,a1,a193,a0,a194,a195,a196,a0,a1,a197,a0,a198,a199,a200,a0,a1,a201,a0,a202,a203,a204]
 def t2:=qB 20 (vt2 P)
noncomputable def s2(w:World)(os:OsState):SharedT:=⟨t2 w.params,338,life,(Array.mk []),(Drawn.mk 0 0 0 0),652,os⟩
noncomputable def st2:List Stmt:=(bd.drop 14).take 30
set_option maxHeartbeats 0 in
theorem seg2(w:World)(os:OsState):segRun treeTable p w m0 ann 1 1477 (s1 w os).abs (piecesOf st2 env cd (Pos.mk 29 0 30 8) fr)=some (.next,(s2 w os).abs,cd,(Pos.mk 128 0 130 40)):=byRow2 "special-get-raises" (P:=λw=>segRun treeTable p w m0 ann 1 1477 (s1 w os).abs (piecesOf st2 env cd (Pos.mk 29 0 30 8) fr)=some (.next,(s2 w os).abs,cd,(Pos.mk 128 0 130 40))) (λw=>seg_q (by kernel_rfl)) (λw=>seg_q (by kernel_rfl)) w
 def ea205:=(ea110 P++[(E P "_law_deck" 657 (R 342)),(E P "_law_take" 666 (R 349)),(E P "_law_piece" 678 (R 356)),(E P "_law_row" 684 (R 361)),(E P "_law_door" 694 (R 368)),(E P "_law_board" 700 (R 373)),(E P "_law_kinds" 708 (R 380)),(E P "_law_word" 716 (R 387)),(E P "_law_mirrored" 722 (R 392)),(E P "_law_same" 728 (R 397)),(E P "_law_told" 736 (R 404)),(E P "law" 756 (R 411))])
 def a205:=Y "dict" (Data.dict ((E P "__name__" 165 (U "law_ballrockers_k03_mirrored" 632))::ea205 P).toArray 60)
 def ja206:List (Int×Nat):=ja111++[(131,341),(133,348),(142,355),(152,360),(154,367),(160,372),(167,379),(173,386),(178,391),(192,396),(202,403),(210,410)]
 def a206:=X (A (qJ ja206).toArray)
 def a207:=qG "_law_deck" 44
 def a208:=qD "_law_deck" 652 131 1 338 655
 def a209:=qF "_law_deck" 44 u632 341
 def a210:=qT 661 ["_law_deck_here","_law_many","_law_cell_here"]
 def a211:=qG "_law_take" 45
 def a212:=qC "_law_take" 658 133 2 343 664
 def a213:=qF "_law_take" 45 u632 348
 def a214:=qT 670 ["_law_deck_here","_law_column","_law_width","_law_groups","_law_kind","_law_piece_here"]
 def a215:=qG "_law_piece" 46
 def a216:=qC "_law_piece" 667 142 4 350 676
 def a217:=qF "_law_piece" 46 u632 355
 def a218:=qG "_law_row" 47
 def a219:=qD "_law_row" 679 152 3 357 682
 def a220:=qF "_law_row" 47 u632 360
 def a221:=qT 688 ["_law_deck_here","_law_feeders","_law_name","_law_call"]
 def a222:=qG "_law_door" 48
 def a223:=qC "_law_door" 685 154 2 362 692
 def a224:=qF "_law_door" 48 u632 367
 def a225:=qG "_law_board" 49
 def a226:=qD "_law_board" 695 160 4 369 698
 def a227:=qF "_law_board" 49 u632 372
 def a228:=qT 704 ["_law_e","_law_found"]
 def a229:=qG "_law_kinds" 50
 def a230:=qC "_law_kinds" 701 167 1 374 706
 def a231:=qF "_law_kinds" 50 u632 379
 def a232:=qT 712 ["_law_e","_law_words"]
 def a233:=qG "_law_word" 51
 def a234:=qC "_law_word" 709 173 1 381 714
 def a235:=qF "_law_word" 51 u632 386
 def a236:=qG "_law_mirrored" 52
 def a237:=qD "_law_mirrored" 717 178 1 388 720
 def a238:=qF "_law_mirrored" 52 u632 391
 def a239:=qG "_law_same" 53
 def a240:=qD "_law_same" 723 192 2 393 726
 def a241:=qF "_law_same" 53 u632 396
 def a242:=qT 732 ["_law_board_here","_law_e"]
 def a243:=qG "_law_told" 54
 def a244:=qC "_law_told" 729 202 1 398 734
 def a245:=qF "_law_told" 54 u632 403
 def a246:=qT 740 ["_law_script","_law_deck_here","_law_great","_law_board_here","_law_found","_law_width","_law_groups","_law_rows","_law_feeders","_law_doors","_law_column","_law_odd","_law_spoiled","_law_wrong"]
 def a247:=qG "law" 55
 def a248:=qC "law" 737 210 1 405 754
 def a249:=qF "law" 55 u632 410
 def vt3:List Obj:=((vt2 P).set 3 (a205 P)).set 12 a206++[a0,a1,a207,a208,a209,a0,a1,a210,a0,a211,a212,a213,a0,a1,a214,a0,a215,a216,a217,a0,a1,a218,a219,a220,a0,a1,a221,a0,a222,a223,a224,a0,a1,a225,a226,a227,a0,a1,a228,a0,a229,a230,a231,a0,a1,a232,a0,a233,a234,a235,a0,a1,a236,a237,a238,a0,a1,a239,a240,a241,a0,a1,a242,a0,a243,a244,a245,a0,a1,a246,a0,a247,a248,a249]
 def t3:=qB 20 (vt3 P)
noncomputable def s3(w:World)(os:OsState):SharedT:=⟨t3 w.params,412,life,(Array.mk []),(Drawn.mk 0 0 0 0),757,os⟩
noncomputable def st3:List Stmt:=(bd.drop 44).take 12
set_option maxHeartbeats 0 in
theorem seg3(w:World)(os:OsState):segRun treeTable p w m0 ann 1 360 (s2 w os).abs (piecesOf st3 env cd (Pos.mk 128 0 130 40) fr)=some (.next,(s3 w os).abs,cd,(Pos.mk 210 0 227 124)):=seg_q (by kernel_rfl)
 def hz:Heap:=Heap.mk (Array.mk (vt3 P)) (Life.mk [] [] [] 0 [] [] false #[] [] 0 false false false 0 [2000,10,10] false 0 true [] [] 0 false)
noncomputable def sz(w:World)(os:OsState):Shared:=⟨hz w.params,(Array.mk []),(Drawn.mk 0 0 0 0),757,os⟩
set_option maxHeartbeats 0 in
theorem fin(w:World)(os:OsState):topRun treeTable p w m0 ann 2 (s3 w os).abs ⟨doneF .next,cd,(Pos.mk 210 0 227 124),fr⟩=some (sz w os):=fin_q (by kernel_rfl)
 def as:List Addr:=[2,3,15,22,23,24,25,28,35,36,37,40,47,49,50,52,53,54,55,56,59,66,67,68,71,78,79,80,83,90,91,92,95,102,103,104,107,114,115,116,119,126,127,128,131,138,139,140,143,150,151,152,155,162,163,164,167,174,175,176,179,186,187,188,191,198,199,200,203,210,211,212,215,222,223,224,227,229,230,232,233,234,236,237,239,240,241,243,244,246,247,248,250,251,253,254,255,257,258,260,261,262,264,265,267,268,269,271,272,274,275,276,278,279,281,282,283,285,286,288,289,290,292,293,295,296,297,299,300,302,303,304,306,307,309,310,311,312,315,316,317,319,320,322,323,324,326,327,329,330,331,333,334,336,337,338,341,342,343,345,346,348,349,350,352,353,355,356,357,360,361,362,364,365,367,368,369,372,373,374,376,377,379,380,381,383,384,386,387,388,391,392,393,396,397,398,400,401,403,404,405,407,408,410,411]
 def K:Frag:=as.map λi=>(i,(vt3 P).getD i a0)
noncomputable def M0:Nat:=(12+ (1+ (1295+ (1492+ (1477+ (360+2))))))
theorem bd_is:bd=st0++(st1++(st2++(st3++([])))):=by kernel_rfl
theorem rest(w:World)(os:OsState):topRun treeTable p w m0 ann (1295+ (1492+ (1477+ (360+ (2))))) (sb w os).abs (restOf bd env cd (Pos.mk 0 0 0 0) fr)=some (sz w os):=by
 rw[show restOf bd env cd (Pos.mk 0 0 0 0) fr=restOf (st0++(st1++(st2++(st3++([]))))) env cd (Pos.mk 0 0 0 0) fr from vdh (λb=>restOf b env cd (Pos.mk 0 0 0 0) fr) bd_is]
 exact(piece_app (seg0 w os) (piece_app (seg1 w os) (piece_app (seg2 w os) (piece_app (seg3 w os) (piece_nil (fin w os))))))
theorem run(w:World)(os:OsState):topRun treeTable p w m0 ann M0 ⟨boot_heap w.params,Array.mk [],boot_drawn,boot_toks,os⟩ (topStub p)=some (sz w os):=
 go_top (pre w os) (piece_block (block w os) (rest w os))
noncomputable def lawAt:Nat:=55
noncomputable def zwg:Pos:=(Pos.mk 210 0 227 124)
noncomputable def q:Program:={p with main:={p.main with body:=keep.map (atN p.main.body)}}
theorem as_is:∀P,as=(K P).map (·.1):=λ_=>by kernel_rfl
noncomputable def H:Hook:=kHook K as as_is
noncomputable def Xt(s:Shared):Bool:=xlAt q [] s&&recOk [] s
theorem zwh(w:World)(os:OsState):(staticsOk (importedModules p.main.body) (boot_heap w.params) (hz w.params)&&namesBound p (hz w.params)&&gensDone (sz w os)&&laidKept (boot_heap w.params) (hz w.params))=true:=by
 rw[PySem.W.Fast.te5923862056798008813];kernel_rfl
theorem zwi(w:World)(os:OsState):seen ((recsOf q).map (·.name)) (ownsOf q) [] {sz w os with gens:=#[]}=expectedOf q:=by
 rw[PySem.W.Fast.te5160383126252970620,PySem.W.R.mapR_eq,PySem.W.Fast.te3399658132070893891,PySem.W.Fast.te5991557255702980513];kernel_rfl
theorem l_blt(w:World)(os:OsState):(sz w os).heap.bltView=bltViewBooted:=by kernel_rfl
theorem zwj(w:World)(os:OsState):((sz w os).heap.keysOk (looseW q lo) ((recsOf q).map (·.name)) ((litsOf q).map (·.1)) ((clssOf q (looseW q lo)).map (·.name))&& (sz w os).heap.accountedOkI (importedModules p.main.body)&& (sz w os).heap.isNs mainGlobals&& (sz w os).heap.isNs builtinsNs&&tablesOk q (sz w os).heap&&Xt (sz w os)&& (if true=true then(sz w os).gens.size==0 else !leftWithCleanup (sz w os).gens))=true:=by
 rw[PySem.W.Fast.te10880121769531294198,PySem.W.Fast.te821141287760084731,PySem.W.R.mapR_eq,PySem.W.Fast.te3399658132070893891,PySem.W.Fast.te7409074990110511671,PySem.W.Fast.te13664370479719496447,PySem.W.Fast.te14722251495701143533,PySem.W.Fast.te10994771534591457954,PySem.W.Fast.te5923862056798008813];kernel_rfl
theorem zwk(w:World)(os:OsState):tabsOk q (sz w os)=true:=by rw[PySem.W.Fast.te479339242167458305];kernel_rfl
theorem l_pin(w:World)(os:OsState):pinSeenD q (drecsOf q) (sz w os)=pinGoodD (drecsOf q):=by rw[PySem.W.Fast.te16090120013241838585,PySem.W.Fast.te3247288618530077131];kernel_rfl
theorem l_plE(w:World)(os:OsState):plainSeenE q (looseW q lo) (sz w os)=plainGoodE q (looseW q lo):=by rw[PySem.W.Fast.te2386780881361962483,PySem.W.Fast.te821141287760084731];kernel_rfl
theorem l_plD(w:World)(os:OsState):plainSeenD q lo (sz w os)=plainGoodD q lo:=by rw[PySem.W.Fast.te11698064438423848299];kernel_rfl
theorem zwl(w:World)(os:OsState):wideSeen q (sz w os)=wideGood q:=by rw[PySem.W.Fast.te7317090234206586261];kernel_rfl
theorem l_cls(w:World)(os:OsState):clsSeenW q lo (sz w os)=clsGoodW q lo:=by rw[PySem.W.Fast.te7369524293546568484];kernel_rfl
theorem zwm(w:World)(os:OsState):as.map (sz w os).heap.get?=(K w.params).map λp=>some p.2:=by kernel_rfl
theorem left:LeftO p q lo Xt (Hook.obs H) (Hook.val H) N0 true:=
 LeftO.of_pieces (H₀:=boot_heap) (H₁:=hz) (boot_open (by kernel_rfl) (by kernel_rfl) (λs=>by kernel_rfl)) (λw=>by kernel_rfl) run (by kernel_rfl)
  (λw=>funext λos=>looks_pair (zwh w os) (looks_pair
    (looks_pair (zwi w os) (looks_pair (l_blt w os) (looks_pair (zwj w os) (looks_pair (zwk w os) (looks_pair (l_pin w os) (looks_pair (l_plE w os) (looks_pair (l_plD w os) (looks_pair (zwl w os) (l_cls w os)))))))))
    (zwm w os)))
noncomputable def df:DefRec:=⟨S "law",fa lawAt,fb lawAt,fs lawAt,zwg⟩
theorem df_is:defOf q (S "law")=some (df,[]):=by kernel_rfl
theorem holds(l:OpenLaw)(hp:l.prog=p)(hn:l.name=S "law")(ok:l.wellSaid=true)(hch:(chainsOk q&&opensWell p&& (frees l.row.toRowW&&l.row.within.isEmpty))=true)(hb:l.row.toRowW.prog.bare)(hw:l.row.toRowW.promised)
 (hwr:(!l.row.writes||l.row.records.isEmpty)=true) (hk:p.theDef (S "law")=some (df.params,df.body,df.scope)) (hkw:kwWritten? df.params.kwonlyargs df.params.kw_defaults=some [])
 (call:WalkO q lo (XL q []) (Hook.says H) l.row.toRowW df [] λf vs=>PySem.call f vs):l.Holds:=
 holds_law ok λsaid=>PySem.W.holds_open (q:=q) (loose:=lo) (Xt:=Xt) (XP:=XL q []) (Yf:=Hook.obs H) (Ya:=Hook.val H) (YP:=Hook.says H) (N:=N0) (r:=l.row) (by have h:l.row.toRowW.prog=p:=hp;show LeftO l.row.toRowW.prog q lo Xt (Hook.obs H) (Hook.val H) N0 true;rw[h];exact left) (Hook.of H) (Hook.keeps H) (λs e=>xl_of s (vct.mp e).1) XL.keeps
  (by show defOf q l.name=_;rw[hn];exact df_is) (by show l.prog.theDef l.name=_;rw[hp,hn];exact hk) hkw (λs e=>recFacts_of (vct.mp e).2) hwr said (by have h:l.row.toRowW.prog=p:=hp;rw[h];exact hch) hb hw call
end
end
end HD
namespace RF
noncomputable def T03:List PySem.Str:=(["is_whole","is_whole_within","_law_cell","_law_deck","_law_mixed","_law_take","is_tuple_within","are_wholes_within","are_doors","are_rows","is_board_but_for_places","is_door","is_feeder_or_none","is_rocker","look_at_board","may_stand"]++List.replicate 5 "" ++ ["_law_piece"]++List.replicate 1 "" ++ ["_law_door"]++List.replicate 1 "" ++ ["_law_row","_law_board"]++List.replicate 161 "" ++ ["mirrored","mirrored_piece"]++List.replicate 510 "" ++ ["_law_mirrored","_law_same","_law_told","law"]).map PySem.Str.ofString
noncomputable def fnNo:Fn:=⟨0,0,.no⟩
noncomputable def zqg:List Fn:=[fn0,fn1,fn2,fn3,fn4,fn5,fn6,fn7,fn8,fn9,fn10,fn11,fn12,fn13,fn14,fn15]++List.replicate 5 fnNo++[fn21]++List.replicate 1 fnNo++[fn23]++List.replicate 1 fnNo++[fn25,fn26]++List.replicate 161 fnNo++[fn188,fn189]++List.replicate 510 fnNo++[zc0,zbu,zb5,zc1,zbk,zb6]
noncomputable def R03:RX:=⟨[PySem.Str.ofString "look_at_board",PySem.Str.ofString "mirrored"],704,[(37,PySem.Str.ofString "board"),(56,PySem.Str.ofString "fault")]⟩
theorem c03:C03 (λi=>zqg[i]?):=by repeat' (first|rfl|constructor)
end RF
set_option maxHeartbeats 0 in
theorem RF.pb03(P:PySem.Params):RF.cProg (HD.K P) RF.T03 RF.R03 60 60=some RF.zqg:=by kernel_rfl
open PySem PySem.W PyProof.Rows
set_option maxRecDepth 100000 in
set_option maxHeartbeats 0 in
theorem PySem.Challenge.cw_ballrockers_k03_mirrored_holds : PySem.Challenge.rw_ballrockers_k03_mirrored.Holds := by
 refine HD.holds _ rfl rfl RF.pa03 (by kernel_rfl) ⟨rfl,rfl,rfl,rfl,rfl,by decide +kernel⟩ ?hw rfl (by kernel_rfl) (by kernel_rfl) ?call
 (case hw=>w_witness2)
 refine RF.zo1 RF.T03 RF.R03 60 60 30 703 rfl (by kernel_rfl) ⟨rfl,by decide,by decide⟩ ?dd (λw h Y=>PySem.W.kIn_of Y) (by kernel_rfl) (by decide +kernel) ?b ?c ?d
 (case dd=>
   intro w
   have e:RF.DctOk w (HD.K w.params)=(PyData.keyHash w.params "<" = hashStr w "<"/\PyData.keyHash w.params ">" = hashStr w ">"/\True):=by kernel_rfl
   rw[e];exact⟨rfl,rfl,trivial⟩)
 (case c=>intro w;kernel_rfl)
 (case d=>
   intro w C z hm
   have e:C=37/\z=PySem.Str.ofString "board"\/C=56/\z=PySem.Str.ofString "fault":=by simpa[RF.R03]using hm
   rcases e with⟨rfl,rfl⟩|⟨rfl,rfl⟩<;>exact⟨by kernel_rfl,by repeat' (first|kernel_rfl|rfl|decide|constructor)⟩)
 (case b=>
   intro w ns hl
   exact RF.zsc (RF.pb03 _) (RF.law03 RF.c03 hl))
