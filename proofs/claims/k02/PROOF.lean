import PyProof.Rows.All
import Wide.All
import OpenK.AllK
import Wide.FinOn
import Lean
import PyProof.EqAt
import PyProof.EqKinds
import PyProof.TupleCall
import KE.KUnpack
import PySem.Challenge.RW_ballrockers_k02_leans_stands
set_option Elab.async false
set_option linter.all false
set_option genSizeOf false
set_option maxRecDepth 100000
set_option maxHeartbeats 0 in
theorem RF.pa02:PySem.Challenge.rw_ballrockers_k02_leans_stands.wellSaid=true:=by kernel_rfl
def vax:=@decide_eq_true_eq
def va6:=@of_decide_eq_true
def vbd:=@if_true
def vbe:=@if_false
def vbp:=@decide_eq_false
def vcc:=@beq_iff_eq
def vcw:=@beq_eq_false_iff_ne
def vdk:=@or_false
def vdn:=@congrArg
open Bool renaming and_eq_true->vaa,false_eq_true->vah,false_ne_true->va0,or_eq_true->vcu,false_and->vc4,eq_iff_iff->vdo,not_eq_true'->vdu,not_true->vd2,true_and->vd4,and_self->vef
open PySem renaming wpAny_bind->vab,wpAny_pure->vaf,wpAny_mono->vav,wpAny_standAt->va4,wpAny_holding->vbs,wpAny_Call_Name_kw->vbt,wpAny_execs_nil->vbu,wpAny_truthy_bool->vbv,wpAny_loadPart_at->vbw,wpAny_newObj_type->vb4,wpAny_isSubtype_exc->vce,wpAny_field->vcp,wpAny_passesOwn->vcr,wpAny_comprehension_free->vct,codeAny_mono->vcv,mem_of_lookup->vcx,wpAny_callSpecial?_slot->vcz,wpAny_execs_cons->vc2,wpAny_call->vc5,call_meets->vdd,wpAny_setField->vdw,wpAny_call_entry->vd0,wpAny_rule->vd5,codeAny_of_tree->vd7,wpAny_of_eq->vd8,wpAny_Expr_any->vec,sizeLine_eq->ved,wpAny_ite->veg
open Nat renaming le_refl->vac,lt_of_lt_of_le->vae,le_trans->vap,lt_succ_self->vaq,ne_of_lt->vau,le_of_ble_eq_true->va2,zero_le->va9,lt_succ_of_lt->vba,lt_of_le_of_lt->vbi,not_lt->vb5,eq_of_beq_eq_true->vb6,ne_of_gt->vca,lt_irrefl->vcf,le_of_lt->vc8,le_succ_of_le->vde,add_le_add_left->vdm,le_succ->vdv
open PySem.Heap renaming get?_push_of_some->vad,lt_size->vaj,get?_push_size->va3,get?_update_other->vbz,get?_update_self->vch,size_push->vc6
open List renaming size_toArray->vag,length_map->vai,length_append->vak,length_cons->vam,getElem?_eq_some_iff->van,mem_cons_of_mem->vao,mem_append_right->vas,mem_cons->vat,mem_cons_self->vaw,getElem?_eq_getElem->vay,lookup_cons->vaz,map_cons->va1,append_nil->va5,mem_singleton->va8,getElem?_eq_none_iff->vbc,replicate_succ->vbf,getElem?_set_self->vbg,length_singleton->vbh,not_mem_nil->vbj,getElem?_append_right->vbm,all_cons->vbn,mem_append->vbq,all_eq_true->vbr,zip_cons_cons->vby,getElem?_append_left->vb1,getElem?_map->vb3,getElem?_cons_succ->vb7,getElem?_set_ne->vb8,mem_of_getElem?->vb9,filterMap_cons->vcb,flatten_cons->vcd,drop_eq_getElem_cons->vcg,find?_cons->vci,nil_append->vcj,drop_eq_nil_of_le->vcl,mem_map->vco,reverse_cons->vcs,getElem?_replicate->vcy,getElem?_cons_zero->vc0,cons_append->vc3,length_replicate->vc9,length_set->vda,map_nil->vdb,drop_zero->vdf,length_drop->vdg,getElem_mem->vdj,length_reverse->vdl,nodup_cons->vdp,length_nil->vdq,set_cons_zero->vdt,forIn_nil->vdx,length_take->vdz,of_mem_zip->vd6,map_append->vd9,mem_range->veb,any_cons->vee
open PySem.AutoSeq1 renaming wpAny_loadPart'->va7
open Option renaming map_some->vbb,map_eq_some_iff->vck,bind_some->vdh,join_some->vd1
open PySem.W renaming kia_one->vbk,callWith_K->vcn,mg_of->vd3
open PyProof.Rows renaming slot_tuple_getitem->vbl
open Int renaming eq_ofNat_of_zero_le->vbo,toNat_natCast->vdc,emod_lt_of_pos->vds,emod_nonneg->vea
open Array renaming getElem?_eq_some_iff->vbx
open Option.some renaming inj->vb0
open PySem.W.Fast renaming te14364793385576792824->vb2
open PySem.F renaming slot_tuple_iterator_next->vcm,plainAttrs_list->vc1,slot_tuple_mul->vdi
open Ne renaming symm->vcq
open PySem.SeqAt renaming canLay_of_shaped->vc7
open PySem.Code renaming quiet_builtin->vdr
open LawfulMonad renaming pure_bind->vdy
namespace L2
open PySem PySem.Spec PyProof.Rows
noncomputable abbrev Key:=Sum Int Str
noncomputable def keyIs:Key->Value->Bool
 |.inl k,v=>Value.isInt k v
 |.inr x,v=>Value.isStrOf x v
noncomputable def keyH(w:World):Key->Int
 |.inl k=>hashInt k
 |.inr x=>hashStr w x
theorem zaw:∀{k:Key} {v:Value},keyIs k v=true->(∃i t,k=Sum.inl i/\v=Value.int i t)\/(∃x t,k=Sum.inr x/\v=Value.str x t)
 |.inl i,v,h=>by
  obtain⟨t,e⟩:=Value.isInt_shape (k:=i) (v:=v) h
  exact .inl ⟨i,t,rfl,e⟩
 |.inr x,v,h=>by
  obtain⟨t,e⟩:=Value.isStrOf_shape (x:=x) (v:=v) h
  exact .inr ⟨x,t,rfl,e⟩
theorem zkj(i:Int)(t:Tok):keyIs (.inl i) (.int i t)=true:=by simp[keyIs,Value.isInt]
theorem zkk(x:Str)(t:Tok):keyIs (.inr x) (.str x t)=true:=by simp[keyIs,Value.isStrOf]
theorem zs7(a b:Int):decide ((Sum.inl a:Key)=Sum.inl b)=(a==b):=by
 by_cases e:a=b
 .subst e;simp
 .have h:¬(Sum.inl a:Key)=Sum.inl b:=λq=>e (Sum.inl.inj q)
  rw[vbp h]
  exact(vcw.mpr e).symm
theorem zs8(a b:Str):decide ((Sum.inr a:Key)=Sum.inr b)=decide (a=b):=by
 by_cases e:a=b
 .subst e;simp
 .have h:¬(Sum.inr a:Key)=Sum.inr b:=λq=>e (Sum.inr.inj q)
  rw[vbp h,vbp e]
theorem zs9(a:Int)(b:Str):decide ((Sum.inl a:Key)=Sum.inr b)=false:=vbp (λq=>nomatch q)
theorem zta(a:Str)(b:Int):decide ((Sum.inr a:Key)=Sum.inl b)=false:=vbp (λq=>nomatch q)
noncomputable def za3(prog:Program)(w:World):PySem.KeyKind prog w Key where
 is:=keyIs
 hash:=keyH w
 inj:=λv a b ha hb=>by
  rcases zaw ha with⟨i,t,rfl,rfl⟩|⟨x,t,rfl,rfl⟩
  .rcases zaw hb with⟨j,u,rfl,e⟩|⟨y,u,rfl,e⟩
   .injection e with e1 _;rw[e1]
   .exact nomatch e
  .rcases zaw hb with⟨j,u,rfl,e⟩|⟨y,u,rfl,e⟩
   .exact nomatch e
   .injection e with e1 _;rw[e1]
 byValue:=λk v h=>by
  rcases zaw h with⟨i,t,rfl,rfl⟩|⟨x,t,rfl,rfl⟩<;>rfl
 pyHash:=λhv h=>by
  rcases zaw hv with⟨i,t,rfl,rfl⟩|⟨x,t,rfl,rfl⟩
  .exact wpAny_pyHash_int h
  .exact wpAny_pyHash_str h
 eqBool:=λhu hv h=>by
  rcases zaw hu with⟨i,t,rfl,rfl⟩|⟨x,t,rfl,rfl⟩
  .rcases zaw hv with⟨j,u,rfl,rfl⟩|⟨y,u,rfl,rfl⟩
   .rw[zs7]at h;exact wpAny_eqBool_int h
   .rw[zs9]at h;exact SeqAt.EqAt.int_str i t y u _ _ _ _ h
  .rcases zaw hv with⟨j,u,rfl,rfl⟩|⟨y,u,rfl,rfl⟩
   .rw[zta]at h;exact SeqAt.EqAt.str_int x t j u _ _ _ _ h
   .rw[zs8]at h;exact wpAny_eqBool_str h
 «strs»:=λk x t v h=>by
  rcases zaw h with⟨i,u,rfl,e⟩|⟨y,u,rfl,e⟩
  .exact nomatch e
  .injection e with e1 _
   subst e1
   cases v<;>rfl
theorem zhu(prog:Program)(w:World)(i:Int)(t:Tok):(za3 prog w).is (.inl i) (.int i t)=true:=zkj i t
theorem zhv(prog:Program)(w:World)(x:Str)(t:Tok):(za3 prog w).is (.inr x) (.str x t)=true:=zkk x t
inductive V where
 |non|bl (b:Bool)|int (i:Int)|str (x:Str)|byt (b:Array UInt8)|flt (b:UInt64)|ref (a:Addr)|ty (n:String)
 deriving DecidableEq
noncomputable def RelV:V->Value->Prop
 |.non,u=>u=Value.none
 |.bl b,u=>u=Value.bool b
 |.int i,u=>∃t,u=Value.int i t
 |.str x,u=>∃t,u=Value.str x t
 |.byt b,u=>∃t,u=Value.bytes b t
 |.flt b,u=>∃t,u=Value.float b t
 |.ref a,u=>u=Value.ref a
 |.ty n,u=>u=Value.type n
noncomputable abbrev Vals:List V->List Value->Prop:=Paired RelV
theorem Vals.length{xs:List V}{us:List Value}(r:Vals xs us):xs.length=us.length:=Paired.length r
theorem Vals.get:∀{xs:List V} {us:List Value} {i:Nat} {x:V},Vals xs us->xs[i]?=some x->∃u,us[i]?=some u/\RelV x u
 |_,_,_,_,.nil,e=>by simp at e
 |_,_,0,_,.cons r _,e=>by simp at e;subst e;exact⟨_,rfl,r⟩
 |_,_,i+1,x,.cons _ t,e=>by
  obtain⟨u,h1,h2⟩:=Vals.get (i:=i) (x:=x) t (by simpa using e)
  exact⟨u,by simpa using h1,h2⟩
theorem Vals.set{x:V}{u:Value}(r:RelV x u):∀{xs:List V} {us:List Value} (i:Nat),Vals xs us->Vals (xs.set i x) (us.set i u)
 |_,_,_,.nil=>.nil
 |_,_,0,.cons _ t=>.cons r t
 |_,_,i+1,.cons q t=>.cons q (Vals.set r i t)
theorem Vals.append:∀{xs ys:List V} {us ws:List Value},Vals xs us->Vals ys ws->Vals (xs++ys) (us++ws)
 |_,_,_,_,.nil,s=>s
 |_,_,_,_,.cons r t,s=>.cons r (Vals.append t s)
theorem Vals.take:∀{xs:List V} {us:List Value} (n:Nat),Vals xs us->Vals (xs.take n) (us.take n)
 |_,_,0,_=>.nil
 |_,_,_+1,.nil=>.nil
 |_,_,n+1,.cons r t=>.cons r (Vals.take n t)
theorem Vals.drop:∀{xs:List V} {us:List Value} (n:Nat),Vals xs us->Vals (xs.drop n) (us.drop n)
 |_,_,0,r=>r
 |_,_,_+1,.nil=>.nil
 |_,_,n+1,.cons _ t=>Vals.drop n t
noncomputable def RelO:Option V->Option Value->Prop
 |some v,some u=>RelV v u
 |none,none=>True
 |_,_=>False
noncomputable def KV{κ:Type}:List (κ×V)->List (κ×Value)->Prop:=Paired λ(p:κ×V) (q:κ×Value)=>p.1=q.1/\RelV p.2 q.2
noncomputable def kV:Key->V
 |.inl i=>.int i
 |.inr x=>.str x
inductive HO where
 /-- a list -/
 |lst (xs:List V)
 /-- a tuple (never changes) -/
 |tup (xs:List V)
 /-- a dict whose keys are ints and texts;one whose keys are tuples of ints and texts (the empty one is both) -/
 |dK (kvs:List (Key×V))|dT (kvs:List (List Key×V))
 /-- a set of ints: its members,its size -/
 |set (S:Int->Bool) (n:Nat)
 /-- an instance of the class at C,its dict at dx,its attributes -/
 |ins (C dx:Addr) (fs:List (Str×V))
 /-- the dict of the instance at x -/
 |own (x:Addr)
 /-- the dict of an exception -/
 |xd (fs:List (Str×V))
 /-- a bound method,f of x -/
 |met (f x:Addr)
 /-- a range object lo,lo+1,.. below hi -/
 |rng (lo hi:Int)
 /-- a thing that is known to the object (the script;a dict while a loop walks it): read,never written while it is so -/
 |frz (o:Obj) (u:HO)
 /-- a code object's table -/
 |tbl (ps:Array Value)
 /-- any other thing,by what is true of its one object (a def of one's own: SetO a S n:=HO.ext λh=>..) -/
 |ext (φ:Heap->Prop)
noncomputable abbrev Hp:=Addr->Option HO
noncomputable def upd(H:Hp)(a:Addr)(o:HO):Hp:=λb=>if b=a then some o else H b
theorem zag{H:Hp}{a:Addr}{o:HO}:upd H a o a=some o:=by unfold upd;rw[if_pos rfl]
theorem zaf{H:Hp}{a b:Addr}{o:HO}(h:b≠a):upd H a o b=H b:=by unfold upd;rw[if_neg h]
theorem ne_of{H:Hp}{a b:Addr}{o u:HO}(h:H a=some o)(h':H b=some u)(d:o≠u):a≠b:=by
 intro e;subst e;rw[h]at h';exact d (vb0 h')
theorem zaj{H:Hp}{a b:Addr}{o:HO}(h:H a=some o)(h':H b=none):a≠b:=by
 intro e;subst e;rw[h]at h';cases h'
noncomputable def zbq(h:Heap)(a:Addr)(items:Array Value):Prop:=∃o,h.get? a=some o/\o.cls=.type "tuple"/\(∃n,o.data=.seq items n)/\o.dict=none
theorem zbq.tup{h:Heap}{a:Addr}{items:Array Value}(x:zbq h a items):IsTup h a items:=let⟨o,e,c,d,_⟩:=x;⟨o,e,c,d⟩
theorem zbq.lt{h:Heap}{a:Addr}{items:Array Value}(x:zbq h a items):a<h.objs.size:=x.tup.lt
theorem zbq.new(h:Heap)(items:Array Value):zbq (h.push {cls:=.type "tuple",data:=.seq items}) h.objs.size items:=⟨_,va3 _ rfl,rfl,⟨_,rfl⟩,rfl⟩
section
variable(P:Program)(w:World)
noncomputable def ObjOk(H:Hp)(h:Heap)(a:Addr):HO->Prop
 |.lst xs=>xs.length<=sizeLine/\∃(its:List Value) (n:Nat),Vals xs its/\h.get? a=some {cls:=.type "list",data:=.seq its.toArray n}
 |.tup xs=>xs.length<=sizeLine/\∃its:List Value,Vals xs its/\zbq h a its.toArray
 |.dK kvs=>kvs.length<=sizeLine/\(a==sysModules)=false/\∃vs,KV kvs vs/\h.DictOf (za3 P w) a vs
 |.dT kvs=>kvs.length<=sizeLine/\(a==sysModules)=false/\∃xs:List (List Key×Addr×Value),
  Paired (λ(p:List Key×V)(q:List Key×Addr×Value)=>p.1=q.1/\H q.2.1=some (.tup (p.1.map kV))/\RelV p.2 q.2.2) kvs xs/\
  ∃o es ep,h.get? a=some o/\o.ExactDict/\o.data=.dict es ep/\es.toList=xs.map (entryOfKey (tupleKind (za3 P w)))/\(xs.map (·.1)).Nodup
 |.set S n=>h.SetOf (intKind P w) a S n
 |.ins C dx fs=>H dx=some (.own a)/\fs.length<=1000/\dx≠a/\h.get? a=some (PySem.W.instObj C dx)/\
  ∃mA,h.Ns1 dx mA/\(∀f,RelO (fs.lookup f) (mA f))/\PySem.Within mA (fs.map (·.1))
 |.own _=>∃o,h.get? a=some o
 |.xd fs=>∃mA,h.Ns1 a mA/\∀f,RelO (fs.lookup f) (mA f)
 |.rng lo hi=>∃t u v,h.get? a=some {cls:=.type "range",data:=.fields #[.int lo t,.int hi u,.int 1 v]}
 |.frz o u=>h.get? a=some o/\ObjOk H h a u
 |.tbl ps=>h.get? a=some {cls:=.none,data:=.fields ps}
 |.met f x=>h.get? a=some (PySem.W.methodObj (.ref f) (.ref x))
 |.ext φ=>φ h/\(∃o,h.get? a=some o)/\∀h1 h2:Heap,φ h1->(∀o,h1.get? a=some o->h2.get? a=some o)->φ h2
noncomputable def HOk(H:Hp)(h:Heap):Prop:=∀a o,H a=some o->ObjOk P w H h a o
end
section
variable{P:Program}{w:World}{H H':Hp}{h h':Heap}{a:Addr}{o:HO}
theorem ObjOk.lt(x:ObjOk P w H h a o):a<h.objs.size:=by
 cases o with
 |lst xs=>obtain⟨_,_,_,_,e⟩:=x;exact vaj e
 |tup xs=>obtain⟨_,_,_,p⟩:=x;exact p.lt
 |dK kvs=>obtain⟨_,_,_,_,o,_,_,e,_⟩:=x;exact vaj e
 |dT kvs=>obtain⟨_,_,_,_,o,_,_,e,_⟩:=x;exact vaj e
 |set S n=>obtain⟨o,_,_,_,e,_⟩:=x;exact vaj e
 |ins C dx fs=>obtain⟨_,_,_,e,_⟩:=x;exact vaj e
 |own y=>obtain⟨_,e⟩:=x;exact vaj e
 |xd fs=>obtain⟨_,⟨_,_,_,e,_⟩,_⟩:=x;exact vaj e
 |rng lo hi=>obtain⟨_,_,_,e⟩:=x;exact vaj e
 |frz ob u=>obtain⟨e,_⟩:=x;exact vaj e
 |tbl ps=>exact vaj (show h.get? a=some _ from x)
 |met f y=>exact vaj (show h.get? a=some _ from x)
 |ext φ=>obtain⟨_,⟨_,e⟩,_⟩:=x;exact vaj e
theorem Paired.mapP{α β:Type}{F G:α->β->Prop}:∀{l₁:List α} {l₂:List β},Paired F l₁ l₂->(∀a b,F a b->G a b)->Paired G l₁ l₂
 |_,_,.nil,_=>.nil
 |_,_,.cons r t,f=>.cons (f _ _ r) (Paired.mapP t f)
theorem ObjOk.stay(x:ObjOk P w H h a o)(k:∀b u,(b=a\/H b=some (.own a))->h.get? b=some u->h'.get? b=some u)
 (ho:∀b,H b=some (.own a)->H' b=some (.own a)) (ht:∀b xs,H b=some (.tup xs)->H' b=some (.tup xs)):ObjOk P w H' h' a o:=by
 induction o with
 |lst xs=>obtain⟨z,its,n,r,e⟩:=x;exact⟨z,its,n,r,k _ _ (.inl rfl) e⟩
 |tup xs=>obtain⟨z,its,r,ob,e,c⟩:=x;exact⟨z,its,r,ob,k _ _ (.inl rfl) e,c⟩
 |dK kvs=>obtain⟨z,y,vs,r,ob,es,ep,e,c⟩:=x;exact⟨z,y,vs,r,ob,es,ep,k _ _ (.inl rfl) e,c⟩
 |dT kvs=>
  obtain⟨z,y,xs,r,ob,es,ep,e,c⟩:=x
  exact⟨z,y,xs,Paired.mapP r λp q z=>⟨z.1,ht _ _ z.2.1,z.2.2⟩,ob,es,ep,k _ _ (.inl rfl) e,c⟩
 |set S n=>obtain⟨ob,es,ep,t,e,c⟩:=x;exact⟨ob,es,ep,t,k _ _ (.inl rfl) e,c⟩
 |ins C dx fs=>
  obtain⟨d,z,ne,e,mA,⟨od,es,ep,e2,c⟩,r⟩:=x
  exact⟨ho _ d,z,ne,k _ _ (.inl rfl) e,mA,⟨od,es,ep,k _ _ (.inr d) e2,c⟩,r⟩
 |own y=>obtain⟨ob,e⟩:=x;exact⟨ob,k _ _ (.inl rfl) e⟩
 |xd fs=>obtain⟨mA,⟨od,es,ep,e,c⟩,r⟩:=x;exact⟨mA,⟨od,es,ep,k _ _ (.inl rfl) e,c⟩,r⟩
 |rng lo hi=>obtain⟨t,u,v,e⟩:=x;exact⟨t,u,v,k _ _ (.inl rfl) e⟩
 |frz ob u ih=>obtain⟨e,q⟩:=x;exact⟨k _ _ (.inl rfl) e,ih q⟩
 |tbl ps=>
  have e:h.get? a=some {cls:=.none,data:=.fields ps}:=x
  show h'.get? a=some {cls:=.none,data:=.fields ps}
  exact k a _ (.inl rfl) e
 |met f y=>
  have e:h.get? a=some (PySem.W.methodObj (.ref f) (.ref y)):=x
  show h'.get? a=some (PySem.W.methodObj (.ref f) (.ref y))
  exact k a _ (.inl rfl) e
 |ext φ=>obtain⟨p,⟨o,e⟩,st⟩:=x;exact⟨st _ _ p λo q=>k _ _ (.inl rfl) q,⟨o,k _ _ (.inl rfl) e⟩,st⟩
theorem HOk.lt(x:HOk P w H h)(e:H a=some o):a<h.objs.size:=(x a o e).lt
theorem HOk.fresh(x:HOk P w H h)(e:h.objs.size<=a):H a=none:=by
 cases q:H a with
 |none=>rfl
 |some u=>exact absurd (vae (x.lt q) e) (vcf _)
theorem HOk.kept(x:HOk P w H h)(k:∀b u,h.get? b=some u->h'.get? b=some u):HOk P w H h':=λa o e=>
 (x a o e).stay (λb u _ q=>k b u q) (λ_ q=>q) λ_ _ q=>q
theorem HOk.laid(x:HOk P w H h)(k:∀b u,h.get? b=some u->h'.get? b=some u)(hp:h.objs.size<=a)(new:ObjOk P w (upd H a o) h' a o):HOk P w (upd H a o) h':=λb u e=>by
 have hn:=x.fresh hp
 by_cases hb:b=a
 .subst hb;rw[zag]at e;cases e;exact new
 .rw[zaf hb]at e
  exact(x b u e).stay (λc v _ q=>k c v q) (λc q=>by rw[zaf (zaj q hn)];exact q) λc xs q=>by rw[zaf (zaj q hn)];exact q
end
noncomputable def Rd(H:Hp)(a:Addr)(u:HO):Prop:=H a=some u\/∃o,H a=some (.frz o u)
theorem Rd.ok{P:Program}{w:World}{H:Hp}{h:Heap}{a:Addr}{u:HO}(r:Rd H a u)(x:HOk P w H h):ObjOk P w H h a u:=by
 rcases r with r|⟨o,r⟩
 .exact x a u r
 .obtain⟨_,q⟩:=x a _ r
  exact q
noncomputable def Mut:Option HO->Prop
 |some (.lst _)=>True
 |some (.dK _)=>True
 |some (.dT _)=>True
 |some (.set _ _)=>True
 |some (.ins _ _ _)=>True
 |some (.ext _)=>True
 |_=>False
section
variable{P:Program}{w:World}{H:Hp}{h h':Heap}{x e:Addr}{o':HO}
theorem HOk.write(ok:HOk P w H h)(mu:Mut (H x))(he:e=x\/H e=some (.own x))(k:∀b u,b≠e->h.get? b=some u->h'.get? b=some u)(heo:∃u,h'.get? e=some u)
 (new:ObjOk P w (upd H x o') h' x o'):HOk P w (upd H x o') h':=λb u q=>by
 have nown:∀c y,H c=some (.own y)->c≠x:=λc y r z=>by subst z;rw[r]at mu;exact mu
 have ntup:∀c xs,H c=some (.tup xs)->c≠x:=λc xs r z=>by subst z;rw[r]at mu;exact mu
 by_cases hb:b=x
 .subst hb;rw[zag]at q;cases q;exact new
 .rw[zaf hb]at q
  by_cases hbe:b=e
  .have q':H b=some (.own x):=by
    rcases he with z|z
    .exact absurd (hbe.trans z) hb
    .rw[hbe];exact z
   rw[q]at q';cases q'
   obtain⟨v,hv⟩:=heo
   exact⟨v,by rw[hbe];exact hv⟩
  .refine(ok b u q).stay (λc v hc r=>k c v ?_ r) (λc r=>by rw[zaf (nown c b r)];exact r) λc xs r=>by rw[zaf (ntup c xs r)];exact r
   rcases hc with rfl|hc
   .exact hbe
   .rintro rfl
    rcases he with z|z
    .exact nown c b hc z
    .rw[hc]at z;cases z;exact hb rfl
end
structure Un(fs ex:List Addr)(H H':Hp)(h h':Heap):Prop where
 keep:∀b o,h.get? b=some o->H b=none->b∉fs->b∉ex->h'.get? b=some o
 slot:∀b o,h.get? b=some o->H b=none->b∈fs->b∉ex->∃sl,h'.get? b=some {o with slots:=sl}
 free:∀b o,h.get? b=some o->H b=none->b∉ex->H' b=none
 there:∀b o,h.get? b=some o->b∉ex->∃o',h'.get? b=some o'
 tups:∀b xs,H b=some (.tup xs)->H' b=some (.tup xs)
 frzs:∀b o u,H b=some (.frz o u)->H' b=some (.frz o u)
 tbls:∀b ps,H b=some (.tbl ps)->∃more,H' b=some (.tbl (ps++more))
section
variable{fs fs' ex ex':List Addr}{H H1 H2:Hp}{h h1 h2 h':Heap}{a x e:Addr}{o:HO}
theorem Un.any(u:Un fs ex H H1 h h1){b:Addr}{ob:Obj}(q:h.get? b=some ob)(n:H b=none)(hx:b∉ex):∃sl,h1.get? b=some {ob with slots:=sl}:=by
 by_cases hb:b∈fs
 .exact u.slot b ob q n hb hx
 .exact⟨ob.slots,u.keep b ob q n hb hx⟩
theorem Un.kept(k:∀b u,h.get? b=some u->h'.get? b=some u):Un fs ex H H h h':=
 ⟨λb ob q _ _ _=>k b ob q,λb ob q _ _ _=>⟨ob.slots,k b ob q⟩,λ_ _ _ n _=>n,λb ob q _=>⟨ob,k b ob q⟩,λ_ _ q=>q,λ_ _ _ q=>q,λ_ ps q=>⟨#[],by rw[q];simp⟩⟩
theorem Un.refl:Un fs ex H H h h:=Un.kept λ_ _ q=>q
theorem Un.laid(k:∀b u,h.get? b=some u->h'.get? b=some u)(hp:h.objs.size<=a)(hn:H a=none):Un fs ex H (upd H a o) h h' where
 keep:=λb u q _ _ _=>k b u q
 slot:=λb u q _ _ _=>⟨u.slots,k b u q⟩
 free:=λb u q n _=>by rw[zaf (vau (vae (vaj q) hp))];exact n
 there:=λb u q _=>⟨u,k b u q⟩
 tups:=λb xs q=>by rw[zaf (zaj q hn)];exact q
 frzs:=λb u xs q=>by rw[zaf (zaj q hn)];exact q
 tbls:=λb ps q=>⟨#[],by rw[zaf (zaj q hn),q];simp⟩
theorem Un.write(mu:Mut (H x))(he:e=x\/H e=some (.own x))(k:∀b u,b≠e->h.get? b=some u->h'.get? b=some u)(heo:∃u,h'.get? e=some u):Un fs ex H (upd H x o) h h':=by
 have hx:∀b,H b=none->b≠x:=λb n z=>by subst z;rw[n]at mu;exact mu
 have hb:∀b,H b=none->b≠e:=λb n z=>by
  subst z
  rcases he with r|r
  .exact hx b n r
  .rw[n]at r;cases r
 have hm:∀b u,H b=some u->¬Mut (some u)->b≠x:=λb u q nm z=>by subst z;rw[q]at mu;exact nm mu
 refine⟨λb u q n _ _=>k b u (hb b n) q,λb u q n _ _=>⟨u.slots,k b u (hb b n) q⟩,λb u q n _=>by rw[zaf (hx b n)];exact n,λb u q _=>?_,
  λb xs q=>by rw[zaf (hm b _ q λz=>z)];exact q,λb u xs q=>by rw[zaf (hm b _ q λz=>z)];exact q,λb ps q=>⟨#[],by rw[zaf (hm b _ q λz=>z),q];simp⟩⟩
 by_cases hbe:b=e
 .subst hbe;exact heo
 .exact⟨u,k b u hbe q⟩
end
noncomputable def trk(h:Heap)(H:Hp):List Addr:=(List.range h.objs.size).filter λa=>(H a).isSome
noncomputable def hidT(h:Heap)(H:Hp):Heap:=PySem.W.hideAll h (trk h H)
theorem zkl(h:Heap)(H:Hp):(hidT h H).objs.size=h.objs.size:=PySem.W.hideAll_size _ _
theorem znt{h:Heap}{H:Hp}{b:Addr}{o:Obj}(e:h.get? b=some o)(n:H b=none):(hidT h H).get? b=some o:=
 PySem.W.hideAll_get _ e λhm=>by
  have q:(H b).isSome=true:=(List.mem_filter.mp hm).2
  rw[n]at q;simp at q
theorem zqx{h:Heap}{H:Hp}{b:Addr}{o:Obj}(e:(hidT h H).get? b=some o):h.get? b=some o/\H b=none:=by
 have e':h.get? b=some o:=PySem.W.of_hideAll (trk h H) e
 refine⟨e',?_⟩
 cases q:H b with
 |none=>rfl
 |some x=>
  have hm:b∈trk h H:=List.mem_filter.mpr ⟨veb.mpr (vaj e'),by simp[q]⟩
  have z:(hidT h H).get? b=none:=PySem.W.hideAll_none (trk h H) hm
  rw[z]at e;cases e
structure Mod(K:PySem.W.Frag)(mg:Str->Option Value)(base:Heap):Prop where
 kin:K.In base
 glob:base.Ns mainGlobals mg
 blt:∃mb,base.Ns builtinsNs mb/\∀x:Str,x≠"__name__"->mb x=bootBuiltins x
 nolimit:base.NoLimit
set_option genInjectivity false in
structure Cx where
 prog:Program
 w:World
 K:PySem.W.Frag
 mg:Str->Option Value
 base:Heap
 A:Around
 N:List Str
 s₀:Shared
 H₀:Hp
 env:Env
 outer:List Env
 stack:List Env
 ex:List Addr
 fn:Str->Bool
 calm:Bool
 pn:List (Addr×Obj)
 xe:Value->Shared->Prop
noncomputable def frs(l:List Env):List Addr:=l.filterMap (·.frame)
noncomputable abbrev Cx.fs(X:Cx):List Addr:=frs X.outer
noncomputable def Vis(sc:Scope)(x:Str):Prop:=sc.names.lookup x=some .local\/sc.names.lookup x=some .cell\/sc.names.lookup x=some .free
noncomputable def Loc(sc:Scope)(x:Str):Prop:=sc.names.lookup x=some .local\/sc.names.lookup x=some .cell
noncomputable def Look(env:Env)(h:Heap)(m:Str->Option Value)(x:Str)(u:Value):Prop:=
 (env.kindOf x=some .local/\m x=some u)\/((env.kindOf x=some .cell\/env.kindOf x=some .free)/\∃c,env.cells.lookup x=some c/\h.IsCell c (some u))
structure Cx.Ok(X:Cx):Prop where
 mod:Mod X.K X.mg X.base
 kind:X.env.scope.kind=.function
 glob:X.env.globals=mainGlobals
 blt:X.env.builtins=builtinsNs
 above:X.s₀.heap.objs.size<=X.env.locals
 inj:∀x y c,X.env.cells.lookup x=some c->X.env.cells.lookup y=some c->x=y
 has:∀x,(X.env.kindOf x=some .cell\/X.env.kindOf x=some .free)->∃c,X.env.cells.lookup x=some c
 cab:∀x c,X.fn x=true->X.env.cells.lookup x=some c->X.s₀.heap.objs.size<=c
 hd:X.calm=true->X.A.handled=none
 frames:X.A.frames=some X.stack
 stk:X.stack=X.outer\/(X.stack=X.env::X.outer/\X.env.frame=some X.env.locals)
 exf:∀b∈X.ex,b≠X.env.locals/\∀x c,X.env.cells.lookup x=some c->c≠b
 bs:∀b o,X.base.get? b=some o->X.s₀.heap.get? b=some o/\X.H₀ b=none
 bsz:X.base.objs.size<=X.s₀.heap.objs.size
 noex:∀b o,X.base.get? b=some o->b∉X.ex
 exfs:∀b∈X.ex,b∉X.fs
 funs:X.s₀.heap.FunFrames X.base X.outer
 frf:∀b∈X.fs,X.H₀ b=none
structure Inv(X:Cx)(pins:List (Addr×Obj))(σ:List (Option V))(H:Hp)(s:Shared):Prop where
 ok:X.Ok
 os:s.os=X.s₀.os
 bare:AllBare s.gens
 base:Un X.fs X.ex X.H₀ H X.s₀.heap s.heap
 loc:∃m,s.heap.Ns X.env.locals m/\∀(i:Nat)(x:Str)(v:V),X.N[i]?=some x->σ[i]?=some (some v)->Vis X.env.scope x->∃u,RelV v u/\Look X.env s.heap m x u
 cell:∀x c,X.env.cells.lookup x=some c->∃v,s.heap.IsCell c v
 free:H X.env.locals=none
 freeC:∀x c,X.env.cells.lookup x=some c->H c=none
 pin:∀p∈X.pn++pins,s.heap.get? p.1=some p.2/\H p.1=none/\p.1≠X.env.locals/\p.1∉X.fs/\∀v,p.2.data≠.cell v
 hok:HOk X.prog X.w H s.heap
 len:σ.length=X.N.length
section
variable{X:Cx}{pins:List (Addr×Obj)}{σ:List (Option V)}{H H':Hp}{s:Shared}{h':Heap}
theorem Cx.Ok.nofr(ok:X.Ok){b:Addr}{o:Obj}(e:X.base.get? b=some o):b∉X.fs:=λhb=>by
 have:=(ok.funs.mem hb).1
 rw[e]at this;cases this
theorem Inv.bs(I:Inv X pins σ H s):∀b o,X.base.get? b=some o->s.heap.get? b=some o/\H b=none:=λb o e=>
 ⟨I.base.keep b o (I.ok.bs b o e).1 (I.ok.bs b o e).2 (I.ok.nofr e) (I.ok.noex b o e),I.base.free b o (I.ok.bs b o e).1 (I.ok.bs b o e).2 (I.ok.noex b o e)⟩
theorem Inv.bk(I:Inv X pins σ H s):∀b o,X.base.get? b=some o->s.heap.get? b=some o:=λb o e=>(I.bs b o e).1
theorem Inv.mod(I:Inv X pins σ H s):Mod X.K X.mg X.base:=I.ok.mod
theorem Inv.kIn(I:Inv X pins σ H s):X.K.In s.heap:=I.ok.mod.kin.keeps I.bk
theorem Inv.lt(I:Inv X pins σ H s):X.env.locals<s.heap.objs.size:=let⟨_,hn,_⟩:=I.loc;hn.lt
theorem Inv.sz(I:Inv X pins σ H s):X.s₀.heap.objs.size<=s.heap.objs.size:=vap I.ok.above (vc8 I.lt)
theorem Inv.nofs(I:Inv X pins σ H s){a:Addr}(h:s.heap.objs.size<=a):a∉X.fs:=λhb=>by
 obtain⟨_,o,ho,_⟩:=I.ok.funs.mem hb
 exact absurd (vae (vaj ho) (vap I.sz h)) (vcf _)
theorem Inv.cne(I:Inv X pins σ H s):∀x c,X.env.cells.lookup x=some c->c≠X.env.locals:=λx c e z=>by
 obtain⟨v,o,ho,hd⟩:=I.cell x c e
 obtain⟨m,⟨o',es,ep,ho',hd',_⟩,_⟩:=I.loc
 rw[z,ho']at ho;cases ho;rw[hd']at hd;cases hd
theorem Inv.funs(I:Inv X pins σ H s):s.heap.FunFrames X.base X.outer:=by
 have all:∀(l:List Env),(∀b∈frs l,b∈X.fs)->X.s₀.heap.FunFrames X.base l->s.heap.FunFrames X.base l:=by
  intro l
  induction l with
  |nil=>intro _ _;trivial
  |cons env r ih=>
   intro hs hl
   obtain⟨hk,⟨L,o,hf,hn,ho,hd⟩,hr⟩:=hl
   have hL:L∈X.fs:=hs L (by unfold frs;rw[vcb,hf];exact vaw)
   obtain⟨sl,e⟩:=I.base.slot L o ho (I.ok.frf L hL) hL λz=>I.ok.exfs L z hL
   exact⟨hk,⟨L,_,hf,hn,e,hd⟩,ih (λb hb=>hs b (by unfold frs;rw[vcb,hf];exact vao _ hb)) hr⟩
 exact all X.outer (λ_ hb=>hb) I.ok.funs
theorem Inv.stack(I:Inv X pins σ H s):s.heap.FunFrames X.base X.stack:=by
 rcases I.ok.stk with e|⟨e,hf⟩
 .rw[e];exact I.funs
 .rw[e]
  obtain⟨m,hn,_⟩:=I.loc
  refine .cons (by rw[I.ok.kind];decide) hf hn ?_ I.funs
  exact Heap.get?_none_of_le (vap I.ok.bsz I.ok.above)
theorem Inv.stkSub(I:Inv X pins σ H s):∀b∈frs X.stack,b∈X.env.locals::X.fs:=λb hb=>by
 rcases I.ok.stk with e|⟨e,hf⟩
 .rw[e]at hb;exact vao _ hb
 .rw[e]at hb
  unfold frs at hb
  rw[vcb,hf]at hb
  exact hb
theorem Inv.stkFree(I:Inv X pins σ H s):∀b∈frs X.stack,H b=none:=λb hb=>by
 rcases vat.mp (I.stkSub b hb)with e|hb
 .rw[e];exact I.free
 .obtain⟨_,o,ho,_⟩:=I.ok.funs.mem hb
  exact I.base.free b o ho (I.ok.frf b hb) λz=>I.ok.exfs b z hb
theorem Inv.step{g':Array GenState}{t':Nat}{d':Drawn}{ch:List Addr}(I:Inv X pins σ H s)
 (hch:∀b∈ch,(b∈X.ex\/X.s₀.heap.objs.size<=b)/\b≠X.env.locals/\(∀x c,X.env.cells.lookup x=some c->c≠b)/\∀p∈X.pn++pins,p.1≠b)
 (keep:∀b o,b≠X.env.locals->b∉X.fs->b∉ch->s.heap.get? b=some o->H b=none->h'.get? b=some o)
 (slot:∀b o,b≠X.env.locals->b∈X.fs->b∉ch->s.heap.get? b=some o->H b=none->∃sl,h'.get? b=some {o with slots:=sl}) (free:∀b o,b∉ch->s.heap.get? b=some o->H b=none->H' b=none)
 (there:∀b o,b∉ch->s.heap.get? b=some o->∃o',h'.get? b=some o')
 (tups:∀b xs,H b=some (.tup xs)->H' b=some (.tup xs)) (frzs:∀b o u,H b=some (.frz o u)->H' b=some (.frz o u)) (tbls:∀b ps,H b=some (.tbl ps)->∃more,H' b=some (.tbl (ps++more)))
 (ns:∀m,s.heap.Ns X.env.locals m->h'.Ns X.env.locals m) (hok:HOk X.prog X.w H' h') (hg:AllBare g') :
 Inv X pins σ H' {s with heap:=h',gens:=g',drawn:=d',toks:=t'}:=by
 have neL:∀b o,X.s₀.heap.get? b=some o->b≠X.env.locals:=λb o e=>vau (vae (vaj e) I.ok.above)
 have neC:∀b o,X.s₀.heap.get? b=some o->b∉X.ex->b∉ch:=λb o e hx hb=>by
  rcases(hch b hb).1 with z|z
  .exact hx z
  .exact absurd (vae (vaj e) z) (vcf _)
 have cellK:∀x c,X.env.cells.lookup x=some c->∀v,s.heap.IsCell c v->h'.IsCell c v:=λx c e v hq0=>by
  obtain⟨o,ho,hd⟩:=hq0
  have nch:c∉ch:=λz=>(hch c z).2.2.1 x c e rfl
  by_cases hc:c∈X.fs
  .obtain⟨sl,q⟩:=slot c o (I.cne x c e) hc nch ho (I.freeC x c e)
   exact⟨_,q,hd⟩
  .exact⟨o,keep c o (I.cne x c e) hc nch ho (I.freeC x c e),hd⟩
 refine⟨I.ok,I.os,hg,⟨λb o e n hb hx=>?_,λb o e n hb hx=>?_,λb o e n hx=>?_,λb o e hx=>?_,λb xs e=>tups b xs (I.base.tups b xs e),λb o xs e=>frzs b o xs (I.base.frzs b o xs e),λb ps e=>?_⟩,?_,λx c e=>?_,?_,λx c e=>?_,λp hp=>?_,hok,I.len⟩
 .exact keep b o (neL b o e) hb (neC b o e hx) (I.base.keep b o e n hb hx) (I.base.free b o e n hx)
 .obtain⟨sl,e1⟩:=I.base.slot b o e n hb hx
  obtain⟨sl',e2⟩:=slot b _ (neL b o e) hb (neC b o e hx) e1 (I.base.free b o e n hx)
  exact⟨sl',e2⟩
 .obtain⟨o',e1⟩:=I.base.there b o e hx
  exact free b o' (neC b o e hx) e1 (I.base.free b o e n hx)
 .obtain⟨o',e1⟩:=I.base.there b o e hx
  exact there b o' (neC b o e hx) e1
 .obtain⟨m1,e1⟩:=I.base.tbls b ps e
  obtain⟨m2,e2⟩:=tbls b _ e1
  exact⟨m1++m2,by rw[e2,Array.append_assoc]⟩
 .obtain⟨m,hn,hl⟩:=I.loc
  refine⟨m,ns m hn,λi x v e1 e2 e3=>?_⟩
  obtain⟨u,r,l⟩:=hl i x v e1 e2 e3
  refine⟨u,r,?_⟩
  rcases l with l|⟨k,c,e,z⟩
  .exact .inl l
  .exact .inr ⟨k,c,e,cellK x c e _ z⟩
 .obtain⟨v,z⟩:=I.cell x c e
  exact⟨v,cellK x c e v z⟩
 .obtain⟨m,⟨o,_,_,ho,_⟩,_⟩:=I.loc
  exact free _ o (λz=>(hch _ z).2.1 rfl) ho I.free
 .obtain⟨v,o,ho,hd⟩:=I.cell x c e
  exact free c o (λz=>(hch c z).2.2.1 x c e rfl) ho (I.freeC x c e)
 .obtain⟨e,n,ne,nf,d⟩:=I.pin p hp
  have nch:p.1∉ch:=λz=>(hch p.1 z).2.2.2 p hp rfl
  exact⟨keep p.1 p.2 ne nf nch e n,free p.1 p.2 nch e n,ne,nf,d⟩
theorem Inv.un{t':Nat}(I:Inv X pins σ H s)(u:Un X.fs [] H H' s.heap h')(hok:HOk X.prog X.w H' h'):Inv X pins σ H' {s with heap:=h',toks:=t'}:=by
 obtain⟨m,⟨o,es,ep,ho,r⟩,_⟩:=id I.loc
 obtain⟨sl,hL⟩:=u.any ho I.free (by simp)
 exact I.step (g':=s.gens) (d':=s.drawn) (ch:=[]) (λ_ z=>nomatch z) (λb o _ hb _ e n=>u.keep b o e n hb (by simp)) (λb o _ hb _ e n=>u.slot b o e n hb (by simp)) (λb o _ e n=>u.free b o e n (by simp)) (λb o _ e=>u.there b o e (by simp)) u.tups u.frzs u.tbls (λm' hm=>by
  obtain⟨o',es',ep',ho',r'⟩:=hm
  rw[ho]at ho';cases ho'
  exact⟨_,es',ep',hL,r'⟩) hok I.bare
theorem Inv.call{g':Array GenState}{t':Nat}{d':Drawn}{ch:List Addr}(I:Inv X pins σ H s)(u:Un (frs X.stack) ch H H' s.heap h')(hok:HOk X.prog X.w H' h')(hg:AllBare g')
 (hch:∀b∈ch,(b∈X.ex\/X.s₀.heap.objs.size<=b)/\b≠X.env.locals/\(∀x c,X.env.cells.lookup x=some c->c≠b)/\∀p∈X.pn++pins,p.1≠b) :
 Inv X pins σ H' {s with heap:=h',gens:=g',drawn:=d',toks:=t'}:=by
 obtain⟨m,⟨o,es,ep,ho,r⟩,_⟩:=id I.loc
 obtain⟨sl,hL⟩:=u.any ho I.free λz=>(hch _ z).2.1 rfl
 exact I.step (ch:=ch) hch (λb o hL hb hc e n=>u.keep b o e n (λz=>(vat.mp (I.stkSub b z)).elim hL hb) hc) (λb o _ _ hc e n=>u.any e n hc) (λb o hc e n=>u.free b o e n hc) (λb o hc e=>u.there b o e hc) u.tups u.frzs u.tbls (λm' hm=>by
  obtain⟨o',es',ep',ho',r'⟩:=hm
  rw[ho]at ho';cases ho'
  exact⟨_,es',ep',hL,r'⟩) hok hg
theorem Inv.turned{t':Nat}{it:Addr}(I:Inv X pins σ H s)(k:∀b o,b≠it->s.heap.get? b=some o->h'.get? b=some o)(hn:H it=none)(hL:it≠X.env.locals)
 (h1:it∈X.ex\/X.s₀.heap.objs.size<=it) (h2:∀x c,X.env.cells.lookup x=some c->c≠it) (h3:∀p∈X.pn++pins,p.1≠it):Inv X pins σ H {s with heap:=h',toks:=t'}:=by
 have nit:∀b u,H b=some u->b≠it:=λb u e z=>by rw[z,hn]at e;cases e
 refine I.step (g':=s.gens) (d':=s.drawn) (ch:=[it]) (λb hb=>?_) (λb o _ _ hc e _=>k b o (λz=>hc (by simp[z])) e) (λb o _ _ hc e _=>⟨o.slots,k b o (λz=>hc (by simp[z])) e⟩) (λ_ _ _ _ n=>n)
  (λb o hc e=>⟨o,k b o (λz=>hc (by simp[z])) e⟩) (λ_ _ e=>e) (λ_ _ _ e=>e) (λb ps e=>⟨#[],by rw[e];simp⟩) (λm hm=>?_) (λb u e=>?_) I.bare
 .have e:b=it:=by simpa using hb
  subst e
  exact⟨h1,hL,h2,h3⟩
 .obtain⟨o,es,ep,ho,r⟩:=hm
  exact⟨o,es,ep,k _ o (vcq hL) ho,r⟩
 .refine(I.hok b u e).stay (λc v hc q=>k c v ?_ q) (λ_ q=>q) λ_ _ q=>q
  rcases hc with z|z
  .rw[z];exact nit b u e
  .exact nit c _ z
theorem Inv.tok(I:Inv X pins σ H s)(t:Nat):Inv X pins σ H {s with toks:=t}:=I.un (h':=s.heap) (t':=t) Un.refl I.hok
theorem Inv.kept{t':Nat}(I:Inv X pins σ H s)(k:∀b u,s.heap.get? b=some u->h'.get? b=some u):Inv X pins σ H {s with heap:=h',toks:=t'}:=I.un (Un.kept k) (I.hok.kept k)
theorem Inv.laid{a:Addr}{o:HO}{t':Nat}(I:Inv X pins σ H s)(k:∀b u,s.heap.get? b=some u->h'.get? b=some u)(hp:s.heap.objs.size<=a)(new:ObjOk X.prog X.w (upd H a o) h' a o) :
 Inv X pins σ (upd H a o) {s with heap:=h',toks:=t'}:=I.un (Un.laid k hp (I.hok.fresh hp)) (I.hok.laid k hp new)
theorem Inv.write{x e:Addr}{o:HO}{t':Nat}(I:Inv X pins σ H s)(mu:Mut (H x))(he:e=x\/H e=some (.own x))(k:∀b u,b≠e->s.heap.get? b=some u->h'.get? b=some u)(heo:∃u,h'.get? e=some u)
 (new:ObjOk X.prog X.w (upd H x o) h' x o):Inv X pins σ (upd H x o) {s with heap:=h',toks:=t'}:=I.un (Un.write mu he k heo) (I.hok.write mu he k heo new)
theorem Inv.pins_of{pins':List (Addr×Obj)}(I:Inv X pins σ H s)(h:∀p∈pins',s.heap.get? p.1=some p.2/\H p.1=none/\p.1≠X.env.locals/\p.1∉X.fs/\∀v,p.2.data≠.cell v):Inv X pins' σ H s:=
 ⟨I.ok,I.os,I.bare,I.base,I.loc,I.cell,I.free,I.freeC,λp hp=>(vbq.mp hp).elim (λz=>I.pin p (List.mem_append_left _ z)) (h p),I.hok,I.len⟩
theorem zfq{N:List Str}(hN:N.Nodup){i j:Nat}{x:Str}(a:N[i]?=some x)(b:N[j]?=some x):i=j:=by
 obtain⟨h1,e1⟩:=van.mp a
 obtain⟨h2,e2⟩:=van.mp b
 exact(List.getElem_inj hN).mp (e1.trans e2.symm)
theorem zd8{M:Model}{A:Around}{E:Value->Shared->Prop}{i:Nat}{x:Str}{v:V}{u:Value}{Q:Unit->Shared->Prop}(I:Inv X pins σ H s)(hN:X.N.Nodup)(hi:X.N[i]?=some x)(hx:Loc X.env.scope x)(r:RelV v u)
 (h:∀s',Inv X pins (σ.set i (some v)) H s'->(∃a,Heap.SameBut a s.heap s'.heap/\(a=X.env.locals\/X.env.cells.lookup x=some a))->Q () s') (hf:X.fn x=true\/X.env.scope.names.lookup x=some .local:=by first|exact .inl rfl|exact .inr rfl|assumption):wpAny M A (storeName X.env x u) Q E s:=by
 obtain⟨m,hn,hl⟩:=id I.loc
 have hcls:(X.env.scope.kind == .class|| (X.env.scope.kind == .module&&X.env.locals != X.env.globals))=false:=by rw[I.ok.kind];rfl
 have hiσ:i<σ.length:=by rw[I.len];exact(van.mp hi).1
 have cne:=I.cne
 have tracked:∀{a:Addr}{h':Heap},(∃o,s.heap.get? a=some o/\H a=none)->Heap.SameBut a s.heap h'->HOk X.prog X.w H h':=λ{a h'} ha hs b ob e=>by
  obtain⟨_,_,hfree⟩:=ha
  refine(I.hok b ob e).stay (λc w' hc q=>(hs.2 c ?_).trans q) (λ_ q=>q) λ_ _ q=>q
  rintro rfl
  rcases hc with rfl|hc
  .rw[hfree]at e;cases e
  .rw[hfree]at hc;cases hc
 rcases hx with hk|hk
 .refine wpAny_storeName_local hk hn (λh' hn' hs=>?_) hcls
  obtain⟨oL,_,_,hoL,_⟩:=id hn
  refine h _ ⟨I.ok,I.os,I.bare,⟨λb o e n hb hx=>?_,λb o e n hb hx=>?_,I.base.free,λb o e hx=>?_,I.base.tups,I.base.frzs,I.base.tbls⟩,⟨_,hn',λj y v' e1 e2 e3=>?_⟩,λy c e=>?_,I.free,I.freeC,λp hp=>?_,tracked ⟨oL,hoL,I.free⟩ hs,by simpa using I.len⟩ ⟨_,hs,.inl rfl⟩
  .exact(hs.2 b (vau (vae (vaj e) I.ok.above))).trans (I.base.keep b o e n hb hx)
  .obtain⟨sl,e1⟩:=I.base.slot b o e n hb hx
   exact⟨sl,(hs.2 b (vau (vae (vaj e) I.ok.above))).trans e1⟩
  .obtain⟨o',e1⟩:=I.base.there b o e hx
   exact⟨o',(hs.2 b (vau (vae (vaj e) I.ok.above))).trans e1⟩
  .by_cases hj:j=i
   .subst hj
    rw[hi]at e1;cases e1
    rw[vbg hiσ]at e2
    cases e2
    exact⟨u,r,.inl ⟨hk,by simp⟩⟩
   .rw[vb8 (vcq hj)]at e2
    obtain⟨u',r',q⟩:=hl j y v' e1 e2 e3
    refine⟨u',r',?_⟩
    rcases q with⟨k,e⟩|⟨k,c,e,z⟩
    .refine .inl ⟨k,?_⟩
     have:y≠x:=λe=>hj (zfq hN e1 (e▸hi))
     simp[this,e]
    .exact .inr ⟨k,c,e,z.sameBut hs (cne y c e)⟩
  .obtain⟨w',z⟩:=I.cell y c e
   exact⟨w',z.sameBut hs (cne y c e)⟩
  .obtain⟨e,n,ne,nf,d⟩:=I.pin p hp
   exact⟨(hs.2 p.1 ne).trans e,n,ne,nf,d⟩
 .have hfn:X.fn x=true:=by
   rcases hf with z|z
   .exact z
   .rw[z]at hk;cases hk
  obtain⟨c,hc⟩:=I.ok.has x (.inl hk)
  obtain⟨w',z⟩:=I.cell x c hc
  refine wpAny_storeName_cell I.ok.kind hk hc z (λh' hc' hs=>?_)
  obtain⟨oc,hoc,hocd⟩:=id z
  refine h {s with heap:=h'} ⟨I.ok,I.os,I.bare,⟨λb o e n hb hx=>?_,λb o e n hb hx=>?_,I.base.free,λb o e hx=>?_,I.base.tups,I.base.frzs,I.base.tbls⟩,⟨m,hn.sameBut hs (vcq (cne x c hc)),λj y v' e1 e2 e3=>?_⟩,λy c' e=>?_,I.free,I.freeC,λp hp=>?_,tracked ⟨oc,hoc,I.freeC x c hc⟩ hs,by simpa using I.len⟩ ⟨c,hs,.inr hc⟩
  .exact(hs.2 b (vau (vae (vaj e) (I.ok.cab x c hfn hc)))).trans (I.base.keep b o e n hb hx)
  .obtain⟨sl,e1⟩:=I.base.slot b o e n hb hx
   exact⟨sl,(hs.2 b (vau (vae (vaj e) (I.ok.cab x c hfn hc)))).trans e1⟩
  .obtain⟨o',e1⟩:=I.base.there b o e hx
   exact⟨o',(hs.2 b (vau (vae (vaj e) (I.ok.cab x c hfn hc)))).trans e1⟩
  .by_cases hj:j=i
   .subst hj
    rw[hi]at e1;cases e1
    rw[vbg hiσ]at e2
    cases e2
    exact⟨u,r,.inr ⟨.inl hk,c,hc,hc'⟩⟩
   .rw[vb8 (vcq hj)]at e2
    obtain⟨u',r',q⟩:=hl j y v' e1 e2 e3
    refine⟨u',r',?_⟩
    rcases q with q|⟨k,c',e,z'⟩
    .exact .inl q
    .refine .inr ⟨k,c',e,z'.sameBut hs ?_⟩
     rintro rfl
     exact hj (zfq hN e1 (I.ok.inj _ _ _ e hc▸hi))
  .by_cases hcc:c'=c
   .subst hcc;exact⟨_,hc'⟩
   .obtain⟨w2,z2⟩:=I.cell y c' e
    exact⟨w2,z2.sameBut hs hcc⟩
  .obtain⟨e,n,ne,nf,d⟩:=I.pin p hp
   refine⟨(hs.2 p.1 ?_).trans e,n,ne,nf,d⟩
   intro q
   rw[q,hoc]at e
   have q':oc=p.2:=vb0 e
   exact d w' (by rw[<-q'];exact hocd)
theorem zcf{M:Model}{A:Around}{E:Value->Shared->Prop}{i:Nat}{x:Str}{v:V}{u:Value}{Q:Unit->Shared->Prop}(I:Inv X pins σ H s)(hN:X.N.Nodup)(hi:X.N[i]?=some x)(hx:Loc X.env.scope x)(r:RelV v u)
 (h:∀s',Inv X pins (σ.set i (some v)) H s'->Q () s') (hf:X.fn x=true\/X.env.scope.names.lookup x=some .local:=by first|exact .inl rfl|exact .inr rfl|assumption):wpAny M A (storeName X.env x u) Q E s:=
 zd8 I hN hi hx r (λs' I' _=>h s' I') hf
theorem Inv.call'{s':Shared}{ch:List Addr}(I:Inv X pins σ H s)(ho:s'.os=s.os)(u:Un (frs X.stack) ch H H' s.heap s'.heap)(hok:HOk X.prog X.w H' s'.heap)(hg:AllBare s'.gens)
 (hch:∀b∈ch,(b∈X.ex\/X.s₀.heap.objs.size<=b)/\b≠X.env.locals/\(∀x c,X.env.cells.lookup x=some c->c≠b)/\∀p∈X.pn++pins,p.1≠b):Inv X pins σ H' s':=by
 obtain⟨h',g',d',t',o'⟩:=s'
 have e:o'=s.os:=ho
 subst e
 exact I.call (g':=g') (t':=t') (d':=d') u hok hg hch
end
noncomputable abbrev XK:=Value->Option Addr->Hp->Prop
noncomputable abbrev St:=List (Option V)
noncomputable abbrev VK:=V->Hp->Prop
noncomputable abbrev TE:=St->Hp->VK->Prop
noncomputable abbrev TT:=St->Hp->(Bool->Hp->Prop)->Prop
noncomputable abbrev TA:=St->Hp->(List V->Hp->Prop)->Prop
set_option genInjectivity false in
structure Ends where
 nx:St->Hp->Prop
 rt:VK
 bk:St->Hp->Prop:=λ_ _=>False
 ct:St->Hp->Prop:=λ_ _=>False
noncomputable abbrev TS:=Ends->St->Hp->Prop
noncomputable def EP(X:Cx)(pins:List (Addr×Obj))(σ:St)(Q:VK)(u:Value)(s':Shared):Prop:=∃v H',Inv X pins σ H' s'/\RelV v u/\Q v H'
noncomputable def TP(X:Cx)(pins:List (Addr×Obj))(σ:St)(Q:Bool->Hp->Prop)(b:Bool)(s':Shared):Prop:=∃H',Inv X pins σ H' s'/\Q b H'
noncomputable def AP(X:Cx)(pins:List (Addr×Obj))(σ:St)(Q:List V->Hp->Prop)(us:List Value)(s':Shared):Prop:=∃vs H',Inv X pins σ H' s'/\Vals vs us/\Q vs H'
theorem EP.el{X:Cx}{pins:List (Addr×Obj)}{σ:St}{Q:VK}{u:Value}{s':Shared}{P:Prop}(q:EP X pins σ Q u s')(k:∀v H',Inv X pins σ H' s'->RelV v u->Q v H'->P):P:=by
 obtain⟨v,H',a,b,c⟩:=q
 exact k v H' a b c
theorem TP.el{X:Cx}{pins:List (Addr×Obj)}{σ:St}{Q:Bool->Hp->Prop}{b:Bool}{s':Shared}{P:Prop}(q:TP X pins σ Q b s')(k:∀H',Inv X pins σ H' s'->Q b H'->P):P:=by
 obtain⟨H',a,c⟩:=q
 exact k H' a c
theorem AP.el{X:Cx}{pins:List (Addr×Obj)}{σ:St}{Q:List V->Hp->Prop}{us:List Value}{s':Shared}{P:Prop}(q:AP X pins σ Q us s')(k:∀vs H',Inv X pins σ H' s'->Vals vs us->Q vs H'->P):P:=by
 obtain⟨v,H',a,b,c⟩:=q
 exact k v H' a b c
noncomputable def SP(X:Cx)(pins:List (Addr×Obj))(D:Ends)(f:Flow)(s':Shared):Prop:=
 match f with
 |.next=>∃σ' H',Inv X pins σ' H' s'/\D.nx σ' H'
 |.brk=>∃σ' H',Inv X pins σ' H' s'/\D.bk σ' H'
 |.cont=>∃σ' H',Inv X pins σ' H' s'/\D.ct σ' H'
 |.ret u=>∃v σ' H',Inv X pins σ' H' s'/\RelV v u/\D.rt v H'
noncomputable def PE(X:Cx)(e:Expr)(t:TE):Prop:=
 ∀(pins:List (Addr×Obj))(s:Shared)(σ:St)(H:Hp)(Q:VK),Inv X pins σ H s->t σ H Q->wpAny (model X.prog X.w) X.A (eval e X.env) (EP X pins σ Q) X.xe s
noncomputable def PT(X:Cx)(e:Expr)(t:TT):Prop:=
 ∀(pins:List (Addr×Obj))(s:Shared)(σ:St)(H:Hp)(Q:Bool->Hp->Prop),Inv X pins σ H s->t σ H Q->wpAny (model X.prog X.w) X.A (isTrue e X.env (eval e X.env)) (TP X pins σ Q) X.xe s
noncomputable def PW(X:Cx)(e:Expr)(t:TT):Prop:=
 ∀(whole:Sem Value)(pins:List (Addr×Obj))(s:Shared)(σ:St)(H:Hp)(Q:Bool->Hp->Prop),Inv X pins σ H s->t σ H Q->wpAny (model X.prog X.w) X.A (isTrue e X.env whole) (TP X pins σ Q) X.xe s
theorem PW.pt{X:Cx}{e:Expr}{t:TT}(h:PW X e t):PT X e t:=h _
noncomputable def PA(X:Cx)(es:List Expr)(t:TA):Prop:=
 ∀(pos:Pos)(pins:List (Addr×Obj))(s:Shared)(σ:St)(H:Hp)(Q:List V->Hp->Prop),Inv X pins σ H s->t σ H Q->wpAny (model X.prog X.w) X.A (spliced (backTo pos (starEach es X.env))) (AP X pins σ Q) X.xe s
noncomputable def PS(X:Cx)(st:Stmt)(t:TS):Prop:=
 ∀(pins:List (Addr×Obj))(s:Shared)(σ:St)(H:Hp)(D:Ends),Inv X pins σ H s->t D σ H->wpAny (model X.prog X.w) X.A (exec st X.env) (SP X pins D) X.xe s
noncomputable def PSs(X:Cx)(st:List Stmt)(t:TS):Prop:=
 ∀(pins:List (Addr×Obj))(s:Shared)(σ:St)(H:Hp)(D:Ends),Inv X pins σ H s->t D σ H->wpAny (model X.prog X.w) X.A (execs st X.env) (SP X pins D) X.xe s
theorem thn{α:Type}{t:Sem α}{Q Q':α->Shared->Prop}{M:Model}{A:Around}{E:Value->Shared->Prop}{s:Shared}(h:wpAny M A t Q E s)(hQ:∀a s,Q a s->Q' a s):wpAny M A t Q' E s:=vav h hQ λ_ _ x=>x
section
variable{X:Cx}
noncomputable def tVar(i:Nat):TE:=λσ H Q=>∃v,σ[i]?=some (some v)/\Q v H
noncomputable def tC(v:V):TE:=λ_ H Q=>Q v H
theorem zio{i:Nat}{x:Str}{pos:Pos}(hN:X.N[i]?=some x)(hv:Vis X.env.scope x)(hd:(x==("__debug__" : Str))=false:=by decide)(hcd:(x==("__classdict__" : Str))=false:=by decide):PE X (.Name x pos) (tVar i):=by
 intro pins s σ H Q I h
 obtain⟨v,e,h⟩:=h
 obtain⟨m,hn,hl⟩:=I.loc
 obtain⟨u,r,l⟩:=hl i x v hN e hv
 have fin:EP X pins σ Q u s:=⟨v,H,I,r,h⟩
 rcases l with⟨hk,hm⟩|⟨hk,c,hc,hcell⟩
 .exact wpAny_Name (wpAny_loadName_local I.ok.kind hk hn hm fin) hd
 .rcases hk with hk|hk
  .exact wpAny_Name (wpAny_loadName_cell I.ok.kind hk hc hcell fin) hd
  .exact wpAny_Name (wpAny_loadName_free I.ok.kind hk hc hcell fin hcd) hd
theorem zpi{i j pos}:PE X (.Constant (.int i) j pos) (tC (.int i)):=λ_ _ _ H _ I h=>wpAny_Constant_int ⟨.int i,H,I.tok _,⟨_,rfl⟩,h⟩
theorem pe_bl{b j pos}:PE X (.Constant (.bool b) j pos) (tC (.bl b)):=λ_ _ _ H _ I h=>Constant_bool ⟨.bl b,H,I,rfl,h⟩
theorem ztb{j pos}:PE X (.Constant .none j pos) (tC .non):=λ_ _ _ H _ I h=>Constant_none ⟨.non,H,I,rfl,h⟩
theorem zkm{x j pos}:PE X (.Constant (.str x) j pos) (tC (.str x)):=λ_ _ _ H _ I h=>Calls.Constant_str ⟨.str x,H,I.tok _,⟨_,rfl⟩,h⟩
noncomputable def Gl(X:Cx)(x:Str):Prop:=X.env.kindOf x=some .globalImplicit
theorem zbf{E:Value->Shared->Prop}{pins:List (Addr×Obj)}{s:Shared}{σ:St}{H:Hp}{x:Str}{u:Value}{pos:Pos}{Q:Value->Shared->Prop}(I:Inv X pins σ H s)(hg:Gl X x)(hm:X.mg x=some u)(h:Q u s)
 (hd:(x==("__debug__" : Str))=false:=by decide):wpAny (model X.prog X.w) X.A (eval (.Name x pos) X.env) Q E s:=
 Calls.Name_function_global I.ok.kind hg (Calls.loadGlobal_global (by rw[I.ok.glob];exact I.mod.glob.keeps I.bk) hm h) hd
theorem zgq{E:Value->Shared->Prop}{pins:List (Addr×Obj)}{s:Shared}{σ:St}{H:Hp}{x:Str}{u:Value}{pos:Pos}{Q:Value->Shared->Prop}(I:Inv X pins σ H s)(hg:Gl X x)(hm:X.mg x=none)(hv:bootBuiltins x=some u)(h:Q u s)
 (hn:x≠"__name__":=by decide) (hd:(x==("__debug__" : Str))=false:=by decide):wpAny (model X.prog X.w) X.A (eval (.Name x pos) X.env) Q E s:=by
 obtain⟨mb,h1,h2⟩:=I.mod.blt
 exact Calls.Name_function_global I.ok.kind hg (Calls.loadGlobal_builtin (by rw[I.ok.glob];exact I.mod.glob.keeps I.bk) hm (by rw[I.ok.blt];exact h1.keeps I.bk) ((h2 x hn).trans hv) h) hd
theorem zkn{x:Str}{v:V}{u:Value}{pos:Pos}(hg:Gl X x)(hm:X.mg x=some u)(r:RelV v u)(hd:(x==("__debug__" : Str))=false:=by decide):PE X (.Name x pos) (tC v):=
 λ_ _ _ H _ I h=>zbf I hg hm ⟨v,H,I,r,h⟩ hd
theorem zko{x:Str}{v:V}{u:Value}{pos:Pos}(hg:Gl X x)(hm:X.mg x=none)(hv:bootBuiltins x=some u)(r:RelV v u)(hn:x≠"__name__":=by decide)(hd:(x==("__debug__" : Str))=false:=by decide):PE X (.Name x pos) (tC v):=
 λ_ _ _ H _ I h=>zgq I hg hm hv ⟨v,H,I,r,h⟩ hn hd
variable{a b:Expr}{ta tb:TE}{pos:Pos}
noncomputable def tB(t:TE):TT:=λσ H Q=>t σ H λx H1=>∃c,x=.bl c/\Q c H1
theorem zpj{e:Expr}{t:TE}(h:PE X e t)(he:∀whole,isTrue e X.env whole=(do let v <-whole;standAt e.pos;holding [v] (truthy v)):=by intro _;rfl):PT X e (tB t):=by
 intro pins s σ H Q I hw
 refine isTrue_plain (thn (h pins s σ H _ I hw) λv s1 z9=>z9.el λx H1 I1 r1 q1=>?_) (he _)
 obtain⟨d,rfl,q⟩:=q1
 cases r1
 exact vbv ⟨H1,I1,q⟩
variable{tA tB':TT}{rest:List Expr}
noncomputable def tAnd(t u:TT):TT:=λσ H Q=>t σ H λc H1=>if c=true then u σ H1 Q else Q false H1
noncomputable def tOr(t u:TT):TT:=λσ H Q=>t σ H λc H1=>if c=true then Q true H1 else u σ H1 Q
noncomputable def tNot(t:TT):TT:=λσ H Q=>t σ H λc H1=>Q (!c) H1
theorem zqy(ha:PT X a tA):PW X (.BoolOp .And [a] pos) tA:=by
 intro wh pins s σ H Q I h
 refine isTrue_and (thn (ha pins s σ H Q I h) λc s1 e=>?_)
 cases c with
 |true=>exact isTrue_and_nil e
 |false=>exact e
theorem zpk(ha:PT X a tA):PW X (.BoolOp .Or [a] pos) tA:=by
 intro wh pins s σ H Q I h
 refine isTrue_or (thn (ha pins s σ H Q I h) λc s1 e=>?_)
 cases c with
 |false=>exact isTrue_or_nil e
 |true=>exact e
theorem ztc(ha:PT X a tA)(hb:PW X (.BoolOp .And (b::rest) pos) tB'):PW X (.BoolOp .And (a::b::rest) pos) (tAnd tA tB'):=by
 intro wh pins s σ H Q I h
 refine isTrue_and (thn (ha pins s σ H _ I h) λc s1 z9=>z9.el λH1 I1 q1=>?_)
 cases c with
 |true=>exact hb wh pins s1 σ H1 Q I1 q1
 |false=>exact⟨H1,I1,q1⟩
theorem pw_or(ha:PT X a tA)(hb:PW X (.BoolOp .Or (b::rest) pos) tB'):PW X (.BoolOp .Or (a::b::rest) pos) (tOr tA tB'):=by
 intro wh pins s σ H Q I h
 refine isTrue_or (thn (ha pins s σ H _ I h) λc s1 z9=>z9.el λH1 I1 q1=>?_)
 cases c with
 |true=>exact⟨H1,I1,q1⟩
 |false=>exact hb wh pins s1 σ H1 Q I1 q1
theorem zkp(ha:PT X a tA):PT X (.UnaryOp .Not a pos) (tNot tA):=by
 intro pins s σ H Q I h
 exact isTrue_not (ha pins s σ H (λc H1=>Q (!c) H1) I h)
noncomputable def tAndV(ta tb:TE):TE:=λσ H Q=>ta σ H λx H1=>∃c,x=.bl c/\if c=true then tb σ H1 Q else Q (.bl false) H1
noncomputable def tOrV(ta tb:TE):TE:=λσ H Q=>ta σ H λx H1=>∃c,x=.bl c/\if c=true then Q (.bl true) H1 else tb σ H1 Q
noncomputable def tNotV(ta:TE):TE:=λσ H Q=>ta σ H λx H1=>∃c,x=.bl c/\Q (.bl (!c)) H1
theorem ztd{op}{t:TE}(h:PE X a t):PE X (.BoolOp op [a] pos) t:=λpins s σ H Q I hw=>BoolOp_one (h pins s σ H Q I hw)
theorem zte(ha:PE X a ta)(hb:PE X (.BoolOp .And (b::rest) pos) tb):PE X (.BoolOp .And (a::b::rest) pos) (tAndV ta tb):=by
 intro pins s σ H Q I h
 refine BoolOp_and (thn (ha pins s σ H _ I h) λv s1 z9=>z9.el λx H1 I1 r1 q1=>?_)
 obtain⟨c,rfl,q1⟩:=q1
 cases r1
 refine vbv ?_
 cases c with
 |true=>exact hb pins s1 σ H1 Q I1 q1
 |false=>exact⟨.bl false,H1,I1,rfl,q1⟩
theorem pe_or(ha:PE X a ta)(hb:PE X (.BoolOp .Or (b::rest) pos) tb):PE X (.BoolOp .Or (a::b::rest) pos) (tOrV ta tb):=by
 intro pins s σ H Q I h
 refine BoolOp_or (thn (ha pins s σ H _ I h) λv s1 z9=>z9.el λx H1 I1 r1 q1=>?_)
 obtain⟨c,rfl,q1⟩:=q1
 cases r1
 refine vbv ?_
 cases c with
 |false=>exact hb pins s1 σ H1 Q I1 q1
 |true=>exact⟨.bl true,H1,I1,rfl,q1⟩
theorem ztf(ha:PE X a ta):PE X (.UnaryOp .Not a pos) (tNotV ta):=by
 intro pins s σ H Q I h
 refine UnaryOp_ (thn (ha pins s σ H _ I h) λv s1 z9=>z9.el λx H1 I1 r1 q1=>?_)
 obtain⟨c,rfl,q1⟩:=q1
 cases r1
 exact not_of (vbv ⟨.bl (!c),H1,I1,rfl,q1⟩)
noncomputable def tIf(t:TT)(ta tb:TE):TE:=λσ H Q=>t σ H λc H1=>if c=true then ta σ H1 Q else tb σ H1 Q
theorem znu{c:Expr}(hc:PT X c tA)(ha:PE X a ta)(hb:PE X b tb):PE X (.IfExp c a b pos) (tIf tA ta tb):=by
 intro pins s σ H Q I h
 refine wpAny_IfExp (thn (hc pins s σ H _ I h) λd s1 z9=>z9.el λH1 I1 q1=>?_)
 cases d with
 |true=>exact ha pins s1 σ H1 Q I1 q1
 |false=>exact hb pins s1 σ H1 Q I1 q1
end
noncomputable def SqL(K:PySem.W.Frag)(H:Hp)(a:Addr)(xs:List V):Prop:=
 Rd H a (.lst xs)\/
  ∃(o:Obj) (its:Array Value) (n:Nat),K.lookup a=some o/\o.cls=.type "list"/\o.dict=none/\o.data=.seq its n/\its.size<=sizeLine/\Vals xs its.toList
noncomputable def SqT(K:PySem.W.Frag)(H:Hp)(a:Addr)(xs:List V):Prop:=
 Rd H a (.tup xs)\/
  ∃(o:Obj) (its:Array Value) (n:Nat),K.lookup a=some o/\o.cls=.type "tuple"/\o.dict=none/\o.data=.seq its n/\its.size<=sizeLine/\Vals xs its.toList
noncomputable def absV:Value->Option V
 |.none=>some .non
 |.bool b=>some (.bl b)
 |.int i _=>some (.int i)
 |.str x _=>some (.str x)
 |.bytes b _=>some (.byt b)
 |.float b _=>some (.flt b)
 |.ref a=>some (.ref a)
 |.type n=>some (.ty n)
 |_=>none
theorem RelV.abs{x:V}{u:Value}(r:RelV x u):absV u=some x:=by
 cases x with
 |non=>cases r;rfl
 |bl _=>cases r;rfl
 |int _=>obtain⟨t,rfl⟩:=r;rfl
 |str _=>obtain⟨t,rfl⟩:=r;rfl
 |byt _=>obtain⟨t,rfl⟩:=r;rfl
 |flt _=>obtain⟨t,rfl⟩:=r;rfl
 |ref _=>cases r;rfl
 |ty _=>cases r;rfl
theorem RelV.inj{x y:V}{u:Value}(r:RelV x u)(q:RelV y u):x=y:=vb0 (r.abs.symm.trans q.abs)
theorem Vals.inj:∀{xs ys:List V} {us:List Value},Vals xs us->Vals ys us->xs=ys
 |_,_,_,.nil,.nil=>rfl
 |_,_,_,.cons r t,.cons r' t'=>by rw[r.inj r',Vals.inj t t']
section
variable{X:Cx}{pins:List (Addr×Obj)}{σ:St}{H:Hp}{s:Shared}{a:Addr}{xs ys:List V}
theorem SqL.of{K:PySem.W.Frag}(h:H a=some (.lst xs)):SqL K H a xs:=.inl (.inl h)
theorem SqT.of{K:PySem.W.Frag}(h:H a=some (.tup xs)):SqT K H a xs:=.inl (.inl h)
theorem Inv.list(I:Inv X pins σ H s)(h:SqL X.K H a xs):∃its:List Value,Vals xs its/\PlainL s.heap a its.toArray/\xs.length<=sizeLine:=by
 rcases h with h|⟨o,its,n,hk,hc,hd,hs,hz,r⟩
 .obtain⟨z,its,n,r,e⟩:=h.ok I.hok
  exact⟨its,r,⟨_,n,e,rfl,rfl,rfl⟩,z⟩
 .refine⟨its.toList,r,⟨o,n,I.kIn a o hk,hc,hd,by simpa using hs⟩,?_⟩
  have e:=r.length
  simp only[Array.length_toList]at e
  omega
theorem Inv.tupleD(I:Inv X pins σ H s)(h:SqT X.K H a xs):∃its:List Value,Vals xs its/\zbq s.heap a its.toArray/\xs.length<=sizeLine:=by
 rcases h with h|⟨o,its,n,hk,hc,hd,hs,hz,r⟩
 .obtain⟨z,its,r,p⟩:=h.ok I.hok
  exact⟨its,r,p,z⟩
 .refine⟨its.toList,r,⟨o,I.kIn a o hk,hc,⟨n,by simpa using hs⟩,hd⟩,?_⟩
  have e:=r.length
  simp only[Array.length_toList]at e
  omega
theorem Inv.tuple(I:Inv X pins σ H s)(h:SqT X.K H a xs):∃its:List Value,Vals xs its/\IsTup s.heap a its.toArray/\xs.length<=sizeLine:=by
 obtain⟨its,r,p,z⟩:=I.tupleD h
 exact⟨its,r,p.tup,z⟩
theorem Inv.list_inj(I:Inv X pins σ H s)(h:SqL X.K H a xs)(h':SqL X.K H a ys):xs=ys:=by
 obtain⟨its,r,⟨o,n,e,_,_,d⟩,_⟩:=I.list h
 obtain⟨its',r',⟨o',n',e',_,_,d'⟩,_⟩:=I.list h'
 rw[e]at e';cases e'
 rw[d]at d'
 injection d' with d1 _
 have:its=its':=by simpa using vdn Array.toList d1
 subst this
 exact r.inj r'
theorem Inv.tuple_inj(I:Inv X pins σ H s)(h:SqT X.K H a xs)(h':SqT X.K H a ys):xs=ys:=by
 obtain⟨its,r,⟨o,e,_,n,d⟩,_⟩:=I.tuple h
 obtain⟨its',r',⟨o',e',_,n',d'⟩,_⟩:=I.tuple h'
 rw[e]at e';cases e'
 rw[d]at d'
 injection d' with d1 _
 have:its=its':=by simpa using vdn Array.toList d1
 subst this
 exact r.inj r'
end
noncomputable abbrev Cx.wish(X:Cx)(E:Value->Shared->Prop):Cx:={X with xe:=E}
noncomputable abbrev Cx.nox(X:Cx):Cx:=X.wish λ_ _=>False
theorem Cx.Ok.wish{X:Cx}(ok:X.Ok)(E:Value->Shared->Prop):(X.wish E).Ok:=
 ⟨ok.mod,ok.kind,ok.glob,ok.blt,ok.above,ok.inj,ok.has,ok.cab,ok.hd,ok.frames,ok.stk,ok.exf,ok.bs,ok.bsz,ok.noex,ok.exfs,ok.funs,ok.frf⟩
theorem Cx.Ok.unwish{X:Cx}{E:Value->Shared->Prop}(ok:(X.wish E).Ok):X.Ok:=
 ⟨ok.mod,ok.kind,ok.glob,ok.blt,ok.above,ok.inj,ok.has,ok.cab,ok.hd,ok.frames,ok.stk,ok.exf,ok.bs,ok.bsz,ok.noex,ok.exfs,ok.funs,ok.frf⟩
section
variable{X:Cx}{pins:List (Addr×Obj)}{σ:St}{H:Hp}{s:Shared}{E:Value->Shared->Prop}
theorem Inv.wish(I:Inv X pins σ H s)(E:Value->Shared->Prop):Inv (X.wish E) pins σ H s:=⟨I.ok.wish E,I.os,I.bare,I.base,I.loc,I.cell,I.free,I.freeC,I.pin,I.hok,I.len⟩
theorem Inv.unwish(I:Inv (X.wish E) pins σ H s):Inv X pins σ H s:=⟨I.ok.unwish,I.os,I.bare,I.base,I.loc,I.cell,I.free,I.freeC,I.pin,I.hok,I.len⟩
theorem SP.unwish{D:Ends}{f:Flow}{s':Shared}(h:SP (X.wish E) pins D f s'):SP X pins D f s':=by
 cases f with
 |next=>obtain⟨σ',H',I,q⟩:=h;exact⟨σ',H',I.unwish,q⟩
 |brk=>obtain⟨σ',H',I,q⟩:=h;exact⟨σ',H',I.unwish,q⟩
 |cont=>obtain⟨σ',H',I,q⟩:=h;exact⟨σ',H',I.unwish,q⟩
 |ret u=>obtain⟨v,σ',H',I,r,q⟩:=h;exact⟨v,σ',H',I.unwish,r,q⟩
theorem PE.nox{e:Expr}{t:TE}(h:PE X.nox e t):PE X e t:=λpins s σ H Q I hw=>
 vav (h pins s σ H Q (I.wish _) hw) (λ_ _ ⟨v,H',I',r,q⟩=>⟨v,H',I'.unwish,r,q⟩) λ_ _ z=>False.elim z
theorem PT.nox{e:Expr}{t:TT}(h:PT X.nox e t):PT X e t:=λpins s σ H Q I hw=>
 vav (h pins s σ H Q (I.wish _) hw) (λ_ _ ⟨H',I',q⟩=>⟨H',I'.unwish,q⟩) λ_ _ z=>False.elim z
theorem PSs.nox{st:List Stmt}{t:TS}(h:PSs X.nox st t):PSs X st t:=λpins s σ H D I hw=>
 vav (h pins s σ H D (I.wish _) hw) (λ_ _ q=>q.unwish) λ_ _ z=>False.elim z
end
section
variable{X:Cx}{st:Stmt}{rest:List Stmt}{t u:TS}{e:Expr}{te:TE}{pos:Pos}
noncomputable def tNext:TS:=λD σ H=>D.nx σ H
noncomputable def tSeq(t u:TS):TS:=λD σ H=>t {D with nx:=u D} σ H
theorem zhw:PSs X [] tNext:=λ_ _ σ H _ I h=>vbu ⟨σ,H,I,h⟩
theorem zcs(h1:PS X st t)(h2:PSs X rest u):PSs X (st::rest) (tSeq t u):=by
 intro pins s σ H D I h
 refine vc2 (thn (h1 pins s σ H {D with nx:=u D} I h) λf s1 q=>?_)
 cases f with
 |next=>
  obtain⟨σ',H',I',q⟩:=q
  exact h2 pins s1 σ' H' D I' q
 |ret v=>exact q
 |brk=>exact q
 |cont=>exact q
theorem zfr(h1:PS X st t):PSs X [st] t:=by
 intro pins s σ H D I h
 refine vc2 (thn (h1 pins s σ H D I h) λf s1 q=>?_)
 cases f with
 |next=>exact vbu q
 |ret v=>exact q
 |brk=>exact q
 |cont=>exact q
noncomputable def ztg:TS:=λD σ H=>D.bk σ H
noncomputable def tCont:TS:=λD σ H=>D.ct σ H
theorem zqz:PS X (.Pass pos) tNext:=λ_ _ σ H _ I h=>wpAny_Pass ⟨σ,H,I,h⟩
theorem znv:PS X (.Break pos) ztg:=λ_ _ σ H _ I h=>wpAny_Break ⟨σ,H,I,h⟩
theorem zhx:PS X (.Continue pos) tCont:=λ_ _ σ H _ I h=>wpAny_Continue ⟨σ,H,I,h⟩
theorem Inv.quiet{pins:List (Addr×Obj)}{σ:St}{H:Hp}{s:Shared}(I:Inv X pins σ H s):interactive X.env=false:=by simp[interactive,I.ok.kind]
noncomputable def tDrop(te:TE):TS:=λD σ H=>te σ H λ_ H1=>D.nx σ H1
theorem zkq(he:PE X e te)(hs:swapsWith e none pos.line X.env=pure false:=by rfl):PS X (.Expr e pos) (tDrop te):=by
 intro pins s σ H D I h
 exact vec (thn (he pins s σ H _ I h) λv s1 z9=>z9.el λx H1 I1 r1 q1=>⟨σ,H1,I1,q1⟩) I.quiet hs
noncomputable def tRet(te:TE):TS:=λD σ H=>te σ H D.rt
theorem zgr(he:PE X e te):PS X (.Return (some e) pos) (tRet te):=by
 intro pins s σ H D I h
 exact wpAny_Return_some (thn (he pins s σ H _ I h) λv s1 z9=>z9.el λx H1 I1 r1 q1=>⟨x,σ,H1,I1,r1,q1⟩)
noncomputable def tRetN:TS:=λD _ H=>D.rt .non H
theorem zq0:PS X (.Return none pos) tRetN:=λ_ _ σ H _ I h=>wpAny_Return_none ⟨.non,σ,H,I,rfl,h⟩
noncomputable def tIfS(c:TT)(t u:TS):TS:=λD σ H=>c σ H λb H1=>if b=true then t D σ H1 else u D σ H1
theorem ps_if{c:Expr}{a b:List Stmt}{tc:TT}(hc:PT X c tc)(ha:PSs X a t)(hb:PSs X b u):PS X (.If c a b pos) (tIfS tc t u):=by
 intro pins s σ H D I h
 refine wpAny_If (thn (hc pins s σ H _ I h) λd s1 z9=>z9.el λH1 I1 q1=>?_)
 cases d with
 |true=>exact ha pins s1 σ H1 D I1 q1
 |false=>exact hb pins s1 σ H1 D I1 q1
noncomputable def zth:TS:=λ_ _ _=>False
theorem znw:PS X st zth:=λ_ _ _ _ _ _ h=>h.elim
end
noncomputable abbrev TG:=V->St->Hp->(St->Hp->Prop)->Prop
noncomputable abbrev TGs:=List V->St->Hp->(St->Hp->Prop)->Prop
noncomputable def PG(X:Cx)(target:Expr)(t:TG):Prop:=
 ∀(pins:List (Addr×Obj))(s:Shared)(σ:St)(H:Hp)(v:V)(u:Value)(Q:St->Hp->Prop),Inv X pins σ H s->RelV v u->t v σ H Q->
  wpAny (model X.prog X.w) X.A (assign target X.env u) (λ_ s'=>∃σ' H',Inv X pins σ' H' s'/\Q σ' H') X.xe s
noncomputable def PGs(X:Cx)(ts:List Expr)(t:TGs):Prop:=
 ∀(pins:List (Addr×Obj))(s:Shared)(σ:St)(H:Hp)(vs:List V)(us:List Value)(Q:St->Hp->Prop),Inv X pins σ H s->Vals vs us->t vs σ H Q->
  wpAny (model X.prog X.w) X.A (assignInOrder ((assignEach ts X.env).map (·.2)) us) (λ_ s'=>∃σ' H',Inv X pins σ' H' s'/\Q σ' H') X.xe s
noncomputable abbrev TSet:=V->V->V->Hp->(Hp->Prop)->Prop
noncomputable def PSet(X:Cx)(t:TSet):Prop:=
 ∀(pins:List (Addr×Obj))(s:Shared)(σ:St)(H:Hp)(o i v:V)(ov iv u:Value)(Q:Hp->Prop),Inv X pins σ H s->RelV o ov->RelV i iv->RelV v u->t o i v H Q->
  wpAny (model X.prog X.w) X.A (setItem ov iv u) (λ_ s'=>∃H',Inv X pins σ H' s'/\Q H') X.xe s
noncomputable abbrev TIp:=V->V->Hp->VK->Prop
noncomputable def PIp(X:Cx)(op:Operator)(t:TIp):Prop:=
 ∀(pins:List (Addr×Obj))(s:Shared)(σ:St)(H:Hp)(x y:V)(v u:Value)(Q:VK),Inv X pins σ H s->RelV x v->RelV y u->t x y H Q->
  wpAny (model X.prog X.w) X.A (inplaceOp op v u) (EP X pins σ Q) X.xe s
section
variable{X:Cx}{pos:Pos}
noncomputable def gName(i:Nat):TG:=λv σ H Q=>Q (σ.set i (some v)) H
theorem zkr{i:Nat}{x:Str}(hN:X.N.Nodup)(hi:X.N[i]?=some x)(hx:Loc X.env.scope x)(hf:X.fn x=true\/X.env.scope.names.lookup x=some .local:=by first|exact .inl rfl|exact .inr rfl|assumption):PG X (.Name x pos) (gName i):=by
 intro pins s σ H v u Q I r h
 exact wpAny_assign_Name (zcf I hN hi hx r (λs' I'=>⟨_,H,I',h⟩) hf)
noncomputable def gNil:TGs:=λvs σ H Q=>vs=[]/\Q σ H
noncomputable def gCons(t:TG)(u:TGs):TGs:=λvs σ H Q=>∃v r,vs=v::r/\t v σ H λσ' H'=>u r σ' H' Q
theorem zq1:PGs X [] gNil:=by
 intro pins s σ H vs us Q I r h
 obtain⟨e,h⟩:=h
 subst e
 cases r
 exact assignInOrder_nil ⟨σ,H,I,h⟩
theorem znx{e:Expr}{es:List Expr}{t:TG}{u:TGs}(h1:PG X e t)(h2:PGs X es u)
 (hs:(assignEach (e::es) X.env).map (·.2)=assign e X.env:: (assignEach es X.env).map (·.2):=by rfl):PGs X (e::es) (gCons t u):=by
 intro pins s σ H vs us Q I r h
 obtain⟨v,vr,e1,h⟩:=h
 subst e1
 cases r with
 |cons r rr=>
  rw[hs]
  refine assignInOrder_cons (thn (h1 pins s σ H _ _ _ I r h) λ_ s1 hq0=>?_)
  obtain⟨σ1,H1,I1,q1⟩:=hq0
  exact h2 pins s1 σ1 H1 _ _ Q I1 rr q1
noncomputable def gTup(K:PySem.W.Frag)(n:Nat)(t:TGs):TG:=λv σ H Q=>∃a xs,v=.ref a/\SqT K H a xs/\xs.length=n/\t xs σ H Q
theorem zti{es:List Expr}{k:Nat}{t:TGs}{n:Nat}(hc:X.calm=true)(h:PGs X es t)
 (hn:(assignEach es X.env).length=n:=by rfl) (hst:(assignEach es X.env).findIdx? (·.1)=none:=by rfl):PG X (.Tuple es k pos) (gTup X.K n t):=by
 intro pins s σ H v u Q I r hw
 obtain⟨a,xs,e1,hq,hl,hw⟩:=hw
 subst e1
 cases r
 obtain⟨its,rv,ht,hz⟩:=I.tuple hq
 refine assign_Tuple_tuple (I.ok.hd hc) ht (by simp[hn,<-hl,rv.length]) hst λh' hx=>?_
 have I1:Inv X pins σ H {s with heap:=h'}:=I.kept (t':=s.toks) λb o e=>hx b o (vau (vaj e)) e
 exact h pins _ σ H xs _ Q I1 (by simpa using rv) hw
noncomputable def gSub(to ti:TE)(t:TSet):TG:=λv σ H Q=>to σ H λo H1=>ti σ H1 λi H2=>t o i v H2 λH3=>Q σ H3
theorem ztj{o i:Expr}{to ti:TE}{t:TSet}(ho:PE X o to)(hi:PE X i ti)(hs:PSet X t)
 (ha:∀v,assign (.Subscript o i pos) X.env v=(do
   let ov <-holding [v] (eval o X.env)
   let iv <-holding [v,ov] (eval i X.env)
   standAt pos
   holding [v,ov,iv] (setItem ov iv v)
   release [v,ov,iv] []):=by intro _;rfl):PG X (.Subscript o i pos) (gSub to ti t):=by
 intro pins s σ H v u Q I r h
 rw[ha]
 refine vab (vbs (thn (ho pins s σ H _ I h) λov s1 z9=>z9.el λx H1 I1 r1 q1=>?_))
 refine vab (vbs (thn (hi pins s1 σ H1 _ I1 q1) λiv s2 z9=>z9.el λy H2 I2 r2 q2=>?_))
 refine vab (va4 (vab (vbs (thn (hs pins s2 σ H2 x y v ov iv u _ I2 r1 r2 r q2) λ_ s3 hq0=>?_))))
 obtain⟨H3,I3,q3⟩:=hq0
 exact wpAny_release ⟨σ,H3,I3,q3⟩
noncomputable def tAsg(te:TE)(g:TG):TS:=λD σ H=>te σ H λx H1=>g x σ H1 D.nx
theorem zpl{tg e:Expr}{te:TE}{g:TG}(he:PE X e te)(hg:PG X tg g)(hs:swapsWithSole [tg] e pos.line X.env=pure false:=by rfl)(hw:swappedStores [tg] e X.env=pure none:=by rfl)
 (h1:(assignEach [tg] X.env).map (·.2)=[assign tg X.env]:=by rfl):PS X (.Assign [tg] e pos) (tAsg te g):=by
 intro pins s σ H D I h
 refine wpAny_Assign_stores (thn (he pins s σ H _ I h) λv s1 z9=>z9.el λx H1 I1 r1 q1=>?_) hs hw
 rw[h1]
 exact thn (hg pins s1 σ H1 x v _ I1 r1 q1) λ_ s2 q=>q
theorem zpm{i:Nat}{x:Str}{e:Expr}{te:TE}{pos':Pos}(hN:X.N.Nodup)(hi:X.N[i]?=some x)(hx:Loc X.env.scope x)(he:PE X e te)(hs:swapsWith e (some (.Name x pos')) pos.line X.env=pure false:=by rfl)(hf:X.fn x=true\/X.env.scope.names.lookup x=some .local:=by first|exact .inl rfl|exact .inr rfl|assumption) :
 PS X (.Assign [.Name x pos'] e pos) (tAsg te (gName i)):=by
 intro pins s σ H D I h
 refine wpAny_Assign_Name (thn (he pins s σ H _ I h) λv s1 z9=>z9.el λy H1 I1 r1 q1=>?_) hs
 exact zcf I1 hN hi hx r1 (λs2 I2=>⟨_,H1,I2,q1⟩) hf
noncomputable def tAug(i:Nat)(te:TE)(ti:TIp):TS:=λD σ H=>∃x,σ[i]?=some (some x)/\te σ H λy H1=>ti x y H1 λz H2=>D.nx (σ.set i (some z)) H2
theorem ztk{i:Nat}{x:Str}{e:Expr}{te:TE}{op:Operator}{ti:TIp}{pos':Pos}(hN:X.N.Nodup)(hi:X.N[i]?=some x)(hx:Loc X.env.scope x)(he:PE X e te)(ho:PIp X op ti)(hf:X.fn x=true\/X.env.scope.names.lookup x=some .local:=by first|exact .inl rfl|exact .inr rfl|assumption) :
 PS X (.AugAssign (.Name x pos') op e pos) (tAug i te ti):=by
 intro pins s σ H D I h
 obtain⟨v,e1,h⟩:=h
 obtain⟨m,hn,hl⟩:=I.loc
 have vis:Vis X.env.scope x:=by rcases hx with k|k;exact .inl k;exact .inr (.inl k)
 obtain⟨u,r,l⟩:=hl i x v hi e1 vis
 refine wpAny_AugAssign_Name ?_
 have go:wpAny (model X.prog X.w) X.A (eval e X.env) (λw s₂=>wpAny (model X.prog X.w) X.A (inplaceOp op u w) (λr s₃=>wpAny (model X.prog X.w) X.A (storeName X.env x r) (λ_=>SP X pins D .next) X.xe s₃) X.xe s₂) X.xe s:=by
  refine thn (he pins s σ H _ I h) λw s1 z9=>z9.el λy H1 I1 r1 q1=>?_
  refine thn (ho pins s1 σ H1 v y u w _ I1 r r1 q1) λz s2 z9=>z9.el λzv H2 I2 r2 q2=>?_
  exact zcf I2 hN hi hx r2 (λs3 I3=>⟨_,H2,I3,q2⟩) hf
 rcases l with⟨hk,hm⟩|⟨hk,c,hc,hcell⟩
 .exact wpAny_loadName_local I.ok.kind hk hn hm go
 .rcases hk with hk|hk
  .exact wpAny_loadName_cell I.ok.kind hk hc hcell go
  .rcases hx with k|k
   .have:X.env.scope.names.lookup x=some .free:=hk
    rw[k]at this;cases this
   .have:X.env.scope.names.lookup x=some .free:=hk
    rw[k]at this;cases this
noncomputable def ipI(f:Int->Int->Int):TIp:=λx y H Q=>∃i j,x=.int i/\y=.int j/\Q (.int (f i j)) H
theorem ztl:PIp X .Add (ipI λi j=>i+j):=by
 intro pins s σ H x y v u Q I r1 r2 h
 obtain⟨i,j,e1,e2,q⟩:=h
 subst e1;subst e2
 obtain⟨t,rfl⟩:=r1
 obtain⟨t',rfl⟩:=r2
 exact iadd_int ⟨.int _,H,I.tok _,⟨_,rfl⟩,q⟩
theorem ztm:PIp X .Sub (ipI λi j=>i-j):=by
 intro pins s σ H x y v u Q I r1 r2 h
 obtain⟨i,j,e1,e2,q⟩:=h
 subst e1;subst e2
 obtain⟨t,rfl⟩:=r1
 obtain⟨t',rfl⟩:=r2
 exact isub_int ⟨.int _,H,I.tok _,⟨_,rfl⟩,q⟩
end
section
variable{X:Cx}{pos:Pos}
noncomputable def ztn(c:TT)(tb:TS):TS:=λD σ H=>∃W:Nat->St->Hp->Prop,(∃m,W m σ H)/\∀m σ H,W m σ H->
 c σ H λb H1=>if b=true then ∃N:St->Hp->Prop,(∀σ' H',N σ' H'->∃m',m'<m/\W m' σ' H')/\tb {D with nx:=N,ct:=N,bk:=D.nx} σ H1 else D.nx σ H1
theorem zny{c:Expr}{body:List Stmt}{tc:TT}{tb:TS}(hp:PassesOwn (model X.prog X.w) X.A X.env X.xe)(hc:PT X c tc)(hb:PSs X body tb):PS X (.While c body [] pos) (ztn tc tb):=by
 intro pins s σ H D I h
 obtain⟨W,⟨m0,w0⟩,turn⟩:=h
 refine wpAny_While (codeAny_whileLoop (λn s'=>∃σ' H',Inv X pins σ' H' s'/\W n σ' H') ?_ m0 ⟨σ,H,I,w0⟩)
 rintro n s1 ⟨σ1,H1,I1,w1⟩
 refine vcr hp (thn (hc pins s1 σ1 H1 _ I1 (turn n σ1 H1 w1)) λb s2 z9=>z9.el λH2 I2 q2=>?_)
 cases b with
 |true=>
  obtain⟨N,hN,q2⟩:=q2
  rw[if_pos rfl]
  refine vcr hp (thn (hb pins s2 σ1 H2 _ I2 q2) λf s3 q3=>?_)
  cases f with
  |next=>
   obtain⟨σ3,H3,I3,n3⟩:=q3
   obtain⟨m',hm,w3⟩:=hN σ3 H3 n3
   exact⟨m',hm,σ3,H3,I3,w3⟩
  |cont=>
   obtain⟨σ3,H3,I3,n3⟩:=q3
   obtain⟨m',hm,w3⟩:=hN σ3 H3 n3
   exact⟨m',hm,σ3,H3,I3,w3⟩
  |brk=>exact q3
  |ret v=>exact q3
 |false=>
  rw[if_neg va0]
  exact vbu ⟨σ1,H2,I2,q2⟩
end
set_option genInjectivity false in
structure It where
 go:Nat->Hp->Prop
 yld:Nat->Hp->V->Hp->Prop
 stop:Nat->Hp->Prop
noncomputable def FpOk(X:Cx)(pins:List (Addr×Obj))(H:Hp)(b:Addr):Prop:=
 H b=none/\b≠X.env.locals/\b∉X.fs/\(b∈X.ex\/X.s₀.heap.objs.size<=b)/\(∀x c,X.env.cells.lookup x=some c->c≠b)/\∀p∈X.pn++pins,p.1≠b
theorem Inv.fpOk{X:Cx}{pins:List (Addr×Obj)}{σ:St}{H H':Hp}{s:Shared}{b:Addr}(I:Inv X pins σ H s)(hb:s.heap.objs.size<=b)(hn:H' b=none):FpOk X pins H' b:=by
 refine⟨hn,vca (vae I.lt hb),I.nofs hb,.inr (vap I.sz hb),λx c e z=>?_,λp hp z=>?_⟩
 .obtain⟨v,q⟩:=I.cell x c e
  exact absurd (vae q.lt (by rw[z];exact hb)) (vcf _)
 .exact absurd (vae (vaj (I.pin p hp).1) (by rw[z];exact hb)) (vcf _)
structure Turn(P:Program)(w:World)(K:PySem.W.Frag)(tg:Expr)(J:It)(fp:List Addr)(it:Addr)(tn:Nat->Heap->Prop):Prop where
 mem:it∈fp
 obj:∀i h,tn i h->∀b∈fp,∃o,h.get? b=some o/\∀v,o.data≠.cell v
 keep:∀i h h',tn i h->(∀b∈fp,∀o,h.get? b=some o->h'.get? b=some o)->tn i h'
 item:∀(X:Cx),X.prog=P->X.w=w->X.K=K->X.calm=true->∀(i:Nat)(pins:List (Addr×Obj))(s:Shared)(σ:St)(H:Hp)(E:Value->Shared->Prop),Inv X pins σ H s->(∀b∈fp,FpOk X pins H b)->tn i s.heap->J.go i H->
  wpAny (model P w) X.A (pyNext (.ref it)) (λr s1=>∃u,r=some u/\
   wpAny (model P w) X.A (letOwnedTupleGo tg (.ref it) u) (λ_ s2=>∃x H',Inv X pins σ H' s2/\RelV x u/\J.yld i H x H'/\tn (i+1) s2.heap/\∀b∈fp,H' b=none) E s1) E s
 done:∀(X:Cx),X.prog=P->X.w=w->X.K=K->X.calm=true->∀(i:Nat)(pins:List (Addr×Obj))(s:Shared)(σ:St)(H:Hp)(E:Value->Shared->Prop),Inv X pins σ H s->(∀b∈fp,FpOk X pins H b)->tn i s.heap->J.stop i H->
  wpAny (model P w) X.A (pyNext (.ref it)) (λr s1=>r=none/\Inv X pins σ H s1) E s
 self:∀(A:Around)(i:Nat)(s:Shared)(Q:Value->Shared->Prop)(E:Value->Shared->Prop),tn i s.heap->Q (.ref it) s->wpAny (model P w) A (pyIter (.ref it)) Q E s
noncomputable abbrev TI:=St->Hp->(It->Hp->Prop)->Prop
noncomputable def PIE(X:Cx)(pins:List (Addr×Obj))(σ:St)(tg:Expr)(R:It->Hp->Prop)(itv:Value)(s2:Shared):Prop:=
 ∃(it:Addr) (fp:List Addr) (tn:Nat->Heap->Prop) (J:It) (H':Hp),itv=.ref it/\Inv X pins σ H' s2/\Turn X.prog X.w X.K tg J fp it tn/\tn 0 s2.heap/\(∀b∈fp,FpOk X pins H' b)/\R J H'
noncomputable def PI(X:Cx)(tg iter:Expr)(wi:TI):Prop:=
 ∀(pins:List (Addr×Obj))(s:Shared)(σ:St)(H:Hp)(R:It->Hp->Prop),Inv X pins σ H s->wi σ H R->
  wpAny (model X.prog X.w) X.A (eval iter X.env) (λv s1=>wpAny (model X.prog X.w) X.A (pyIter v) (PIE X pins σ tg R) X.xe s1) X.xe s
theorem go_of{M:Model}{A:Around}{E:Value->Shared->Prop}{s:Shared}{tg:Expr}{it:Addr}{u:Value}{o:Obj}{n:String}{vs:Array Value}{Q:Unit->Shared->Prop}(ho:s.heap.get? it=some o)(hc:o.cls=.type n)(hd:o.data=.fields vs)
 (hn:["enumerate","zip","dict_itemiterator","dict_reverseitemiterator","odict_iterator","itertools.zip_longest","itertools.pairwise"].contains n=false) (hQ:Q () s):wpAny M A (letOwnedTupleGo tg (.ref it) u) Q E s:=by
 unfold letOwnedTupleGo
 cases tg<;>first
  |exact vaf hQ
  |(cases u<;>first
     |exact vaf hQ
     |(refine vab (wpAny_load ho ?_)
       rw[hc,hd]
       show wpAny M A (if(["enumerate","zip","dict_itemiterator","dict_reverseitemiterator","odict_iterator","itertools.zip_longest","itertools.pairwise"].contains n&&vs[0]? == some (rawInt _))=true then _ else _) Q E s
       rw[if_neg (by intro h;rw[hn,vc4]at h;cases h)]
       exact vaf hQ))
noncomputable def Itl(K:PySem.W.Frag)(a:Addr):It:=
 ⟨λi H=>∃xs x,SqL K H a xs/\xs[i]?=some x,λi H x H'=>H'=H/\∀xs,SqL K H a xs->xs[i]?=some x,λi H=>∃xs,SqL K H a xs/\xs.length<=i⟩
noncomputable def Itt(K:PySem.W.Frag)(a:Addr):It:=
 ⟨λi H=>∃xs x,SqT K H a xs/\xs[i]?=some x,λi H x H'=>H'=H/\∀xs,SqT K H a xs->xs[i]?=some x,λi H=>∃xs,SqT K H a xs/\xs.length<=i⟩
noncomputable def Itr(lo:Int)(n:Nat):It:=⟨λi _=>i<n,λi H x H'=>H'=H/\x=.int (lo+i),λi _=>n<=i⟩
theorem zks{P:Program}{w:World}{K:PySem.W.Frag}{tg:Expr}(a it:Addr):Turn P w K tg (Itl K a) [it] it (λi h=>h.IsListIter it a i)where
 mem:=by simp
 obj:=λi h st b hb=>by
  have e:b=it:=by simpa using hb
  subst e
  obtain⟨o,e,c,d⟩:=st
  exact⟨o,e,λv z=>by rw[d]at z;cases z⟩
 keep:=λi h h' st k=>st.at λo e=>k it (by simp) o e
 item:=by
  intro X hP hw hK hc i pins s σ H E I hf st hg
  subst hP hw hK
  obtain⟨xs,x,hq,hx⟩:=hg
  obtain⟨its,rv,p,hz⟩:=I.list hq
  obtain⟨u,hu,ru⟩:=rv.get hx
  obtain⟨f0,f1,f2,f3,f4,f5⟩:=hf it (by simp)
  refine wpAny_pyNext_list_item st p.isList (x:=u) (by simpa using hu) λh' st' sb=>?_
  have I1:Inv X pins σ H {s with heap:=h'}:=I.turned (t':=s.toks) (λb o hb e=>(sb.2 b hb).trans e) f0 f1 f3 f4 f5
  obtain⟨o,e,c,d⟩:=id st'
  exact⟨u,rfl,go_of (s:={s with heap:=h'}) e c d (by decide) ⟨x,H,I1,ru,⟨rfl,λys hy=>by rw[I.list_inj hy hq];exact hx⟩,st',λb hb=>(hf b hb).1⟩⟩
 done:=by
  intro X hP hw hK hc i pins s σ H E I hf st hg
  subst hP hw hK
  obtain⟨xs,hq,hx⟩:=hg
  obtain⟨its,rv,p,hz⟩:=I.list hq
  obtain⟨f0,f1,f2,f3,f4,f5⟩:=hf it (by simp)
  have hl:=rv.length
  exact wpAny_pyNext_list_end (I.ok.hd hc) st p.isList (by simp;omega) λh' eb=>⟨rfl,I.turned (t':=s.toks) (λb o hb e=>eb b o hb e) f0 f1 f3 f4 f5⟩
 self:=λ_ _ _ _ _ st h=>wpAny_pyIter_listiter st h
theorem zjs{P:Program}{w:World}{K:PySem.W.Frag}{tg:Expr}(a it:Addr):Turn P w K tg (Itt K a) [it] it (λi h=>h.IsTupleIter it a i)where
 mem:=by simp
 obj:=λi h st b hb=>by
  have e:b=it:=by simpa using hb
  subst e
  obtain⟨o,e,c,d⟩:=st
  exact⟨o,e,λv z=>by rw[d]at z;cases z⟩
 keep:=λi h h' st k=>st.at λo e=>k it (by simp) o e
 item:=by
  intro X hP hw hK hc i pins s σ H E I hf st hg
  subst hP hw hK
  obtain⟨xs,x,hq,hx⟩:=hg
  obtain⟨its,rv,p,hz⟩:=I.tuple hq
  obtain⟨u,hu,ru⟩:=rv.get hx
  obtain⟨f0,f1,f2,f3,f4,f5⟩:=hf it (by simp)
  refine wpAny_pyNext_tuple_item st (show s.heap.IsTuple a its.toArray from p) (x:=u) (by simpa using hu) λh' st' sb=>?_
  have I1:Inv X pins σ H {s with heap:=h'}:=I.turned (t':=s.toks) (λb o hb e=>(sb.2 b hb).trans e) f0 f1 f3 f4 f5
  obtain⟨o,e,c,d⟩:=id st'
  exact⟨u,rfl,go_of (s:={s with heap:=h'}) e c d (by decide) ⟨x,H,I1,ru,⟨rfl,λys hy=>by rw[I.tuple_inj hy hq];exact hx⟩,st',λb hb=>(hf b hb).1⟩⟩
 done:=by
  intro X hP hw hK hc i pins s σ H E I hf st hg
  subst hP hw hK
  obtain⟨xs,hq,hx⟩:=hg
  obtain⟨its,rv,p,hz⟩:=I.tuple hq
  obtain⟨f0,f1,f2,f3,f4,f5⟩:=hf it (by simp)
  have hl:=rv.length
  exact wpAny_pyNext_tuple_end (I.ok.hd hc) st (show s.heap.IsTuple a its.toArray from p) (by simp;omega) λh' eb=>⟨rfl,I.turned (t':=s.toks) (λb o hb e=>eb b o hb e) f0 f1 f3 f4 f5⟩
 self:=λ_ _ _ _ _ st h=>wpAny_pyIter_tupleiter st h
theorem zjt{P:Program}{w:World}{K:PySem.W.Frag}{tg:Expr}(it:Addr)(lo:Int)(n:Nat):Turn P w K tg (Itr lo n) [it] it (λi h=>IsRangeIter h it (lo+ (i:Nat)*1) ((n:Int)- (i:Nat)) 1)where
 mem:=by simp
 obj:=λi h st b hb=>by
  have e:b=it:=by simpa using hb
  subst e
  exact⟨_,st,λv z=>by
   have z':Data.fields _=Data.cell v:=z
   cases z'⟩
 keep:=λi h h' st k=>k it (by simp) _ st
 item:=by
  intro X hP hw hK hc i pins s σ H E I hf st hg
  subst hP hw hK
  obtain⟨f0,f1,f2,f3,f4,f5⟩:=hf it (by simp)
  have W:=Walks.range (prog:=X.prog) (w:=X.w) (I.ok.hd hc) it lo 1 n
  refine W.item i s _ _ hg st λv h' tk hv st' kk=>?_
  obtain⟨t,rfl⟩:=hv
  have I1:Inv X pins σ H {s with heap:=h',toks:=tk}:=I.turned (λb o hb e=>kk b o (by simpa using hb) e) f0 f1 f3 f4 f5
  refine⟨_,rfl,go_of (s:={s with heap:=h',toks:=tk}) (n:="range_iterator") st' rfl rfl (by decide) ⟨.int (lo+i),H,I1,⟨t,?_⟩,⟨rfl,rfl⟩,st',λb hb=>(hf b hb).1⟩⟩
  rw[Int.mul_one]
 done:=by
  intro X hP hw hK hc i pins s σ H E I hf st hg
  subst hP hw hK
  obtain⟨f0,f1,f2,f3,f4,f5⟩:=hf it (by simp)
  exact wpAny_pyNext_range_end (I.ok.hd hc) st (by have:n<=i:=hg;omega) λh' eb=>⟨rfl,I.turned (t':=s.toks) (λb o hb e=>eb b o hb e) f0 f1 f3 f4 f5⟩
 self:=λ_ _ _ _ _ st h=>wpAny_pyIter_rangeiter st h
section
variable{X:Cx}{tg:Expr}
noncomputable def iList(K:PySem.W.Frag)(tl:TE):TI:=λσ H R=>tl σ H λx H1=>∃a,x=.ref a/\(∃xs,SqL K H1 a xs)/\R (Itl K a) H1
noncomputable def iTup(K:PySem.W.Frag)(tl:TE):TI:=λσ H R=>tl σ H λx H1=>∃a,x=.ref a/\(∃xs,SqT K H1 a xs)/\R (Itt K a) H1
theorem zkt{l:Expr}{tl:TE}(hl:PE X l tl):PI X tg l (iList X.K tl):=by
 intro pins s σ H R I h
 refine thn (hl pins s σ H _ I h) λv s1 z9=>z9.el λx H1 I1 r1 q1=>?_
 obtain⟨a,e,⟨xs,hq⟩,q⟩:=q1
 subst e
 cases r1
 obtain⟨its,rv,p,hz⟩:=I1.list hq
 refine wpAny_pyIter_list p.isList ?_
 refine⟨s1.heap.objs.size,[s1.heap.objs.size],_,_,H1,rfl,I1.kept (t':=s1.toks) λb o e=>vad _ e,zks a _,⟨_,va3 _ rfl,rfl,rfl⟩,λb hb=>?_,q⟩
 have e:b=s1.heap.objs.size:=by simpa using hb
 subst e
 exact I1.fpOk (vac _) (I1.hok.fresh (vac _))
theorem zto{l:Expr}{tl:TE}(hl:PE X l tl):PI X tg l (iTup X.K tl):=by
 intro pins s σ H R I h
 refine thn (hl pins s σ H _ I h) λv s1 z9=>z9.el λx H1 I1 r1 q1=>?_
 obtain⟨a,e,⟨xs,hq⟩,q⟩:=q1
 subst e
 cases r1
 obtain⟨its,rv,p,hz⟩:=I1.tuple hq
 refine wpAny_pyIter_tuple (show s1.heap.IsTuple a its.toArray from p) ?_
 refine⟨s1.heap.objs.size,[s1.heap.objs.size],_,_,H1,rfl,I1.kept (t':=s1.toks) λb o e=>vad _ e,zjs a _,⟨_,va3 _ rfl,rfl,rfl⟩,λb hb=>?_,q⟩
 have e:b=s1.heap.objs.size:=by simpa using hb
 subst e
 exact I1.fpOk (vac _) (I1.hok.fresh (vac _))
theorem znz{pins:List (Addr×Obj)}{σ:St}{H:Hp}{s:Shared}{R:It->Hp->Prop}{E:Value->Shared->Prop}{lo hi:Int}{t u v:Tok}{tk:Nat}(I:Inv X pins σ H s)(h1:-(2 ^ 62)<=lo)(h2:lo<2 ^ 62)(h3:-(2 ^ 62)<=hi)(h4:hi<2 ^ 62)
 (q:R (Itr lo (hi-lo).toNat) H):wpAny (model X.prog X.w) X.A (pyIter (.ref s.heap.objs.size)) (PIE X pins σ tg R) E {s with heap:=s.heap.push {cls:=.type "range",data:=.fields #[.int lo t,.int hi u,.int 1 v]},toks:=tk}:=by
 refine wpAny_pyIter_range (IsRange.new ..) (small_one h1 h2 h3 h4) ?_
 have I1:Inv X pins σ H {s with heap:=s.heap.push {cls:=.type "range",data:=.fields #[.int lo t,.int hi u,.int 1 v]},toks:=tk}:=I.kept λb o e=>vad _ e
 refine⟨(s.heap.push {cls:=.type "range",data:=.fields #[.int lo t,.int hi u,.int 1 v]}).objs.size,[(s.heap.push {cls:=.type "range",data:=.fields #[.int lo t,.int hi u,.int 1 v]}).objs.size],_,_,H,rfl,
  I1.kept (t':=tk) λb o e=>vad _ e,zjt _ lo (hi-lo).toNat,?_,λb hb=>?_,q⟩
 .have e1:lo+ ((0:Nat):Int)*1=lo:=by simp
  have e2:(((hi-lo).toNat:Nat):Int)- ((0:Nat):Int)=Builtin.Range.rangeSize lo hi 1:=by rw[rangeSize_one];split<;>omega
  show IsRangeIter _ _ (lo+ ((0:Nat):Int)*1) ((((hi-lo).toNat:Nat):Int)- ((0:Nat):Int)) 1
  rw[e1,e2]
  exact va3 _ rfl
 .have e:b=(s.heap.push {cls:=.type "range",data:=.fields #[.int lo t,.int hi u,.int 1 v]}).objs.size:=by simpa using hb
  subst e
  exact I1.fpOk (vac _) (I1.hok.fresh (vac _))
noncomputable def iRng1(ta:TA):TI:=λσ H R=>ta σ H λvs H1=>∃j:Int,vs=[.int j]/\-(2 ^ 62)<=j/\j<2 ^ 62/\R (Itr 0 j.toNat) H1
theorem zku{a:Expr}{ta:TA}{p pos:Pos}(hg:Gl X "range")(hm:X.mg "range" = none)(ha:PA X [a] ta)(hs:starEach [a] X.env=[(false,eval a X.env)]:=by rfl):PI X tg (.Call (.Name "range" p) [a] [] pos) (iRng1 ta):=by
 intro pins s σ H R I h
 refine Call_ (zgq I hg hm boot_range (PyProof.Rows.callWith_type1 (thn (ha pos pins s σ H _ I h) λus s1 z9=>z9.el λvs H1 I1 r1 q1=>?_) hs rfl))
 obtain⟨j,e,q1,q2,q⟩:=q1
 subst e
 cases r1 with
 |cons r rr=>
  cases rr
  obtain⟨t,rfl⟩:=r
  exact call_range_1 (znz I1 (by omega) (by omega) q1 q2 (by simpa using q))
noncomputable def tFor(wi:TI)(g:TG)(tb:TS):TS:=λD σ H=>wi σ H λJ H1=>∃W:Nat->Nat->St->Hp->Prop,(∃m,W 0 m σ H1)/\∀i m σ H,W i m σ H->
 (J.stop i H/\D.nx σ H)\/(J.go i H/\∃N:St->Hp->Prop,(∀σ' H',N σ' H'->∃m',m'<m/\W (i+1) m' σ' H')/\∀x H',J.yld i H x H'->g x σ H' λσ2 H2=>tb {D with nx:=N,ct:=N,bk:=D.nx} σ2 H2)
noncomputable def zd9(fp:List Addr)(h:Heap):List (Addr×Obj):=fp.filterMap λb=>(h.get? b).map λo=>(b,o)
theorem za6{fp:List Addr}{h:Heap}{b:Addr}{o:Obj}(hb:b∈fp)(e:h.get? b=some o):(b,o)∈zd9 fp h:=List.mem_filterMap.mpr ⟨b,hb,by rw[e];rfl⟩
theorem zkv{fp:List Addr}{h:Heap}{p:Addr×Obj}(hp:p∈zd9 fp h):p.1∈fp/\h.get? p.1=some p.2:=by
 obtain⟨b,hb,e⟩:=List.mem_filterMap.mp hp
 cases q:h.get? b with
 |none=>rw[q]at e;cases e
 |some o=>
  rw[q]at e
  have e':(b,o)=p:=vb0 e
  subst e'
  exact⟨hb,q⟩
theorem Inv.pinned{pins:List (Addr×Obj)}{σ:St}{H:Hp}{s:Shared}{fp:List Addr}(I:Inv X pins σ H s)(hf:∀b∈fp,FpOk X pins H b)(ho:∀b∈fp,∃o,s.heap.get? b=some o/\∀v,o.data≠.cell v):Inv X (pins++zd9 fp s.heap) σ H s:=
 I.pins_of λp hp=>(vbq.mp hp).elim (λz=>I.pin p (vas _ z)) λz=>by
  obtain⟨hb,e⟩:=zkv z
  obtain⟨f0,f1,f2,_⟩:=hf p.1 hb
  obtain⟨o,e',d⟩:=ho p.1 hb
  rw[e]at e';cases e'
  exact⟨e,f0,f1,f2,d⟩
theorem Inv.unpinned{pins pl:List (Addr×Obj)}{σ:St}{H:Hp}{s:Shared}(I:Inv X (pins++pl) σ H s):Inv X pins σ H s:=I.pins_of λp hp=>I.pin p (vas _ (List.mem_append_left _ hp))
theorem ztp{iter:Expr}{body:List Stmt}{wi:TI}{g:TG}{tb:TS}{pos:Pos}(hp:PassesOwn (model X.prog X.w) X.A X.env X.xe)(hc:X.calm=true)(hi:PI X tg iter wi)(hg:PG X tg g)(hb:PSs X body tb)
 (hs:∀x,foldedSetIterable iter X.env x=pure x:=by intro _;rfl):PS X (.For tg iter body [] pos) (tFor wi g tb):=by
 intro pins s σ H D I h
 refine wpAny_For (thn (hi pins s σ H _ I h) λv s1 h1=>thn h1 λitv s2 h2=>?_) hs
 obtain⟨it,fp,tn,J,H2,e,I2,T,st2,f2,W,⟨m0,w0⟩,turn⟩:=h2
 subst e
 have stat:∀{H':Hp},(∀b∈fp,H' b=none)->∀b∈fp,FpOk X pins H' b:=λhn b hb=>⟨hn b hb,(f2 b hb).2⟩
 refine codeAny_forLoop_any (λn s'=>∃i σ' H',Inv X pins σ' H' s'/\tn i s'.heap/\(∀b∈fp,H' b=none)/\W i n σ' H') ?_ m0 ⟨0,σ,H2,I2,st2,λb hb=>(f2 b hb).1,w0⟩
 rintro n s3 ⟨i,σ3,H3,I3,st3,fr3,w3⟩
 rcases turn i n σ3 H3 w3 with⟨stop,qn⟩|⟨go,N,hN,step⟩
 .refine vcr hp (thn (T.done X rfl rfl rfl hc i pins s3 σ3 H3 X.xe I3 (stat fr3) st3 stop) λr s4 hq0=>?_)
  obtain⟨hr,I4⟩:=hq0
  subst hr
  exact vbu ⟨σ3,H3,I4,qn⟩
 .refine vcr hp (thn (T.item X rfl rfl rfl hc i pins s3 σ3 H3 X.xe I3 (stat fr3) st3 go) λr s4 hq0=>?_)
  obtain⟨u,hr,h4⟩:=hq0
  subst hr
  refine vcr hp (thn h4 λ_ s5 hq0=>?_)
  obtain⟨x,H5,I5,r5,y5,st5,fr5⟩:=hq0
  have I5':=I5.pinned (stat fr5) (T.obj _ _ st5)
  refine vcr hp (thn (hg _ s5 σ3 H5 x u _ I5' r5 (step x H5 y5)) λ_ s6 hq0=>?_)
  obtain⟨σ6,H6,I6,q6⟩:=hq0
  refine vcr hp (thn (hb _ s6 σ6 H6 _ I6 q6) λf s7 q7=>?_)
  have again:∀{σ7:St}{H7:Hp},Inv X (pins++zd9 fp s5.heap) σ7 H7 s7->N σ7 H7->∃m,m<n/\∃i σ' H',Inv X pins σ' H' s7/\tn i s7.heap/\(∀b∈fp,H' b=none)/\W i m σ' H':=λ{σ7 H7} I7 n7=>by
   obtain⟨m',hm,w7⟩:=hN σ7 H7 n7
   refine⟨m',hm,i+1,σ7,H7,I7.unpinned,T.keep _ _ _ st5 λb hb o e=>(I7.pin (b,o) (vas _ (vas _ (za6 hb e)))).1,λb hb=>?_,w7⟩
   obtain⟨o,e,d⟩:=T.obj _ _ st5 b hb
   exact(I7.pin (b,o) (vas _ (vas _ (za6 hb e)))).2.1
  cases f with
  |next=>obtain⟨σ7,H7,I7,n7⟩:=q7;exact again I7 n7
  |cont=>obtain⟨σ7,H7,I7,n7⟩:=q7;exact again I7 n7
  |brk=>obtain⟨σ7,H7,I7,q7⟩:=q7;exact⟨σ7,H7,I7.unpinned,q7⟩
  |ret v=>obtain⟨x7,σ7,H7,I7,r7,q7⟩:=q7;exact⟨x7,σ7,H7,I7.unpinned,r7,q7⟩
end
noncomputable abbrev R2:=V->V->Hp->VK->Prop
noncomputable def OpR(X:Cx)(f:Value->Value->Sem Value)(r:R2):Prop:=
 ∀(pins:List (Addr×Obj))(s:Shared)(σ:St)(H:Hp)(x y:V)(v u:Value)(Q:VK),Inv X pins σ H s->RelV x v->RelV y u->r x y H Q->
  wpAny (model X.prog X.w) X.A (f v u) (EP X pins σ Q) X.xe s
noncomputable def UnR(X:Cx)(f:Value->Sem Value)(r:V->Hp->VK->Prop):Prop:=
 ∀(pins:List (Addr×Obj))(s:Shared)(σ:St)(H:Hp)(x:V)(v:Value)(Q:VK),Inv X pins σ H s->RelV x v->r x H Q->
  wpAny (model X.prog X.w) X.A (f v) (EP X pins σ Q) X.xe s
noncomputable def CallR(X:Cx)(f:Value)(r:List V->Hp->VK->Prop):Prop:=
 ∀(pins:List (Addr×Obj))(s:Shared)(σ:St)(H:Hp)(xs:List V)(us:List Value)(Q:VK),Inv X pins σ H s->Vals xs us->r xs H Q->
  wpAny (model X.prog X.w) X.A (call f us) (EP X pins σ Q) X.xe s
noncomputable def TruR(X:Cx)(r:V->Hp->(Bool->Hp->Prop)->Prop):Prop:=
 ∀(pins:List (Addr×Obj))(s:Shared)(σ:St)(H:Hp)(x:V)(v:Value)(Q:Bool->Hp->Prop),Inv X pins σ H s->RelV x v->r x H Q->
  wpAny (model X.prog X.w) X.A (truthy v) (TP X pins σ Q) X.xe s
noncomputable def tOp(r:R2)(ta tb:TE):TE:=λσ H Q=>ta σ H λx H1=>tb σ H1 λy H2=>r x y H2 Q
noncomputable def tUn(r:V->Hp->VK->Prop)(ta:TE):TE:=λσ H Q=>ta σ H λx H1=>r x H1 Q
noncomputable def rI(C:Int->Int->Prop)(g:Int->Int->V):R2:=λx y H Q=>∃i j,x=.int i/\y=.int j/\C i j/\Q (g i j) H
noncomputable def rI0(g:Int->Int->V):R2:=λx y H Q=>∃i j,x=.int i/\y=.int j/\Q (g i j) H
noncomputable def rU(g:Int->V):V->Hp->VK->Prop:=λx H Q=>∃i,x=.int i/\Q (g i) H
section
variable{X:Cx}{a b c:Expr}{ta tb tc:TE}{pos:Pos}
theorem binT(ha:PE X a ta)(hb:PE X b tb){pins:List (Addr×Obj)}{s:Shared}{σ:St}{H:Hp}{R:V->V->Hp->Prop}(I:Inv X pins σ H s)
 (h:ta σ H λx H1=>tb σ H1 λy H2=>R x y H2) {Q:Value->Shared->Prop} {f:Value->Value->Sem Value}
 (hf:∀v u s2 x y H2,Inv X pins σ H2 s2->RelV x v->RelV y u->R x y H2->wpAny (model X.prog X.w) X.A (f v u) Q X.xe s2) :
 wpAny (model X.prog X.w) X.A (eval a X.env) (λv s₁=>wpAny (model X.prog X.w) X.A (eval b X.env) (λu s₂=>wpAny (model X.prog X.w) X.A (f v u) Q X.xe s₂) X.xe s₁) X.xe s:=by
 refine thn (ha pins s σ H _ I h) λv s1 z9=>z9.el λx H1 I1 r1 q1=>?_
 refine thn (hb pins s1 σ H1 _ I1 q1) λu s2 z9=>z9.el λy H2 I2 r2 q2=>?_
 exact hf v u s2 x y H2 I2 r1 r2 q2
theorem pe_op{op:Operator}{r:R2}(ho:OpR X (binaryOp op) r)(ha:PE X a ta)(hb:PE X b tb):PE X (.BinOp a op b pos) (tOp r ta tb):=by
 intro pins s σ H Q I h
 exact wpAny_BinOp (binT ha hb I h λv u s2 x y H2 I2 rx ry q=>ho pins s2 σ H2 x y v u Q I2 rx ry q)
theorem pe_un{op:UnaryOp}{r:V->Hp->VK->Prop}(ho:UnR X (unaryOp op) r)(ha:PE X a ta):PE X (.UnaryOp op a pos) (tUn r ta):=by
 intro pins s σ H Q I h
 exact UnaryOp_ (thn (ha pins s σ H _ I h) λv s1 z9=>z9.el λx H1 I1 r1 q1=>ho pins s1 σ H1 x v Q I1 r1 q1)
theorem opI{f:Value->Value->Sem Value}{C:Int->Int->Prop}{g:Int->Int->Int}
 (rule:∀(i j:Int)(t u:Tok)(s:Shared)(Q:Value->Shared->Prop)(E:Value->Shared->Prop),C i j->Q (.int (g i j) s.toks) {s with toks:=s.toks+1}->wpAny (model X.prog X.w) X.A (f (.int i t) (.int j u)) Q E s) :
 OpR X f (rI C λi j=>.int (g i j)):=by
 intro pins s σ H x y v u Q I rx ry h
 obtain⟨i,j,rfl,rfl,hc,q⟩:=h
 obtain⟨t,rfl⟩:=rx
 obtain⟨t',rfl⟩:=ry
 exact rule i j t t' s _ _ hc ⟨.int (g i j),H,I.tok _,⟨_,rfl⟩,q⟩
theorem opI0{f:Value->Value->Sem Value}{g:Int->Int->Int}
 (rule:∀(i j:Int)(t u:Tok)(s:Shared)(Q:Value->Shared->Prop)(E:Value->Shared->Prop),Q (.int (g i j) s.toks) {s with toks:=s.toks+1}->wpAny (model X.prog X.w) X.A (f (.int i t) (.int j u)) Q E s) :
 OpR X f (rI0 λi j=>.int (g i j)):=by
 intro pins s σ H x y v u Q I rx ry h
 obtain⟨i,j,rfl,rfl,q⟩:=h
 obtain⟨t,rfl⟩:=rx
 obtain⟨t',rfl⟩:=ry
 exact rule i j t t' s _ _ ⟨.int (g i j),H,I.tok _,⟨_,rfl⟩,q⟩
theorem opB0{f:Value->Value->Sem Value}{g:Int->Int->Bool}
 (rule:∀(i j:Int)(t u:Tok)(s:Shared)(Q:Value->Shared->Prop)(E:Value->Shared->Prop),Q (.bool (g i j)) s->wpAny (model X.prog X.w) X.A (f (.int i t) (.int j u)) Q E s) :
 OpR X f (rI0 λi j=>.bl (g i j)):=by
 intro pins s σ H x y v u Q I rx ry h
 obtain⟨i,j,rfl,rfl,q⟩:=h
 obtain⟨t,rfl⟩:=rx
 obtain⟨t',rfl⟩:=ry
 exact rule i j t t' s _ _ ⟨.bl (g i j),H,I,rfl,q⟩
noncomputable def CDiv(i j:Int):Prop:=0<j/\j<1073741824
noncomputable def CPow(i j:Int):Prop:=0<=j/\j<=1000000/\i.natAbs<2 ^ 64
noncomputable def CMul(i j:Int):Prop:=(-(2 ^ 64)<i/\i<2 ^ 64)\/(-(2 ^ 64)<j/\j<2 ^ 64)
theorem CMul.ok{i j:Int}(h:CMul i j):IntMulOk i j:=by
 rcases h with⟨h1,h2⟩|⟨h1,h2⟩
 .exact .of_left (intBits_le_64 h1 h2)
 .exact .of_right (intBits_le_64 h1 h2)
theorem zju(k:Nat):(0:Int)<=2 ^ k:=by
 rw[two_pow_cast]
 exact Int.natCast_nonneg _
theorem ztq:OpR X (binaryOp .Add) (rI0 λi j=>.int (i+j)):=opI0 λ_ _ _ _ _ _ _ q=>add_int q
theorem ztr:OpR X (binaryOp .Sub) (rI0 λi j=>.int (i-j)):=opI0 λ_ _ _ _ _ _ _ q=>sub_int q
theorem zts:OpR X (binaryOp .Mult) (rI CMul λi j=>.int (i*j)):=opI λ_ _ _ _ _ _ _ hc q=>mul_int q hc.ok
theorem zq2:OpR X (binaryOp .FloorDiv) (rI CDiv λi j=>.int (i/j)):=opI λi j _ _ _ _ _ hc q=>by
 have h1:(0:Int)<j:=hc.1
 have h2:j<1073741824:=hc.2
 exact floordiv_int (by omega) (by rw[Int.fdiv_eq_ediv_of_nonneg i (by omega)];exact q) (.inl (PyProof.noPylong_small (by omega)))
theorem ztt:OpR X (binaryOp .Mod) (rI (λ_ j=>0<j) λi j=>.int (i % j)):=opI λi j _ _ _ _ _ hc q=>by
 have h1:(0:Int)<j:=hc
 exact mod_int' (by omega) (by rw[Int.fmod_eq_emod_of_nonneg i (by omega)];exact q)
theorem ztu:OpR X (binaryOp .Pow) (rI CPow λi j=>.int (i ^ j.toNat)):=opI λ_ _ _ _ _ _ _ hc q=>pow_int_small hc.1 hc.2.1 hc.2.2 q
theorem ztv:OpR X (binaryOp .LShift) (rI CPow λi j=>.int (i*2 ^ j.toNat)):=opI λ_ _ _ _ _ _ _ hc q=>lshift_int_small hc.1 hc.2.1 hc.2.2 q
theorem ztw:OpR X (binaryOp .RShift) (rI (λ_ j=>0<=j) λi j=>.int (i/2 ^ j.toNat)):=opI λi j _ _ _ _ _ hc q=>
 rshift_int hc (by rw[Int.fdiv_eq_ediv_of_nonneg i (zju _)];exact q)
theorem ztx:OpR X (binaryOp .BitAnd) (rI0 λi j=>.int (Builtin.bitAnd i j)):=opI0 λ_ _ _ _ _ _ _ q=>and_int q
theorem zq3:OpR X (inplaceOp .Mult) (rI CMul λi j=>.int (i*j)):=opI λ_ _ _ _ _ _ _ hc q=>imul_int q hc.ok
theorem zn0:OpR X (inplaceOp .FloorDiv) (rI CDiv λi j=>.int (i/j)):=opI λi j _ _ _ _ _ hc q=>by
 have h1:(0:Int)<j:=hc.1
 have h2:j<1073741824:=hc.2
 exact ifloordiv_int (by omega) (by rw[Int.fdiv_eq_ediv_of_nonneg i (by omega)];exact q) (.inl (PyProof.noPylong_small (by omega)))
theorem unI{f:Value->Sem Value}{g:Int->Int}
 (rule:∀(i:Int)(t:Tok)(s:Shared)(Q:Value->Shared->Prop)(E:Value->Shared->Prop),Q (.int (g i) s.toks) {s with toks:=s.toks+1}->wpAny (model X.prog X.w) X.A (f (.int i t)) Q E s) :
 UnR X f (rU λi=>.int (g i)):=by
 intro pins s σ H x v Q I rx h
 obtain⟨i,rfl,q⟩:=h
 obtain⟨t,rfl⟩:=rx
 exact rule i t s _ _ ⟨.int (g i),H,I.tok _,⟨_,rfl⟩,q⟩
theorem zty:UnR X (unaryOp .USub) (rU λi=>.int (-i)):=unI λ_ _ _ _ _ q=>neg_int q
end
noncomputable def scal:V->V->Bool
 |.non,.non=>true|.non,.int _=>true|.int _,.non=>true|.non,.bl _=>true|.bl _,.non=>true|.non,.str _=>true|.str _,.non=>true
 |.int _,.int _=>true|.bl _,.bl _=>true|.str _,.str _=>true|.byt _,.byt _=>true
 |.int _,.str _=>true|.str _,.int _=>true|.bl _,.str _=>true|.str _,.bl _=>true
 |_,_=>false
noncomputable def rEq:R2:=λx y H Q=>scal x y=true/\Q (.bl (decide (x=y))) H
noncomputable def rNe:R2:=λx y H Q=>scal x y=true/\Q (.bl (!decide (x=y))) H
theorem zkw{i j:Int}:decide (V.int i=V.int j)=(i==j):=by
 rw[vdo]
 simp
theorem zpn{i j:Bool}:decide (V.bl i=V.bl j)=(i==j):=by
 rw[vdo]
 simp
theorem zkx{i j:Str}:decide (V.str i=V.str j)=(i==j):=by
 rw[vdo]
 simp
theorem zky{i j:Array UInt8}:decide (V.byt i=V.byt j)=(i.toList==j.toList):=by
 rw[vdo]
 cases i
 cases j
 simp
section
variable{X:Cx}{a b c:Expr}{ta tb tc:TE}{pos:Pos}
theorem zas{pins:List (Addr×Obj)}{σ:St}{H:Hp}{s:Shared}{Q:VK}{k k':Bool}(I:Inv X pins σ H s)(q:Q (.bl k) H)(e:k=k'):EP X pins σ Q (.bool k') s:=by
 subst e
 exact⟨.bl k,H,I,rfl,q⟩
theorem op_eq:OpR X (compareOp .Eq) rEq:=by
 intro pins s σ H x y v u Q I rx ry h
 obtain⟨hs,q⟩:=h
 cases x with
 |non=>
  cases rx
  cases y with
  |non=>cases ry;exact PySem.EqNone.eq_none_none (zas I q (by simp))
  |bl j=>cases ry;exact PySem.EqNone.eq_none_bool (zas I q (by simp))
  |int j=>obtain⟨t',rfl⟩:=ry;exact PySem.EqNone.eq_none_int (zas I q (by simp))
  |str j=>obtain⟨t',rfl⟩:=ry;exact PySem.EqNone.eq_none_str (zas I q (by simp))
  |_=>exact absurd (show false=true from hs) va0
 |bl i=>
  cases rx
  cases y with
  |non=>cases ry;exact PySem.EqNone.eq_bool_none (zas I q (by simp))
  |bl j=>cases ry;exact eq_bool (zas I q zpn)
  |str j=>obtain⟨t',rfl⟩:=ry;exact PySem.EqMixed.eq_bool_str (zas I q (by simp))
  |_=>exact absurd (show false=true from hs) va0
 |int i=>
  obtain⟨t,rfl⟩:=rx
  cases y with
  |non=>cases ry;exact PySem.EqNone.eq_int_none (zas I q (by simp))
  |int j=>obtain⟨t',rfl⟩:=ry;exact eq_int (zas I q zkw)
  |str j=>obtain⟨t',rfl⟩:=ry;exact PySem.EqMixed.eq_int_str (zas I q (by simp))
  |_=>exact absurd (show false=true from hs) va0
 |str i=>
  obtain⟨t,rfl⟩:=rx
  cases y with
  |non=>cases ry;exact PySem.EqNone.eq_str_none (zas I q (by simp))
  |bl j=>cases ry;exact PySem.EqMixed.eq_str_bool (zas I q (by simp))
  |int j=>obtain⟨t',rfl⟩:=ry;exact PySem.EqMixed.eq_str_int (zas I q (by simp))
  |str j=>obtain⟨t',rfl⟩:=ry;exact eq_str (zas I q zkx)
  |_=>exact absurd (show false=true from hs) va0
 |byt i=>
  obtain⟨t,rfl⟩:=rx
  cases y with
  |byt j=>obtain⟨t',rfl⟩:=ry;exact PySem.W.eq_bytes (zas I q zky)
  |_=>exact absurd (show false=true from hs) va0
 |_=>cases y<;>exact absurd (show false=true from hs) va0
theorem op_ne:OpR X (compareOp .NotEq) rNe:=by
 intro pins s σ H x y v u Q I rx ry h
 obtain⟨hs,q⟩:=h
 cases x with
 |non=>
  cases rx
  cases y with
  |non=>cases ry;exact PySem.EqNone.ne_none_none (zas I q (by simp))
  |bl j=>cases ry;exact PySem.EqNone.ne_none_bool (zas I q (by simp))
  |int j=>obtain⟨t',rfl⟩:=ry;exact PySem.EqNone.ne_none_int (zas I q (by simp))
  |str j=>obtain⟨t',rfl⟩:=ry;exact PySem.EqNone.ne_none_str (zas I q (by simp))
  |_=>exact absurd (show false=true from hs) va0
 |bl i=>
  cases rx
  cases y with
  |non=>cases ry;exact PySem.EqNone.ne_bool_none (zas I q (by simp))
  |bl j=>cases ry;exact ne_bool (zas I q (vdn not zpn))
  |str j=>obtain⟨t',rfl⟩:=ry;exact PySem.EqMixed.ne_bool_str (zas I q (by simp))
  |_=>exact absurd (show false=true from hs) va0
 |int i=>
  obtain⟨t,rfl⟩:=rx
  cases y with
  |non=>cases ry;exact PySem.EqNone.ne_int_none (zas I q (by simp))
  |int j=>obtain⟨t',rfl⟩:=ry;exact ne_int (zas I q (vdn not zkw))
  |str j=>obtain⟨t',rfl⟩:=ry;exact PySem.EqMixed.ne_int_str (zas I q (by simp))
  |_=>exact absurd (show false=true from hs) va0
 |str i=>
  obtain⟨t,rfl⟩:=rx
  cases y with
  |non=>cases ry;exact PySem.EqNone.ne_str_none (zas I q (by simp))
  |bl j=>cases ry;exact PySem.EqMixed.ne_str_bool (zas I q (by simp))
  |int j=>obtain⟨t',rfl⟩:=ry;exact PySem.EqMixed.ne_str_int (zas I q (by simp))
  |str j=>obtain⟨t',rfl⟩:=ry;exact ne_str (zas I q (vdn not zkx))
  |_=>exact absurd (show false=true from hs) va0
 |byt i=>
  obtain⟨t,rfl⟩:=rx
  cases y with
  |byt j=>obtain⟨t',rfl⟩:=ry;exact PySem.W.ne_bytes (zas I q (vdn not zky))
  |_=>exact absurd (show false=true from hs) va0
 |_=>cases y<;>exact absurd (show false=true from hs) va0
theorem op_lt:OpR X (compareOp .Lt) (rI0 λi j=>.bl (decide (i<j))):=opB0 λ_ _ _ _ _ _ _ q=>lt_int q
theorem op_le:OpR X (compareOp .LtE) (rI0 λi j=>.bl (decide (i<=j))):=opB0 λ_ _ _ _ _ _ _ q=>le_int q
theorem op_gt:OpR X (compareOp .Gt) (rI0 λi j=>.bl (decide (j<i))):=opB0 λ_ _ _ _ _ _ _ q=>gt_int q
theorem op_ge:OpR X (compareOp .GtE) (rI0 λi j=>.bl (decide (j<=i))):=opB0 λ_ _ _ _ _ _ _ q=>ge_int q
theorem ztz:OpR X (compareOp .Is) (λx y H Q=>y=.non/\Q (.bl (decide (x=.non))) H):=by
 intro pins s σ H x y v u Q I rx ry h
 obtain⟨rfl,q⟩:=h
 cases ry
 refine is_none_gen (zas I q ?_)
 cases x<;>first
  |(cases rx;rfl)
  |(obtain⟨t,rfl⟩:=rx;rfl)
theorem zq4:OpR X (compareOp .IsNot) (λx y H Q=>y=.non/\Q (.bl (!decide (x=.non))) H):=by
 intro pins s σ H x y v u Q I rx ry h
 obtain⟨rfl,q⟩:=h
 cases ry
 refine isnot_none_gen (zas I q ?_)
 cases x<;>first
  |(cases rx;rfl)
  |(obtain⟨t,rfl⟩:=rx;rfl)
theorem OpR.or{f:Value->Value->Sem Value}{r r':R2}(h:OpR X f r)(h':OpR X f r'):OpR X f (λx y H Q=>r x y H Q\/r' x y H Q):=by
 intro pins s σ H x y v u Q I rx ry q
 rcases q with q|q
 .exact h pins s σ H x y v u Q I rx ry q
 .exact h' pins s σ H x y v u Q I rx ry q
theorem zkz{op:CmpOp}{r:R2}(ho:OpR X (compareOp op) r)(ha:PE X a ta)(hb:PE X b tb)(hm:behindInMarks op b=false):PE X (.Compare a [op] [b] pos) (tOp r ta tb):=by
 intro pins s σ H Q I h
 exact wpAny_Compare1 (binT ha hb I h λv u s2 x y H2 I2 rx ry q=>ho pins s2 σ H2 x y v u Q I2 rx ry q) hm
noncomputable def tTest(t:TE):TT:=λσ H Q=>t σ H λx H'=>∃k,x=.bl k/\Q k H'
theorem zk0{op:CmpOp}{r:R2}(ho:OpR X (compareOp op) r)(ha:PE X a ta)(hb:PE X b tb)(hm:behindInMarks op b=false):PT X (.Compare a [op] [b] pos) (tTest (tOp r ta tb)):=by
 intro pins s σ H Q I h
 refine wpAny_isTrue_Compare1 (thn (ha pins s σ H _ I h) λv s1 z9=>z9.el λx H1 I1 r1 q1=>thn (hb pins s1 σ H1 _ I1 q1) λu s2 z9=>z9.el λy H2 I2 r2 q2=>
  thn (ho pins s2 σ H2 x y v u _ I2 r1 r2 q2) λc s3 z9=>z9.el λz H3 I3 r3 ⟨k,e,q3⟩=>?_) hm
 subst e
 cases r3
 exact vbv ⟨H3,I3,q3⟩
noncomputable def zk1(r r':R2)(ta tb tc:TE):TE:=λσ H Q=>ta σ H λx H1=>tb σ H1 λy H2=>r x y H2 λz H3=>∃k,z=.bl k/\
 (if k=true then tc σ H3 λw' H4=>r' y w' H4 Q else Q (.bl false) H3)
theorem zn1{op op':CmpOp}{r r':R2}(ho:OpR X (compareOp op) r)(ho':OpR X (compareOp op') r')(ha:PE X a ta)(hb:PE X b tb)(hc:PE X c tc)
 (hm:lastMarks [op,op'] [b,c]=false:=by with_unfolding_all rfl):PE X (.Compare a [op,op'] [b,c] pos) (zk1 r r' ta tb tc):=by
 intro pins s σ H Q I h
 refine Compare_chain (thn (ha pins s σ H _ I h) λv s1 z9=>z9.el λx H1 I1 r1 q1=>chain_link (thn (hb pins s1 σ H1 _ I1 q1) λu s2 z9=>z9.el λy H2 I2 r2 q2=>
  thn (ho pins s2 σ H2 x y v u _ I2 r1 r2 q2) λd s3 z9=>z9.el λz H3 I3 r3 ⟨k,e,q3⟩=>?_)) hm
 subst e
 cases r3
 refine vbv ?_
 cases k with
 |false=>exact ite_ff ⟨.bl false,H3,I3,rfl,q3⟩
 |true=>exact ite_tt (chain_last (thn (hc pins s3 σ H3 _ I3 q3) λw' s4 z9=>z9.el λz' H4 I4 r4 q4=>ho' pins s4 σ H4 y z' u w' Q I4 r2 r4 q4))
theorem zn2{op op':CmpOp}{r r':R2}(ho:OpR X (compareOp op) r)(ho':OpR X (compareOp op') r')(ha:PE X a ta)(hb:PE X b tb)(hc:PE X c tc)
 (hm:lastMarks [op,op'] [b,c]=false:=by with_unfolding_all rfl):PT X (.Compare a [op,op'] [b,c] pos) (tTest (zk1 r r' ta tb tc)):=by
 intro pins s σ H Q I h
 refine isTrue_chain (thn (ha pins s σ H _ I h) λv s1 z9=>z9.el λx H1 I1 r1 q1=>test_link (thn (hb pins s1 σ H1 _ I1 q1) λu s2 z9=>z9.el λy H2 I2 r2 q2=>
  thn (ho pins s2 σ H2 x y v u _ I2 r1 r2 q2) λd s3 z9=>z9.el λz H3 I3 r3 ⟨k,e,q3⟩=>?_)) hm
 subst e
 cases r3
 refine vbv ?_
 cases k with
 |false=>
  obtain⟨k',e',q'⟩:=q3
  cases e'
  exact ite_ff ⟨H3,I3,q'⟩
 |true=>
  refine ite_tt (test_last (thn (hc pins s3 σ H3 _ I3 q3) λw' s4 z9=>z9.el λz' H4 I4 r4 q4=>thn (ho' pins s4 σ H4 y z' u w' _ I4 r2 r4 q4) λd' s5 z9=>z9.el λz2 H5 I5 r5 hq0=>?_))
  obtain⟨k2,e2,q5⟩:=hq0
  subst e2
  cases r5
  exact vbv ⟨H5,I5,q5⟩
noncomputable def TruV(K:PySem.W.Frag)(x:V)(H:Hp)(k:Bool):Prop:=
 match x with
 |.non=>k=false
 |.bl b=>k=b
 |.int i=>k=(i != 0)
 |.str y=>y.length<=sizeLine/\k=((y.length:Int) != 0)
 |.byt y=>y.size<=sizeLine/\k=((y.size:Int) != 0)
 |.ref p=>(∃xs,SqL K H p xs/\k=!xs.isEmpty)\/(∃xs,SqT K H p xs/\k=!xs.isEmpty)\/∃kvs,H p=some (.dK kvs)/\k=!kvs.isEmpty
 |_=>False
theorem zjv{κ:Type}{kvs:List (κ×V)}{vs:List (κ×Value)}(r:KV kvs vs):(!vs.isEmpty)=!kvs.isEmpty:=by
 cases r<;>rfl
theorem ze1{xs:List V}{its:List Value}(r:Vals xs its):(!its.toArray.isEmpty)=!xs.isEmpty:=by
 cases r<;>simp
theorem zgs:(sizeLine:Nat)<2 ^ 63:=by rw[ved];decide
theorem zt0:TruR X (λx H Q=>∃k,TruV X.K x H k/\Q k H):=by
 intro pins s σ H x v Q I rx h
 obtain⟨k,e,q⟩:=h
 have hl:=zgs
 have hs:sizeLine=16777216:=ved
 cases x with
 |non=>
  cases rx
  have e':k=false:=e
  subst e'
  exact truthy_none ⟨H,I,q⟩
 |bl b=>
  cases rx
  have e':k=b:=e
  subst e'
  exact vbv ⟨H,I,q⟩
 |int i=>
  obtain⟨t,rfl⟩:=rx
  have e':k=(i != 0):=e
  subst e'
  exact PySem.P.truthy_int ⟨H,I,q⟩
 |str y=>
  obtain⟨t,rfl⟩:=rx
  obtain⟨hy,e'⟩:y.length<=sizeLine/\k=((y.length:Int) != 0):=e
  subst e'
  exact PySem.P.truthy_str (by omega) ⟨H,I.tok _,q⟩
 |byt y=>
  obtain⟨t,rfl⟩:=rx
  obtain⟨hy,e'⟩:y.size<=sizeLine/\k=((y.size:Int) != 0):=e
  subst e'
  exact PySem.W.truthy_bytes (by omega) ⟨H,I.tok _,q⟩
 |ref p=>
  cases rx
  have e':(∃xs,SqL X.K H p xs/\k=!xs.isEmpty)\/(∃xs,SqT X.K H p xs/\k=!xs.isEmpty)\/∃kvs,H p=some (.dK kvs)/\k=!kvs.isEmpty:=e
  rcases e' with⟨xs,hx,e'⟩|⟨xs,hx,e'⟩|⟨kvs,hx,e'⟩
  .subst e'
   obtain⟨its,r,pl,hz⟩:=I.list hx
   have hlen:=r.length
   exact wpAny_truthy_list pl.isList (by simp only[vag];omega) ⟨H,I.tok _,by rw[ze1 r];exact q⟩
  .subst e'
   obtain⟨its,r,pl,hz⟩:=I.tuple hx
   have hlen:=r.length
   exact truthy_tuple pl (by simp only[vag];omega) ⟨H,I.tok _,by rw[ze1 r];exact q⟩
  .subst e'
   obtain⟨hz,hS,vs,r,m⟩:kvs.length<=sizeLine/\(p==sysModules)=false/\∃vs,KV kvs vs/\s.heap.DictOf (za3 X.prog X.w) p vs:=I.hok p _ hx
   have hlen:kvs.length=vs.length:=Paired.length r
   exact wpAny_truthy_dict hS m (by omega) ⟨H,I.tok _,by rw[zjv r];exact q⟩
 |_=>exact(show False from e).elim
theorem zn3(ha:PE X a ta)(he:∀whole,isTrue a X.env whole=(do let v <-whole;standAt a.pos;holding [v] (truthy v))) :
 PT X a (λσ H Q=>ta σ H λx H'=>∃k,TruV X.K x H' k/\Q k H'):=by
 intro pins s σ H Q I h
 exact isTrue_plain (thn (ha pins s σ H _ I h) λv s1 z9=>z9.el λx H1 I1 r1 q1=>zt0 pins s1 σ H1 x v Q I1 r1 q1) (he _)
theorem vals1{x:V}{us:List Value}(r:Vals [x] us):∃u,us=[u]/\RelV x u:=by
 cases r with
 |cons r1 r2=>cases r2;exact⟨_,rfl,r1⟩
theorem vals2{x y:V}{us:List Value}(r:Vals [x,y] us):∃u w',us=[u,w']/\RelV x u/\RelV y w':=by
 cases r with
 |cons r1 r2=>
  cases r2 with
  |cons r3 r4=>cases r4;exact⟨_,_,rfl,r1,r3⟩
theorem zn4:CallR X (.builtin "abs") (λxs H Q=>∃i,xs=[.int i]/\Q (.int (if i<0 then -i else i)) H):=by
 intro pins s σ H xs us Q I r h
 obtain⟨i,rfl,q⟩:=h
 obtain⟨u,rfl,t,rfl⟩:=vals1 r
 exact call_abs_int λu tk=>⟨.int (if i<0 then -i else i),H,I.tok _,⟨_,rfl⟩,q⟩
theorem zk2(hc:X.calm=true):CallR X (.builtin "min") (λxs H Q=>∃i j,xs=[.int i,.int j]/\Q (.int (if j<i then j else i)) H):=by
 intro pins s σ H xs us Q I r h
 obtain⟨i,j,rfl,q⟩:=h
 obtain⟨u,w',rfl,⟨t,rfl⟩,⟨t',rfl⟩⟩:=vals2 r
 refine min_two_ints (I.ok.hd hc) λh' tk k=>⟨_,H,I.kept k,?_,q⟩
 by_cases hj:j<i
 .rw[if_pos hj,if_pos hj];exact⟨_,rfl⟩
 .rw[if_neg hj,if_neg hj];exact⟨_,rfl⟩
theorem zk3:CallR X (.type "int") (λxs H Q=>(∃i,xs=[.int i]/\Q (.int i) H)\/∃k,xs=[.bl k]/\Q (.int (if k then 1 else 0)) H):=by
 intro pins s σ H xs us Q I r h
 rcases h with⟨i,rfl,q⟩|⟨k,rfl,q⟩
 .obtain⟨u,rfl,t,rfl⟩:=vals1 r
  exact call_int_int ⟨.int i,H,I,⟨_,rfl⟩,q⟩
 .obtain⟨u,rfl,r1⟩:=vals1 r
  cases r1
  exact call_int_bool ⟨.int (if k then 1 else 0),H,I.tok _,⟨_,rfl⟩,q⟩
end
structure ObjM(h:Heap)(x dx C:Addr)(mA:Str->Option Value):Prop where
 obj:h.get? x=some (PySem.W.instObj C dx)
 ns:h.Ns1 dx mA
 ne:dx≠x
theorem zea{h:Heap}{dx:Addr}{mA:Str->Option Value}(n:h.Ns1 dx mA):∃od,h.get? dx=some od/\∀name,PySem.W.lookIn name od=some (mA name):=by
 obtain⟨o,es,ep,ho,hd,hk,_,hm⟩:=n
 refine⟨o,ho,λname=>?_⟩
 have e:=hm name
 unfold nsFind findBy at e
 rw[<-Array.find?_toList]at e
 unfold PySem.W.lookIn
 rw[hd]
 dsimp only
 split
 .rename_i y q
  rw[q]at e
  exact vdn some e
 .rename_i q
  rw[q]at e
  have a:es.toList.any (·.refKey)=false:=by
   rw[List.any_eq_false]
   intro y hy
   obtain⟨z,t,hkey⟩:=hk y (Array.mem_toList_iff.mp hy)
   simp[DictEntry.refKey,hkey]
  have a':¬es.toList.any (·.refKey)=true:=by rw[a];exact va0
  rw[if_neg a']
  exact vdn some e
theorem ObjM.look{h:Heap}{x dx C:Addr}{mA:Str->Option Value}(I:ObjM h x dx C mA):∃od,PySem.W.InstAt h x (PySem.W.instObj C dx) C (some od)/\∀name,PySem.W.lookIn name od=some (mA name):=
 let⟨od,ho,hl⟩:=zea I.ns
 ⟨od,⟨I.obj,rfl,rfl,ho⟩,hl⟩
noncomputable def putF(f:Str)(v:V):List (Str×V)->List (Str×V)
 |[]=>[(f,v)]
 |(g,x)::r=>if g=f then(g,v)::r else(g,x)::putF f v r
theorem zeb(f g:Str)(v:V):∀fs:List (Str×V),(putF f v fs).lookup g=if g=f then some v else fs.lookup g
 |[]=>by
  show List.lookup g [(f,v)]=_
  by_cases h:g=f
  .have hb:(g==f)=true:=vcc.mpr h
   simp only[List.lookup,hb,if_pos h]
  .have hb:(g==f)=false:=vcw.mpr h
   simp only[List.lookup,hb,if_neg h]
 |(k,x)::r=>by
  have ih:=zeb f g v r
  rw[show putF f v ((k,x)::r)=(if k=f then(k,v)::r else(k,x)::putF f v r)from rfl]
  by_cases hk:k=f
  .rw[if_pos hk]
   by_cases h:g=k
   .have hb:(g==k)=true:=vcc.mpr h
    simp only[List.lookup,hb,if_pos (h.trans hk)]
   .have hb:(g==k)=false:=vcw.mpr h
    simp only[List.lookup,hb,if_neg (λe:g=f=>h (e.trans hk.symm))]
  .rw[if_neg hk]
   by_cases h:g=k
   .have hb:(g==k)=true:=vcc.mpr h
    simp only[List.lookup,hb,if_neg (λe:g=f=>hk (h.symm.trans e))]
   .have hb:(g==k)=false:=vcw.mpr h
    simp only[List.lookup,hb]
    exact ih
theorem zec(f:Str)(v:V):∀fs:List (Str×V),f∈(putF f v fs).map (·.1)/\∀g,g∈fs.map (·.1)->g∈(putF f v fs).map (·.1)
 |[]=>⟨by simp[putF],λg h=>by simp at h⟩
 |(k,x)::r=>by
  obtain⟨i1,i2⟩:=zec f v r
  rw[show putF f v ((k,x)::r)=(if k=f then(k,v)::r else(k,x)::putF f v r)from rfl]
  by_cases hk:k=f
  .rw[if_pos hk]
   subst hk
   exact⟨by simp,λg h=>by simpa using h⟩
  .rw[if_neg hk]
   refine⟨?_,λg h=>?_⟩
   .rw[va1]
    exact vao _ i1
   .rw[va1]at h ⊢
    rcases vat.mp h with e|e
    .exact vat.mpr (.inl e)
    .exact vao _ (i2 g e)
theorem zed(f:Str)(v:V):∀fs:List (Str×V),(putF f v fs).length<=fs.length+1
 |[]=>by simp[putF]
 |(k,x)::r=>by
  have ih:=zed f v r
  rw[show putF f v ((k,x)::r)=(if k=f then(k,v)::r else(k,x)::putF f v r)from rfl]
  by_cases hk:k=f
  .rw[if_pos hk,vam,vam];omega
  .rw[if_neg hk,vam,vam];omega
theorem RelO.some_of{v:V}{o:Option Value}(r:RelO (some v) o):∃u,o=some u/\RelV v u:=by
 cases o with
 |none=>exact(show False from r).elim
 |some u=>exact⟨u,rfl,r⟩
section
variable{P:Program}{w:World}{H H':Hp}{h h':Heap}{a C dx:Addr}{fs fs':List (Str×V)}
theorem zq5(hok:HOk P w H h)(e:H a=some (.ins C dx fs)):∃mA,ObjM h a dx C mA/\(∀f,RelO (fs.lookup f) (mA f))/\PySem.Within mA (fs.map (·.1))/\fs.length<=1000/\H dx=some (.own a):=by
 obtain⟨d,z,ne,ob,mA,n,r,q⟩:=(show ObjOk P w H h a (.ins C dx fs)from hok a _ e)
 exact⟨mA,⟨ob,n,ne⟩,r,q,z,d⟩
end
structure Cls(K:PySem.W.Frag)(C:Addr):Prop where
 pg:PySem.W.plainGet K C Str.empty=true
 hd:PySem.W.hasDictIn K C=true
 po:PySem.W.plainOver K C=true
 sa:PySem.W.findIn K (.ref C) "__setattr__" = some (some (.builtin "object.__setattr__"))
theorem Cls.get{K:PySem.W.Frag}{C:Addr}(c:Cls K C)(f:Str):PySem.W.plainGet K C f=true:=c.pg
noncomputable def zpo(K:PySem.W.Frag)(C:Addr)(f:Str):Prop:=PySem.W.findIn K (.ref C) f=some none
section
variable{X:Cx}{pins:List (Addr×Obj)}{σ:St}{H:Hp}{s:Shared}{A:Around}{E:Value->Shared->Prop}{Q:Value->Shared->Prop}{c:Value}{b:Bool}
inductive TyOf(K:PySem.W.Frag)(H:Hp):V->Value->Prop where
 |non:TyOf K H .non (.type "NoneType")
 |bl (x:Bool):TyOf K H (.bl x) (.type "bool")
 |int (i:Int):TyOf K H (.int i) (.type "int")
 |str (x:Str):TyOf K H (.str x) (.type "str")
 |flt (x:UInt64):TyOf K H (.flt x) (.type "float")
 |lst {a:Addr} {xs:List V} (e:H a=some (.lst xs)):TyOf K H (.ref a) (.type "list")
 |frz {a:Addr} {o:Obj} {xs:List V} (e:H a=some (.frz o (.lst xs))):TyOf K H (.ref a) (.type "list")
 |tup {a:Addr} {xs:List V} (e:H a=some (.tup xs)):TyOf K H (.ref a) (.type "tuple")
 |dK {a:Addr} {kvs:List (Key×V)} (e:H a=some (.dK kvs)):TyOf K H (.ref a) (.type "dict")
 |dT {a:Addr} {kvs:List (List Key×V)} (e:H a=some (.dT kvs)):TyOf K H (.ref a) (.type "dict")
 |ins {a C dx:Addr} {fs:List (Str×V)} (e:H a=some (.ins C dx fs)) (cl:Cls K C) (ha:PySem.W.findIn K (.ref C) "__class__" = some (some (.builtin "object.__class__")))
   (hn:PySem.W.specialIn K (.builtin "object.__class__") "__get__" = some (some (.builtin "getset_descriptor.__get__"))) (htk:PySem.W.takesIn K (.builtin "object.__class__")=some true)
   (hm:PySem.W.mroIn K C (.type "object")=some true):TyOf K H (.ref a) (.ref C)
theorem zk4{x:V}{u t:Value}(I:Inv X pins σ H s)(rx:RelV x u)(ty:TyOf X.K H x t)(e:PySem.W.kitOne X.K t c=some b)(h:∀tk,Q (.bool b) {s with toks:=tk}) :
 wpAny (model X.prog X.w) A (call (.builtin "isinstance") [u,c]) Q E s:=by
 cases ty with
 |non=>cases(show u=Value.none from rx);exact vbk PySem.W.kitx_none I.kIn True.intro e (λz=>nomatch z) h
 |bl y=>cases(show u=Value.bool y from rx);exact vbk PySem.W.kitx_bool I.kIn True.intro e (λz=>nomatch z) h
 |int i=>obtain⟨t,q⟩:=(show ∃t,u=Value.int i t from rx);cases q;exact vbk PySem.W.kitx_int I.kIn True.intro e (λz=>nomatch z) h
 |str y=>obtain⟨t,q⟩:=(show ∃t,u=Value.str y t from rx);cases q;exact vbk PySem.W.kitx_str I.kIn True.intro e (λz=>nomatch z) h
 |flt y=>obtain⟨t,q⟩:=(show ∃t,u=Value.float y t from rx);cases q;exact vbk PySem.W.kitx_float I.kIn True.intro e (λz=>nomatch z) h
 | @lst a xs ea=>
  cases(show u=Value.ref a from rx)
  obtain⟨_,_,n,_,h1⟩:=(show ObjOk X.prog X.w H s.heap a (.lst xs)from I.hok a _ ea)
  exact vbk PySem.W.kitx_list I.kIn ⟨_,h1,rfl⟩ e (λz=>nomatch z) h
 | @frz a ob xs ea=>
  cases(show u=Value.ref a from rx)
  obtain⟨_,_,_,n,_,h1⟩:=(show ObjOk X.prog X.w H s.heap a (.frz ob (.lst xs))from I.hok a _ ea)
  exact vbk PySem.W.kitx_list I.kIn ⟨_,h1,rfl⟩ e (λz=>nomatch z) h
 | @tup a xs ea=>
  cases(show u=Value.ref a from rx)
  obtain⟨_,_,_,p⟩:=(show ObjOk X.prog X.w H s.heap a (.tup xs)from I.hok a _ ea)
  obtain⟨o,h1,h2,_⟩:=p
  exact vbk PySem.W.kitx_tuple I.kIn ⟨o,h1,h2⟩ e (λz=>nomatch z) h
 | @dK a kvs ea=>
  cases(show u=Value.ref a from rx)
  obtain⟨_,_,vs,_,p⟩:=(show ObjOk X.prog X.w H s.heap a (.dK kvs)from I.hok a _ ea)
  obtain⟨o,es,ep,h1,h2,_⟩:=p
  exact vbk PySem.W.kitx_dict I.kIn ⟨o,h1,h2.1⟩ e (λz=>nomatch z) h
 | @dT a kvs ea=>
  cases(show u=Value.ref a from rx)
  obtain⟨_,_,xs,_,o,es,ep,h1,h2,_⟩:=(show ObjOk X.prog X.w H s.heap a (.dT kvs)from I.hok a _ ea)
  exact vbk PySem.W.kitx_dict I.kIn ⟨o,h1,h2.1⟩ e (λz=>nomatch z) h
 | @ins a C dx fs ea cl ha hn htk hm=>
  cases(show u=Value.ref a from rx)
  obtain⟨mA,O,_⟩:=zq5 I.hok ea
  obtain⟨od,J,_⟩:=O.look
  exact vbk (PySem.W.kitx_own (cl.get _) cl.hd ha hn htk hm) I.kIn J e (λz=>nomatch z) h
end
structure Room(k:Nat)(A:Around):Prop where
 hd:A.handled=none
 dp:A.depth+3*k+5<recursionLimit
 un:A.units+16*k+200<cLine
theorem Room.deeper{k:Nat}{A:Around}(r:Room (k+1) A)(env:Env):Room k (A.deeper env):=
 ⟨r.hd,by have:=r.dp;show A.depth+1+3*k+5<_;omega,by have:=r.un;show A.units+3+16*k+200<_;omega⟩
theorem zjw{A:Around}{C:Addr}{us:List Value}{kw:List (Str×Value)}:(A.under (.builtin "type.__call__" ⟨.ref C::us,kw⟩)).depth=A.depth+1:=by
 first|rfl|simp[Around.under,Code.weight,Code.isCreation,Code.isGuard,Code.isCaller,Code.frames,Code.isFrame,guardIds]
theorem zjx{A:Around}{C:Addr}{us:List Value}{kw:List (Str×Value)}:(A.under (.builtin "type.__call__" ⟨.ref C::us,kw⟩)).units=A.units+1:=by
 first|rfl|simp[Around.under,Code.cUnits,Code.frames,Code.isFrame]
theorem Room.depth{k:Nat}{A:Around}(r:Room k A):A.depth<recursionLimit:=by have:=r.dp;omega
theorem Room.units{k:Nat}{A:Around}(r:Room k A):A.units+64<cLine:=by have:=r.un;omega
noncomputable def tNil:TA:=λ_ H Q=>Q [] H
noncomputable def tCons(ta:TE)(tr:TA):TA:=λσ H Q=>ta σ H λx H1=>tr σ H1 λxs H2=>Q (x::xs) H2
section
variable{X:Cx}{e:Expr}{es:List Expr}{te:TE}{t:TA}{pos:Pos}
theorem zcn:PA X [] tNil:=λ_ _ _ _ H Q I h=>Calls.spliced_nil ⟨[],H,I,.nil,h⟩
theorem zbg(ha:PE X e te)(hr:PA X es t)(hs:starEach (e::es) X.env=(false,eval e X.env)::starEach es X.env:=by rfl):PA X (e::es) (tCons te t):=by
 intro pos pins s σ H Q I h
 rw[hs]
 show wpAny _ _ (spliced ((false,eval e X.env)::backTo pos (starEach es X.env))) _ _ s
 refine Calls.spliced_cons (thn (ha pins s σ H _ I h) λu s1 z9=>z9.el λx H1 I1 r1 q1=>?_)
 exact thn (hr pos pins s1 σ H1 _ I1 q1) λus s2 z9=>z9.el λxs H2 I2 r2 q2=>⟨x::xs,H2,I2,.cons r1 r2,q2⟩
noncomputable def tTup(t:TA):TE:=λσ H Q=>t σ H λxs H1=>xs.length<=sizeLine/\∀p,H1 p=none->Q (.ref p) (upd H1 p (.tup xs))
noncomputable def tLst(t:TA):TE:=λσ H Q=>t σ H λxs H1=>xs.length<=sizeLine/\∀p,H1 p=none->Q (.ref p) (upd H1 p (.lst xs))
theorem zt1{x1}(h:PA X es t):PE X (.Tuple es x1 pos) (tTup t):=by
 intro pins s σ H Q I hq
 refine wpAny_Tuple_spliced (thn (h pos pins s σ H _ I hq) λus s1 z9=>z9.el λxs H1 I1 r ⟨z,q⟩=>⟨by rw[<-r.length];exact z,?_⟩)
 have hf:H1 s1.heap.objs.size=none:=I1.hok.fresh (vac _)
 refine⟨.ref s1.heap.objs.size,upd H1 s1.heap.objs.size (.tup xs),I1.laid (t':=s1.toks) (λb u e=>vad _ e) (vac _) ?_,rfl,q _ hf⟩
 exact⟨z,us,r,zbq.new _ _⟩
theorem zk5(h:PA X es t):PE X (.List es pos) (tLst t):=by
 intro pins s σ H Q I hq
 refine wpAny_List_spliced (thn (h pos pins s σ H _ I hq) λus s1 z9=>z9.el λxs H1 I1 r ⟨z,q⟩=>⟨by rw[<-r.length];exact z,?_⟩)
 have hf:H1 s1.heap.objs.size=none:=I1.hok.fresh (vac _)
 refine⟨.ref s1.heap.objs.size,upd H1 s1.heap.objs.size (.lst xs),I1.laid (t':=s1.toks) (λb u e=>vad _ e) (vac _) ?_,rfl,q _ hf⟩
 exact⟨z,us,0,r,va3 _ rfl⟩
end
noncomputable abbrev Sp:=List V->Hp->VK->XK->Prop
noncomputable abbrev CXT:=List Env->Hp->Shared->XK->Value->Shared->Prop
structure Env0(P:Program)(w:World)(K:PySem.W.Frag)(mg:Str->Option Value)(base:Heap)(A:Around)(outer:List Env)(s:Shared)(H:Hp):Prop where
 frames:A.frames=some outer
 mod:Mod K mg base
 bs:∀b o,base.get? b=some o->s.heap.get? b=some o/\H b=none
 bsz:base.objs.size<=s.heap.objs.size
 funs:s.heap.FunFrames base outer
 frf:∀b∈frs outer,H b=none
 hok:HOk P w H s.heap
 bare:AllBare s.gens
noncomputable def CE(outer:List Env)(P:Program)(w:World)(H:Hp)(s:Shared)(Q:VK)(u:Value)(s':Shared):Prop:=
 ∃v H',s'.os=s.os/\AllBare s'.gens/\Un (frs outer) [] H H' s.heap s'.heap/\HOk P w H' s'.heap/\RelV v u/\Q v H'
noncomputable def CR(CX:CXT)(outer:List Env)(P:Program)(w:World)(H:Hp)(s:Shared)(Q:VK)(E:XK)(r:Result)(s':Shared):Prop:=
 match r with
 |.ok (.ret u)=>CE outer P w H s Q u s'
 |.ok _=>False
 |.error e=>CX outer H s E e s'
structure FnOk(P:Program)(w:World)(K:PySem.W.Frag)(mg:Str->Option Value)(base:Heap)(CX:CXT)(k:Nat)(f:Addr)(fd:FuncData)(ps:List Str)(sp:Sp):Prop where
 len:∀vs H Q E,sp vs H Q E->vs.length=ps.length
 run:∀(A:Around)(outer:List Env)(s:Shared)(H:Hp)(args:Args)(us:List Value)(vs:List V)(Q:VK)(E:XK),Room k A->Env0 P w K mg base A outer s H->BindsTo s fd args (ps.zip us)->Vals vs us->sp vs H Q E->
  codeAny (model P w) A (.call (.ref f) args) (CR CX outer P w H s Q E) s
theorem Env0.make{P:Program}{w:World}{K:PySem.W.Frag}{mg:Str->Option Value}{base:Heap}{A:Around}{outer:List Env}{s:Shared}{H:Hp}(e:Env0 P w K mg base A outer s H)(C:Addr)(us:List Value)(kw:List (Str×Value)) :
 Env0 P w K mg base (A.under (.builtin "type.__call__" ⟨.ref C::us,kw⟩)) outer s H:=⟨by first|exact e.frames|(simpa[Around.under,Code.envs,Code.isFrame,pushEnvs]using e.frames),e.mod,e.bs,e.bsz,e.funs,e.frf,e.hok,e.bare⟩
section
variable{X:Cx}{pins:List (Addr×Obj)}{σ:St}{H:Hp}{s s':Shared}
theorem Inv.env0(I:Inv X pins σ H s):Env0 X.prog X.w X.K X.mg X.base X.A X.stack s H:=
 ⟨I.ok.frames,I.ok.mod,I.bs,vap I.ok.bsz I.sz,I.stack,I.stkFree,I.hok,I.bare⟩
theorem Inv.after{Q:VK}{u:Value}(I:Inv X pins σ H s)(h:CE X.stack X.prog X.w H s Q u s'):EP X pins σ Q u s':=by
 obtain⟨v,H',os,bare,un,hok,r,q⟩:=h
 obtain⟨hh,g,d,t,os'⟩:=s'
 obtain rfl:os'=s.os:=os
 exact⟨v,H',I.call (h':=hh) (g':=g) (d':=d) (t':=t) (ch:=[]) un hok bare (λb z=>absurd z (by simp)),r,q⟩
end
noncomputable def tCall(sp:Sp)(dvs:List V)(E:XK)(t:TA):TE:=λσ H Q=>t σ H λvs H1=>sp (vs++dvs) H1 Q E
noncomputable def Binds(K:PySem.W.Frag)(fd:FuncData)(ps:List Str)(ds:List Value):Prop:=
 ∀(s:Shared)(us:List Value),K.In s.heap->(us++ds).length=ps.length->BindsTo s fd ⟨us,[]⟩ (ps.zip (us++ds))
theorem Binds.all{K:PySem.W.Frag}{fd:FuncData}{ps:List Str}(h:∀us:List Value,us.length=ps.length->bindArgs fd ⟨us,[]⟩=pure (ps.zip us)):Binds K fd ps []:=λs us _ hl=>by
 rw[va5]at hl ⊢
 exact .of_eq (h us hl)
noncomputable def ze2(CX:CXT)(X:Cx)(E:XK):Prop:=∀(pins:List (Addr×Obj)) (σ:St) (H:Hp) (s:Shared) (e:Value) (s':Shared),Inv X pins σ H s->CX X.stack H s E e s'->X.xe e s'
section
variable{X:Cx}{CX:CXT}{k:Nat}{f C:Addr}{fd:FuncData}{ps:List Str}{sp:Sp}{dvs:List V}{ds:List Value}{E:XK}{x m:Str}{p pos apos:Pos}{e o:Expr}{es:List Expr}{ta:TE}{t:TA}
theorem zpp{pins:List (Addr×Obj)}{σ:St}{H:Hp}{s:Shared}{Q:VK}{us:List Value}{vs:List V}(F:FnOk X.prog X.w X.K X.mg X.base CX k f fd ps sp)(hr:Room k X.A)(hb:Binds X.K fd ps ds)(hd:Vals dvs ds)(hx:ze2 CX X E)
 (I:Inv X pins σ H s) (r:Vals vs us) (h:sp (vs++dvs) H Q E):wpAny (model X.prog X.w) X.A (call (.ref f) us) (EP X pins σ Q) X.xe s:=by
 have r2:Vals (vs++dvs) (us++ds):=r.append hd
 have hl:(us++ds).length=ps.length:=by rw[<-r2.length];exact F.len _ _ _ _ h
 refine vc5 (vcv (F.run X.A X.stack s H ⟨us,[]⟩ (us++ds) (vs++dvs) Q E hr I.env0 (hb s us I.kIn hl) r2 h) λr s' hq=>?_)
 cases r with
 |error e=>exact hx pins σ H s e s' I hq
 |ok fl=>
  cases fl with
  |ret u=>exact I.after hq
  |next=>exact False.elim hq
  |brk=>exact False.elim hq
  |cont=>exact False.elim hq
theorem zfs(F:FnOk X.prog X.w X.K X.mg X.base CX k f fd ps sp)(hr:Room k X.A)(hg:Gl X x)(hm:X.mg x=some (.ref f))(hk:PySem.W.keepIn X.K (.ref f)=true)(hb:Binds X.K fd ps ds)(hd:Vals dvs ds)(hx:ze2 CX X E)
 (ha:PA X (e::es) t) (hdb:(x==("__debug__" : Str))=false:=by decide) (he:starEach (e::es) X.env=(false,eval e X.env)::starEach es X.env:=by rfl) (hpl:(backTo pos (starEach es X.env)).any (·.1)=false:=by rfl) :
 PE X (.Call (.Name x p) (e::es) [] pos) (tCall sp dvs E t):=by
 intro pins s σ H Q I h
 refine vbt (zbf I hg hm ?_ hdb)
 refine vcn (h₀:=X.base) I.ok.mod.kin hk (thn (ha pos pins s σ H _ I h) λus s1 z9=>z9.el λvs H1 I1 r q=>⟨I1.kIn,?_⟩) he hpl
 exact zpp F hr hb hd hx I1 r q
theorem zn5(F:FnOk X.prog X.w X.K X.mg X.base CX k f fd ps sp)(hr:Room k X.A)(hg:Gl X x)(hm:X.mg x=some (.ref f))(hk:PySem.W.keepIn X.K (.ref f)=true)(hb:Binds X.K fd ps ds)(hd:Vals dvs ds)(hx:ze2 CX X E)
 (hdb:(x==("__debug__" : Str))=false:=by decide):PE X (.Call (.Name x p) [] [] pos) (tCall sp dvs E tNil):=by
 intro pins s σ H Q I h
 refine vbt (zbf I hg hm ?_ hdb)
 exact PySem.W.callWith_K0 I.kIn hk (zpp (us:=[]) F hr hb hd hx I .nil h)
end
structure FnScope(N P:List Str)(sc:Scope):Prop where
 kind:sc.kind=.function
 co:sc.isCoroutine=false
 gen:sc.isGenerator=false
 nd:N.Nodup
 pre:N.take P.length=P
 par:∀x∈P,sc.names.lookup x=some .local\/sc.names.lookup x=some .cell
 nofree:∀y∈sc.names,y.2≠.free
theorem zgt{kindOf:Str->Option NameKind}{x:Str}:∀{binds:List (Str×Value)} {m:Str->Option Value},(∀v,(x,v)∉binds)->bindL kindOf binds m x=m x
 |[],_,_=>rfl
 |(n,v)::r,m,h=>by
  unfold bindL
  rw[zgt λw hw=>h w (vao _ hw)]
  split
  .have:x≠n:=by rintro rfl;exact h v vaw
   simp[this]
  .rfl
theorem zgu{kindOf:Str->Option NameKind}{x:Str}:∀{binds:List (Str×Value)} {m:Str->Option Value},(∀v,(x,v)∉binds)->bindC kindOf binds m x=m x
 |[],_,_=>rfl
 |(n,v)::r,m,h=>by
  unfold bindC
  rw[zgu λw hw=>h w (vao _ hw)]
  split
  .rfl
  .have:x≠n:=by rintro rfl;exact h v vaw
   simp[this]
theorem zgv{kindOf:Str->Option NameKind}{x:Str}{v:Value}:∀{P:List Str} {vs:List Value} {i:Nat} {m:Str->Option Value},P.Nodup->P[i]?=some x->vs[i]?=some v->kindOf x=some .local->
 bindL kindOf (P.zip vs) m x=some v
 |[],_,_,_,_,h,_,_=>by simp at h
 |_::_,[],_,_,_,_,h,_=>by simp at h
 |p::P,w::vs,0,m,nd,h1,h2,hk=>by
  simp at h1 h2;subst h1;subst h2
  show bindL kindOf ((p,w)::P.zip vs) m p=_
  unfold bindL
  rw[zgt λv hv=>(vdp.mp nd).1 (vd6 hv).1,if_pos hk]
  simp
 |p::P,w::vs,i+1,m,nd,h1,h2,hk=>by
  show bindL kindOf ((p,w)::P.zip vs) m x=_
  unfold bindL
  exact zgv (i:=i) (vdp.mp nd).2 (by simpa using h1) (by simpa using h2) hk
theorem zgw{kindOf:Str->Option NameKind}{x:Str}{v:Value}:∀{P:List Str} {vs:List Value} {i:Nat} {m:Str->Option Value},P.Nodup->P[i]?=some x->vs[i]?=some v->kindOf x≠some .local->
 bindC kindOf (P.zip vs) m x=some v
 |[],_,_,_,_,h,_,_=>by simp at h
 |_::_,[],_,_,_,_,h,_=>by simp at h
 |p::P,w::vs,0,m,nd,h1,h2,hk=>by
  simp at h1 h2;subst h1;subst h2
  show bindC kindOf ((p,w)::P.zip vs) m p=_
  unfold bindC
  rw[zgu λv hv=>(vdp.mp nd).1 (vd6 hv).1,if_neg hk]
  simp
 |p::P,w::vs,i+1,m,nd,h1,h2,hk=>by
  show bindC kindOf ((p,w)::P.zip vs) m x=_
  unfold bindC
  exact zgw (i:=i) (vdp.mp nd).2 (by simpa using h1) (by simpa using h2) hk
noncomputable def start(N:List Str)(vs:List V):St:=vs.map some++List.replicate (N.length-vs.length) none
noncomputable def cxOf(CX:CXT)(P:Program)(w:World)(K:PySem.W.Frag)(mg:Str->Option Value)(base:Heap)(N:List Str)(qual:Str)(scope:Scope)(f:Addr)(cd:Value)(A:Around)(outer:List Env)(s:Shared)(H:Hp)(E:XK):Cx where
 prog:=P
 w:=w
 K:=K
 mg:=mg
 base:=base
 A:=A.deeper (envOfC qual scope s.heap.objs.size f cd)
 N:=N
 s₀:=s
 H₀:=H
 env:=envOfC qual scope s.heap.objs.size f cd
 outer:=outer
 stack:=envOfC qual scope s.heap.objs.size f cd::outer
 ex:=[]
 calm:=true
 fn:=λ_=>true
 pn:=[]
 xe:=λe s'=>wpAny (model P w) (A.deeper (envOfC qual scope s.heap.objs.size f cd)) (leaving (envOfC qual scope s.heap.objs.size f cd) e) (λ_ s''=>CX outer H s E e s'') (λe' s''=>CX outer H s E e' s'') s'
theorem ziq{sc:Scope}{n:Nat}{x:Str}(h:sc.names.lookup x=some .cell):∃c,(cellsFrom n sc.names []).lookup x=some c:=by
 have q:=PySem.W.cellsFrom_some sc.names n [] (.inl h)
 exact Option.isSome_iff_exists.mp q
theorem zgx{CX:CXT}{P:Program}{w:World}{K:PySem.W.Frag}{mg:Str->Option Value}{base:Heap}{N ps:List Str}{qual:Str}{scope:Scope}{f:Addr}{cd:Value}{A:Around}{outer:List Env}{s s1:Shared}{H:Hp}{E:XK}{us:List Value}{vs:List V}
 (S:FnScope N ps scope) (hd:A.handled=none) (e0:Env0 P w K mg base A outer s H) (hl:vs.length=ps.length) (r:Vals vs us)
 (x:InCallC s s.heap.objs.size (bindL (envOfC qual scope s.heap.objs.size f cd).kindOf (ps.zip us) λ_=>none) (cellsFrom (s.heap.objs.size+1) scope.names []) (bindC (envOfC qual scope s.heap.objs.size f cd).kindOf (ps.zip us) λ_=>none) s1) :
 Inv (cxOf CX P w K mg base N qual scope f cd A outer s H E) [] (start N vs) H s1:=by
 have hpl:ps.length<=N.length:=by have:=vdn List.length S.pre;rw[vdz]at this;omega
 obtain⟨h1,tk,rfl,hk⟩:=x.done
 have noA:∀b:Addr,b∉(cxOf CX P w K mg base N qual scope f cd A outer s H E).ex:=λb z=>absurd (show b∈([]:List Addr)from z) (by simp)
 refine⟨⟨e0.mod,S.kind,rfl,rfl,vac _,λy z c h1 h2=>?_,λy hy=>?_,λy c _ h=>?_,λ_=>hd,Around.frames_deeper e0.frames,.inr ⟨rfl,rfl⟩,λb z=>absurd z (noA b),e0.bs,e0.bsz,λb _ _=>noA b,λb z=>absurd z (noA b),e0.funs,e0.frf⟩,
  rfl,e0.bare,Un.kept hk,⟨_,x.toInCall.ns,λi y v h1 h2 h3=>?_⟩,λy c h=>⟨_,x.cell y c h⟩,e0.hok.fresh (vac _),λy c h=>?_,λp hp=>absurd (show p∈([]:List (Addr×Obj))from hp) (by simp),e0.hok.kept hk,?_⟩
 .exact name_of_addr x.apart (vcx h1) (vcx h2)
 .have hy:scope.names.lookup y=some .cell\/scope.names.lookup y=some .free:=hy
  rcases hy with hy|hy
  .exact ziq hy
  .exact absurd rfl (S.nofree _ (vcx hy))
 .exact vc8 (x.above y c (vcx h))
 .have hi:i<vs.length:=by
   unfold start at h2
   by_cases hi:i<vs.length
   .exact hi
   .rw[vbm (by simpa using hi)]at h2
    rw[vcy]at h2
    split at h2<;>cases h2
  have ha:vs[i]?=some v:=by
   unfold start at h2
   rw[vb1 (by simpa using hi),vb3]at h2
   cases e:vs[i]? with
   |none=>rw[e]at h2;cases h2
   |some a=>rw[e]at h2;cases h2;rfl
  obtain⟨u,hu,rv⟩:=r.get ha
  have hp:ps[i]?=some y:=by
   rw[<-S.pre,List.getElem?_take_of_lt (by omega)];exact h1
  have ndP:ps.Nodup:=by rw[<-S.pre];exact S.nd.sublist (List.take_sublist _ _)
  refine⟨u,rv,?_⟩
  rcases S.par y (vb9 hp)with k|k
  .exact .inl ⟨k,zgv ndP hp hu k⟩
  .obtain⟨c,e⟩:=ziq (n:=s.heap.objs.size+1) k
   refine .inr ⟨.inl k,c,e,?_⟩
   have q:=x.cell y c e
   rw[zgw ndP hp hu (by show scope.names.lookup y≠_;rw[k];decide)]at q
   exact q
 .exact e0.hok.fresh (vc8 (x.above y c (vcx h)))
 .unfold start
  show _=N.length
  rw[vak,vai,vc9]
  omega
theorem fn_of{CX:CXT}{P:Program}{w:World}{K:PySem.W.Frag}{mg:Str->Option Value}{base:Heap}{k:Nat}{f:Addr}{name qual:Str}{params:Arguments}{body:List Stmt}{scope:Scope}{dV kV doc pm cdv ct oc:Value}{an od:Option Addr}
 {osl:Array (Option Value)} {N ps:List Str} {sp:Sp} (lk:K.lookup f=some ⟨oc,od,.func (PySem.W.fnOf name qual params body scope dV kV doc pm an cdv ct),osl⟩) (hcd:PySem.W.codeIn K cdv qual=true) (S:FnScope N ps scope)
 (len:∀vs H Q E,sp vs H Q E->vs.length=ps.length)
 (hbody:∀(A:Around)(outer:List Env)(s:Shared)(H:Hp)(vs:List V)(Q:VK)(E:XK),Room k (A.deeper (envOfC qual scope s.heap.objs.size f cdv))->sp vs H Q E->
   ∃t,PSs (cxOf CX P w K mg base N qual scope f cdv A outer s H E) body t/\t {nx:=λ_ H'=>Q .non H',rt:=Q} (start N vs) H) :
 FnOk P w K mg base CX (k+1) f (PySem.W.fnOf name qual params body scope dV kV doc pm an cdv ct) ps sp:=by
 refine⟨len,λA outer s H args us vs Q E hr e0 hb r hsp=>?_⟩
 have hl:=len _ _ _ _ hsp
 have KX:K.In s.heap:=e0.mod.kin.keeps λb o e=>(e0.bs b o e).1
 have lim:s.heap.NoLimit:=e0.mod.nolimit.keeps λb o e=>(e0.bs b o e).1
 have hkind:∀y∈ps.zip us,scope.names.lookup y.1=some .local\/(scope.names.lookup y.1=some .cell/\((cellsFrom (s.heap.objs.size+1) scope.names []).lookup y.1).isSome=true):=λhq0 hy=>by
  obtain⟨n,v⟩:=hq0
  rcases S.par n (vd6 hy).1 with q|q
  .exact .inl q
  .exact .inr ⟨q,PySem.W.cellsFrom_some _ _ _ (.inl q)⟩
 refine codeAny_call_function hr.depth (KX _ _ lk) rfl S.co S.gen rfl (PySem.W.codeRec_of KX hcd) (hb _ _ _ _ ?_)
 refine wpAny_newFunctionEnv_cells S.kind hkind λenv he s1 x=>?_
 subst he
 refine⟨lim.keeps x.toInCall.keep,codeAny_func ?_⟩
 obtain⟨t,ht,hq⟩:=hbody A outer s H vs Q E (hr.deeper _) hsp
 have I:Inv (cxOf CX P w K mg base N qual scope f cdv A outer s H E) [] (start N vs) H s1:=zgx S hr.hd e0 hl r x
 refine vav (ht [] s1 (start N vs) H _ I hq) (λfl s' hs=>?_) λe s' hs=>hs
 have fin:∀{σ':St}{H':Hp}{v:V}{u:Value},Inv (cxOf CX P w K mg base N qual scope f cdv A outer s H E) [] σ' H' s'->RelV v u->Q v H'->CE outer P w H s Q u s':=
  λ{σ' H' v u} J rv q=>⟨v,H',J.os,J.bare,J.base,J.hok,rv,q⟩
 cases fl with
 |ret u=>
  obtain⟨v,σ',H',J,rv,q⟩:=hs
  exact fin J rv q
 |next=>
  obtain⟨σ',H',J,q⟩:=hs
  exact fin (v:=V.non) (u:=Value.none) J rfl q
 |brk=>
  obtain⟨_,_,_,q⟩:=hs
  exact False.elim q
 |cont=>
  obtain⟨_,_,_,q⟩:=hs
  exact False.elim q
section
variable{X:Cx}{x:Str}{p pos:Pos}{e:Expr}{es:List Expr}{t:TA}{id T:String}{r:List V->Hp->VK->Prop}
noncomputable def tCB(r:List V->Hp->VK->Prop)(t:TA):TE:=λσ H Q=>t σ H λvs H1=>r vs H1 Q
theorem zft(hc:CallR X (.builtin id) r)(hg:Gl X x)(hm:X.mg x=none)(hv:bootBuiltins x=some (.builtin id))(ha:PA X (e::es) t)(hn:x≠"__name__":=by decide)(hdb:(x==("__debug__" : Str))=false:=by decide)
 (he:starEach (e::es) X.env=(false,eval e X.env)::starEach es X.env:=by rfl) (hpl:(backTo pos (starEach es X.env)).any (·.1)=false:=by rfl):PE X (.Call (.Name x p) (e::es) [] pos) (tCB r t):=by
 intro pins s σ H Q I h
 refine vbt (zgq I hg hm hv ?_ hn hdb)
 exact PyProof.Rows.callWith_builtin1 (thn (ha pos pins s σ H _ I h) λus s1 z9=>z9.el λvs H1 I1 r1 q1=>hc pins s1 σ H1 vs us Q I1 r1 q1) he hpl
theorem zk6(hc:CallR X (.type T) r)(hg:Gl X x)(hm:X.mg x=none)(hv:bootBuiltins x=some (.type T))(ha:PA X (e::es) t)(hn:x≠"__name__":=by decide)(hdb:(x==("__debug__" : Str))=false:=by decide)
 (he:starEach (e::es) X.env=(false,eval e X.env)::starEach es X.env:=by rfl) (hpl:(backTo pos (starEach es X.env)).any (·.1)=false:=by rfl):PE X (.Call (.Name x p) (e::es) [] pos) (tCB r t):=by
 intro pins s σ H Q I h
 refine vbt (zgq I hg hm hv ?_ hn hdb)
 exact PyProof.Rows.callWith_type1 (thn (ha pos pins s σ H _ I h) λus s1 z9=>z9.el λvs H1 I1 r1 q1=>hc pins s1 σ H1 vs us Q I1 r1 q1) he hpl
end
end L2
namespace HT
open PySem PyProof.Rows
section
variable{prog:Program}{w:World}{A:Around}{E:Value->Shared->Prop}{s:Shared}
theorem cat_tup{t b:Addr}{vs ws:List Value}{Q:Value->Shared->Prop}(ht:IsTup s.heap t vs.toArray)(hb:IsTup s.heap b ws.toArray)(hv:vs≠[])
 (h1:ws=[]->Q (.ref t) s) (h2:ws≠[]->Q (.ref s.heap.objs.size) {s with heap:=s.heap.push {cls:=.type "tuple",data:=.seq (vs++ws).toArray}})
 (hsz:vs.length+ws.length<=sizeLine):wpAny (model prog w) A (binaryOp .Add (.ref t) (.ref b)) Q E s:=by
 obtain⟨⟨cls,dd,data,sl⟩,ho,hc,n,hd⟩:=id ht
 obtain⟨⟨cls2,dd2,data2,sl2⟩,ho2,hc2,n2,hd2⟩:=id hb
 simp only at hc hd hc2 hd2
 subst hc hd hc2 hd2
 have e:vs.toArray++ws.toArray=(vs++ws).toArray:=by simp
 by_cases hw:ws=[]
 .exact concat_meets ⟨_,ho,rfl⟩ ⟨_,ho2,rfl⟩ noFill_tuple_add seq_tuple_add PySem.F.slot_tuple_add PySem.F.entry_tuple_add (PySem.F.args_tuple_add_2 _ _)
   (tuple_addW1 t b vs.toArray ws.toArray n n2 dd dd2 sl sl2 (by simpa using hv) (by simp[hw])) ⟨ho,ho2,h1 hw⟩
 .refine concat_meets ⟨_,ho,rfl⟩ ⟨_,ho2,rfl⟩ noFill_tuple_add seq_tuple_add PySem.F.slot_tuple_add PySem.F.entry_tuple_add (PySem.F.args_tuple_add_2 _ _)
   (tuple_addW2 t b vs.toArray ws.toArray n n2 dd dd2 sl sl2 (by simpa using hv) (by simpa using hw) (by rw[vag,vag];exact hsz)) ⟨ho,ho2,?_⟩
  rw[e]
  exact h2 hw
noncomputable def sIx(n d:Nat):Option Int->Nat
 |none=>d
 |some v=>if v<0 then(v+ (n:Int)).toNat else min v.toNat n
theorem sIx_none(n d:Nat):sIx n d none=d:=rfl
theorem sIx_nat(n d k:Nat):sIx n d (some (k:Int))=min k n:=by
 show(if(k:Int)<0 then((k:Int)+ (n:Int)).toNat else min (k:Int).toNat n)=min k n
 rw[if_neg (by omega),vdc]
theorem zt2(n d:Nat)(hd:d<=n)(o:Option Int):sIx n d o<=n:=by
 cases o with
 |none=>exact hd
 |some v=>
  show(if v<0 then(v+ (n:Int)).toNat else min v.toNat n)<=n
  by_cases hv:v<0
  .rw[if_pos hv];omega
  .rw[if_neg hv];exact Nat.min_le_right _ _
theorem zk7(v:Int)(n d:Nat):(if v<0 then max (v+ (n:Int)) 0 else min v (n:Int))=((sIx n d (some v):Nat):Int):=by
 show(if v<0 then max (v+ (n:Int)) 0 else min v (n:Int))=(((if v<0 then(v+ (n:Int)).toNat else min v.toNat n):Nat):Int)
 by_cases hv:v<0
 .simp only[if_pos hv];omega
 .simp only[if_neg hv];omega
theorem zjy(lo hi:Option Int)(n:Nat):Builtin.Slice.sliceAdjust lo hi 1 (n:Int)=(((sIx n 0 lo:Nat):Int),((sIx n n hi:Nat):Int)):=by
 have h1:¬((1:Int)<0):=by omega
 unfold Builtin.Slice.sliceAdjust
 simp only[h1,vbe]
 refine Prod.ext ?_ ?_
 .cases lo with
  |none=>rfl
  |some v=>exact zk7 v n 0
 .cases hi with
  |none=>rfl
  |some v=>exact zk7 v n n
theorem zjz(i j:Nat):Builtin.Slice.slicePlaces (i:Int) (j:Int) 1=j-i:=by
 unfold Builtin.Slice.slicePlaces
 have h1:(1:Int)>0:=by omega
 simp only[h1,vbd,Int.ediv_one]
 split<;>omega
theorem ze3{v:Value}{o:Option Int}{Q:Option Int->Shared->Prop}(p:IsPart v o)(h:Q o s):wpAny (model prog w) A (Builtin.Slice.slicePartIndex v) Q E s:=by
 cases p with
 |none=>exact slicePart_none h
 |int i t=>exact slicePart_int h
theorem zb6{sl:Addr}{vl vu:Value}{lo hi:Option Int}{n:Nat}{Q:Int×Int×Nat->Shared->Prop}(hs:s.heap.IsSliceOf sl vl vu .none)(pl:IsPart vl lo)(pu:IsPart vu hi)
 (h:Q (((sIx n 0 lo:Nat):Int),1,sIx n n hi-sIx n 0 lo) s):wpAny (model prog w) A (Builtin.Slice.sliceApplied (.ref sl) (pure (n:Int))) Q E s:=by
 obtain⟨os,hos,hcs,hds⟩:=id hs
 unfold Builtin.Slice.sliceApplied Builtin.Slice.sliceFields
 refine vab (vab (vcp hos hds (x:=vl) rfl (vab (vcp hos hds (x:=vu) rfl (vab (vcp hos hds (x:=.none) rfl (vaf ?_)))))))
 refine vab (slicePart_none ?_)
 show wpAny _ _ (if((1:Int)==0)=true then _ else _) _ _ s
 rw[if_neg (by decide)]
 refine vab (ze3 pl (vab (ze3 pu (vab (vaf ?_)))))
 show wpAny _ _ (match Builtin.Slice.sliceAdjust lo hi 1 (n:Int)with|(lo,hi)=>pure (lo,(1:Int),Builtin.Slice.slicePlaces lo hi 1)) _ _ s
 rw[zjy lo hi n]
 show wpAny _ _ (pure (((sIx n 0 lo:Nat):Int),(1:Int),Builtin.Slice.slicePlaces ((sIx n 0 lo:Nat):Int) ((sIx n n hi:Nat):Int) 1)) _ _ s
 rw[zjz]
 exact vaf h
theorem zn6(xs:Array Value)(i k:Nat):((List.range k).filterMap λ(m:Nat)=>xs[((i:Int)+ (m:Int)*1).toNat]?).toArray=((xs.toList.drop i).take k).toArray:=by
 have e:(λ(m:Nat)=>xs[((i:Int)+ (m:Int)*1).toNat]?)=λm=>xs[i+m]?:=by
  funext m
  have:((i:Int)+ (m:Int)*1).toNat=i+m:=by omega
  rw[this]
 rw[e]
 have:=pick_run xs i k
 rw[List.filterMap_map]at this
 have e2:((λx=>xs[x]?)∘λx=>i+x)=λm=>xs[i+m]?:=rfl
 rw[e2]at this
 rw[this]
theorem getItem_tuple_cut{t sl:Addr}{items:Array Value}{vl vu:Value}{lo hi:Option Int}{Q:Value->Shared->Prop}(ht:IsTup s.heap t items)(hs:s.heap.IsSliceOf sl vl vu .none)(pl:IsPart vl lo)(pu:IsPart vu hi)
 (hw:¬(sIx items.size 0 lo=0/\sIx items.size items.size hi=items.size))
 (h:Q (.ref s.heap.objs.size) {s with heap:=s.heap.push {cls:=.type "tuple",data:=.seq ((items.toList.drop (sIx items.size 0 lo)).take (sIx items.size items.size hi-sIx items.size 0 lo)).toArray}})
 (hsz:items.size<=sizeLine):wpAny (model prog w) A (getItem (.ref t) (.ref sl)) Q E s:=by
 have htake:sizeOk (.seq ((items.toList.drop (sIx items.size 0 lo)).take (sIx items.size items.size hi-sIx items.size 0 lo)).toArray):=by
  show((items.toList.drop (sIx items.size 0 lo)).take (sIx items.size items.size hi-sIx items.size 0 lo)).toArray.size<=sizeLine
  rw[vag,vdz,vdg,Array.length_toList]
  omega
 have hj:sIx items.size items.size hi<=items.size:=zt2 _ _ (vac _) hi
 obtain⟨os,hos,hcs,hds⟩:=id hs
 have hTs:s.TypeIs (.ref sl) "slice":=⟨os,hos,hcs⟩
 unfold getItem
 try with_reducible refine vbs ?_
 first|refine vab (vaf ?_)|skip
 refine vab (wpAny_sequenceKey ht.typeIs (by decide) ?_)
 refine vab (vcz (name:=Str.ofString "__getitem__") ht.typeIs vbl
  (vd0 vbl ht.typeIs entry_tuple_getitem ?_ (args_tuple_getitem _ _)))
 show wpAny _ _ (Builtin.Tuple.tupleItemsOf (.ref t) >>= _) _ _ s
 refine vab (tupleItemsOf_ ht ?_)
 refine vab (wpAny_typeOf hTs ?_)
 rw[if_pos (by decide)]
 refine vab (zb6 hs pl pu ?_)
 have hno:¬((((sIx items.size 0 lo:Nat):Int)==0&& (1:Int)==1&& (sIx items.size items.size hi-sIx items.size 0 lo)==items.size)=true):=by
  intro q
  rw[vaa,vaa]at q
  have q1:((sIx items.size 0 lo:Nat):Int)=0:=eq_of_beq q.1.1
  have q2:sIx items.size items.size hi-sIx items.size 0 lo=items.size:=eq_of_beq q.2
  exact hw ⟨by omega,by omega⟩
 show wpAny _ _ (if(((sIx items.size 0 lo:Nat):Int)==0&& (1:Int)==1&& (sIx items.size items.size hi-sIx items.size 0 lo)==items.size)=true then _ else _) _ _ s
 rw[if_neg hno,zn6]
 first
  |exact vab (m:=Builtin.Tuple.tupleExact _) (vb4 (vaf ⟨_,rfl,vaf h⟩) htake)
  |exact vab (m:=Builtin.Tuple.tupleExact _) (vb4 (vab (vaf (vaf ⟨_,rfl,vaf h⟩))) htake)
  |exact vab (vab (m:=Builtin.Tuple.tupleExact _) (vb4 (vaf (vaf ⟨_,rfl,vaf h⟩)) htake))
  |exact vab (vab (m:=Builtin.Tuple.tupleExact _) (vb4 (vaf ⟨_,rfl,vaf h⟩) htake))
end
end HT
namespace L2
open PySem PySem.Spec PyProof.Rows
noncomputable abbrev TO:=St->Hp->(Option Int->Hp->Prop)->Prop
noncomputable def PO(X:Cx)(e:Option Expr)(t:TO):Prop:=
 ∀(pins:List (Addr×Obj))(s:Shared)(σ:St)(H:Hp)(Q:Option Int->Hp->Prop),Inv X pins σ H s->t σ H Q->
  wpAny (model X.prog X.w) X.A (evalPart e X.env) (λu s'=>∃o H',Inv X pins σ H' s'/\IsPart u o/\Q o H') X.xe s
noncomputable def zq6:TO:=λ_ H Q=>Q none H
noncomputable def tPart(t:TE):TO:=λσ H Q=>t σ H λx H1=>∃i,x=.int i/\Q (some i) H1
section
variable{X:Cx}{e:Expr}{te:TE}{lo hi:Option Expr}{tl th:TO}{pos p2:Pos}
theorem zq7:PO X none zq6:=by
 intro pins s σ H Q I h
 rw[evalPart_none]
 exact vaf ⟨none,H,I,.none,h⟩
theorem zq8(h:PE X e te):PO X (some e) (tPart te):=by
 intro pins s σ H Q I hw
 rw[evalPart_some]
 refine thn (h pins s σ H _ I hw) λu s1 z9=>z9.el λx H1 I1 r1 q1=>?_
 obtain⟨i,rfl,q⟩:=q1
 obtain⟨t,rfl⟩:=r1
 exact⟨some i,H1,I1,.int i t,q⟩
noncomputable def SlR(X:Cx)(r:V->Option Int->Option Int->Hp->VK->Prop):Prop:=
 ∀(pins:List (Addr×Obj))(s:Shared)(σ:St)(H:Hp)(x:V)(v vl vu:Value)(lo hi:Option Int)(sl:Addr)(Q:VK),Inv X pins σ H s->RelV x v->s.heap.IsSliceOf sl vl vu .none->IsPart vl lo->IsPart vu hi->r x lo hi H Q->
  ∃T id,typeLookup (.type T) "__getitem__" = pure (some (.builtin id))/\s.TypeIs v T/\wpAny (model X.prog X.w) X.A (getItem v (.ref sl)) (EP X pins σ Q) X.xe s
theorem SlR.or{r r':V->Option Int->Option Int->Hp->VK->Prop}(h:SlR X r)(h':SlR X r'):SlR X (λx lo hi H Q=>r x lo hi H Q\/r' x lo hi H Q):=by
 intro pins s σ H x v vl vu lo hi sl Q I rx hs pl pu q
 rcases q with q|q
 .exact h pins s σ H x v vl vu lo hi sl Q I rx hs pl pu q
 .exact h' pins s σ H x v vl vu lo hi sl Q I rx hs pl pu q
noncomputable def tSl(r:V->Option Int->Option Int->Hp->VK->Prop)(te:TE)(tl th:TO):TE:=λσ H Q=>te σ H λx H1=>tl σ H1 λl H2=>th σ H2 λu H3=>r x l u H3 Q
theorem zn7{r:V->Option Int->Option Int->Hp->VK->Prop}(hr:SlR X r)(he:PE X e te)(hl:PO X lo tl)(hu:PO X hi th):PE X (.Subscript e (.Slice lo hi none p2) pos) (tSl r te tl th):=by
 intro pins s σ H Q I h
 refine Subscript_ (thn (he pins s σ H _ I h) λv s1 z9=>z9.el λx H1 I1 r1 q1=>?_)
 refine wpAny_Slice (thn (hl pins s1 σ H1 _ I1 q1) λvl s2 ⟨l,H2,I2,pl,q2⟩=>thn (hu pins s2 σ H2 _ I2 q2) λvu s3 hq0=>?_)
 obtain⟨u,H3,I3,pu,q3⟩:=hq0
 rw[evalPart_none]
 refine vaf ?_
 have I4:Inv X pins σ H3 {s3 with heap:=s3.heap.push {cls:=.type "slice",data:=.fields #[vl,vu,.none]}}:=I3.kept (t':=s3.toks) λb ob q=>vad _ q
 obtain⟨T,id,hT,ht,hg⟩:=hr pins {s3 with heap:=s3.heap.push {cls:=.type "slice",data:=.fields #[vl,vu,.none]}} σ H3 x v vl vu l u s3.heap.objs.size Q I4 r1 (Heap.IsSliceOf.new ..) pl pu q3
 show wpAny (model X.prog X.w) X.A (subscriptTail e (.Slice lo hi none p2) v (.ref s3.heap.objs.size)) (EP X pins σ Q) X.xe {s3 with heap:=s3.heap.push {cls:=.type "slice",data:=.fields #[vl,vu,.none]}}
 exact tail_any (ops:=[.ref s3.heap.objs.size,v]) ht hT hg (by with_unfolding_all rfl)
noncomputable def cutV(xs:List V)(lo hi:Option Int):List V:=(xs.drop (HT.sIx xs.length 0 lo)).take (HT.sIx xs.length xs.length hi-HT.sIx xs.length 0 lo)
theorem zee(xs:List V)(lo hi:Option Int):(cutV xs lo hi).length<=xs.length:=by
 unfold cutV
 rw[vdz,vdg]
 omega
noncomputable def rSlT(K:PySem.W.Frag):V->Option Int->Option Int->Hp->VK->Prop:=λx lo hi H Q=>∃a xs,x=.ref a/\SqT K H a xs/\
 ¬(HT.sIx xs.length 0 lo=0/\HT.sIx xs.length xs.length hi=xs.length)/\∀p,H p=none->Q (.ref p) (upd H p (.tup (cutV xs lo hi)))
theorem zt3:SlR X (rSlT X.K):=by
 intro pins s σ H x v vl vu lo hi sl Q I rx hs pl pu h
 obtain⟨a,xs,rfl,hx,hw,q⟩:=h
 cases rx
 obtain⟨its,r,ht,hz⟩:=I.tuple hx
 have hlen:its.toArray.size=xs.length:=by rw[vag];exact r.length.symm
 refine⟨"tuple",_,vbl.lookup,ht.typeIs,?_⟩
 refine HT.getItem_tuple_cut ht hs pl pu (by rw[hlen];exact hw) ?_ (by rw[hlen];exact hz)
 rw[hlen]
 refine⟨.ref s.heap.objs.size,_,I.laid (t':=s.toks) (o:=.tup (cutV xs lo hi)) (λb ob q=>vad _ q) (vac _) ?_,rfl,q _ (I.hok.fresh (vac _))⟩
 exact⟨vap (zee xs lo hi) hz,_,(r.drop (HT.sIx xs.length 0 lo)).take (HT.sIx xs.length xs.length hi-HT.sIx xs.length 0 lo),zbq.new _ _⟩
noncomputable def rCatT(K:PySem.W.Frag):R2:=λx y H Q=>∃a b xs ys,x=.ref a/\y=.ref b/\SqT K H a xs/\SqT K H b ys/\xs≠[]/\xs.length+ys.length<=sizeLine/\
 (ys=[]->Q (.ref a) H)/\(ys≠[]->∀p,H p=none->Q (.ref p) (upd H p (.tup (xs++ys))))
theorem Vals.nil_iff{xs:List V}{us:List Value}(r:Vals xs us):us=[]↔xs=[]:=by
 cases r with
 |nil=>simp
 |cons _ _=>simp
theorem zq9:OpR X (binaryOp .Add) (rCatT X.K):=by
 intro pins s σ H x y v u Q I rx ry h
 obtain⟨a,b,xs,ys,rfl,rfl,ha,hb,hx,hz,q1,q2⟩:=h
 cases rx
 cases ry
 obtain⟨its,r1,p1,_⟩:=I.tuple ha
 obtain⟨its2,r2,p2,_⟩:=I.tuple hb
 refine HT.cat_tup p1 p2 (λz=>hx (r1.nil_iff.mp z)) (λz=>⟨.ref a,H,I,rfl,q1 (r2.nil_iff.mp z)⟩) (λz=>?_) (by rw[<-r1.length,<-r2.length];exact hz)
 refine⟨.ref s.heap.objs.size,_,I.laid (t':=s.toks) (o:=.tup (xs++ys)) (λb ob q=>vad _ q) (vac _) ?_,rfl,q2 (λw=>z (r2.nil_iff.mpr w)) _ (I.hok.fresh (vac _))⟩
 exact⟨by rw[vak];exact hz,_,r1.append r2,zbq.new _ _⟩
end
noncomputable def ixN(n:Nat)(i:Int):Option Nat:=if 0<=i then(if i<n then some i.toNat else none)else if -(n:Int)<=i then some (i+n).toNat else none
noncomputable def atI{α:Type}(xs:List α)(i:Int):Option α:=(ixN xs.length i).bind λj=>xs[j]?
theorem zk8{n:Nat}{i:Int}{j:Nat}(h:ixN n i=some j):seqIndex? i n=some j/\j<n/\-(n:Int)<=i/\i<n:=by
 unfold ixN at h
 by_cases h0:0<=i
 .rw[if_pos h0]at h
  by_cases h1:i<n
  .rw[if_pos h1]at h
   have e:i.toNat=j:=vb0 h
   exact⟨by rw[seqIndex_of h0 h1,e],by omega,by omega,h1⟩
  .rw[if_neg h1]at h;cases h
 .rw[if_neg h0]at h
  by_cases h1:-(n:Int)<=i
  .rw[if_pos h1]at h
   have e:(i+n).toNat=j:=vb0 h
   exact⟨by rw[seqIndex_neg (by omega) h1,e],by omega,h1,by omega⟩
  .rw[if_neg h1]at h;cases h
theorem zk9{α:Type}{xs:List α}{i:Int}{v:α}(h:atI xs i=some v):∃j,seqIndex? i xs.length=some j/\xs[j]?=some v/\j<xs.length/\-(xs.length:Int)<=i/\i<xs.length:=by
 unfold atI at h
 cases e:ixN xs.length i with
 |none=>rw[e]at h;cases h
 |some j=>
  rw[e]at h
  obtain⟨h1,h2,h3,h4⟩:=zk8 e
  exact⟨j,h1,h,h2,h3,h4⟩
theorem zfu{α:Type}{xs:List α}{j:Nat}{v:α}(h:xs[j]?=some v):atI xs (j:Int)=some v:=by
 have hj:j<xs.length:=(van.mp h).1
 have e:ixN xs.length (j:Int)=some j:=by
  unfold ixN
  rw[if_pos (by omega),if_pos (by omega)];simp
 unfold atI;rw[e];exact h
noncomputable def zfv(b:Expr):Prop:=∀o i,subscripted b false o i=operate [o,i] (getItem o i)
noncomputable def IxR(X:Cx)(r:R2):Prop:=
 ∀(value slice:Expr)(pins:List (Addr×Obj))(s:Shared)(σ:St)(H:Hp)(x y:V)(v u:Value)(Q:VK),Inv X pins σ H s->RelV x v->RelV y u->r x y H Q->
  subscripted slice false v u=operate [v,u] (getItem v u)->wpAny (model X.prog X.w) X.A (subscriptTail value slice v u) (EP X pins σ Q) X.xe s
noncomputable def MtR(X:Cx)(id:String)(r:V->List V->Hp->VK->Prop):Prop:=
 ∀(pins:List (Addr×Obj))(s:Shared)(σ:St)(H:Hp)(x:V)(xs:List V)(v:Value)(us:List Value)(Q:VK),Inv X pins σ H s->RelV x v->Vals xs us->r x xs H Q->
  wpAny (model X.prog X.w) X.A (call (.builtin id) (v::us)) (EP X pins σ Q) X.xe s
section
variable{X:Cx}{a b:Expr}{ta tb:TE}{pos:Pos}
theorem IxR.or{r r':R2}(h:IxR X r)(h':IxR X r'):IxR X (λx y H Q=>r x y H Q\/r' x y H Q):=by
 intro value slice pins s σ H x y v u Q I rx ry q hs
 rcases q with q|q
 .exact h value slice pins s σ H x y v u Q I rx ry q hs
 .exact h' value slice pins s σ H x y v u Q I rx ry q hs
theorem pe_ix{r:R2}(hr:IxR X r)(ha:PE X a ta)(hb:PE X b tb)(hs:zfv b):PE X (.Subscript a b pos) (tOp r ta tb):=by
 intro pins s σ H Q I h
 exact Subscript_ (binT ha hb I h λv u s2 x y H2 I2 rx ry q=>hr a b pins s2 σ H2 x y v u Q I2 rx ry q (hs _ _))
noncomputable def rIxL(K:PySem.W.Frag):R2:=λx y H Q=>∃p xs i v,x=.ref p/\y=.int i/\SqL K H p xs/\atI xs i=some v/\Q v H
noncomputable def rIxT(K:PySem.W.Frag):R2:=λx y H Q=>∃p xs i v,x=.ref p/\y=.int i/\SqT K H p xs/\atI xs i=some v/\Q v H
theorem zla:IxR X (rIxL X.K):=by
 intro value slice pins s σ H x y v u Q I rx ry h hs
 obtain⟨p,xs,i,z,rfl,rfl,hq,he,q⟩:=h
 cases rx
 obtain⟨t,rfl⟩:=ry
 obtain⟨its,r,pl,hz⟩:=I.list hq
 obtain⟨j,h1,h2,h3,h4,h5⟩:=zk9 he
 obtain⟨w,ew,rw'⟩:=r.get h2
 have hl:=r.length
 have hn:=zgs
 have fin:EP X pins σ Q w s:=⟨z,H,I,rw',q⟩
 by_cases h0:0<=i
 .have hj:i.toNat=j:=by
   rw[seqIndex_of h0 h5]at h1
   exact vb0 h1
  exact item_listR pl.isList h0 (by omega) (by rw[hj];simpa using ew) fin hs
 .have hj:(i+ (its.toArray.size:Int)).toNat=j:=by
   rw[seqIndex_neg (by omega) h4]at h1
   rw[vag,<-hl]
   exact vb0 h1
  exact subscriptTail_builtinR (x:=w) pl.isList.typeIs slot_list_getitem.lookup
   (wpAny_getItem_list_neg (Q:=λr s'=>r=w/\EP X pins σ Q r s') pl.isList (by omega) (by rw[vag]<;>omega) (by omega) (by rw[hj];simpa using ew) ⟨rfl,fin⟩) hs
theorem zt4:IxR X (rIxT X.K):=by
 intro value slice pins s σ H x y v u Q I rx ry h hs
 obtain⟨p,xs,i,z,rfl,rfl,hq,he,q⟩:=h
 cases rx
 obtain⟨t,rfl⟩:=ry
 obtain⟨its,r,pl,hz⟩:=I.tuple hq
 obtain⟨j,h1,h2,h3,h4,h5⟩:=zk9 he
 obtain⟨w,ew,rw'⟩:=r.get h2
 have hl:=r.length
 have hn:=zgs
 have fin:EP X pins σ Q w s:=⟨z,H,I,rw',q⟩
 exact subscriptTail_builtinR (x:=w) pl.typeIs slot_tuple_getitem.lookup
  (getItem_tuple (j:=j) (Q:=λr s'=>r=w/\EP X pins σ Q r s') pl (by omega) (by omega) (by rw[vag,<-hl];exact h1) (by simpa using ew) ⟨rfl,fin⟩) hs
theorem zj0(its:List Value)(n j:Nat)(u:Value):Obj.mapSeq (·.setIfInBounds j u) {cls:=.type "list",data:=.seq its.toArray n} ={cls:=.type "list",data:=.seq (its.set j u).toArray n}:=by
 simp[Obj.mapSeq]
theorem Inv.lst{pins:List (Addr×Obj)}{σ:St}{H:Hp}{s:Shared}{p:Addr}{xs:List V}(I:Inv X pins σ H s)(h:H p=some (.lst xs)) :
 ∃(its:List Value) (n:Nat),Vals xs its/\s.heap.get? p=some {cls:=.type "list",data:=.seq its.toArray n}/\xs.length<=sizeLine:=by
 obtain⟨z,its,n,r,e⟩:=I.hok p _ h
 exact⟨its,n,r,e,z⟩
theorem Inv.lstUpd{pins:List (Addr×Obj)}{σ:St}{H:Hp}{s:Shared}{p:Addr}{xs ys:List V}{its its':List Value}{n n':Nat}{f:Obj->Obj}(I:Inv X pins σ H s)(h:H p=some (.lst xs))
 (ho:s.heap.get? p=some {cls:=.type "list",data:=.seq its.toArray n}) (hf:f {cls:=.type "list",data:=.seq its.toArray n} ={cls:=.type "list",data:=.seq its'.toArray n'}) (r:Vals ys its') (hz:ys.length<=sizeLine) (t:Nat) :
 Inv X pins σ (upd H p (.lst ys)) {s with heap:=s.heap.update p f,toks:=t}:=by
 have e:(s.heap.update p f).get? p=some {cls:=.type "list",data:=.seq its'.toArray n'}:=by
  rw[vch f ho (by rw[hf]<;>rfl),hf]
 refine I.write (x:=p) (e:=p) (by rw[h];trivial) (.inl rfl) (λb u hb q=>(vbz _ _ (vcq hb)).trans q) ⟨_,e⟩ ?_
 exact⟨hz,its',n',r,e⟩
noncomputable def rSetL:V->V->V->Hp->(Hp->Prop)->Prop:=λo i v H Q=>∃p xs k j,o=.ref p/\i=.int k/\H p=some (.lst xs)/\ixN xs.length k=some j/\Q (upd H p (.lst (xs.set j v)))
theorem zn8:PSet X rSetL:=by
 intro pins s σ H o i v ov iv u Q I ro ri rv h
 obtain⟨p,xs,k,j,rfl,rfl,hp,hj,q⟩:=h
 cases ro
 obtain⟨t,rfl⟩:=ri
 obtain⟨its,n,r,ho,hz⟩:=I.lst hp
 obtain⟨h1,h2,h3,h4⟩:=zk8 hj
 have hl:=r.length
 have hn:=zgs
 have I':Inv X pins σ (upd H p (.lst (xs.set j v))) {s with heap:=s.heap.update p (Obj.mapSeq (·.setIfInBounds j u))}:=
  I.lstUpd hp ho (zj0 its n j u) (r.set rv j) (by rw[vda];exact hz) s.toks
 by_cases h0:0<=k
 .have hk:k.toNat=j:=by
   rw[seqIndex_of h0 h4]at h1
   exact vb0 h1
  exact PySem.W.ki_setAt ho h0 (by omega) (by rw[vag,<-hl];exact h4) (by rw[hk];exact⟨_,I',q⟩)
 .have hk:(k+ (its.toArray.size:Int)).toNat=j:=by
   rw[seqIndex_neg (by omega) h3]at h1
   rw[vag,<-hl]
   exact vb0 h1
  exact PySem.W.ki_setBack ho (by omega) (by rw[vag,<-hl];exact h3) (by omega) (by rw[hk];exact⟨_,I',q⟩)
theorem zgy(lo hi:Option Int)(n:Nat):(sliceBounds lo hi none n).1=((HT.sIx n 0 lo:Nat):Int)/\(sliceBounds lo hi none n).2.1=((HT.sIx n n hi:Nat):Int)/\(sliceBounds lo hi none n).2.2=1:=by
 refine⟨?_,?_,rfl⟩
 .cases lo with
  |none=>simp[sliceBounds,HT.sIx]
  |some i=>
   simp only[sliceBounds,HT.sIx,Option.getD_none,show(1:Int)>0 by decide,vbd]
   by_cases h:i<0
   .simp only[h,vbd]<;>omega
   .simp only[h,vbe]<;>omega
 .cases hi with
  |none=>simp[sliceBounds,HT.sIx]
  |some i=>
   simp only[sliceBounds,HT.sIx,Option.getD_none,show(1:Int)>0 by decide,vbd]
   by_cases h:i<0
   .simp only[h,vbd]<;>omega
   .simp only[h,vbe]<;>omega
theorem zfw(its:List Value)(lo hi:Option Int):slicePick its.toArray lo hi none=((its.drop (HT.sIx its.length 0 lo)).take (HT.sIx its.length its.length hi-HT.sIx its.length 0 lo)).toArray:=by
 obtain⟨h1,h2,h3⟩:=zgy lo hi its.toArray.size
 unfold slicePick
 rw[h1,h2,h3]
 simp only[sliceRange_one,pick_run,vag]<;>rfl
noncomputable def rSlL(K:PySem.W.Frag):V->Option Int->Option Int->Hp->VK->Prop:=λx lo hi H Q=>∃a xs,x=.ref a/\SqL K H a xs/\∀p,H p=none->Q (.ref p) (upd H p (.lst (cutV xs lo hi)))
theorem zra:SlR X (rSlL X.K):=by
 intro pins s σ H x v vl vu lo hi sl Q I rx hs pl pu h
 obtain⟨a,xs,rfl,hx,q⟩:=h
 cases rx
 obtain⟨its,r,ht,hz⟩:=I.list hx
 have hlen:=r.length
 refine⟨"list",_,slot_list_getitem.lookup,ht.isList.typeIs,?_⟩
 refine wpAny_getItem_list_slice ht.isList hs pl pu .none (by simp) ?_ (by rw[vag]<;>omega)
 rw[zfw,<-hlen]
 refine⟨.ref s.heap.objs.size,_,I.laid (t':=s.toks) (o:=.lst (cutV xs lo hi)) (λb ob q=>vad _ q) (vac _) ?_,rfl,q _ (I.hok.fresh (vac _))⟩
 exact⟨vap (zee xs lo hi) hz,_,0,(r.drop (HT.sIx xs.length 0 lo)).take (HT.sIx xs.length xs.length hi-HT.sIx xs.length 0 lo),va3 _ rfl⟩
theorem zgz:CallR X (.builtin "len") (λxs H Q=>∃p ys,xs=[.ref p]/\(SqL X.K H p ys\/SqT X.K H p ys)/\Q (.int ys.length) H):=by
 intro pins s σ H xs us Q I r h
 obtain⟨p,ys,rfl,hq,q⟩:=h
 obtain⟨u,rfl,rx⟩:=vals1 r
 cases rx
 have hn:=zgs
 rcases hq with hq|hq
 .obtain⟨its,r',pl,hz⟩:=I.list hq
  have hlen:=r'.length
  exact Calls.call_len_list pl.isList (by simp only[vag]<;>omega) ⟨.int ys.length,H,I.tok _,⟨s.toks+1,by rw[vag,hlen]⟩,q⟩
 .obtain⟨its,r',pl,hz⟩:=I.tuple hq
  have hlen:=r'.length
  exact len_tuple pl (by simp only[vag]<;>omega) ⟨.int ys.length,H,I.tok _,⟨s.toks+1,by rw[vag,hlen]⟩,q⟩
theorem zg0:CallR X (.type "list") (λxs H Q=>∃p ys,xs=[.ref p]/\(SqL X.K H p ys\/SqT X.K H p ys)/\∀l,H l=none->Q (.ref l) (upd H l (.lst ys))):=by
 intro pins s σ H xs us Q I r h
 obtain⟨p,ys,rfl,hq,q⟩:=h
 obtain⟨u,rfl,rx⟩:=vals1 r
 cases rx
 have fin:∀(its:List Value),Vals ys its->ys.length<=sizeLine->∀(h':Heap)(c':Nat),(∀b o',s.heap.get? b=some o'->h'.get? b=some o')->
  h'.get? s.heap.objs.size=some {cls:=.type "list",dict:=none,data:=.seq its.toArray c',slots:=#[]}->EP X pins σ Q (.ref s.heap.objs.size) {s with heap:=h'}:=λits r' hz h' c' kp e=>
  ⟨.ref s.heap.objs.size,_,I.laid (t':=s.toks) kp (vac _) (show ObjOk X.prog X.w _ h' _ (.lst ys)from⟨hz,its,c',r',e⟩),rfl,q _ (I.hok.fresh (vac _))⟩
 rcases hq with hq|hq
 .obtain⟨its,r',pl,hz⟩:=I.list hq
  have hlen:=r'.length
  obtain⟨o,ho,hc,n,hd⟩:=pl.isList
  exact call_list_seq p (.inl rfl) ho hc hd (λh' c' kp e=>fin its r' hz h' c' kp e) (by simp only[vag]<;>omega)
 .obtain⟨its,r',pl,hz⟩:=I.tuple hq
  have hlen:=r'.length
  obtain⟨o,ho,hc,n,hd⟩:=pl
  exact call_list_seq p (.inr rfl) ho hc hd (λh' c' kp e=>fin its r' hz h' c' kp e) (by simp only[vag]<;>omega)
theorem zfx:CallR X (.type "tuple") (λxs H Q=>∃p ys,xs=[.ref p]/\((SqL X.K H p ys/\∀l,H l=none->Q (.ref l) (upd H l (.tup ys)))\/(SqT X.K H p ys/\Q (.ref p) H))):=by
 intro pins s σ H xs us Q I r h
 obtain⟨p,ys,rfl,h⟩:=h
 obtain⟨u,rfl,rx⟩:=vals1 r
 cases rx
 rcases h with⟨hq,q⟩|⟨hq,q⟩
 .obtain⟨its,r',pl,hz⟩:=I.list hq
  have hlen:=r'.length
  refine call_tuple_list pl.isList (λh' kp=>?_) (by simp only[vag]<;>omega)
  have I1:Inv X pins σ H {s with heap:=h'}:=I.kept (t':=s.toks) kp
  have I2:Inv X pins σ (upd H h'.objs.size (.tup ys)) {s with heap:=h'.push {cls:=.type "tuple",data:=.seq its.toArray}}:=
   I1.laid (t':=s.toks) (λb o e=>vad _ e) (vac _) (show ObjOk X.prog X.w _ _ _ (.tup ys)from⟨hz,its,r',zbq.new _ _⟩)
  exact⟨.ref h'.objs.size,_,I2,rfl,q _ (I1.hok.fresh (vac _))⟩
 .obtain⟨its,r',pl,hz⟩:=I.tuple hq
  exact call_tuple_same pl ⟨.ref p,H,I,rfl,q⟩
noncomputable def tyV(K:PySem.W.Frag)(T:String)(x:V)(H:Hp):Prop:=match x with
 |.str _=>T = "str"
 |.int _=>T = "int"
 |.ref p=>(T = "list"/\∃xs,SqL K H p xs)\/(T = "tuple"/\∃xs,SqT K H p xs)\/
  (T = "dict"/\((∃kvs,H p=some (.dK kvs))\/∃kvs,H p=some (.dT kvs)))\/(T = "set"/\∃S n,H p=some (.set S n))
 |_=>False
theorem zpq{pins:List (Addr×Obj)}{σ:St}{H:Hp}{s:Shared}{T:String}{x:V}{v:Value}(I:Inv X pins σ H s)(r:RelV x v)(ty:tyV X.K T x H) :
 s.TypeIs v T/\∀a,v=.ref a->∃ob,s.heap.get? a=some ob/\ob.dict=none:=by
 cases x with
 |str z=>
  obtain⟨t,rfl⟩:=r
  cases(show T = "str"from ty)
  exact⟨typeIs_str s z t,λ_ e=>nomatch e⟩
 |int i=>
  obtain⟨t,rfl⟩:=r
  cases(show T = "int"from ty)
  exact⟨typeIs_int s i t,λ_ e=>nomatch e⟩
 |ref p=>
  cases r
  rcases ty with⟨rfl,xs,hq⟩|⟨rfl,xs,hq⟩|⟨rfl,hk⟩|⟨rfl,S,n,hk⟩
  .obtain⟨its,_,pl,_⟩:=I.list hq
   refine⟨pl.isList.typeIs,λa e=>?_⟩
   cases e
   obtain⟨o,n,e,c,hd,_⟩:=pl
   exact⟨o,e,hd⟩
  .obtain⟨its,_,⟨o,h1,h2,_,h3⟩,_⟩:=I.tupleD hq
   refine⟨⟨o,h1,h2⟩,λa e=>?_⟩
   cases e
   exact⟨o,h1,h3⟩
  .have z:∃o,s.heap.get? p=some o/\o.ExactDict:=by
    rcases hk with⟨kvs,hk⟩|⟨kvs,hk⟩
    .obtain⟨_,_,_,_,o,_,_,e,ex,_⟩:=I.hok p _ hk
     exact⟨o,e,ex⟩
    .obtain⟨_,_,_,_,o,_,_,e,ex,_⟩:=I.hok p _ hk
     exact⟨o,e,ex⟩
   obtain⟨o,e,ex⟩:=z
   refine⟨⟨o,e,ex.1⟩,λa e2=>?_⟩
   cases e2
   exact⟨o,e,ex.2.1⟩
  .obtain⟨o,_,_,_,e,ex,_⟩:=I.hok p _ hk
   refine⟨⟨o,e,ex.1⟩,λa e2=>?_⟩
   cases e2
   exact⟨o,e,ex.2.1⟩
 |_=>exact False.elim ty
noncomputable def tBM0(K:PySem.W.Frag)(T:String)(r:V->List V->Hp->VK->Prop)(to:TE):TE:=λσ H Q=>to σ H λx H1=>tyV K T x H1/\r x [] H1 Q
noncomputable def tBM(K:PySem.W.Frag)(T:String)(r:V->List V->Hp->VK->Prop)(to:TE)(t:TA):TE:=λσ H Q=>to σ H λx H1=>tyV K T x H1/\t σ H1 λxs H2=>r x xs H2 Q
variable{o e:Expr}{es:List Expr}{to:TE}{t:TA}{name:Str}{apos cpos:Pos}{T id:String}{r:V->List V->Hp->VK->Prop}
theorem zt5(pa:PlainAttrs T)(slot:Slot T name id)(hty:typeOf (.builtin id)=pure (.type "method_descriptor"))(hm:MtR X id r)(ho:PE X o to)
 (hbase:attributeBase o name X.env (eval o X.env)=eval o X.env:=by rfl) (hline:(apos.endLine==cpos.line)=true:=by rfl):PE X (.Call (.Attribute o name apos) [] [] cpos) (tBM0 X.K T r to):=by
 intro pins s σ H Q I h
 refine wpAny_Call_method0_late hbase hline (thn (ho pins s σ H _ I h) λv s1 z9=>z9.el λx H1 I1 r1 hq0=>?_)
 obtain⟨ty,q1⟩:=hq0
 obtain⟨h1,h2⟩:=zpq I1 r1 ty
 exact⟨T,id,pa,slot,hty,h1,h2,Calls.callWith_builtin rfl (PySem.evalArgs_none (hm pins s1 σ H1 x [] v [] Q I1 r1 .nil q1))⟩
theorem pe_bm(pa:PlainAttrs T)(slot:Slot T name id)(hty:typeOf (.builtin id)=pure (.type "method_descriptor"))(hm:MtR X id r)(ho:PE X o to)(ha:PA X (e::es) t)
 (hbase:attributeBase o name X.env (eval o X.env)=eval o X.env:=by rfl)
 (hfew:((backTo cpos (starEach (e::es) X.env)).all (λx=>!x.1)&& (backToKw cpos (keywordEach [] X.env)).all (λx=>x.1.isSome)
   && decide ((e::es).length+ ([]:List Keyword).length+ (if([]:List Keyword).isEmpty then 0 else 1)<30))=true:=by rfl)
 (hline:(apos.endLine==cpos.line)=true:=by rfl) (hs:starEach (e::es) X.env=(false,eval e X.env)::starEach es X.env:=by rfl) (hplain:(backTo cpos (starEach es X.env)).any (·.1)=false:=by rfl) :
 PE X (.Call (.Attribute o name apos) (e::es) [] cpos) (tBM X.K T r to t):=by
 intro pins s σ H Q I h
 refine wpAny_Call_method_late hbase hfew hline rfl (thn (ho pins s σ H _ I h) λv s1 z9=>z9.el λx H1 I1 r1 hq0=>?_)
 obtain⟨ty,q1⟩:=hq0
 obtain⟨h1,h2⟩:=zpq I1 r1 ty
 refine⟨T,id,pa,slot,hty,h1,h2,?_⟩
 have hA:=ha cpos pins s1 σ H1 _ I1 q1
 rw[hs]at hA ⊢
 refine Calls.callWith_builtin (by show(false|| (backTo cpos (starEach es X.env)).any (·.1))=false;rw[hplain]<;>rfl) (Calls.evalArgs_plain ?_)
 exact thn hA λus s2 z9=>z9.el λvs H2 I2 r2 q2=>hm pins s2 σ H2 x vs v us Q I2 r1 r2 q2
/- xs.append(e),list.index on a module's tuple .. are MtR facts of 06m -/
end
noncomputable def MtM(X:Cx)(id:String)(r:V->List V->Hp->VK->Prop):Prop:=
 ∀(pins:List (Addr×Obj))(s:Shared)(σ:St)(H:Hp)(x:V)(xs:List V)(v:Value)(us:List Value)(Q:VK),Inv X pins σ H s->RelV x v->Vals xs us->r x xs H Q->
  wpAny (model X.prog X.w) X.A (call (.builtin id) (v::us)) (EP X pins σ Q) X.xe s
theorem Vals.one:∀{x:V} {us:List Value},Vals [x] us->∃u,us=[u]/\RelV x u
 |_,_,.cons r .nil=>⟨_,rfl,r⟩
theorem Vals.zero:∀{us:List Value},Vals [] us->us=[]
 |_,.nil=>rfl
theorem Vals.reverse{xs:List V}{us:List Value}(h:Vals xs us):Vals xs.reverse us.reverse:=by
 induction h with
 |nil=>exact .nil
 |cons r t ih=>rw[vcs,vcs];exact Vals.append ih (.cons r .nil)
theorem Vals.rep{xs:List V}{us:List Value}(h:Vals xs us):∀k:Nat,Vals (List.replicate k xs).flatten (List.replicate k us).flatten
 |0=>.nil
 |k+1=>by
  rw[vbf,vbf,vcd,vcd]
  exact Vals.append h (Vals.rep h k)
theorem zg1(its:List Value):∀(k:Nat) (acc:List Value),
 List.foldl (λx1 x2=>x1++x2) acc.toArray (List.replicate k its.toArray)=(acc++(List.replicate k its).flatten).toArray
 |0,acc=>by simp
 |k+1,acc=>by
  have e:acc.toArray++its.toArray=(acc++its).toArray:=by simp
  have e2:(acc++its)++(List.replicate k its).flatten=acc++(List.replicate (k+1) its).flatten:=by
   rw[vbf,vcd,List.append_assoc]
  rw[<-e2,<-zg1 its k (acc++its),<-e,vbf,List.foldl_cons]
section
variable{X:Cx}{pins:List (Addr×Obj)}{σ:St}{H:Hp}{s:Shared}{l b:Addr}{xs ys zs:List V}
theorem Inv.lset{its its':List Value}{n:Nat}{f:Array Value->Array Value}{t':Nat}(I:Inv X pins σ H s)(hH:H l=some (.lst xs))
 (e:s.heap.get? l=some {cls:=.type "list",data:=.seq its.toArray n}) (hf:f its.toArray=its'.toArray) (hv:Vals ys its') (hz:ys.length<=sizeLine) :
 Inv X pins σ (upd H l (.lst ys)) {s with heap:=s.heap.update l (Obj.mapSeq f),toks:=t'}:=by
 have q:=PySem.IsL.update e f
 rw[hf]at q
 refine I.write (x:=l) (e:=l) (by rw[hH];exact trivial) (.inl rfl) (λb' u hb hu=>(vbz s.heap (Obj.mapSeq f) (vcq hb)).trans hu) ⟨_,q⟩ ?_
 exact⟨hz,its',_,hv,q⟩
theorem Inv.lnew{its:List Value}{t':Nat}(I:Inv X pins σ H s)(hv:Vals ys its)(hz:ys.length<=sizeLine) :
 Inv X pins σ (upd H s.heap.objs.size (.lst ys)) {s with heap:=s.heap.push {cls:=.type "list",data:=.seq its.toArray},toks:=t'}:=
 I.laid (λ_ _ q=>vad _ q) (vac _) ⟨hz,its,0,hv,va3 _ rfl⟩
theorem Inv.fresh(I:Inv X pins σ H s):H s.heap.objs.size=none:=I.hok.fresh (vac _)
theorem Inv.lstM(I:Inv X pins σ H s)(hH:H l=some (.lst xs)):xs.length<=sizeLine/\∃(its:List Value) (n:Nat),Vals xs its/\xs.length=its.length/\s.heap.get? l=some {cls:=.type "list",data:=.seq its.toArray n}:=by
 obtain⟨z,its,n,r,e⟩:=I.hok l _ hH
 exact⟨z,its,n,r,r.length,e⟩
theorem zir{n:Nat}(h:n<=sizeLine):Builtin.List.listTooLong n=false:=by
 unfold Builtin.List.listTooLong
 exact vbp (by omega)
end
section
variable{X:Cx}
noncomputable def zrb:V->List V->Hp->VK->Prop:=λx vs H Q=>∃l xs y,x=.ref l/\vs=[y]/\H l=some (.lst xs)/\xs.length<sizeLine/\Q .non (upd H l (.lst (xs++[y])))
theorem zef:MtM X "list.append" zrb:=by
 intro pins s σ H x vs v us Q I rx rv h
 obtain⟨l,xs,y,rfl,rfl,hH,hz,q⟩:=h
 cases rx
 obtain⟨u,rfl,ru⟩:=rv.one
 obtain⟨z,its,n,r,hl,e⟩:=I.lstM hH
 refine vdd F.slot_list_append ⟨_,e,rfl⟩ F.entry_list_append (F.args_list_append_2 _ _) (PySem.list_append l its.toArray n u (by rw[vag];omega)) ⟨e,?_⟩
 refine⟨.non,_,I.lset (its':=its++[u]) hH e (by simp) (r.append (.cons ru .nil)) ?_,rfl,q⟩
 rw[vak,vbh]
 omega
noncomputable def zrc:V->List V->Hp->VK->Prop:=λx vs H Q=>∃l b xs zs,x=.ref l/\vs=[.ref b]/\H l=some (.lst xs)/\H b=some (.lst zs)/\xs.length+zs.length<=sizeLine/\Q .non (upd H l (.lst (xs++zs)))
theorem zt6:MtM X "list.extend" zrc:=by
 intro pins s σ H x vs v us Q I rx rv h
 obtain⟨l,b,xs,zs,rfl,rfl,hH,hB,hz,q⟩:=h
 cases rx
 obtain⟨u,rfl,ru⟩:=rv.one
 cases ru
 obtain⟨z,its,n,r,hl,e⟩:=I.lstM hH
 obtain⟨z2,its2,n2,r2,hl2,e2⟩:=I.lstM hB
 have hsz:its.toArray.size+its2.toArray.size<=sizeLine:=by rw[vag,vag];omega
 have hlong:¬(!its.toArray.isEmpty&&Builtin.List.listTooLong (its.toArray.size+its2.toArray.size))=true:=by
  rw[zir hsz,Bool.and_false]
  exact va0
 refine vdd F.slot_list_extend ⟨_,e,rfl⟩ F.entry_list_extend (F.args_list_extend_2 _ _)
  (AutoSeq1.list_extend_list_list_0 l its.toArray n b its2.toArray n2 hlong (by rw[vag];omega) (by omega)) ⟨e,e2,?_⟩
 refine⟨.non,_,I.lset (its':=its++its2) hH e (by simp) (r.append r2) ?_,rfl,q⟩
 rw[vak]
 omega
noncomputable def zn9:V->List V->Hp->VK->Prop:=λx vs H Q=>∃l xs,x=.ref l/\vs=[]/\H l=some (.lst xs)/\Q .non (upd H l (.lst xs.reverse))
noncomputable def rCat:R2:=λx y H Q=>∃l b xs zs,x=.ref l/\y=.ref b/\H l=some (.lst xs)/\H b=some (.lst zs)/\xs.length+zs.length<=sizeLine/\∀p,H p=none->Q (.ref p) (upd H p (.lst (xs++zs)))
theorem zlb:OpR X (binaryOp .Add) rCat:=by
 intro pins s σ H x y v u Q I rx ry h
 obtain⟨l,b,xs,zs,rfl,rfl,hH,hB,hz,q⟩:=h
 cases rx
 cases ry
 obtain⟨z,its,n,r,hl,e⟩:=I.lstM hH
 obtain⟨z2,its2,n2,r2,hl2,e2⟩:=I.lstM hB
 refine PySem.P.add_list e e2 ?_ (by rw[vag,vag];omega)
 have ea:its.toArray++its2.toArray=(its++its2).toArray:=by simp
 rw[ea]
 exact⟨.ref _,_,I.lnew (t':=s.toks) (r.append r2) (by rw[vak];omega),rfl,q _ I.fresh⟩
theorem zlc{α:Type}(xs:List α)(k:Nat):(List.replicate k xs).flatten.length=k*xs.length:=by
 induction k with
 |zero=>simp
 |succ k ih=>rw[vbf,vcd,vak,ih,Nat.succ_mul,Nat.add_comm]
end
end L2
namespace Att
open PySem PySem.W PySem.Calls PyProof.Rows
theorem zeg{P:Params}{h:Heap}:∀(ns:List Int) (vs:List Value),WellAll P h vs (ns.map WData.int)->IntsAre vs ns:=by
 intro ns
 induction ns with
 |nil=>
  intro vs w
  rw[vdb]at w
  cases w
  exact .nil
 |cons n ns ih=>
  intro vs w
  rw[va1]at w
  cases w with
  |cons a b=>
   cases a
   exact .cons _ _ (ih _ b)
theorem zld{l:OpenLaw}{n:Nat}(hn:l.most=some n){P:Params}{h:Heap}{args:List WData}{vals:List Value}
 (hpre:l.row.toRowW.claim.pre args=true) (hwl:WellAll P h vals args) :
 ∃a vs ns,vals=[Value.ref a]/\args=[WData.list (ns.map WData.int)]/\h.get? a=some {cls:=.type "list",data:=.seq vs.toArray}/\IntsAre vs ns/\ns.length<=n:=by
 have hsh:WShape.hasAll [] args [.list .int]=true:=(pre_splitW hpre).1
 have hc:l.pre.holds [] {args:=args}=true:=(pre_splitW hpre).2
 obtain⟨d,r,rfl,h1,h2⟩:=hasAllW_cons hsh
 obtain rfl:=hasAllW_nil h2
 obtain⟨xs,rfl,h3⟩:=hasW_list h1
 obtain⟨ns,rfl⟩:=items_int h3
 have hlen:ns.length<=n:=by
  unfold OpenLaw.pre at hc
  have h4:(WTm.not (.lt (.lit (.int (n:Int))) (.len (.arg 0)))).holds [] {args:=[.list (ns.map .int)]}=true:=by
   have h4:=(holds_andW hc).1
   rw[hn]at h4
   exact h4
  have h5:=condW_of h4 (w_not (w_lt w_lit (w_len_list (w_arg rfl))))
  rw[vai]at h5
  refine Nat.le_of_not_lt λq=>?_
  have q':(n:Int)< ((ns.length:Nat):Int):=by omega
  first
   |(rw[decide_eq_true q']at h5;exact absurd h5 (by decide))
   |(simp at h5;omega)
 cases hwl with
 |cons w1 w2=>
  cases w2
  cases w1 with
  |list ho hall=>exact⟨_,_,ns,rfl,rfl,ho,zeg ns _ hall,hlen⟩
theorem zle(l:OpenLaw)(args:List WData):l.row.toRowW.claim.post args (.bool true) args=true:=
 postW_of (r:=l.row.toRowW) (X:=(true==true))
  (show WShape.has [] (.bool true) .bool=true by first|rfl|decide|simp[WShape.has,WShape.arms,WShape.armsAll])
  (show(WTm.eq .res (.lit (.bool true))).value [] {args:=args,res:=some (.bool true),after:=args}=some (.bool (true==true))from w_eq_bool (w_res rfl) w_lit) rfl
theorem attach_call{l:OpenLaw}{n:Nat}{q:Program}{loose:List Str}{XP:(Str->Option Value)->Heap->Prop}{YP:World->Heap->Prop}{d:DefRec}
 (hn:l.most=some n) (hdf:d.params.defaults=[])
 (call:∀(w:World)(s₀ s₁:Shared)(mg mb:Str->Option Value)(fa:Addr)(o:Obj)(pm cd doc:Value)(a:Addr)(vs:List Value)(ns:List Int),
   Ground q loose [] XP w s₀ mg mb s₁.heap->YP w s₁.heap->
   s₁.heap.get? fa=some o->o.data=.func (docDef d.name d.params d.body d.scope pm cd doc)->s₁.heap.CodeRec cd d.name->mg d.name=some (.ref fa)->
   s₁.heap.get? a=some {cls:=.type "list",data:=.seq vs.toArray}->IntsAre vs ns->ns.length<=n->s₁.gens = #[]->
   codeAny (model l.prog w) callerA (.call (.ref fa) ⟨[.ref a],[]⟩) (λr s'=>r=.ok (.ret (.bool true))/\OldK s₁.heap s'.heap/\s'.os=s₁.os/\AllBare s'.gens) s₁) :
 WalkO q loose XP YP l.row.toRowW d [] (λf vs=>PySem.call f vs):=by
 intro w s₀ s₁ mg mb G Y fa o pm cd doc dV kV ho hd hcd hD hmg hg args vals as hpre hlay hrd hwl hlo
 obtain rfl:dV=.none:=Dflts.none hD hdf
 obtain rfl:kV=.none:=Dflts.noKw hD
 obtain⟨a,vs,ns,rfl,rfl,hobj,hints,hlen⟩:=zld hn hpre hwl
 refine enter_call (vcv (call w s₀ s₁ mg mb fa o pm cd doc a vs ns G Y ho (fd_plain hd) hcd hmg hobj hints hlen hg) λr s' hq=>?_)
 obtain⟨rfl,h2,h3,h4⟩:=hq
 exact⟨.inl ⟨.bool true,.bool true,[],rfl,λ_=>rfl,.bool true,zle l _,λ_=>⟨List.Pairwise.nil,λ_ hm=>(nomatch hm)⟩⟩,h2,h3,h4⟩
end Att
namespace L2
open PySem PySem.Spec PyProof.Rows
theorem zg2:∀{vs:List Value} {ns:List Int},IntsAre vs ns->Vals (ns.map V.int) vs
 |_,_,.nil=>.nil
 |_,_,.cons n t h=>.cons ⟨t,rfl⟩ (zg2 h)
noncomputable def Only(H:Hp):Prop:=∀b,H b=none\/∃o xs,H b=some (.frz o (.lst xs))
theorem zoa{P:Program}{w:World}{K:PySem.W.Frag}{mg mb:Str->Option Value}{CX:CXT}{k:Nat}{fa a:Addr}{fd:FuncData}{x:Str}{sp:Sp}{s₁:Shared}{vs:List Value}{ns:List Int}
 (KX:K.In s₁.heap) (hns:s₁.heap.Ns mainGlobals mg) (hb:s₁.heap.Ns builtinsNs mb) (hbb:∀x:Str,x≠"__name__"->mb x=bootBuiltins x) (hlim:s₁.heap.NoLimit) (hg:s₁.gens = #[])
 (ha:s₁.heap.get? a=some {cls:=.type "list",data:=.seq vs.toArray}) (hi:IntsAre vs ns) (hl:ns.length<=sizeLine) (hr:Room k callerA)
 (F:∀base:Heap,K.In base->base.Ns mainGlobals mg->FnOk P w K mg base CX k fa fd [x] sp) (hbind:∀(s:Shared)(u:Value),BindsTo s fd ⟨[u],[]⟩ [(x,u)])
 (hsp:∀H:Hp,Only H->SqL K H a (ns.map V.int)->sp [.ref a] H (λv _=>v=.bl true) λ_ _ _=>False)
 (hCX:∀H e s',CX [] H s₁ (λ_ _ _=>False) e s'->False) :
 codeAny (model P w) callerA (.call (.ref fa) ⟨[.ref a],[]⟩) (λr s'=>r=.ok (.ret (.bool true))/\OldK s₁.heap s'.heap/\s'.os=s₁.os/\AllBare s'.gens) s₁:=by
 have rv:=zg2 hi
 have lenV:=hi.length
 have core:∀H:Hp,Only H->SqL K H a (ns.map V.int)->HOk P w H s₁.heap->(∀b,H b≠none->b=a)->(H a≠none->K.lookup a=none)->
  codeAny (model P w) callerA (.call (.ref fa) ⟨[.ref a],[]⟩) (λr s'=>r=.ok (.ret (.bool true))/\OldK s₁.heap s'.heap/\s'.os=s₁.os/\AllBare s'.gens) s₁:=by
  intro H hO hS hok hA hK
  have base_of:∀{b:Addr}{o:Obj},s₁.heap.get? b=some o->H b=none->(hidT s₁.heap H).get? b=some o:=λe n=>znt e n
  have noA:∀{b:Addr}{o:Obj}{es:Array DictEntry}{ep:Nat},s₁.heap.get? b=some o->o.data=.dict es ep->H b=none:=λ{b o es ep} e d=>by
   cases q:H b with
   |none=>rfl
   |some u=>
    have e':b=a:=hA b (by rw[q];simp)
    subst e'
    rw[ha]at e;cases e
    have d':Data.seq vs.toArray _=Data.dict es ep:=d
    cases d'
  have nsK:∀{b:Addr}{m:Str->Option Value},s₁.heap.Ns b m->(hidT s₁.heap H).Ns b m:=λ{b m}⟨o,es,ep,e,d,r⟩=>⟨o,es,ep,base_of e (noA e d),d,r⟩
  have hKb:K.In (hidT s₁.heap H):=λb o e=>base_of (KX b o e) (by
   cases q:H b with
   |none=>rfl
   |some u=>
    have e':b=a:=hA b (by rw[q];simp)
    subst e'
    rw[hK (by rw[q];simp)]at e;cases e)
  have hM:Mod K mg (hidT s₁.heap H):=⟨hKb,nsK hns,⟨mb,nsK hb,hbb⟩,let⟨mc,h1,h2⟩:=hlim;⟨mc,nsK h1,h2⟩⟩
  have e0:Env0 P w K mg (hidT s₁.heap H) callerA [] s₁ H:=⟨rfl,hM,λb o e=>zqx e,Nat.le_of_eq (zkl _ _),trivial,λb hb=>absurd (show b∈([]:List Addr)from hb) (by simp),hok,.of_eq hg⟩
  refine vcv ((F _ hKb (nsK hns)).run callerA [] s₁ H ⟨[.ref a],[]⟩ [.ref a] [.ref a] _ _ hr e0 (hbind s₁ (.ref a)) (.cons rfl .nil) (hsp H hO hS)) λr s' h=>?_
  cases r with
  |error e=>exact(hCX H e s' h).elim
  |ok fl=>
   cases fl with
   |next=>exact False.elim h
   |brk=>exact False.elim h
   |cont=>exact False.elim h
   |ret u=>
    obtain⟨v,H',os,bare,un,hok',r',q⟩:=h
    have q':v=.bl true:=q
    subst q'
    obtain rfl:u=Value.bool true:=r'
    refine⟨rfl,OldK.of_keep λb o e=>?_,os,bare⟩
    cases q:H b with
    |none=>exact un.keep b o e q (by intro z;exact absurd (show b∈([]:List Addr)from z) (by simp)) (by simp)
    |some u=>
     rcases hO b with z|⟨ob,xs,z⟩
     .rw[q]at z;cases z
     .have z2:=un.frzs b ob _ z
      obtain⟨e1,_⟩:=hok b _ z
      obtain⟨e2,_⟩:=hok' b _ z2
      rw[e]at e1;cases e1
      exact e2
 cases hk:K.lookup a with
 |some o=>
  have e:=KX a o hk
  rw[ha]at e
  cases e
  refine core (λ_=>none) (λ_=>.inl rfl) (.inr ⟨_,vs.toArray,_,hk,rfl,rfl,rfl,by rw[vag,lenV];exact hl,by simpa using rv⟩) (λb u z=>by have z':(none:Option HO)=some u:=z;cases z') (λb z=>absurd rfl z) λz=>absurd rfl z
 |none=>
  refine core (λb=>if b=a then some (.frz {cls:=.type "list",data:=.seq vs.toArray} (.lst (ns.map V.int)))else none) (λb=>?_) (.inl (.inr ⟨{cls:=.type "list",data:=.seq vs.toArray},if_pos rfl⟩)) (λb u z=>?_) (λb z=>?_) λ_=>hk
  .by_cases hb:b=a
   .exact .inr ⟨_,_,if_pos hb⟩
   .exact .inl (if_neg hb)
  .by_cases hb:b=a
   .have z':=(if_pos hb).symm.trans z
    cases z'
    subst hb
    exact⟨ha,by rw[vai];exact hl,vs,_,rv,ha⟩
   .have z':=(if_neg hb).symm.trans z
    cases z'
  .by_cases hb:b=a
   .exact hb
   .exact absurd (if_neg hb) z
theorem zrd{l:PySem.W.OpenLaw}{n k:Nat}{q:Program}{loose:List Str}{XP:(Str->Option Value)->Heap->Prop}{YP:World->Heap->Prop}{d:DefRec}{K:Params->PySem.W.Frag}{CX:World->CXT}{sp:World->Sp}{x:Str}
 (hn:l.most=some n) (hn2:n<=sizeLine) (hdf:d.params.defaults=[]) (hr:Room k callerA)
 (hY:∀(w:World)(h:Heap),YP w h->(K w.params).In h)
 (F:∀(w:World)(mg:Str->Option Value)(fa:Addr)(h:Heap),(K w.params).In h->h.Ns mainGlobals mg->mg d.name=some (.ref fa)->
   ∃fd:FuncData,(∀(s:Shared)(u:Value),BindsTo s fd ⟨[u],[]⟩ [(x,u)])/\
    ∀base:Heap,(K w.params).In base->base.Ns mainGlobals mg->FnOk l.prog w (K w.params) mg base (CX w) k fa fd [x] (sp w))
 (hsp:∀(w:World)(H:Hp)(a:Addr)(ns:List Int),ns.length<=n->Only H->SqL (K w.params) H a (ns.map V.int)->sp w [.ref a] H (λv _=>v=.bl true) λ_ _ _=>False)
 (hCX:∀(w:World)(H:Hp)(s:Shared)(e:Value)(s':Shared),CX w [] H s (λ_ _ _=>False) e s'->False) :
 PySem.W.WalkO q loose XP YP l.row.toRowW d [] (λf vs=>PySem.call f vs):=by
 refine Att.attach_call hn hdf λw s₀ s₁ mg mb fa o pm cd doc a vs ns G Y ho hd hcd hmg hobj hints hlen hg=>?_
 have KX:=hY w _ Y
 obtain⟨fd,hb,hF⟩:=F w mg fa _ KX G.T.g hmg
 exact zoa KX G.T.g G.T.b G.T.builtins G.T.nolimit hg hobj hints (vap hlen hn2) hr hF hb (λH hO hS=>hsp w H a ns hlen hO hS) λH e s'=>hCX w H s₁ e s'
noncomputable def zre(s:Stmt):Arguments:=match s with
 |.FunctionDef _ a _ _ _ _ _ _ _ _=>a
 |_=>{posonlyargs:=[],args:=[],vararg:=none,kwonlyargs:=[],kw_defaults:=[],kwarg:=none,defaults:=[]}
noncomputable def zc4(s:Stmt):List Stmt:=match s with
 |.FunctionDef _ _ b _ _ _ _ _ _ _=>b
 |_=>[]
noncomputable def zam(s:Stmt):Scope:=match s with
 |.FunctionDef _ _ _ _ _ _ sc _ _ _=>sc
 |_=>{kind:=.function,names:=[],isGenerator:=false,isCoroutine:=false}
noncomputable abbrev CX0:CXT:=λ_ _ _ _ _ _=>False
noncomputable abbrev E0:XK:=λ_ _ _=>False
theorem pass0{X:Cx}:ze2 CX0 X E0:=λ_ _ _ _ _ _ _ h=>h.elim
theorem zeh{n:Nat}(h:n<=1000):n<sizeLine:=vbi h (by decide)
theorem iteF{A B:Prop}(h:B):if false=true then A else B:=by
 rw[if_neg va0]
 exact h
theorem iteT{A B:Prop}(h:A):if true=true then A else B:=by
 rw[if_pos rfl]
 exact h
noncomputable def zb7(cells:List (Str×Addr)):List (Str×NameKind)->List (Str×Addr)->List (Str×Addr)
 |[],cs=>cs
 |(n,k)::r,cs=>zb7 cells r (if k == .free then(match cells.lookup n with|some c=>(n,c)::cs|none=>cs)else cs)
theorem zbh{scope:Scope}{env:Env}(hf:∀y∈scope.names,y.2=.free->∃c,env.cells.lookup y.1=some c):closureFor scope env=pure (zb7 env.cells scope.names []):=by
 have go:∀(l:List (Str×NameKind))(cs:List (Str×Addr)),(∀y∈l,y.2=.free->∃c,env.cells.lookup y.1=some c)->
  (forIn l cs λ(x:Str×NameKind)(r:List (Str×Addr))=>(match x with
    |(name,kind)=>if(kind==NameKind.free)=true then(do let a <-cellOf env name;pure (ForInStep.yield ((name,a)::r)))else pure (ForInStep.yield r):Sem (ForInStep (List (Str×Addr)))))=(pure (zb7 env.cells l cs):Sem (List (Str×Addr))):=by
  intro l
  induction l with
  |nil=>intro cs _;rfl
  |cons x r ih=>
   intro cs h
   obtain⟨n,k⟩:=x
   rw[List.forIn_cons]
   by_cases hk:(k==NameKind.free)=true
   .have hk':k=.free:=by simpa using hk
    obtain⟨c,hc⟩:=h (n,k) vaw hk'
    have hc':env.cells.lookup n=some c:=hc
    simp only[hk,vbd,cellOf,hc',zb7]
    exact ih _ λy hy=>h y (vao _ hy)
   .have hk':(k==NameKind.free)=false:=by simpa using hk
    simp only[hk',vah,vbe,zb7]
    exact ih _ λy hy=>h y (vao _ hy)
 have e:=go scope.names [] hf
 unfold closureFor
 refine Eq.trans (vdn (λt=>t >>= λcs=>pure cs) e) ?_
 rfl
theorem ze4{cells:List (Str×Addr)}:∀(l:List (Str×NameKind)) (cs:List (Str×Addr)),(∀x c,cs.lookup x=some c->cells.lookup x=some c)->∀x c,(zb7 cells l cs).lookup x=some c->cells.lookup x=some c
 |[],cs,h=>h
 |(n,k)::r,cs,h=>ze4 r _ λx c e=>by
  by_cases hk:(k==NameKind.free)=true
  .simp only[hk,vbd]at e
   cases hc:cells.lookup n with
   |none=>rw[hc]at e;exact h x c e
   |some d=>
    rw[hc]at e
    simp only[vaz]at e
    by_cases hx:(x==n)=true
    .simp only[hx]at e
     cases e
     rw[show x=n by simpa using hx];exact hc
    .have hx':(x==n)=false:=by simpa using hx
     simp only[hx']at e
     exact h x c e
  .have hk':(k==NameKind.free)=false:=by simpa using hk
   simp only[hk',vah,vbe]at e
   exact h x c e
theorem zei{cells:List (Str×Addr)}{x:Str}{c:Addr}(hc:cells.lookup x=some c):∀(l:List (Str×NameKind)) (cs:List (Str×Addr)),cs.lookup x=some c->(zb7 cells l cs).lookup x=some c
 |[],cs,h=>h
 |(n,k)::r,cs,h=>zei hc r _ (by
  by_cases hk:(k==NameKind.free)=true
  .simp only[hk,vbd]
   cases hn:cells.lookup n with
   |none=>exact h
   |some d=>
    simp only[vaz]
    by_cases hx:(x==n)=true
    .have:x=n:=by simpa using hx
     subst this
     rw[hc]at hn;cases hn
     simp
    .have hx':(x==n)=false:=by simpa using hx
     simp only[hx'];exact h
  .have hk':(k==NameKind.free)=false:=by simpa using hk
   simp only[hk',vah,vbe]
   exact h)
theorem zc5{cells:List (Str×Addr)}{x:Str}{c:Addr}(hc:cells.lookup x=some c):∀(l:List (Str×NameKind)) (cs:List (Str×Addr)),(x,NameKind.free)∈l->(zb7 cells l cs).lookup x=some c
 |[],cs,h=>by cases h
 |(n,k)::r,cs,h=>by
  rcases vat.mp h with e|e
  .cases e
   refine zei hc r _ ?_
   rw[hc]
   simp[vaz]
  .exact zc5 hc r _ e
noncomputable abbrev Cx.comp(X:Cx)(N:List Str)(scope:Scope)(C:Addr)(s₀:Shared)(H₀:Hp)(ex:List Addr):Cx:=
 {X with N:=N,s₀:=s₀,H₀:=H₀,env:=compEnvC scope (zb7 X.env.cells scope.names []) C X.env,outer:=X.stack,stack:=X.stack,ex:=ex,fn:=λ_=>false,pn:=[],xe:=λ_ _=>False}
structure CompScope(X:Cx)(ow fr:List Str)(ix:List Nat)(scope:Scope):Prop where
 kind:scope.kind=.function
 nocell:∀y∈scope.names,y.2≠.cell
 names:∀y∈scope.names,y.2=.local->scope.names.lookup y.1=some .local
 own:∀x∈ow,scope.names.lookup x=some .local
 free:∀y∈scope.names,y.2=.free->X.env.kindOf y.1=some .cell\/X.env.kindOf y.1=some .free
 at_:∀(k:Nat)(x:Str),fr[k]?=some x->∃j,ix[k]?=some j/\X.N[j]?=some x/\scope.names.lookup x=some .free
 len:ix.length=fr.length
noncomputable def cσ(ow fr:List Str)(ix:List Nat)(σ:St):St:=ow.map (λ_=>none)++ix.map λj=>(σ[j]?).join
theorem ze5{x:Str}{k:NameKind}:∀{l:List (Str×NameKind)},l.lookup x=some k->(x,k)∈l
 |[],h=>by cases h
 |(n,j)::r,h=>by
  simp only[vaz]at h
  by_cases hx:(x==n)=true
  .simp only[hx]at h
   cases h
   rw[show x=n by simpa using hx];exact vaw
  .have hx':(x==n)=false:=by simpa using hx
   simp only[hx']at h
   exact vao _ (ze5 h)
theorem zca{env:Env}:∀{l:List (Str×NameKind)} {x:Str} {k:NameKind},
 (l.map λ(n,k)=>if(k==NameKind.free&&env.scope.kind == .function&&env.kindOf n==some .cell)then(n,NameKind.cell)else(n,k)).lookup x=some k->k≠.local->(∀y∈l,y.2≠.cell)->k=.cell\/k=.free->(x,NameKind.free)∈l
 |[],x,k,h,_,_,_=>by cases h
 |(n,j)::r,x,k,h,hk,hc,hh=>by
  have ih:=@zca env r x k
  rw[va1]at h
  by_cases hc':(j==NameKind.free&&env.scope.kind == .function&&env.kindOf n==some .cell)=true
  .simp only[hc',vbd,vaz]at h
   have hj:j=.free:=by
    simp only[vaa,vcc]at hc'
    exact hc'.1.1
   by_cases hx:(x==n)=true
   .rw[show x=n by simpa using hx,hj];exact vaw
   .have hx':(x==n)=false:=by simpa using hx
    simp only[hx']at h
    exact vao _ (ih h hk (λy hy=>hc y (vao _ hy)) hh)
  .have hcf:(j==NameKind.free&&env.scope.kind == .function&&env.kindOf n==some .cell)=false:=by simpa using hc'
   simp only[hcf,vah,vbe,vaz]at h
   by_cases hx:(x==n)=true
   .simp only[hx]at h
    cases h
    rcases hh with z|z
    .exact absurd z (hc _ vaw)
    .rw[show x=n by simpa using hx,z];exact vaw
   .have hx':(x==n)=false:=by simpa using hx
    simp only[hx']at h
    exact vao _ (ih h hk (λy hy=>hc y (vao _ hy)) hh)
theorem zbr{env:Env}(hkf:env.scope.kind=.function):∀{l:List (Str×NameKind)} {x:Str},l.lookup x=some .free->
 (l.map λ(n,k)=>if(k==NameKind.free&&env.scope.kind == .function&&env.kindOf n==some .cell)then(n,NameKind.cell)else(n,k)).lookup x=some (if env.kindOf x=some .cell then .cell else .free)
 |[],x,h=>by cases h
 |(n,j)::r,x,h=>by
  have ih:=@zbr env hkf r x
  rw[va1]
  simp only[vaz]at h
  by_cases hx:(x==n)=true
  .simp only[hx]at h
   cases h
   have e:x=n:=by simpa using hx
   subst e
   by_cases hq:env.kindOf x=some .cell
   .simp[hkf,hq,vaz]
   .simp[hq,vaz]
  .have hx':(x==n)=false:=by simpa using hx
   simp only[hx']at h
   by_cases hc':(j==NameKind.free&&env.scope.kind == .function&&env.kindOf n==some .cell)=true
   .simp only[hc',vbd,vaz,hx'];exact ih h
   .have hcf:(j==NameKind.free&&env.scope.kind == .function&&env.kindOf n==some .cell)=false:=by simpa using hc'
    simp only[hcf,vah,vbe,vaz,hx'];exact ih h
section
variable{X:Cx}{pins:List (Addr×Obj)}{σ:St}{H:Hp}{s:Shared}{ow fr:List Str}{ix:List Nat}{scope:Scope}{fp:List Addr}
theorem zis(S:CompScope X ow fr ix scope)(I:Inv X pins σ H s)(hfp:∀b∈fp,FpOk X pins H b)(hlt:∀b∈fp,b<s.heap.objs.size){h':Heap}{tk:Nat}{m:Str->Option Value}(hn:h'.Ns s.heap.objs.size m)(hk:∀b o,s.heap.get? b=some o->h'.get? b=some o) :
 Inv (X.comp (ow++fr) scope s.heap.objs.size s H fp) [] (cσ ow fr ix σ) H {s with heap:=h',toks:=tk}:=by
 have sub:=ze4 (cells:=X.env.cells) scope.names [] (λx c e=>by cases e)
 have kf:=I.ok.kind
 have ncell:∀x c,X.env.cells.lookup x=some c->c≠s.heap.objs.size:=λx c e z=>by
  obtain⟨v,q⟩:=I.cell x c e
  exact absurd q.lt (by rw[z];exact vcf _)
 have hasC:∀x,(x,NameKind.free)∈scope.names->∃c,(zb7 X.env.cells scope.names []).lookup x=some c/\X.env.cells.lookup x=some c:=λx hx=>by
  obtain⟨c,hc⟩:=I.ok.has x (S.free _ hx rfl)
  exact⟨c,zc5 hc _ _ hx,hc⟩
 refine⟨⟨I.ok.mod,?_,I.ok.glob,I.ok.blt,vac _,λx y c a b=>I.ok.inj x y c (sub x c a) (sub y c b),λx hx=>?_,λx c e=>?_,I.ok.hd,I.ok.frames,.inl rfl,λb hb=>?_,λb o e=>?_,?_,λb o e hb=>?_,λb hb hz=>?_,I.stack,λb hb=>I.stkFree b hb⟩,
  rfl,I.bare,Un.kept hk,⟨m,hn,λi x v e1 e2 e3=>?_⟩,λx c e=>?_,I.hok.fresh (vac _),λx c e=>I.freeC x c (sub x c e),λp hp=>?_,I.hok.kept hk,?_⟩
 .exact S.kind
 .have hx':(relabel scope X.env).names.lookup x=some .cell\/(relabel scope X.env).names.lookup x=some .free:=hx
  have hm:(x,NameKind.free)∈scope.names:=by
   rcases hx' with z|z
   .exact zca (env:=X.env) z (by decide) S.nocell (.inl rfl)
   .exact zca (env:=X.env) z (by decide) S.nocell (.inr rfl)
  obtain⟨c,hc,_⟩:=hasC x hm
  exact⟨c,hc⟩
 .cases e
 .obtain⟨f0,f1,f2,f3,f4,f5⟩:=hfp b hb
  refine⟨λz=>?_,λx c e=>f4 x c (sub x c e)⟩
  have q:=hlt b hb
  rw[z]at q
  exact absurd q (vcf _)
 .exact⟨(I.bs b o e).1,(I.bs b o e).2⟩
 .exact vap I.ok.bsz I.sz
 .obtain⟨f0,f1,f2,f3,f4,f5⟩:=hfp b hb
  rcases f3 with z|z
  .exact I.ok.noex b o e z
  .exact absurd (vae (vaj (I.ok.bs b o e).1) z) (vcf _)
 .obtain⟨f0,f1,f2,f3,f4,f5⟩:=hfp b hb
  rcases vat.mp (I.stkSub b hz)with z|z
  .exact f1 z
  .exact f2 z
 .have hlen:ow.length<=i:=by
   by_cases hi:i<ow.length
   .unfold cσ at e2
    rw[vb1 (by simpa using hi),vb3]at e2
    cases q:ow[i]? with
    |none=>rw[q]at e2;cases e2
    |some y=>rw[q]at e2;cases e2
   .omega
  have e1':fr[i-ow.length]?=some x:=by
   have e1:(ow++fr)[i]?=some x:=e1
   rw[vbm hlen]at e1
   exact e1
  have e2':(ix.map λj=>(σ[j]?).join)[i-ow.length]?=some (some v):=by
   unfold cσ at e2
   rw[vbm (by simpa using hlen)]at e2
   simpa using e2
  obtain⟨j,hj,hN,hl⟩:=S.at_ _ _ e1'
  rw[vb3,hj]at e2'
  have e2'':(σ[j]?).join=some v:=vb0 e2'
  have hσ:σ[j]?=some (some v):=by
   cases q:σ[j]? with
   |none=>rw[q]at e2'';cases e2''
   |some o=>rw[q]at e2'';cases o with
    |none=>cases e2''
    |some w=>cases e2'';rfl
  obtain⟨m0,hm0,hl0⟩:=I.loc
  have hmem:=ze5 hl
  have hkf:=S.free _ hmem rfl
  have hvis:Vis X.env.scope x:=hkf.elim (λz=>.inr (.inl z)) λz=>.inr (.inr z)
  obtain⟨u,ru,lk⟩:=hl0 j x v hN hσ hvis
  refine⟨u,ru,.inr ?_⟩
  have hcell:∃c,X.env.cells.lookup x=some c/\s.heap.IsCell c (some u):=by
   rcases lk with⟨z,_⟩|⟨_,c,e,z⟩
   .rcases hkf with q|q
    .rw[show X.env.kindOf x=some .local from z]at q;cases q
    .rw[show X.env.kindOf x=some .local from z]at q;cases q
   .exact⟨c,e,z⟩
  obtain⟨c,hc,o,ho,hd⟩:=hcell
  refine⟨?_,c,zc5 hc _ _ hmem,o,hk _ _ ho,hd⟩
  show(relabel scope X.env).names.lookup x=some .cell\/(relabel scope X.env).names.lookup x=some .free
  have q:=zbr (env:=X.env) kf hl
  by_cases z:X.env.kindOf x=some .cell
  .rw[if_pos z]at q;exact .inl q
  .rw[if_neg z]at q;exact .inr q
 .obtain⟨v,q⟩:=I.cell x c (sub x c e)
  obtain⟨o,ho,hd⟩:=q
  exact⟨v,o,hk _ _ ho,hd⟩
 .cases(show p∈([]:List (Addr×Obj))from hp)
 .show(cσ ow fr ix σ).length=(ow++fr).length
  unfold cσ
  rw[vak,vai,vai,vak,S.len]
end
theorem zej{α:Type}{M:Model}{A:Around}{t:Sem α}{Q:α->Shared->Prop}{E:Value->Shared->Prop}{s:Shared}(h:wpAny M A t Q (λ_ _=>False) s):wpAny M A t Q E s:=vav h (λ_ _ q=>q) λ_ _ z=>z.elim
noncomputable abbrev noX:Value->Shared->Prop:=λ_ _=>False
noncomputable abbrev zc6(ifs:List Expr)(env:Env):Sem Bool:=forIn ifs true λc r=>if r=true then do let ok <-isTrue c env (eval c env);pure (ForInStep.yield ok)else pure (ForInStep.yield r)
theorem zcm{prog:Program}{w:World}{A:Around}{R:Result->Shared->Prop}{s:Shared}{elt target iter:Expr}{ifs:List Expr}{scope:Scope}{pos:Pos}{it acc:Value}{env:Env}(I:Nat->Shared->Prop)
 (turn:∀n s,I n s->wpAny (model prog w) A (pyNext it) (λr s₁=>match r with
   |none=>R (.ok .next) s₁
   |some v=>wpAny (model prog w) A (letOwnedTupleGo target it v) (λ_ s₀=>wpAny (model prog w) A (assign target env v) (λ_ s₂=>
    wpAny (model prog w) A (zc6 ifs env) (λok s₃=>
     if ok=true then wpAny (model prog w) A (eval elt env) (λx s₄=>
      wpAny (model prog w) A (call (.builtin "list.append") [acc,x]) (λ_ s₅=>∃m,m<n/\I m s₅) noX s₄) noX s₃
     else ∃m,m<n/\I m s₃) noX s₂) noX s₀) noX s₁) noX s)
 (n:Nat) (h:I n s) :
 codeAny (model prog w) A (.compLoop (.ListComp elt [⟨target,iter,ifs,0⟩] scope pos) 0 it acc env) R s:=by
 refine codeAny_loop rfl I (λn s hI=>?_) n h
 show wpAny _ A ((compTurn (.ListComp elt [⟨target,iter,ifs,0⟩] scope pos) 0 it acc env).onRaise (λx=>do noteFrame x env;theTreesLotGoes x)) _ _ s
 refine wpAny_noted (zej ?_)
 rw[compTurn_list]
 refine vab (va4 (vab (vav (turn n s hI) (λr s₁ h₁=>?_) λ_ _ h'=>h')))
 cases r with
 |none=>exact vaf h₁
 |some v=>
  refine vab (vav h₁ (λ_ s₀ h₀=>?_) λ_ _ h'=>h')
  refine vab (vav h₀ (λ_ s₂ h₂=>vab (vav h₂ (λok s₃ h₃=>?_) λ_ _ h'=>h')) λ_ _ h'=>h')
  cases ok with
  |true=>
   simp only[vbd]at h₃ ⊢
   exact vab (vab (vav h₃ (λx s₄ h₄=>vab (vav h₄ (λ_ s₅ h₅=>vaf (vaf ⟨rfl,h₅⟩)) λ_ _ h'=>h')) λ_ _ h'=>h'))
  |false=>
   simp only[vah,vbe]at h₃ ⊢
   exact vaf ⟨rfl,h₃⟩
noncomputable def PTs(X:Cx)(ifs:List Expr)(t:TT):Prop:=
 ∀(pins:List (Addr×Obj))(s:Shared)(σ:St)(H:Hp)(Q:Bool->Hp->Prop),Inv X pins σ H s->t σ H Q->wpAny (model X.prog X.w) X.A (zc6 ifs X.env) (TP X pins σ Q) X.xe s
noncomputable def tYes:TT:=λ_ H Q=>Q true H
theorem zrf{X:Cx}:PTs X [] tYes:=λpins s σ H Q I h=>wpAny_tests_nil ⟨H,I,h⟩
theorem zrg{X:Cx}{c:Expr}{t:TT}(h:PT X c t):PTs X [c] t:=λpins s σ H Q I q=>wpAny_tests_one (h pins s σ H Q I q)
noncomputable def tLC(K:PySem.W.Frag)(f:St->St)(wi:TI)(g:TG)(tc:TT)(te:TE):TE:=λσ H Q=>wi σ H λJ H1=>∀D,H1 D=none->K.lookup D=none->
 ∃W:Nat->Nat->St->Hp->List V->Prop,(∃m,W 0 m (f σ) (upd H1 D (.lst [])) [])/\∀i m σ' H' ys,W i m σ' H' ys->H' D=some (.lst ys)/\
  ((J.stop i H'/\Q (.ref D) H')\/(J.go i H'/\∀x H2,J.yld i H' x H2->g x σ' H2 λσ2 H3=>tc σ2 H3 λb H4=>
    if b=true then te σ2 H4 λy H5=>H5 D=some (.lst ys)/\ys.length<sizeLine/\∃m',m'<m/\W (i+1) m' σ2 (upd H5 D (.lst (ys++[y]))) (ys++[y])
    else ∃m',m'<m/\W (i+1) m' σ2 H4 ys))
section
variable{X:Cx}{ow fr:List Str}{ix:List Nat}{scope:Scope}{tg iter elt:Expr}{ifs:List Expr}{pos:Pos}{wi:TI}{g:TG}{tc:TT}{te:TE}
theorem ze6{pins:List (Addr×Obj)}{s:Shared}{σ:St}{Q:VK}{RR:Value->Addr->Result->Shared->Prop}(S:CompScope X ow fr ix scope)(hc:X.calm=true)
 (hg:∀C s₀ H₀ ex,PG (X.comp (ow++fr) scope C s₀ H₀ ex) tg g) (ht:∀C s₀ H₀ ex,PTs (X.comp (ow++fr) scope C s₀ H₀ ex) ifs tc) (he:∀C s₀ H₀ ex,PE (X.comp (ow++fr) scope C s₀ H₀ ex) elt te)
 {itv:Value} {E:Value->Shared->Prop}
 (h:PIE X pins σ tg (λJ H1=>∀D,H1 D=none->X.K.lookup D=none->
   ∃W:Nat->Nat->St->Hp->List V->Prop,(∃m,W 0 m (cσ ow fr ix σ) (upd H1 D (.lst [])) [])/\∀i m σ' H' ys,W i m σ' H' ys->H' D=some (.lst ys)/\
    ((J.stop i H'/\Q (.ref D) H')\/(J.go i H'/\∀x H2,J.yld i H' x H2->g x σ' H2 λσ2 H3=>tc σ2 H3 λb H4=>
      if b=true then te σ2 H4 λy H5=>H5 D=some (.lst ys)/\ys.length<sizeLine/\∃m',m'<m/\W (i+1) m' σ2 (upd H5 D (.lst (ys++[y]))) (ys++[y])
      else ∃m',m'<m/\W (i+1) m' σ2 H4 ys))) itv s)
 (fin:∀D C H' s' m,FpOk X pins H' C->s'.heap.Ns C m->(∀h'',Heap.SameBut C s'.heap h''->Inv X pins σ H' {s' with heap:=h''})->Q (.ref D) H'->RR (.ref D) C (.ok .next) s') :
 wpAny (model X.prog X.w) X.A (newList []) (λacc s₃=>wpAny (model X.prog X.w) X.A (newFunctionEnv scope X.env.globals (zb7 X.env.cells scope.names []) [] X.env.qual none .none (some X.env)) (λcenv s₄=>
  codeAny (model X.prog X.w) X.A (.compStart (.ListComp elt [⟨tg,iter,ifs,0⟩] scope pos) 0 itv acc {cenv with scope:=relabel scope X.env}) (RR acc cenv.locals) s₄) E s₃) E s:=by
 obtain⟨it,fp,tn,J,H1,e,I1,T,st1,f1,hq⟩:=h
 subst e
 have hD:H1 s.heap.objs.size=none:=I1.hok.fresh (vac _)
 have hKD:X.K.lookup s.heap.objs.size=none:=by
  cases e:X.K.lookup s.heap.objs.size with
  |none=>rfl
  |some o=>exact absurd (vaj (I1.kIn _ _ e)) (vcf _)
 obtain⟨W,⟨m0,w0⟩,turn⟩:=hq _ hD hKD
 have I3:Inv X pins σ (upd H1 s.heap.objs.size (.lst [])) {s with heap:=s.heap.push {cls:=.type "list",dict:=none,data:=.seq ([]:List Value).toArray}}:=
  I1.laid (t':=s.toks) (o:=.lst []) (λb u q=>vad _ q) (vac _) ⟨va9 _,[],0,.nil,va3 _ rfl⟩
 have hlt1:∀b∈fp,b<s.heap.objs.size:=λb hb=>by
  obtain⟨o,ho,_⟩:=T.obj _ _ st1 b hb
  exact vaj ho
 have f3:∀b∈fp,FpOk X pins (upd H1 s.heap.objs.size (.lst [])) b:=λb hb=>⟨by rw[zaf (vau (hlt1 b hb))];exact(f1 b hb).1,(f1 b hb).2⟩
 refine vb4 (wpAny_newFunctionEnv S.nocell (by intro y hy;simp at hy) (λh₁ hns hsb=>?_) S.kind)
 dsimp only at hns hsb ⊢
 generalize hS3:({s with heap:=s.heap.push {cls:=.type "list",dict:=none,data:=.seq ([]:List Value).toArray}}:Shared)=s3 at I3
 have hh3:s3.heap=s.heap.push {cls:=.type "list",dict:=none,data:=.seq ([]:List Value).toArray}:=by rw[<-hS3]
 rw[<-hh3]at hns hsb ⊢
 have hk:∀b o,s3.heap.get? b=some o->h₁.get? b=some o:=λb o e=>hsb.extBut b o (vau (vaj e)) (vad _ e)
 have hlt3:∀b∈fp,b<s3.heap.objs.size:=λb hb=>by rw[hh3,vc6];exact vba (hlt1 b hb)
 have J3:=zis S I3 f3 hlt3 (tk:=s.toks) hns hk
 have st3:tn 0 h₁:=T.keep _ _ _ st1 λb hb o e=>hk b o (by rw[hh3];exact vad _ e)
 have ex3:∀b∈fp,(X.comp (ow++fr) scope s3.heap.objs.size s3 (upd H1 s.heap.objs.size (.lst [])) fp).Ok->∀{H':Hp},H' b=none->FpOk (X.comp (ow++fr) scope s3.heap.objs.size s3 (upd H1 s.heap.objs.size (.lst [])) fp) [] H' b:=λb hb ok H' hn=>
  ⟨hn,(ok.exf b hb).1,ok.exfs b hb,.inl hb,(ok.exf b hb).2,λp hp=>by cases(show p∈([]:List (Addr×Obj))from hp)⟩
 have back:∀{σ':St}{H':Hp}{s':Shared},Inv (X.comp (ow++fr) scope s3.heap.objs.size s3 (upd H1 s.heap.objs.size (.lst [])) fp) [] σ' H' s'->∀h'',Heap.SameBut s3.heap.objs.size s'.heap h''->Inv X pins σ H' {s' with heap:=h''}:=λ{σ' H' s'} I' h'' hs=>by
  have neC:∀b o,s3.heap.get? b=some o->b≠s3.heap.objs.size:=λb o e=>vau (vaj e)
  have un:Un (frs X.stack) fp (upd H1 s.heap.objs.size (.lst [])) H' s3.heap h'':=
   ⟨λb o e n hb hx=>(hs.2 b (neC b o e)).trans (I'.base.keep b o e n hb hx),λb o e n hb hx=>by
    obtain⟨sl,q⟩:=I'.base.slot b o e n hb hx
    exact⟨sl,(hs.2 b (neC b o e)).trans q⟩,I'.base.free,λb o e hx=>by
    obtain⟨o',q⟩:=I'.base.there b o e hx
    exact⟨o',(hs.2 b (neC b o e)).trans q⟩,I'.base.tups,I'.base.frzs,I'.base.tbls⟩
  have hok:HOk X.prog X.w H' h'':=λb ob e=>by
   refine(I'.hok b ob e).stay (λc w' hcc q=>(hs.2 c ?_).trans q) (λ_ q=>q) λ_ _ q=>q
   rintro rfl
   have hfree:=I'.free
   rcases hcc with rfl|hcc
   .rw[show H' s3.heap.objs.size=none from hfree]at e;cases e
   .rw[show H' s3.heap.objs.size=none from hfree]at hcc;cases hcc
  have hos:s'.os=s3.os:=I'.os
  exact I3.call' (s':={s' with heap:=h''}) (ch:=fp) hos un hok I'.bare λb hb=>by
   obtain⟨_,a1,a2,a3,a4,a5⟩:=f1 b hb
   exact⟨a3,a1,a4,a5⟩
 have loop:∀s4:Shared,Inv (X.comp (ow++fr) scope s3.heap.objs.size s3 (upd H1 s.heap.objs.size (.lst [])) fp) [] (cσ ow fr ix σ) (upd H1 s.heap.objs.size (.lst [])) s4->tn 0 s4.heap->
  codeAny (model X.prog X.w) X.A (.compLoop (.ListComp elt [⟨tg,iter,ifs,0⟩] scope pos) 0 (.ref it) (.ref s.heap.objs.size) (X.comp (ow++fr) scope s3.heap.objs.size s3 (upd H1 s.heap.objs.size (.lst [])) fp).env)
   (RR (.ref s.heap.objs.size) s3.heap.objs.size) s4:=by
  intro s4 I4 st4
  refine zcm (λn s'=>∃i σ' H' ys,Inv (X.comp (ow++fr) scope s3.heap.objs.size s3 (upd H1 s.heap.objs.size (.lst [])) fp) [] σ' H' s'/\tn i s'.heap/\(∀b∈fp,H' b=none)/\W i n σ' H' ys) ?_ m0 ⟨0,_,_,[],I4,st4,λb hb=>(f3 b hb).1,w0⟩
  rintro n s5 ⟨i,σ5,H5,ys,I5,st5,fr5,w5⟩
  obtain⟨hDl,alt⟩:=turn i n σ5 H5 ys w5
  rcases alt with⟨stop,q⟩|⟨go,step⟩
  .refine thn (T.done (X.comp (ow++fr) scope s3.heap.objs.size s3 (upd H1 s.heap.objs.size (.lst [])) fp) rfl rfl rfl hc i [] s5 σ5 H5 noX I5 (λb hb=>ex3 b hb I5.ok (fr5 b hb)) st5 stop) λr s6 hq0=>?_
   obtain⟨hr,I6⟩:=hq0
   subst hr
   obtain⟨m6,hn6,_⟩:=I6.loc
   exact fin _ _ H5 s6 m6 (I3.fpOk (vac _) I6.free) hn6 (back I6) q
  .refine thn (T.item (X.comp (ow++fr) scope s3.heap.objs.size s3 (upd H1 s.heap.objs.size (.lst [])) fp) rfl rfl rfl hc i [] s5 σ5 H5 noX I5 (λb hb=>ex3 b hb I5.ok (fr5 b hb)) st5 go) λr s6 hq0=>?_
   obtain⟨u,hr,h6⟩:=hq0
   subst hr
   refine thn h6 λ_ s7 hq0=>?_
   obtain⟨x,H7,I7,r7,y7,st7,fr7⟩:=hq0
   have I7':=I7.pinned (λb hb=>ex3 b hb I7.ok (fr7 b hb)) (T.obj _ _ st7)
   have again:∀{σ8:St}{H8:Hp}{s8:Shared}{zs:List V}{m':Nat},Inv (X.comp (ow++fr) scope s3.heap.objs.size s3 (upd H1 s.heap.objs.size (.lst [])) fp) ([]++zd9 fp s7.heap) σ8 H8 s8->m'<n->W (i+1) m' σ8 H8 zs->
    ∃m,m<n/\∃i σ' H' ys,Inv (X.comp (ow++fr) scope s3.heap.objs.size s3 (upd H1 s.heap.objs.size (.lst [])) fp) [] σ' H' s8/\tn i s8.heap/\(∀b∈fp,H' b=none)/\W i m σ' H' ys:=λ{σ8 H8 s8 zs m'} I8 hm w8=>by
    refine⟨m',hm,i+1,σ8,H8,zs,I8.unpinned,T.keep _ _ _ st7 λb hb o e=>(I8.pin (b,o) (vas _ (vas _ (za6 hb e)))).1,λb hb=>?_,w8⟩
    obtain⟨o,e,d⟩:=T.obj _ _ st7 b hb
    exact(I8.pin (b,o) (vas _ (vas _ (za6 hb e)))).2.1
   refine thn (hg _ _ _ _ _ s7 σ5 H7 x u _ I7' r7 (step x H7 y7)) λ_ s8 hq0=>?_
   obtain⟨σ8,H8,I8,q8⟩:=hq0
   refine thn (ht _ _ _ _ _ s8 σ8 H8 _ I8 q8) λok s9 z9=>z9.el λH9 I9 q9=>?_
   cases ok with
   |false=>
    simp only[vah,vbe]at q9 ⊢
    obtain⟨m',hm,w9⟩:=q9
    exact again I9 hm w9
   |true=>
    simp only[vbd]at q9 ⊢
    refine thn (he _ _ _ _ _ s9 σ8 H9 _ I9 q9) λy s10 hq0=>?_
    obtain⟨vy,H10,I10,ry,hD10,hz,m',hm,w10⟩:=hq0
    refine thn (zef _ s10 σ8 H10 (.ref s.heap.objs.size) [vy] (.ref s.heap.objs.size) [y] (λv H'=>H'=upd H10 s.heap.objs.size (.lst (ys++[vy]))) I10 rfl (.cons ry .nil) ⟨_,ys,vy,rfl,rfl,hD10,hz,rfl⟩) λ_ s11 hq0=>?_
    obtain⟨v11,H11,I11,_,e11⟩:=hq0
    subst e11
    exact again I11 hm w10
 have J3':Inv (X.comp (ow++fr) scope s3.heap.objs.size s3 (upd H1 s.heap.objs.size (.lst [])) fp) [] (cσ ow fr ix σ) (upd H1 s.heap.objs.size (.lst [])) {s with heap:=h₁,toks:=s.toks}:=by
  rw[<-hS3]at J3 ⊢
  exact J3
 exact codeAny_compStart_list (loop _ J3' st3) (T.self _ 0 _ _ _ st3 (loop _ J3' st3))
theorem pe_lc(S:CompScope X ow fr ix scope)(hc:X.calm=true)(hi:PI X tg iter wi)
 (hg:∀C s₀ H₀ ex,PG (X.comp (ow++fr) scope C s₀ H₀ ex) tg g) (ht:∀C s₀ H₀ ex,PTs (X.comp (ow++fr) scope C s₀ H₀ ex) ifs tc) (he:∀C s₀ H₀ ex,PE (X.comp (ow++fr) scope C s₀ H₀ ex) elt te)
 (hs:∀x,foldedSetIterable iter X.env x=pure x:=by intro _;rfl):PE X (.ListComp elt [⟨tg,iter,ifs,0⟩] scope pos) (tLC X.K (cσ ow fr ix) wi g tc te):=by
 intro pins s σ H Q I h
 rw[eval_ListComp]
 refine vct (use:=none) rfl hs (zbh λy hy e=>I.ok.has _ (S.free y hy e)) S.kind S.names (thn (hi pins s σ H _ I h) λv s1 h1=>thn h1 λitv s2 h2=>?_)
 exact ze6 (RR:=λacc C=>compPost (model X.prog X.w) X.A X.xe none (EP X pins σ Q) acc C) S hc hg ht he h2 λD C H' s' m _ hn hI q=>⟨m,hn,λh'' hs''=>⟨.ref D,H',hI h'' hs'',rfl,q⟩⟩
theorem zob{i:Nat}{y:Str}{py spos:Pos}(hN:X.N.Nodup)(hiy:X.N[i]?=some y)(hy:Loc X.env.scope y)(S:CompScope X ow fr ix scope)(hc:X.calm=true)(hi:PI X tg iter wi)
 (hg:∀C s₀ H₀ ex,PG (X.comp (ow++fr) scope C s₀ H₀ ex) tg g) (ht:∀C s₀ H₀ ex,PTs (X.comp (ow++fr) scope C s₀ H₀ ex) ifs tc) (he:∀C s₀ H₀ ex,PE (X.comp (ow++fr) scope C s₀ H₀ ex) elt te)
 (hsw:swapsWith (.ListComp elt [⟨tg,iter,ifs,0⟩] scope pos) (some (.Name y py)) spos.line X.env=pure true:=by rfl)
 (hf:X.fn y=true\/X.env.scope.names.lookup y=some .local:=by first|exact .inl rfl|exact .inr rfl|assumption)
 (hs:∀x,foldedSetIterable iter X.env x=pure x:=by intro _;rfl):PS X (.Assign [.Name y py] (.ListComp elt [⟨tg,iter,ifs,0⟩] scope pos) spos) (tAsg (tLC X.K (cσ ow fr ix) wi g tc te) (gName i)):=by
 intro pins s σ H D I h
 rw[exec_Assign_Name_used _ _ _ _ hsw]
 refine vab (va4 (vab ?_))
 show wpAny _ X.A (do let _ <-comprehension (.ListComp elt [⟨tg,iter,ifs,0⟩] scope pos) scope X.env _ (newList []) false (eval iter X.env) (some (assign (.Name y py) X.env))) _ _ s
 refine vab (vav (vct (use:=some (assign (.Name y py) X.env)) (Q:=λ_ s'=>SP X pins D .next s') rfl hs (zbh λy hy e=>I.ok.has _ (S.free y hy e)) S.kind S.names
  (thn (hi pins s σ H _ I h) λv s1 h1=>thn h1 λitv s2 h2=>?_)) (λ_ s' hq=>vaf (vaf hq)) λ_ _ e=>e)
 refine ze6 (Q:=λx H1=>gName i x σ H1 D.nx) (RR:=λacc C=>compPost (model X.prog X.w) X.A X.xe (some (assign (.Name y py) X.env)) (λ_ s'=>SP X pins D .next s') acc C) S hc hg ht he h2 λd C H' s' m hC hn hI q=>?_
 show wpAny _ X.A (assign (.Name y py) X.env (.ref d)) _ _ _
 have I':Inv X pins σ H' s':=by
  have z:=hI s'.heap (.refl ..)
  exact z
 refine wpAny_assign_Name (zd8 I' hN hiy hy (v:=.ref d) rfl (λs'' I'' ⟨a,hsb,ha⟩=>?_) hf)
 obtain⟨c0,c1,c2,c3,c4,c5⟩:=hC
 have hCa:C≠a:=by
  rcases ha with rfl|ha
  .exact c1
  .exact λz=>c4 _ _ ha z.symm
 refine⟨m,hn.sameBut hsb hCa,λh'' hs''=>⟨_,H',I''.turned (t':=s''.toks) (it:=C) (λb o hb e=>(hs''.2 b hb).trans e) c0 c1 c3 c4 c5,q⟩⟩
end
end L2
set_option maxHeartbeats 4000000
namespace XL
open PySem PySem.W PySem.Spec PyProof.Rows
noncomputable def onlyVE:List Value->Bool
 |[.type a,.type b,.type c,.type d]=>a == "ValueError" && b == "Exception" && c == "BaseException" && d == "object"
 |.ref _::r=>onlyVE r
 |_=>false
theorem zek{l:List Value}{n:String}(h:onlyVE (.type n::l)=true):Value.type n::l=[.type "ValueError",.type "Exception",.type "BaseException",.type "object"]:=by
 unfold onlyVE at h
 split at h
 .rename_i a b c d e
  cases e
  simp only[vaa,vcc]at h
  obtain⟨⟨⟨rfl,rfl⟩,rfl⟩,rfl⟩:=h
  rfl
 .rename_i e;cases e
 .cases h
theorem zg3(self:Value):∀{l:List Value},onlyVE l=true->refuseLoop self "__setattr__" l=pure ()
 |.ref c::r,e=>by rw[refuseLoop_ref];exact zg3 self (by unfold onlyVE at e;exact e)
 |.type n::r,e=>by rw[zek e];exact PySem.F.store_ValueError.passes self
theorem zlf{T:String}(hT:([.type "ValueError",.type "Exception",.type "BaseException",.type "object"]:List Value).contains (.type T)=true):∀{l:List Value},onlyVE l=true->l.contains (.type T)=true
 |.ref c::r,e=>by rw[List.contains_cons,zlf hT (l:=r) (by unfold onlyVE at e;exact e),Bool.or_true]
 |.type n::r,e=>by rw[zek e];exact hT
structure ExcK(K:Frag)(C:Addr):Prop where
 ov:(clsIn K C).any (λcd=>onlyVE cd.mro)=true
 ga:findIn K (.ref C) "__getattribute__" = some (some (.builtin "BaseException.__getattribute__"))
 gt:findIn K (.ref C) "__getattr__" = some none
 sa:findIn K (.ref C) "__setattr__" = some (some (.builtin "object.__setattr__"))
 hd:hasDictIn K C=true
section
variable{prog:Program}{w:World}{A:Around}{E:Value->Shared->Prop}{s:Shared}{K:Frag}{x C:Addr}{ox:Obj}{od:Option Obj}{name:Str}{expr:Bool}
theorem zlg(k:ExcK K C)(X:K.In s.heap)(I:InstAt s.heap x ox C od){T:String}(hT:([.type "ValueError",.type "Exception",.type "BaseException",.type "object"]:List Value).contains (.type T)=true) :
 Looks (model prog w) s.heap (isInstance (.ref x) (.type T)) true:=by
 obtain⟨cd,hc,ho⟩:=any_some k.ov
 have ne:cd.mro.isEmpty=false:=by cases q:cd.mro with|nil=>rw[q]at ho;cases ho|cons _ _=>rfl
 exact I.type.andThen (looks_mroIn X (by unfold mroIn;rw[hc,vdh,if_neg (by rw[ne];decide),zlf hT ho]))
theorem zlh{R:Result->Shared->Prop}{tk:Tok}{v:Value}(k:ExcK K C)(X:K.In s.heap)(I:InstAt s.heap x ox C od)(ha:findIn K (.ref C) name=some none)
 (h:∀b,wpAny (model prog w) A.in1 (Builtin.ObjectAttr.storeInOwnDict (.ref x) (.ref C) (.str name tk) name v b)
   (λfin s'=>match fin with|.done f=>R (.ok f) s'|.again c'=>c'.quiet=true/\codeAny (model prog w) A c' R s') (λe s'=>R (.error e) s') s) :
 codeAny (model prog w) A (.call (.builtin "object.__setattr__") ⟨[.ref x,.str name tk,v],[]⟩) R s:=by
 have SF:=PySem.F.store_object
 obtain⟨cd,hc,ho⟩:=any_some k.ov
 refine codeAny_call_builtin SF.slot.plain SF.entry (@check_slot (model prog w) _ _ s "object.__setattr__" "object" "__setattr__" (.ref x) [.str name tk,v] [] _ SF.kind SF.split (zlg k X I (by decide +kernel)) (SF.args (.ref x) (.str name tk) v) ?_)
 have hm:Looks (model prog w) s.heap (mroOf (.ref C)) cd.mro:=(looks_clsIn X hc).andThen .now
 rw[osa_eq,refuse_eq]
 refine vab (vab (I.type.here (vab (hm.here ?_))))
 rw[zg3 _ ho]
 refine vaf (vab (I.type.here (vab ((looks_findIn X ha).here (vab ?_)))))
 exact vaf (h _)
theorem exc_set0{v:Value}{vs:Array Value}{sl:Array (Option Value)}{Q:Unit->Shared->Prop}(k:ExcK K C)(X:K.In s.heap)(ho:s.heap.get? x=some ⟨.ref C,none,.fields vs,sl⟩)(ha:findIn K (.ref C) name=some none)
 (h:∀h' tk,h'.get? x=some ⟨.ref C,some s.heap.objs.size,.fields vs,sl⟩->h'.Ns1 s.heap.objs.size (λy=>if y=name then some v else none)->(∀b o,b≠x->s.heap.get? b=some o->h'.get? b=some o)->Q () {s with heap:=h',toks:=tk}) :
 wpAny (model prog w) A (setAttr (.ref x) name v) Q E s:=by
 have I:InstAt s.heap x ⟨.ref C,none,.fields vs,sl⟩ C none:=⟨ho,rfl,rfl,trivial⟩
 obtain⟨cd,hc,hd'⟩:=any_some k.hd
 refine set_plain X I k.sa (zlh (s:={s with toks:=s.toks+1}) k X I ha λb=>?_)
 refine vab (vaf (vab (vab (wpAny_loadPart ho (vab (Looks.here (s:={s with toks:=s.toks+1}) (looks_clsIn X hc) ?_))))))
 rw[hd']
 show wpAny (model prog w) A.in1 (do
  let d <-alloc {cls:=Value.type "dict",data:=Data.dict #[]}
  update x λo=>{cls:=o.cls,dict:=some d,data:=o.data,slots:=o.slots}
  dictMade (.ref C) x d) _ _ _
 have hx₁:(s.heap.push {cls:=.type "dict",data:=.dict #[]}).get? x=some ⟨.ref C,none,.fields vs,sl⟩:=vad _ ho
 have hxs:x≠s.heap.objs.size:=vau (vaj ho)
 refine vab (wpAny_alloc ?_)
 refine vab (wpAny_update hx₁ ?_)
 refine vaf (a:=some s.heap.objs.size) ?_
 dsimp only
 generalize hH:((s.heap.push {cls:=Value.type "dict",data:=Data.dict #[]}).update x λo=>{cls:=o.cls,dict:=some s.heap.objs.size,data:=o.data,slots:=o.slots})=H1
 have hgd:H1.get? s.heap.objs.size=some {cls:=.type "dict",data:=.dict #[]}:=by
  rw[<-hH];exact(Heap.get?_update_ne _ _ _ _ hxs.symm).trans (Heap.get?_push_at rfl rfl)
 have hgx:H1.get? x=some ⟨.ref C,some s.heap.objs.size,.fields vs,sl⟩:=by
  rw[<-hH];exact vch _ hx₁ rfl
 have hgk:∀b o,b≠x->s.heap.get? b=some o->H1.get? b=some o:=λb o hb e=>by
  rw[<-hH];exact(Heap.get?_update_ne _ _ _ _ hb).trans (vad _ e)
 have hnd:H1.Ns s.heap.objs.size (λ_=>none):=⟨_,#[],_,hgd,rfl,λe he=>absurd he (by simp),λ_=>rfl⟩
 show wpAny _ _ (Builtin.ObjectAttr.storeInDict s.heap.objs.size (.str name s.toks) name v) _ _ _
 unfold Builtin.ObjectAttr.storeInDict Builtin.ObjectAttr.newKeyGuard
 refine vab (vaf (vab (wpAny_nsSet1 (Heap.Ns1.of_empty hnd) λh' hn' hs=>?_)))
 obtain⟨oD,esD,epD,hoD,hdD,hcD⟩:=hn'.count (Within.cons name v Within.nil)
 refine vab (wpAny_lookBehind hoD (by rw[hdD];exact pastItsLine_dict (vap hcD (by rw[vam,vdq,ved];omega))) ?_)
 refine vaf ?_
 exact h h' _ ((hs.2 x hxs).trans hgx) hn' λb o hb e=>(hs.2 b (vau (vaj e))).trans (hgk b o hb e)
theorem exc_set1{v:Value}{vs:Array Value}{sl:Array (Option Value)}{dx:Addr}{mA:Str->Option Value}{ns:List Str}{Q:Unit->Shared->Prop}(k:ExcK K C)(X:K.In s.heap)(ho:s.heap.get? x=some ⟨.ref C,some dx,.fields vs,sl⟩)
 (hn:s.heap.Ns1 dx mA) (hw:Within mA ns) (hz:ns.length<=1000) (ha:findIn K (.ref C) name=some none)
 (h:∀h' tk,h'.Ns1 dx (λy=>if y=name then some v else mA y)->Heap.SameBut dx s.heap h'->Q () {s with heap:=h',toks:=tk}) :
 wpAny (model prog w) A (setAttr (.ref x) name v) Q E s:=by
 obtain⟨od,hod,_⟩:=L2.zea hn
 have I:InstAt s.heap x ⟨.ref C,some dx,.fields vs,sl⟩ C (some od):=⟨ho,rfl,rfl,hod⟩
 obtain⟨cd,hc,hd'⟩:=any_some k.hd
 refine set_plain X I k.sa (zlh (s:={s with toks:=s.toks+1}) k X I ha λb=>?_)
 refine vab (vaf (vab (vab (wpAny_loadPart ho (vab (Looks.here (s:={s with toks:=s.toks+1}) (looks_clsIn X hc) ?_))))))
 rw[hd']
 refine vaf (a:=some dx) ?_
 show wpAny _ _ (Builtin.ObjectAttr.storeInDict dx (.str name s.toks) name v) _ _ _
 unfold Builtin.ObjectAttr.storeInDict Builtin.ObjectAttr.newKeyGuard
 refine vab (vaf (vab (wpAny_nsSet1 (s:={s with toks:=s.toks+1}) hn λh' hn' hs=>?_)))
 obtain⟨oD,esD,epD,hoD,hdD,hcD⟩:=hn'.count (Within.cons name v hw)
 refine vab (wpAny_lookBehind hoD (by rw[hdD];exact pastItsLine_dict (vap hcD (by rw[vam,ved];omega))) ?_)
 exact vaf (h h' _ hn' hs)
end
end XL
namespace XL
open PySem PySem.W PySem.Spec PyProof.Rows
noncomputable abbrev bmV:List Value:=[.type "ValueError",.type "Exception",.type "BaseException",.type "object"]
noncomputable abbrev excObj(C:Addr)(dx:Option Addr)(t:Addr):Obj:={cls:=.ref C,dict:=dx,data:=.fields #[.ref t,.none,.none,.none,.bool false,.none]}
noncomputable def excCls(K:Frag)(C:Addr):Bool:=match K.lookup C with
 |some ⟨.type "type",_,.cls cd,sl⟩=>(match cd.mro,sl.toList with
  |.ref C'::bm,[_,_,_,_,some (.builtin n),_]=>C'==C&&n == "ValueError.__new__" && !cd.hasDel&&tailIn K bmV bm
  |_,_=>false)
 |_=>false
theorem excCls_of{K:Frag}{C:Addr}{h:Heap}(X:K.In h)(q:excCls K C=true) :
 ∃nm qn N bs bm hd sn sub ab col dd k0 k1 k2 k3 k5,h.get? C=some (excClassObj nm qn C N bs bm hd sn sub ab col dd k0 k1 k2 k3 k5 "ValueError.__new__")/\OwnTail h bmV bm:=by
 unfold excCls at q
 split at q
 .rename_i dd cd sl ho
  split at q
  .rename_i C' bm k0 k1 k2 k3 n k5 hm hs
   simp only[vaa,vcc,vdu]at q
   obtain⟨⟨⟨rfl,rfl⟩,hdel⟩,ht⟩:=q
   obtain⟨nm,bs,mro,ns,qn,hd,sn,sub,ab,col,del⟩:=cd
   dsimp only at hm hdel
   subst hm hdel
   have hsl:sl = #[k0,k1,k2,k3,some (.builtin "ValueError.__new__"),k5]:=by
    obtain⟨l⟩:=sl
    simp only at hs
    rw[hs]
   subst hsl
   exact⟨nm,qn,ns,bs,bm,hd,sn,sub,ab,col,dd,k0,k1,k2,k3,k5,X _ _ ho,tail_of_in X ht⟩
  .cases q
 .cases q
section
variable{prog:Program}{w:World}{A:Around}{s:Shared}{K:Frag}{C f:Addr}{rest:List Value}{R:Result->Shared->Prop}
theorem make_excI(X:K.In s.heap)(hc:excCls K C=true)(hi:findIn K (.ref C) "__init__" = some (some (.ref f)))(hf:typeIn K (.ref f)=some (.type "function"))(hz:rest.length<=sizeLine)
 (hq:codeAny (model prog w) (A.under (.builtin "type.__call__" ⟨.ref C::rest,[]⟩)) (.call (.ref f) ⟨.ref (s.heap.objs.size+1)::rest,[]⟩) (InitBack (s.heap.objs.size+1) R)
   {s with heap:=(s.heap.push {cls:=.type "tuple",data:=.seq rest.toArray}).push (excObj C none s.heap.objs.size)}) :
 codeAny (model prog w) A (.call (.ref C) ⟨rest,[]⟩) R s:=by
 obtain⟨h,g,d,t,os⟩:=s
 obtain⟨nm,qn,N,bs,bm,hdd,sn,sub,ab,col,dd,k0,k1,k2,k3,k5,hC,T⟩:=excCls_of X hc
 have F:=PySem.F.excBase_ValueError
 have f1:=tc_lookup
 have f2:=tc_bind (.ref C)
 have hT:(⟨h,g,d,t,os⟩:Shared).TypeIs (.ref C) "type":=⟨_,hC,rfl⟩
 refine vd7 ?_
 show wpAny _ _ (callAny (.ref C) _) _ _ _
 repeat(any_goals (first|assumption|with_reducible refine vbw hC ?_|wp_step))
 refine⟨rfl,?_⟩
 refine codeAny_call_builtin_at (vdr _ (by decide +kernel)) entry_typeCall (wpAny_check_type_call_sub hC ?_)
 repeat(first|with_reducible refine vbw hC ?_|with_reducible refine wpAny_madeBy_exc hC ?_|wp_step)
 refine codeAny_call_builtin_code (vdr _ F.quiet) (wpAny_check_new_subT F T hC ?_)
 refine codeAny_exc_new_subT F T hC ?_ hz
 have kk:∀b o,h.get? b=some o->((h.push {cls:=.type "tuple",data:=.seq rest.toArray}).push (excObj C none h.objs.size)).get? b=some o:=λb o e=>vad _ (vad _ e)
 have i1:=(looks_findIn (M:=model prog w) X hi).keeps kk
 have b1:=(bind_fn (M:=model prog w) X (.ref (h.objs.size+1)) hf).keeps kk
 have hC1:=kk _ _ hC
 have hget:((h.push {cls:=.type "tuple",data:=.seq rest.toArray}).push (excObj C none h.objs.size)).get? (h.objs.size+1)=some (excObj C none h.objs.size):=by heap_get
 have hcC:(Value.ref C::bm).contains (.ref C)=true:=by simp
 show wpAny _ _ _ _ _ _
 unfold isInstance
 repeat(first|with_reducible refine vbw hget ?_|(with_reducible refine vce hC1 ?_;rw[hcC])|wp_step)
 have t1:Looks (model prog w) ((h.push {cls:=.type "tuple",data:=.seq rest.toArray}).push (excObj C none h.objs.size)) (typeOf (.ref (h.objs.size+1))) (.ref C):=(Looks.ld hget).andThen .now
 refine vce (h:=(h.push {cls:=.type "tuple",data:=.seq rest.toArray}).push (excObj C none h.objs.size)) hC1 ?_
 rw[hcC]
 simp only[vd2,vah,vbe]
 refine vab (vbs ?_)
 unfold callSpecial? specialOf
 refine vab (vab (t1.at (i1.at (vbs ?_))))
 refine vab (b1.at (vab (vc5 (vcv hq λr s' z=>?_))))
 rcases r with e|(v|_|_|_)<;>first|exact z|exact z.elim|skip
 obtain⟨e,z⟩:=z
 subst e
 exact vaf (vaf z)
theorem make_exc0{Q:Value->Shared->Prop}{E:Value->Shared->Prop}(X:K.In s.heap)(hc:excCls K C=true)(hi:findIn K (.ref C) "__init__" = some (some (.builtin "ValueError.__init__")))(hz:rest.length<=sizeLine)
 (hq:∀h' t,(∀b o,s.heap.get? b=some o->h'.get? b=some o)->h'.get? (s.heap.objs.size+1)=some (excObj C none t)->Q (.ref (s.heap.objs.size+1)) {s with heap:=h'}) :
 wpAny (model prog w) A (call (.ref C) rest) Q E s:=by
 refine vc5 ?_
 obtain⟨h,g,d,t,os⟩:=s
 obtain⟨nm,qn,N,bs,bm,hdd,sn,sub,ab,col,dd,k0,k1,k2,k3,k5,hC,T⟩:=excCls_of X hc
 have F:=PySem.F.excBase_ValueError
 have f1:=tc_lookup
 have f2:=tc_bind (.ref C)
 have hT:(⟨h,g,d,t,os⟩:Shared).TypeIs (.ref C) "type":=⟨_,hC,rfl⟩
 refine vd7 ?_
 show wpAny _ _ (callAny (.ref C) _) _ _ _
 repeat(any_goals (first|assumption|with_reducible refine vbw hC ?_|wp_step))
 refine⟨rfl,?_⟩
 refine codeAny_call_builtin_at (vdr _ (by decide +kernel)) entry_typeCall (wpAny_check_type_call_sub hC ?_)
 repeat(first|with_reducible refine vbw hC ?_|with_reducible refine wpAny_madeBy_exc hC ?_|wp_step)
 refine codeAny_call_builtin_code (vdr _ F.quiet) (wpAny_check_new_subT F T hC ?_)
 refine codeAny_exc_new_subT F T hC ?_ hz
 have kk:∀b o,h.get? b=some o->((h.push {cls:=.type "tuple",data:=.seq rest.toArray}).push (excObj C none h.objs.size)).get? b=some o:=λb o e=>vad _ (vad _ e)
 have i1:=(looks_findIn (M:=model prog w) X hi).keeps kk
 have hC1:=kk _ _ hC
 have hget:((h.push {cls:=.type "tuple",data:=.seq rest.toArray}).push (excObj C none h.objs.size)).get? (h.objs.size+1)=some (excObj C none h.objs.size):=by heap_get
 have hcC:(Value.ref C::bm).contains (.ref C)=true:=by simp
 show wpAny _ _ _ _ _ _
 unfold isInstance
 repeat(first|with_reducible refine vbw hget ?_|(with_reducible refine vce hC1 ?_;rw[hcC])|wp_step)
 have t1:Looks (model prog w) ((h.push {cls:=.type "tuple",data:=.seq rest.toArray}).push (excObj C none h.objs.size)) (typeOf (.ref (h.objs.size+1))) (.ref C):=(Looks.ld hget).andThen .now
 refine vce (h:=(h.push {cls:=.type "tuple",data:=.seq rest.toArray}).push (excObj C none h.objs.size)) hC1 ?_
 rw[hcC]
 simp only[vd2,vah,vbe]
 refine vab (vbs ?_)
 unfold callSpecial? specialOf
 refine vab (vab (t1.at (i1.at (vbs ?_))))
 refine vab (vd8 (F.init.bind _) ?_)
 refine vab (vc5 (codeAny_call_builtin F.init.plain F.initEntry (wpAny_check_init_subT F (T.keeps kk) hC1 hget rfl ?_)))
 wp_walk
 refine hq _ (h.objs.size+2) (λb o hb=>?_) ?_
 .rw[vbz _ _ (vca (vba (vaj hb)))]
  exact vad _ (kk b o hb)
 .rw[vch _ (vad _ hget) rfl]
  simp only[vc6]
  rfl
end
end XL
namespace XL
open PySem PySem.W PySem.Spec PyProof.Rows
structure ExcI(K:Frag)(C:Addr):Prop extends ExcK K C where
 ca:findIn K (.ref C) "__class__" = some (some (.builtin "object.__class__"))
 hn:specialIn K (.builtin "object.__class__") "__get__" = some (some (.builtin "getset_descriptor.__get__"))
 htk:takesIn K (.builtin "object.__class__")=some true
section
variable{prog:Program}{w:World}{A:Around}{E:Value->Shared->Prop}{s:Shared}{K:Frag}{x C:Addr}{ox:Obj}{od:Option Obj}{name:Str}{expr:Bool}
theorem ExcI.mro(k:ExcI K C):mroIn K C (.type "object")=some true:=by
 obtain⟨cd,hc,ho⟩:=any_some k.ov
 have ne:cd.mro.isEmpty=false:=by cases q:cd.mro with|nil=>rw[q]at ho;cases ho|cons _ _=>rfl
 unfold mroIn
 rw[hc,vdh,if_neg (by rw[ne];decide),zlf (by decide +kernel) ho]
theorem zli{Q:Option Value->Shared->Prop}(k:ExcI K C)(X:K.In s.heap)(I:InstAt s.heap x ox C od)(h:Q (some (.ref C)) {s with toks:=s.toks+1}):wpAny (model prog w) A (getAttr? (.ref x) "__class__") Q E s:=by
 have hf:findObj K C od "__class__" = some (.bind (.builtin "getset_descriptor.__get__") (.builtin "object.__class__")):=by
  obtain⟨cd,hc,_⟩:=any_some k.hd
  unfold findObj
  rw[hc,vdh,k.ca,vdh]
  simp only[k.hn,k.htk,vdh]
 have S:=zlg (prog:=prog) (w:=w) k.toExcK X I (T:="BaseException") (by decide +kernel)
 obtain⟨h0,g,d,t,os⟩:=s
 have L0:=I.type (M:=model prog w)
 have L1:=looks_findIn (M:=model prog w) X k.ga
 have L2:=looks_findIn (M:=model prog w) X k.gt
 have L3:=looks_find (M:=model prog w) X I hf
 have hx1:(onTheHeap (Value.ref C)&&Value.builtin "BaseException.__getattribute__" == Value.builtin "object.__getattribute__")=false:=by
  rw[show(Value.builtin "BaseException.__getattribute__" == Value.builtin "object.__getattribute__")=false from by decide +kernel];rfl
 unfold getAttr?
 refine vab (wpAny_mkText ?_)
 unfold getAttrBy?
 refine vab (wpAny_attempt ?_)
 unfold getAttrBy
 refine vbs (vab (L0.at (vab (L1.at ?_))))
 dsimp only
 rw[hx1]
 simp only[vah,vbe]
 unfold getAttrByItsOwn hookBefore
 refine vab ?_
 rw[if_pos (show onTheHeap (Value.ref C)=true from rfl)]
 refine L2.at ?_
 refine vab (wpAny_attempt (vbs ?_))
 unfold callGetattribute
 simp only[vc4,vah,vbe]
 unfold boundAndCalled
 rw[PySem.F.excAttr_ValueError.ga.bind (.ref x)]
 refine vab (vaf ?_)
 show wpAny (model prog w) A (call (.builtin "BaseException.__getattribute__") [.ref x,.str "__class__" t]) _ _ _
 have hk:builtinKind "BaseException.__getattribute__" = some .slot:=by decide +kernel
 have hsp:splitId "BaseException.__getattribute__" = some ("BaseException","__getattribute__"):=by decide +kernel
 refine vc5 (codeAny_call_builtin PySem.F.excAttr_ValueError.ga.plain PySem.F.entry_bexc_ga ?_)
 refine @check_slot (model prog w) _ _ ⟨h0,g,d,t+1,os⟩ "BaseException.__getattribute__" "BaseException" "__getattribute__" (.ref x) [.str "__class__" t] [] _ hk hsp S (PySem.F.args_bexc_ga _ _) ?_
 unfold Builtin.«object.__getattribute__»
 refine vab (vd8 (a:=(Value.ref x,[Value.str "__class__" t])) rfl ?_)
 dsimp only
 refine vab (vd8 (a:=("__class__" : Str)) rfl ?_)
 refine vab (L0.at (vab (L3.at ?_)))
 dsimp only
 show wpAny _ _ (holding [.builtin "object.__class__"] (call (.builtin "getset_descriptor.__get__") [.builtin "object.__class__",.ref x,.ref C]) >>= ret) _ _ _
 refine vab (vbs (vc5 (class_get (s:=⟨h0,g,d,t+1,os⟩) (ox:=ox) (od:=od) X I k.mro ?_)))
 dsimp only
 refine vaf ?_
 dsimp only
 exact handed_on rfl (vaf h)
theorem kitx_exc(k:ExcI K C):KitX K (.ref x) (.ref C) (λh=>InstAt h x ox C od)where
 ty:=λ_ _ _ I=>I.type
 it:=λ_ _ X _=>by
  obtain⟨cdD,hcD,_⟩:=any_some k.hd
  unfold clsIn at hcD
  split at hcD
  .rename_i c' d' cd' sl' ho
   intro A' Q' E' s' kk q
   unfold isType loadHead
   exact vab (wpAny_loadPart (kk _ _ (X _ _ ho)) (vaf q))
  .cases hcD
 ne:=λh tp dd its n sl X htp=>by
  obtain⟨cdD,hcD,_⟩:=any_some k.hd
  refine Bool.eq_false_iff.mpr λq=>?_
  have e:C=tp:=Value.ref.inj (vcc.mp q)
  subst e
  unfold clsIn at hcD
  split at hcD
  .rename_i c' d' cd' sl' ho
   have z:=(X _ _ ho).symm.trans htp
   cases z
  .cases hcD
 ca:=λX I q=>zli k X I q
end
end XL
namespace L2
open PySem PySem.Spec PyProof.Rows
noncomputable def excH(C:Addr)(dx:Option Addr)(a:Addr):HO:=.ext λh=>∃t,h.get? a=some (XL.excObj C dx t)
noncomputable def xdH(fs:List (Str×V))(dx:Addr):HO:=.ext λh=>∃mA,h.Ns1 dx mA/\(∀f,RelO (fs.lookup f) (mA f))/\PySem.Within mA (fs.map (·.1))/\fs.length<=1000
section
variable{P:Program}{w:World}{H:Hp}{h:Heap}{a C dx:Addr}{o:Option Addr}{t:Addr}{fs:List (Str×V)}
theorem zlj(e:h.get? a=some (XL.excObj C o t)):ObjOk P w H h a (excH C o a):=⟨⟨t,e⟩,⟨_,e⟩,λ_ _ ⟨t',q⟩ k=>⟨t',k _ q⟩⟩
theorem zhy(ok:HOk P w H h)(e:H a=some (excH C o a)):∃t,h.get? a=some (XL.excObj C o t):=(ok a _ e).1
theorem zpr{mA:Str->Option Value}(n:h.Ns1 dx mA)(r:∀f,RelO (fs.lookup f) (mA f))(wi:PySem.Within mA (fs.map (·.1)))(l:fs.length<=1000):ObjOk P w H h dx (xdH fs dx):=by
 refine⟨⟨mA,n,r,wi,l⟩,let⟨o,_,_,e,_⟩:=n;⟨o,e⟩,?_⟩
 rintro h1 h2 ⟨m,n1,r1,w1,l1⟩ k
 exact⟨m,n1.at λo q=>k o q,r1,w1,l1⟩
theorem zps(ok:HOk P w H h)(e:H dx=some (xdH fs dx)):∃mA,h.Ns1 dx mA/\(∀f,RelO (fs.lookup f) (mA f))/\PySem.Within mA (fs.map (·.1))/\fs.length<=1000:=(ok dx _ e).1
end
section
variable{X:Cx}{CX:CXT}{k:Nat}{f C:Addr}{fd:FuncData}{ps:List Str}{sp:Sp}{E:XK}{x:Str}{p pos:Pos}{e:Expr}{es:List Expr}{t:TA}
structure MkE(K:PySem.W.Frag)(C:Addr):Prop where
 cls:XL.excCls K C=true
 init:PySem.W.findIn K (.ref C) "__init__" = some (some (.builtin "ValueError.__init__"))
 kp:PySem.W.keepIn K (.ref C)=true
structure MkI(K:PySem.W.Frag)(C f:Addr):Prop where
 cls:XL.excCls K C=true
 init:PySem.W.findIn K (.ref C) "__init__" = some (some (.ref f))
 fn:PySem.W.isFn K (.ref f)=true
 kp:PySem.W.keepIn K (.ref C)=true
end
section
variable{X:Cx}{o e value:Expr}{f:Str}{pos pos':Pos}{ta tv:TE}
noncomputable def sXFld(K:PySem.W.Frag)(ta tv:TE)(f:Str):TS:=λD σ H=>tv σ H λy H1=>ta σ H1 λx H2=>∃a C,x=.ref a/\XL.ExcK K C/\zpo K C f/\
 ((H2 a=some (excH C none a)/\∀dx,H2 dx=none->D.nx σ (upd (upd H2 dx (xdH [(f,y)] dx)) a (excH C (some dx) a)))\/
  ∃dx fs,H2 a=some (excH C (some dx) a)/\H2 dx=some (xdH fs dx)/\fs.length<1000/\D.nx σ (upd H2 dx (xdH (putF f y fs) dx)))
theorem zlk(ha:PE X o ta)(hv:PE X value tv)(hs:swapsWith value (some (.Attribute o f pos')) pos.line X.env=pure false):PS X (.Assign [.Attribute o f pos'] value pos) (sXFld X.K ta tv f):=by
 intro pins s σ H D I h
 refine plainObj_wpAny_Assign_Attribute (thn (hv pins s σ H _ I h) λu s1 z9=>z9.el λy H1 I1 ry q=>thn (ha pins s1 σ H1 _ I1 q) λov s2 z9=>z9.el λx H2 I2 rx ⟨a,C,ex,kk,n,alt⟩=>?_) hs
 subst ex
 obtain rfl:ov=Value.ref a:=rx
 rcases alt with⟨ea,q2⟩|⟨dx,fs,ea,ed,hl,q2⟩
 .obtain⟨t,ht⟩:=zhy I2.hok ea
  refine XL.exc_set0 kk I2.kIn ht n λh' tk hx hn kp=>⟨σ,_,?_,q2 s2.heap.objs.size (I2.hok.fresh (vac _))⟩
  have hne:a≠s2.heap.objs.size:=vau (vaj ht)
  have hself:(h'.update a λ_=>XL.excObj C none t).get? a=some (XL.excObj C none t):=vch _ hx rfl
  have hother:∀b,b≠a->(h'.update a λ_=>XL.excObj C none t).get? b=h'.get? b:=λb hb=>Heap.get?_update_ne _ _ _ _ hb
  have hn1:(h'.update a λ_=>XL.excObj C none t).Ns1 s2.heap.objs.size (λg=>if g=f then some u else none):=hn.at λo q=>(hother _ (vcq hne)).trans q
  have I3:=I2.laid (h':=h'.update a λ_=>XL.excObj C none t) (t':=tk) (o:=xdH [(f,y)] s2.heap.objs.size) (λb q z=>by
   by_cases hb:b=a
   .subst hb;rw[ht]at z;cases z;exact hself
   .exact(hother b hb).trans (kp b q hb z)) (vac _) (zpr hn1 (λg=>by
    show RelO (List.lookup g [(f,y)]) (if g=f then some u else none)
    by_cases q:g=f
    .subst q;simp only[vaz,beq_self_eq_true,vbd];exact ry
    .have q':(g==f)=false:=by simpa using q
     simp only[vaz,q',List.lookup_nil,q,vbe];trivial) (λg hg=>by
    by_cases q:g=f
    .simp[q]
    .exact absurd (if_neg q) hg) (by simp))
  exact I3.write (h':=h') (t':=tk) (x:=a) (e:=a) (by rw[zaf hne,ea];exact True.intro) (.inl rfl) (λb q hb z=>(hother b hb).symm.trans z) ⟨_,hx⟩ (zlj hx)
 .obtain⟨t,ht⟩:=zhy I2.hok ea
  obtain⟨mA,n1,r1,w1,l1⟩:=zps I2.hok ed
  refine XL.exc_set1 kk I2.kIn ht n1 w1 (by rw[vai];exact l1) n λh' tk hn hs'=>⟨σ,_,?_,q2⟩
  refine I2.write (x:=dx) (e:=dx) (by rw[ed];exact True.intro) (.inl rfl) (λb q hb z=>(hs'.2 b hb).trans z) (let⟨o,_,_,e',_⟩:=hn;⟨o,e'⟩) (zpr hn (λg=>?_) (λg hg=>?_) ?_)
  .show RelO ((putF f y fs).lookup g) (if g=f then some u else mA g)
   rw[zeb]
   by_cases q:g=f
   .rw[if_pos q,if_pos q];exact ry
   .rw[if_neg q,if_neg q];exact r1 g
  .by_cases q:g=f
   .rw[q];exact(zec f y fs).1
   .refine(zec f y fs).2 g (w1 g λz=>hg ?_)
    show(if g=f then some u else mA g)=none
    rw[if_neg q];exact z
  .have:=zed f y fs;omega
noncomputable def tyVal:V->Option Value
 |.ty n=>some (.type n)
 |.ref a=>some (.ref a)
 |_=>none
end
mutual
inductive Rp(K:PySem.W.Frag)(M:Addr->Prop)(H:Hp):V->PyData->Prop
 |non:Rp K M H .non .none
 |bl (b:Bool):Rp K M H (.bl b) (.bool b)
 |int (i:Int):Rp K M H (.int i) (.int i)
 |str (x:Str):Rp K M H (.str x) (.str x)
 |tup {a:Addr} {xs:List V} {ds:List PyData}:SqT K H a xs->¬M a->Rps K M H xs ds->Rp K M H (.ref a) (.tuple ds)
 |lst {a:Addr} {xs:List V} {ds:List PyData}:SqL K H a xs->¬M a->Rps K M H xs ds->Rp K M H (.ref a) (.list ds)
inductive Rps(K:PySem.W.Frag)(M:Addr->Prop)(H:Hp):List V->List PyData->Prop
 |nil:Rps K M H [] []
 |cons {x:V} {d:PyData} {xs:List V} {ds:List PyData}:Rp K M H x d->Rps K M H xs ds->Rps K M H (x::xs) (d::ds)
end
section
variable{X:Cx}{pins:List (Addr×Obj)}{σ:St}{H:Hp}{s:Shared}{M:Addr->Prop}
mutual
theorem Rp.reads(I:Inv X pins σ H s):∀{x:V} {d:PyData} {u:Value},Rp X.K M H x d->RelV x u->∃as,Reads s.heap u d as
 |_,_,_,.non,r=>by cases r;exact⟨_,.none⟩
 |_,_,_,.bl b,r=>by cases r;exact⟨_,.bool b⟩
 |_,_,_,.int i,r=>by obtain⟨t,rfl⟩:=r;exact⟨_,.int i t⟩
 |_,_,_,.str x,r=>by obtain⟨t,rfl⟩:=r;exact⟨_,.str x t⟩
 |_,_,_,.tup h n rr,r=>by
  cases r
  obtain⟨its,rv,p,_⟩:=I.tuple h
  obtain⟨o,ho,hc,m,hd⟩:=p
  obtain⟨as,ra⟩:=Rps.reads I rr rv
  exact⟨_,.tuple ho hc hd (by simpa using ra)⟩
 |_,_,_,.lst h n rr,r=>by
  cases r
  obtain⟨its,rv,p,_⟩:=I.list h
  obtain⟨o,m,ho,hc,_,hd⟩:=p
  obtain⟨as,ra⟩:=Rps.reads I rr rv
  exact⟨_,.list ho hc hd (by simpa using ra)⟩
theorem Rps.reads(I:Inv X pins σ H s):∀{xs:List V} {ds:List PyData} {us:List Value},Rps X.K M H xs ds->Vals xs us->∃as,ReadsAll s.heap us ds as
 |_,_,_,.nil,.nil=>⟨_,.nil⟩
 |_,_,_,.cons r t,.cons q v=>by
  obtain⟨as,h1⟩:=Rp.reads I r q
  obtain⟨bs,h2⟩:=Rps.reads I t v
  exact⟨_,.cons h1 h2⟩
end
noncomputable def rEqD(K:PySem.W.Frag):R2:=λx y H Q=>∃d e,Rp K (λ_=>False) H x d/\Rp K (λ_=>False) H y e/\SeqAt.shaped d=true/\SeqAt.shaped e=true/\Q (.bl (PyData.eqv d e)) H
noncomputable def rNeD(K:PySem.W.Frag):R2:=λx y H Q=>∃d e,Rp K (λ_=>False) H x d/\Rp K (λ_=>False) H y e/\SeqAt.shaped d=true/\SeqAt.shaped e=true/\Q (.bl (!PyData.eqv d e)) H
theorem zt7(hu:X.A.units+64<cLine):OpR X (compareOp .Eq) (rEqD X.K):=by
 intro pins s σ H x y v u Q I rx ry h
 obtain⟨d,e,r1,r2,s1,s2,q⟩:=h
 obtain⟨as,ra⟩:=r1.reads I rx
 obtain⟨bs,rb⟩:=r2.reads I ry
 exact PyProof.Rows.eq_dataH ra rb s1 s2 hu ⟨.bl _,H,I,rfl,q⟩
theorem zt8(hu:X.A.units+64<cLine):OpR X (compareOp .NotEq) (rNeD X.K):=by
 intro pins s σ H x y v u Q I rx ry h
 obtain⟨d,e,r1,r2,s1,s2,q⟩:=h
 obtain⟨as,ra⟩:=r1.reads I rx
 obtain⟨bs,rb⟩:=r2.reads I ry
 exact PyProof.Rows.ne_dataH ra rb s1 s2 hu ⟨.bl _,H,I,rfl,q⟩
end
section
variable{prog:Program}{w:World}{A:Around}{E:Value->Shared->Prop}{s:Shared}
theorem zj1{I t:Addr}{k:Nat}{its:Array Value}{y:Value}{Q:Value->Shared->Prop}(hi:s.heap.IsTupleIter I t k)(ht:s.heap.IsTuple t its)(hy:its[k]?=some y)
 (q:∀g,g.IsTupleIter I t (k+1)->Heap.SameBut I s.heap g->Q y {s with heap:=g}):wpAny (model prog w) A (Builtin.SmallTypes.nextOf (.ref I)) Q E s:=by
 obtain⟨oi,e1,e2,e3⟩:=id hi
 obtain⟨ot,e4,_,kt,e5⟩:=ht
 unfold Builtin.SmallTypes.nextOf
 refine vab (vcz (name:=Str.ofString "__next__") hi.typeIs vcm (vd0 vcm hi.typeIs F.entry_tuple_iterator_next ?_ (F.args_tuple_iterator_next_1 _)))
 show wpAny _ _ (field (.ref I) 0 >>= _) _ _ s
 refine vab (vcp e1 e3 (x:=.ref t) rfl ?_)
 show wpAny _ _ (if(Value.ref t==Value.none)=true then _ else _) _ _ s
 rw[if_neg (show ¬((Value.ref t==Value.none)=true)from λz=>nomatch z)]
 show wpAny _ _ (field (.ref I) 1 >>= _) _ _ s
 refine vab (vcp e1 e3 (x:=.int k 0) rfl ?_)
 show wpAny _ _ (seqItems? (.ref t) >>= _) _ _ s
 refine vab (wpAny_seqItems e4 e5 ?_)
 simp only[vdc,hy]
 refine vab (vdw e1 e3 (by simp) (vaf ⟨y,rfl,vaf (q _ ?_ (Heap.SameBut.update ..))⟩))
 refine⟨_,vch _ e1 (Obj.isFreed_of_fields (Obj.data_mapFields e3 _)),(Obj.cls_mapFields ..).trans e2,?_⟩
 rw[Obj.data_mapFields e3]
 simp[rawInt]
theorem zg4{I t:Addr}{k:Nat}{its:Array Value}{Q:Value->Shared->Prop}(hA:A.handled=none)(hi:s.heap.IsTupleIter I t k)(ht:s.heap.IsTuple t its)(hy:its[k]?=none)
 (q:∀g e,Heap.ExtBut I s.heap g->(∃o,g.get? e=some o/\o.cls=.type "StopIteration")->E (.ref e) {s with heap:=g}):wpAny (model prog w) A (Builtin.SmallTypes.nextOf (.ref I)) Q E s:=by
 obtain⟨oi,e1,e2,e3⟩:=id hi
 obtain⟨ot,e4,_,kt,e5⟩:=ht
 unfold Builtin.SmallTypes.nextOf
 refine vab (vcz (name:=Str.ofString "__next__") hi.typeIs vcm (vd0 vcm hi.typeIs F.entry_tuple_iterator_next ?_ (F.args_tuple_iterator_next_1 _)))
 show wpAny _ _ (field (.ref I) 0 >>= _) _ _ s
 refine vab (vcp e1 e3 (x:=.ref t) rfl ?_)
 show wpAny _ _ (if(Value.ref t==Value.none)=true then _ else _) _ _ s
 rw[if_neg (show ¬((Value.ref t==Value.none)=true)from λz=>nomatch z)]
 show wpAny _ _ (field (.ref I) 1 >>= _) _ _ s
 refine vab (vcp e1 e3 (x:=.int k 0) rfl ?_)
 show wpAny _ _ (seqItems? (.ref t) >>= _) _ _ s
 refine vab (wpAny_seqItems e4 e5 ?_)
 simp only[vdc,hy]
 refine vab (vd5 (vab (vdw e1 e3 (by simp) ?_)))
 show wpAny _ _ (newExc (.type "StopIteration") [] >>= _) _ _ _
 refine vab ?_
 simp only[newExc,newTuple]
 refine vab (vb4 ?_ (by size_fits))
 refine vab (m:=firstArgMember _ _) (vd8 (a:=Value.none) (by first|rfl|(simp only[firstArgMember];rfl)) ?_)
 refine vb4 ?_ (by size_fits)
 simp only[raiseNew]
 refine vab (wpAny_handled ?_)
 first|rw[show A.in1.handled=none from hA]|rw[hA]
 refine vab (vaf (wpAny_throw ?_))
 exact q _ _ (((Heap.SameBut.update ..).extBut.push _).push _) ⟨_,va3 _ rfl,rfl⟩
end
theorem zit{h h':Heap}{a:Addr}{its:Array Value}(x:h.IsTuple a its)(e:∀o,h.get? a=some o->h'.get? a=some o):h'.IsTuple a its:=let⟨o,ho,r⟩:=x;⟨o,e _ ho,r⟩
theorem zt9{prog:Program}{w:World}{A:Around}(hA:A.handled=none)(I t:Addr)(hne:t≠I)(its:Array Value) :
 Draws prog w A I [I,t] its.size (λi v=>its[i]?=some v) (λi h=>h.IsTupleIter I t i/\h.IsTuple t its)where
 live:=λ_ _ st=>let⟨o,ho,_⟩:=st.1;⟨o,ho⟩
 frame:=λ_ _ _ st hk=>⟨st.1.at λo e=>hk I (by simp) o e,zit st.2 λo e=>hk t (by simp) o e⟩
 item:=λi s Q E hi st q=>zj1 st.1 st.2 (y:=its[i]) (by simp[hi]) λg a b=>q _ g s.toks (by simp[hi]) ⟨a,st.2.extBut b.extBut hne⟩ b
 done:=λs Q E st q=>zg4 hA st.1 st.2 (by simp) q
theorem zhz(l:Addr)(its:Array Value)(n:Nat)(dc:Option Addr)(sl:Array (Option Value)) :
 Meets (Builtin.«enumerate.__new__» ⟨[.type "enumerate",.ref l],[]⟩) (λ_ R s=>s.heap.get? l=some {cls:=.type "tuple",dict:=dc,data:=.seq its n,slots:=sl}/\
  R (.ok (.ret (.ref (s.heap.push {cls:=.type "tuple_iterator",data:=.fields #[.ref l,.int 0 0]}).objs.size)))
   {s with heap:=(s.heap.push {cls:=.type "tuple_iterator",data:=.fields #[.ref l,.int 0 0]}).push {cls:=.type "enumerate",data:=.fields #[.none,.bool false,.ref s.heap.objs.size,rawInt 0,.none,.none]}}):=
 .of_wp λprog w A R s h=>by
  obtain⟨hp,g,d,tk,os⟩:=s
  obtain⟨e,h⟩:=h
  have hsub:=sub_enumerate
  have hT:Heap.IsTuple (Shared.heap ⟨hp,g,d,tk,os⟩) l its:=⟨_,e,rfl,n,rfl⟩
  wp_walk using va7 e
  refine wpAny_stack_any λst=>vaf ?_
  split
  .rename_i c _ _ _ _ _
   cases(c==Value.type "enumerate")<;> (wp_walk using va7 e,wpAny_pyIter_tuple hT;exact⟨_,rfl,h⟩)
  .wp_walk using va7 e,wpAny_pyIter_tuple hT
   exact⟨_,rfl,h⟩
theorem zj2{prog:Program}{w:World}{A:Around}{E:Value->Shared->Prop}{s:Shared}{l:Addr}{its:Array Value}{Q:Value->Shared->Prop}(hL:s.heap.IsTuple l its)
 (h:∀g,IsEnum g (s.heap.objs.size+1) s.heap.objs.size 0 .none->g.IsTupleIter s.heap.objs.size l 0->g.objs.size=s.heap.objs.size+2->(∀b o,s.heap.get? b=some o->g.get? b=some o)->Q (.ref (s.heap.objs.size+1)) {s with heap:=g}) :
 wpAny (model prog w) A (call (.type "enumerate") [.ref l]) Q E s:=by
 obtain⟨⟨c,dc,dt,sl⟩,e1,e2,n,e3⟩:=hL
 replace e2:c=.type "tuple":=e2
 replace e3:dt=.seq its n:=e3
 subst e2 e3
 refine callType_new F.called_enumerate (by decide) (F.typeCall_enumerate_1 _) (F.newCall_enumerate_1 _) (λobj=>F.args_object_init_2 obj _) F.entry_enumerate_new (zhz l its n dc sl) ⟨e1,?_⟩
 have hz:(s.heap.push {cls:=.type "tuple_iterator",data:=.fields #[.ref l,.int 0 0]}).objs.size=s.heap.objs.size+1:=vc6 ..
 show _/\_
 rw[hz]
 have he:IsEnum ((s.heap.push {cls:=.type "tuple_iterator",data:=.fields #[.ref l,.int 0 0]}).push {cls:=.type "enumerate",data:=.fields #[.none,.bool false,.ref s.heap.objs.size,rawInt 0,.none,.none]}) (s.heap.objs.size+1) s.heap.objs.size 0 .none:=by
  rw[<-hz]
  exact va3 _ rfl
 exact⟨⟨_,he,rfl⟩,h _ he ⟨_,vad _ (va3 _ rfl),rfl,rfl⟩ (by rw[vc6,hz]) λb o x=>vad _ (vad _ x)⟩
noncomputable def IteT(K:PySem.W.Frag)(a:Addr):It:=
 ⟨λi H=>∃xs x,SqT K H a xs/\xs[i]?=some x,λi H x H'=>∃T v,x=.ref T/\H T=none/\H'=upd H T (.tup [.int i,v])/\∀xs,SqT K H a xs->xs[i]?=some v,λi H=>∃xs,SqT K H a xs/\xs.length<=i⟩
theorem zj3{P:Program}{w:World}{K:PySem.W.Frag}{elts:List Expr}{kx:Nat}{tp:Pos}(a e it:Addr)(hei:e≠it)(hae:a≠e)(hai:a≠it) :
 Turn P w K (.Tuple elts kx tp) (IteT K a) [e,it] e (λi h=>(∃old,IsEnum h e it i old)/\h.IsTupleIter it a i)where
 mem:=by simp
 obj:=λi h st b hb=>by
  obtain⟨⟨old,he⟩,o,ho,hc,hd⟩:=st
  rcases vat.mp hb with rfl|hb
  .exact⟨_,he,λv z=>by
    have z':Data.fields _=Data.cell v:=z
    cases z'⟩
  .have e':b=it:=by simpa using hb
   subst e'
   exact⟨o,ho,λv z=>by rw[hd]at z;cases z⟩
 keep:=λi h h' st k=>by
  obtain⟨⟨old,he⟩,st⟩:=st
  exact⟨⟨old,k e (by simp) _ he⟩,st.at λo q=>k it (by simp) o q⟩
 item:=by
  intro X hP hw hK hc i pins s σ H E I hf st hg
  subst hP hw hK
  obtain⟨xs,x,hq,hx⟩:=hg
  obtain⟨⟨old,he⟩,st⟩:=st
  obtain⟨its,rv,p,hz⟩:=I.tuple hq
  obtain⟨u,hu,ru⟩:=rv.get hx
  have hd:X.A.in1.handled=none:=I.ok.hd hc
  have p:s.heap.IsTuple a its.toArray:=p
  refine wpAny_pyNext_enum_itemD (zt9 hd it a hai its.toArray) he ⟨st,p⟩ (by
   have:i<its.length:=by
    rw[<-rv.length]
    exact(van.mp hx).1
   simpa using this) hei (by simp[hei,vcq hae]) λx' h1 tk hx' ho hit hT hsz hk=>?_
  obtain rfl:u=x':=by
   have:its[i]?=some x':=by simpa using hx'
   rw[hu]at this
   cases this;rfl
  refine⟨_,rfl,wpAny_letOwnedTupleGo_enum ho λh2 he2 hs2=>?_⟩
  have hTn:H s.heap.objs.size=none:=I.hok.fresh (vac _)
  have hTe:s.heap.objs.size≠e:=vca (vaj he)
  have hTi:s.heap.objs.size≠it:=by
   obtain⟨o,q,_⟩:=st
   exact vca (vaj q)
  have hs2:Heap.SameBut e h1 h2:=hs2
  have kk:∀b o,b≠e->b≠it->s.heap.get? b=some o->h2.get? b=some o:=λb o h1 h2 q=>(hs2.2 b h1).trans (hk b o h1 h2 q)
  have f0:=λb hb=>(hf b hb).1
  have nE:∀b o,H b=some o->b≠e/\b≠it:=λb o q=>⟨λz=>(by rw[z,f0 e (by simp)]at q;cases q),λz=>(by rw[z,f0 it (by simp)]at q;cases q)⟩
  have hT2:h2.get? s.heap.objs.size=some {cls:=.type "tuple",data:=.seq #[.int i tk,u]}:=(hs2.2 _ hTe).trans hT
  have I2:Inv X pins σ (upd H s.heap.objs.size (.tup [.int i,x])) {s with heap:=h2,gens:=s.gens,drawn:=s.drawn,toks:=tk+1}:=by
   refine I.step (ch:=[e,it]) (λb hb=>?_) (λb o _ _ hc e1 _=>kk b o (λz=>hc (by simp[z])) (λz=>hc (by simp[z])) e1) (λb o _ _ hc e1 _=>⟨o.slots,kk b o (λz=>hc (by simp[z])) (λz=>hc (by simp[z])) e1⟩)
    (λb o hc e1 n=>by rw[zaf (vau (vaj e1))];exact n) (λb o hc e1=>⟨o,kk b o (λz=>hc (by simp[z])) (λz=>hc (by simp[z])) e1⟩)
    (λb ys q=>by rw[zaf (zaj q hTn)];exact q) (λb o u q=>by rw[zaf (zaj q hTn)];exact q) (λb ps q=>⟨#[],by rw[zaf (zaj q hTn),q];simp⟩) (λm hm=>?_) (λb ob q=>?_) I.bare
   .obtain⟨_,a1,a2,a3,a4,a5⟩:=hf b hb
    exact⟨a3,a1,a4,a5⟩
   .obtain⟨o,es,ep,ho',r⟩:=hm
    exact⟨o,es,ep,kk _ o (vcq (hf e (by simp)).2.1) (vcq (hf it (by simp)).2.1) ho',r⟩
   .by_cases hb:b=s.heap.objs.size
    .subst hb
     rw[zag]at q;cases q
     exact⟨by show 2<=sizeLine;decide,[.int i tk,u],.cons ⟨_,rfl⟩ (.cons ru .nil),⟨_,hT2,rfl,⟨_,rfl⟩,rfl⟩⟩
    .rw[zaf hb]at q
     refine(I.hok b ob q).stay (λc v hc z=>kk c v ?_ ?_ z) (λc z=>by rw[zaf (zaj z hTn)];exact z) λc ys z=>by rw[zaf (zaj z hTn)];exact z
     .rcases hc with rfl|hc
      .exact(nE c ob q).1
      .exact(nE c _ hc).1
     .rcases hc with rfl|hc
      .exact(nE c ob q).2
      .exact(nE c _ hc).2
  refine⟨.ref s.heap.objs.size,_,I2,rfl,⟨_,x,rfl,hTn,rfl,λys hy=>by rw[I.tuple_inj hy hq];exact hx⟩,⟨⟨u,by simpa using he2⟩,hit.1.at λo q=>(hs2.2 it (vcq hei)).trans q⟩,λb hb=>?_⟩
  rw[zaf ?_]
  .exact f0 b hb
  .rcases vat.mp hb with rfl|hb
   .exact vcq hTe
   .have e':b=it:=by simpa using hb
    subst e'
    exact vcq hTi
 done:=by
  intro X hP hw hK hc i pins s σ H E I hf st hg
  subst hP hw hK
  obtain⟨xs,hq,hx⟩:=hg
  obtain⟨⟨old,he⟩,st⟩:=st
  obtain⟨its,rv,p,hz⟩:=I.tuple hq
  obtain⟨f0,f1,f2,f3,f4,f5⟩:=hf it (by simp)
  have hl:=rv.length
  have hd:X.A.in1.handled=none:=I.ok.hd hc
  have p:s.heap.IsTuple a its.toArray:=p
  refine PySem.wpAny_pyNext_enum_endD (n:=0) (P:=λ_ _=>True) (St:=λ_ h=>h.IsTupleIter it a i/\h.IsTuple a its.toArray) (fp:=[it,a]) ⟨?_,?_,?_,?_⟩ he ⟨st,p⟩ λh' eb=>⟨rfl,I.turned (t':=s.toks) (λb o hb q=>eb b o hb q) f0 f1 f3 f4 f5⟩
  .exact λ_ _ st=>let⟨o,ho,_⟩:=st.1;⟨o,ho⟩
  .exact λ_ _ _ st hk=>⟨st.1.at λo e=>hk it (by simp) o e,zit st.2 λo e=>hk a (by simp) o e⟩
  .exact λj s' Q' E' hj=>absurd hj (Nat.not_lt_zero _)
  .exact λs' Q' E' st' q'=>zg4 hd st'.1 st'.2 (by simp;omega) q'
 self:=λ_ _ _ _ _ st h=>by
  obtain⟨⟨old,he⟩,_⟩:=st
  exact wpAny_pyIter_enum he h
section
variable{κ:Type}[DecidableEq κ]
noncomputable def valV(kvs:List (κ×V))(k:κ):Option V:=(kvs.find? λkv=>decide (kv.1=k)).map (·.2)
noncomputable def putK(kvs:List (κ×V))(k:κ)(v:V):List (κ×V):=
 if(kvs.any λkv=>decide (kv.1=k))=true then kvs.map (λkv=>if kv.1=k then(kv.1,v)else kv)else kvs++[(k,v)]
theorem zfy{p:κ×V}{r:List (κ×V)}{k:κ}(e:p.1=k):valV (p::r) k=some p.2:=by simp[valV,vci,e]
theorem zdq{p:κ×V}{r:List (κ×V)}{k:κ}(e:¬p.1=k):valV (p::r) k=valV r k:=by simp[valV,vci,e]
theorem zh0(kvs:List (κ×V))(k:κ)(v:V):(putK kvs k v).length<=kvs.length+1:=by
 unfold putK
 split
 .rw[vai];omega
 .rw[vak,vam,vdq];omega
theorem KV.val{kvs:List (κ×V)}{vs:List (κ×Value)}(r:KV kvs vs)(k:κ):RelO (valV kvs k) (valueAt vs k):=by
 unfold KV at r
 induction r with
 |nil=>exact True.intro
 | @cons p q ps qs h t ih=>
  obtain⟨h1,h2⟩:=h
  by_cases e:p.1=k
  .have e':q.1=k:=h1.symm.trans e
   have b:valueAt (q::qs) k=some q.2:=by simp[valueAt,vci,e']
   rw[zfy e,b];exact h2
  .have e':¬q.1=k:=λz=>e (h1.trans z)
   have b:valueAt (q::qs) k=valueAt qs k:=by simp[valueAt,vci,e']
   rw[zdq e,b];exact ih
theorem KV.any{kvs:List (κ×V)}{vs:List (κ×Value)}(r:KV kvs vs)(k:κ):(kvs.any λkv=>decide (kv.1=k))=vs.any λkv=>decide (kv.1=k):=by
 unfold KV at r
 induction r with
 |nil=>rfl
 |cons h t ih=>rw[vee,vee,ih,h.1]
theorem KV.repl{kvs:List (κ×V)}{vs:List (κ×Value)}(r:KV kvs vs)(k:κ){y:V}{u:Value}(ry:RelV y u) :
 KV (kvs.map λkv=>if kv.1=k then(kv.1,y)else kv) (vs.map λkv=>if kv.1=k then(kv.1,u)else kv):=by
 unfold KV at r ⊢
 induction r with
 |nil=>exact .nil
 | @cons p q ps qs h t ih=>
  rw[va1,va1]
  refine .cons ?_ ih
  obtain⟨h1,h2⟩:=h
  by_cases e:p.1=k
  .rw[if_pos e,if_pos (h1.symm.trans e)];exact⟨h1,ry⟩
  .rw[if_neg e,if_neg (λz=>e (h1.trans z))];exact⟨h1,h2⟩
theorem KV.put{kvs:List (κ×V)}{vs:List (κ×Value)}(r:KV kvs vs)(k:κ){y:V}{u:Value}(ry:RelV y u):KV (putK kvs k y) (stored vs k u):=by
 unfold putK stored
 rw[r.any k]
 by_cases e:(vs.any λkv=>decide (kv.1=k))=true
 .rw[if_pos e,if_pos e];exact r.repl k ry
 .rw[if_neg e,if_neg e];exact Paired.snoc r ⟨rfl,ry⟩
end
theorem kV_is{P:Program}{w:World}{k:Key}{u:Value}(r:RelV (kV k) u):(za3 P w).is k u=true:=by
 cases k with
 |inl i=>obtain⟨t,e⟩:=(show ∃t,u=Value.int i t from r);subst e;exact zhu P w i t
 |inr x=>obtain⟨t,e⟩:=(show ∃t,u=Value.str x t from r);subst e;exact zhv P w x t
theorem zg5{P:Program}{w:World}:∀{ks:List Key} {us:List Value},Vals (ks.map kV) us->ItemsAre (za3 P w) ks us
 |[],_,r=>by rw[vdb]at r;cases r;exact .nil
 |k::ks,_,r=>by
  rw[va1]at r
  cases r with
  |cons h t=>exact .cons (kV_is h) (zg5 t)
noncomputable abbrev KT(H:Hp):List (List Key×V)->List (List Key×Addr×Value)->Prop:=Paired λp q=>p.1=q.1/\H q.2.1=some (.tup (p.1.map kV))/\RelV p.2 q.2.2
theorem KT.val{H:Hp}{kvs:List (List Key×V)}{xs:List (List Key×Addr×Value)}(r:KT H kvs xs)(k:List Key):RelO (valV kvs k) ((atKey xs k).map (·.2)):=by
 induction r with
 |nil=>exact True.intro
 | @cons p q ps qs h t ih=>
  obtain⟨h1,_,h2⟩:=h
  by_cases e:p.1=k
  .have e':q.1=k:=h1.symm.trans e
   have b:atKey (q::qs) k=some q.2:=by simp[atKey,vci,e']
   rw[zfy e,b];exact h2
  .have e':¬q.1=k:=λz=>e (h1.trans z)
   have b:atKey (q::qs) k=atKey qs k:=by simp[atKey,vci,e']
   rw[zdq e,b];exact ih
section
variable{P:Program}{w:World}{H:Hp}{h:Heap}{a:Addr}
theorem rd_of{u:HO}(ok:HOk P w H h)(e:Rd H a u):ObjOk P w H h a u:=e.ok ok
theorem dk_rd{kvs:List (Key×V)}(ok:HOk P w H h)(e:Rd H a (.dK kvs)):kvs.length<=sizeLine/\(a==sysModules)=false/\∃vs,KV kvs vs/\h.DictOf (za3 P w) a vs:=
 show ObjOk P w H h a (.dK kvs)from rd_of ok e
theorem dk_of{kvs:List (Key×V)}(ok:HOk P w H h)(e:H a=some (.dK kvs)):kvs.length<=sizeLine/\(a==sysModules)=false/\∃vs,KV kvs vs/\h.DictOf (za3 P w) a vs:=dk_rd ok (.inl e)
theorem zpt{ks:List Key}(ok:HOk P w H h)(e:H a=some (.tup (ks.map kV))):(tupleKind (za3 P w)).is h ks a:=by
 obtain⟨_,its,r,o,h1,h2,⟨n,h3⟩,_⟩:=(show ObjOk P w H h a (.tup (ks.map kV))from ok a _ e)
 exact⟨o,its.toArray,n,h1,h2,h3,by simpa using zg5 r⟩
theorem dt_rd{kvs:List (List Key×V)}(ok:HOk P w H h)(e:Rd H a (.dT kvs)):kvs.length<=sizeLine/\(a==sysModules)=false/\
 ∃xs,KT H kvs xs/\h.DictOfH (tupleKind (za3 P w)) a xs:=by
 obtain⟨z,y,xs,r,o,es,ep,h1,h2,h3,h4,h5⟩:=(show ObjOk P w H h a (.dT kvs)from rd_of ok e)
 refine⟨z,y,xs,r,o,es,ep,h1,h2,h3,h4,λx hx=>?_,h5⟩
 have all:∀{l:List (List Key×V)}{m:List (List Key×Addr×Value)},KT H l m->∀x∈m,(tupleKind (za3 P w)).is h x.1 x.2.1:=by
  intro l m q
  induction q with
  |nil=>intro x hx;exact nomatch hx
  | @cons p q ps qs hq t ih=>
   intro x hx
   rcases vat.mp hx with e|hx
   .subst e
    exact zpt ok (by rw[<-hq.1];exact hq.2.1)
   .exact ih x hx
 exact all r x hx
end
noncomputable def DGet(H:Hp)(a:Addr)(y:V)(r:Option V):Prop:=
 (∃kvs k,Rd H a (.dK kvs)/\y=kV k/\r=valV kvs k)\/∃kvs k b,Rd H a (.dT kvs)/\y=.ref b/\H b=some (.tup (k.map kV))/\r=valV kvs k
section
variable{X:Cx}{pins:List (Addr×Obj)}{σ:St}{H:Hp}{s:Shared}{a:Addr}{y v:V}{u r:Value}{o:Option V}{A:Around}{E:Value->Shared->Prop}
theorem Inv.big(I:Inv X pins σ H s):sysModules<s.heap.objs.size:=by
 have h:mainGlobals<s.heap.objs.size:=(I.mod.glob.keeps I.bk).lt
 exact Nat.lt_trans (by decide) h
theorem zll{Q:Value->Shared->Prop}(hu:A.units+1<cLine)(I:Inv X pins σ H s)(g:DGet H a y (some v))(ry:RelV y u)(h:∀w' s',Inv X pins σ H s'->RelV v w'->Q w' s') :
 wpAny (model X.prog X.w) A (getItem (.ref a) u) Q E s:=by
 rcases g with⟨kvs,k,e,ey,l⟩|⟨kvs,k,b,e,ey,eb,l⟩
 .subst ey
  obtain⟨z,hd,vs,rel,dd⟩:=dk_rd I.hok e
  obtain⟨w',hw,rw'⟩:=RelO.some_of (v:=v) (o:=valueAt vs k) (by rw[l];exact rel.val k)
  exact wpAny_getItem_of (kV_is ry) dd.mapOf hw (h w' _ (I.tok _) rw')
 .subst ey
  cases(show u=Value.ref b from ry)
  obtain⟨z,hd,xs,rel,dd⟩:=dt_rd I.hok e
  obtain⟨w',hw,rw'⟩:=RelO.some_of (v:=v) (o:=(atKey xs k).map (·.2)) (by rw[l];exact rel.val k)
  obtain⟨p,hp,hp2⟩:=vck.mp hw
  refine wpAny_getItem_heap (tupleKind_room_in1 hu) (zpt I.hok eb) dd hp ?_
  rw[hp2]
  exact h w' _ (I.tok _) rw'
theorem zrh{h':Heap}{t':Nat}{ob:HO}(I:Inv X pins σ H s)(mu:Mut (H a))(hs:Heap.SameBut a s.heap h')(he:∃q,h'.get? a=some q)(new:ObjOk X.prog X.w (upd H a ob) h' a ob) :
 Inv X pins σ (upd H a ob) {s with heap:=h',toks:=t'}:=
 I.write (x:=a) (e:=a) mu (.inl rfl) (λb q hb z=>(hs.2 b hb).trans z) he new
theorem zua{P:Program}{w:World}{H':Hp}{h':Heap}{kvs:List (Key×V)}{vs:List (Key×Value)}(z:kvs.length<=sizeLine)(hd:(a==sysModules)=false)(rel:KV kvs vs)(dd:h'.DictOf (za3 P w) a vs) :
 ObjOk P w H' h' a (.dK kvs):=⟨z,hd,vs,rel,dd⟩
end
theorem zh1{X:Cx}{pins:List (Addr×Obj)}{σ:St}{H:Hp}{s:Shared}{a:Addr}{y:V}{o:Option V}(I:Inv X pins σ H s)(g:DGet H a y o):s.TypeIs (.ref a) "dict":=by
 rcases g with⟨kvs,k,e,_,_⟩|⟨kvs,k,b,e,_,_,_⟩
 .obtain⟨_,_,vs,_,dd⟩:=dk_rd I.hok e
  exact dd.typeIs
 .obtain⟨_,_,xs,_,dd⟩:=dt_rd I.hok e
  exact dd.typeIs
theorem ziu{P:Program}{w:World}{H:Hp}(h:Heap)(hb:sysModules<h.objs.size):ObjOk P w H (h.push {cls:=.type "dict",data:=.dict #[]}) h.objs.size (.dK []):=
 ⟨va9 _,vcw.mpr (vcq (vau hb)),[],.nil,Heap.DictOf.new h⟩
noncomputable def zub:TE:=λ_ H Q=>∀p,H p=none->Q (.ref p) (upd H p (.dK []))
section
variable{X:Cx}{pos:Pos}
theorem zoc:PE X (.Dict [] [] pos) zub:=λpins s σ H Q I h=>
 wpAny_Dict_empty ⟨.ref s.heap.objs.size,_,I.laid (a:=s.heap.objs.size) (o:=.dK []) (t':=s.toks) (λ_ _ q=>vad _ q) (vac _) (ziu s.heap I.big),rfl,h _ (I.hok.fresh (vac _))⟩
end
noncomputable def ziv:List (TE×TE)->St->Hp->(List (V×V)->Hp->Prop)->Prop
 |[],_,H,Q=>Q [] H
 |(tk,tv)::r,σ,H,Q=>tk σ H λx H1=>tv σ H1 λy H2=>ziv r σ H2 λps H3=>Q ((x,y)::ps) H3
noncomputable abbrev VV:List (V×V)->List (Value×Value)->Prop:=Paired λp q=>RelV p.1 q.1/\RelV p.2 q.2
noncomputable def PPs(X:Cx)(pos:Pos)(keys:List (Option Expr))(values:List Expr)(trs:List (TE×TE)):Prop:=
 ∀(pins:List (Addr×Obj))(s:Shared)(σ:St)(H:Hp)(Q:List (V×V)->Hp->Prop),Inv X pins σ H s->ziv trs σ H Q->
  wpAny (model X.prog X.w) X.A (evalPairs (pairTrees keys values X.env pos)) (λvs s'=>∃ps H',Inv X pins σ H' s'/\VV ps vs/\Q ps H') X.xe s
theorem zri{X:Cx}{pos:Pos}:PPs X pos [] [] []:=λpins s σ H Q I h=>pairTrees_nil_walk ⟨[],H,I,.nil,h⟩
theorem zod{X:Cx}{pos:Pos}{k v:Expr}{ks:List (Option Expr)}{vs:List Expr}{tk tv:TE}{trs:List (TE×TE)}(hk:PE X k tk)(hv:PE X v tv)(hr:PPs X pos ks vs trs) :
 PPs X pos (some k::ks) (v::vs) ((tk,tv)::trs):=λpins s σ H Q I h=>
 pairTrees_cons_walk (thn (hk pins s σ H _ I h) λu s1 z9=>z9.el λx H1 I1 rx q1=>thn (hv pins s1 σ H1 _ I1 q1) λw2 s2 z9=>z9.el λy H2 I2 ry q2=>
  thn (hr pins s2 σ H2 _ I2 q2) λws s3 ⟨ps,H3,I3,rel,q3⟩=>⟨(x,y)::ps,H3,I3,.cons ⟨rx,ry⟩ rel,q3⟩)
noncomputable def zdl(kvs more:List (Key×V)):List (Key×V):=more.foldl (λacc kv=>putK acc kv.1 kv.2) kvs
theorem KV.merge:∀{more:List (Key×V)} {rs:List (Key×Value)} {kvs:List (Key×V)} {vs:List (Key×Value)},KV more rs->KV kvs vs->KV (zdl kvs more) (merged vs rs):=by
 intro more rs kvs vs r
 unfold KV at r
 induction r generalizing kvs vs with
 |nil=>intro q;exact q
 | @cons p q ps qs h t ih=>
  intro r0
  have e:KV (putK kvs p.1 p.2) (stored vs q.1 q.2):=by
   have:=r0.put p.1 h.2
   rw[<-h.1];exact this
  exact ih e
theorem zct:∀(more kvs:List (Key×V)),(zdl kvs more).length<=kvs.length+more.length
 |[],kvs=>by show kvs.length<=kvs.length+0;omega
 |p::r,kvs=>by
  have h1:=zct r (putK kvs p.1 p.2)
  have h2:=zh0 kvs p.1 p.2
  show(zdl (putK kvs p.1 p.2) r).length<=_
  rw[vam];omega
theorem ze7{P:Program}{w:World}:∀{kvs:List (Key×V)} {ws:List (Value×Value)},VV (kvs.map λkv=>(kV kv.1,kv.2)) ws->∃rs,Carries (za3 P w) ws rs/\KV kvs rs
 |[],_,r=>by rw[vdb]at r;cases r;exact⟨[],True.intro,.nil⟩
 |p::kvs,_,r=>by
  rw[va1]at r
  cases r with
  | @cons a b as bs h t=>
   obtain⟨rs,c,q⟩:=ze7 (P:=P) (w:=w) t
   obtain⟨b1,b2⟩:=b
   exact⟨(p.1,b2)::rs,⟨kV_is h.1,rfl,c⟩,.cons ⟨rfl,h.2⟩ q⟩
noncomputable def tDisp(trs:List (TE×TE)):TE:=λσ H Q=>∀p,H p=none->ziv trs σ (upd H p (.dK [])) λps H2=>H2 p=some (.dK [])/\∃kvs:List (Key×V),ps=kvs.map (λkv=>(kV kv.1,kv.2))/\kvs.length<=15/\Q (.ref p) (upd H2 p (.dK (zdl [] kvs)))
theorem zrj{X:Cx}{pos:Pos}{keys:List (Option Expr)}{values:List Expr}{trs:List (TE×TE)}(h:PPs X pos keys values trs)(hall:keys.all (·.isSome)=true)(hl:keys.length=values.length)(h0:keys≠[])
 (h15:keys.length<=15):PE X (.Dict keys values pos) (tDisp trs):=by
 intro pins s σ H Q I q
 have hn:=I.hok.fresh (vac s.heap.objs.size)
 have I1:=I.laid (a:=s.heap.objs.size) (o:=.dK []) (h':=s.heap.push {cls:=.type "dict",data:=.dict #[]}) (t':=s.toks) (λ_ _ q=>vad _ q) (vac _) (ziu s.heap I.big)
 refine wpAny_Dict_walk (knd:=za3 X.prog X.w) hall hl h0 h15 (thn (h pins _ σ _ _ I1 (q _ hn)) λws s2 hq0=>?_)
 obtain⟨ps,H2,I2,rel,e,kvs,ep,lk,q2⟩:=hq0
 subst ep
 obtain⟨rs,c,rk⟩:=ze7 (P:=X.prog) (w:=X.w) rel
 obtain⟨z,hd,vs0,r0,dd⟩:=dk_of I2.hok e
 cases r0
 refine⟨rs,c,dd,λh' dd' hs=>⟨.ref s.heap.objs.size,_,?_,rfl,q2⟩⟩
 have hz:(zdl [] kvs).length<=sizeLine:=by
  have h1:=zct kvs []
  rw[vdq]at h1
  rw[ved];omega
 have he:∃q,h'.get? s.heap.objs.size=some q:=let⟨q,_,_,hq,_⟩:=dd';⟨q,hq⟩
 exact zrh I2 (by rw[e];exact True.intro) hs he (zua hz hd (rk.merge .nil) dd')
noncomputable def turnG(e tg iter:Expr)(ifs:List Expr)(it acc:Value)(env:Env)(emit:Sem Unit):Sem Fin:=do
 standAt iter.pos
 match <-pyNext it with
 |none=>pure (.done .next)
 |some v=>
  letOwnedTupleGo tg it v
  assign tg env v
  let ok <-zc6 ifs env
  if ok then emit
  again (.compLoop e 0 it acc env)
theorem zlm{prog:Program}{w:World}{A:Around}{R:Result->Shared->Prop}{s:Shared}{e target iter:Expr}{ifs:List Expr}{it acc:Value}{env:Env}{emit:Sem Unit}(he:compTurn e 0 it acc env=turnG e target iter ifs it acc env emit)
 (hd:(model prog w).den (.compLoop e 0 it acc env)=(compTurn e 0 it acc env).onRaise (λx=>do noteFrame x env;theTreesLotGoes x)) (hA:A.under (.compLoop e 0 it acc env)=A) (I:Nat->Shared->Prop)
 (turn:∀n s,I n s->wpAny (model prog w) A (pyNext it) (λr s₁=>match r with
   |none=>R (.ok .next) s₁
   |some v=>wpAny (model prog w) A (letOwnedTupleGo target it v) (λ_ s₀=>wpAny (model prog w) A (assign target env v) (λ_ s₂=>
    wpAny (model prog w) A (zc6 ifs env) (λok s₃=>
     if ok=true then wpAny (model prog w) A emit (λ_ s₅=>∃m,m<n/\I m s₅) noX s₃
     else ∃m,m<n/\I m s₃) noX s₂) noX s₀) noX s₁) noX s)
 (n:Nat) (h:I n s):codeAny (model prog w) A (.compLoop e 0 it acc env) R s:=by
 refine codeAny_loop rfl I (λn s hI=>?_) n h
 rw[hd,hA]
 refine wpAny_noted (zej ?_)
 rw[he]
 unfold turnG
 refine vab (va4 (vab (vav (turn n s hI) (λr s₁ h₁=>?_) λ_ _ z=>z)))
 cases r with
 |none=>exact vaf h₁
 |some v=>
  refine vab (vav h₁ (λ_ s₀ h₀=>?_) λ_ _ z=>z)
  refine vab (vav h₀ (λ_ s₂ h₂=>vab (vav h₂ (λok s₃ h₃=>?_) λ_ _ z=>z)) λ_ _ z=>z)
  cases ok with
  |true=>
   simp only[vbd]at h₃ ⊢
   exact vab (vav h₃ (λ_ s₅ h₅=>vaf ⟨rfl,h₅⟩) λ_ _ z=>z)
  |false=>
   simp only[vah,vbe]at h₃ ⊢
   exact vaf ⟨rfl,h₃⟩
theorem zj4{prog:Program}{w:World}{A:Around}{R:Result->Shared->Prop}{s:Shared}{e target iter:Expr}{ifs:List Expr}{rest:List Comprehension}{it acc:Value}{env:Env}(hcl:clausesOf e=⟨target,iter,ifs,0⟩::rest)
 (hd:(model prog w).den (.compStart e 0 it acc env)=(compStart e 0 it acc env).onRaise (λx=>do noteFrame x env;standAt theWindowsPlace)) (hA:A.under (.compStart e 0 it acc env)=A)
 (h0:codeAny (model prog w) A (.compLoop e 0 it acc env) R s)
 (h:wpAny (model prog w) A (pyIter it) (λj s'=>codeAny (model prog w) A (.compLoop e 0 j acc env) R s') (notedBy (model prog w) A env λx s'=>R (.error x) s') s) :
 codeAny (model prog w) A (.compStart e 0 it acc env) R s:=by
 refine vd7 ?_
 rw[hd,hA]
 refine wpAny_notedAt ?_
 unfold compStart
 rw[hcl]
 show wpAny _ _ (ask >>= _) _ _ s
 refine vab (wpAny_askSetting (veg ?_))
 split
 .first
   |exact vab (vaf (vaf (And.intro rfl h0)))
   |exact vaf (And.intro rfl h0)
 .first
   |exact vab (vd5 (vab (va4 (vab (vav h (λj s' h'=>vaf ⟨rfl,h'⟩) λ_ _ z=>z)))))
   |(refine vab (vd5 ?_);show wpAny _ _ (standAt iter.pos >>= _) _ _ s;exact vab (va4 (vab (vav h (λj s' h'=>vaf ⟨rfl,h'⟩) λ_ _ z=>z))))
noncomputable abbrev TM:=St->Hp->(St->Hp->Prop)->Prop
noncomputable def PM(X:Cx)(emit:Sem Unit)(t:TM):Prop:=∀(pins:List (Addr×Obj)) (s:Shared) (σ:St) (H:Hp) (Q:St->Hp->Prop),Inv X pins σ H s->t σ H Q->wpAny (model X.prog X.w) X.A emit (λ_ s'=>∃σ' H',Inv X pins σ' H' s'/\Q σ' H') X.xe s
structure CKind(P:Program)(w:World)(e tg iter:Expr)(ifs:List Expr)(emit:Value->Env->Sem Unit)(newAcc:Sem Value)(ob:Obj)(u0:HO):Prop where
 cl:∃rest,clausesOf e=⟨tg,iter,ifs,0⟩::rest
 turn:∀it acc env,compTurn e 0 it acc env=turnG e tg iter ifs it acc env (emit acc env)
 dl:∀it acc env,(model P w).den (.compLoop e 0 it acc env)=(compTurn e 0 it acc env).onRaise (λx=>do noteFrame x env;theTreesLotGoes x)
 ds:∀it acc env,(model P w).den (.compStart e 0 it acc env)=(compStart e 0 it acc env).onRaise (λx=>do noteFrame x env;standAt theWindowsPlace)
 al:∀(A:Around) it acc env,A.under (.compLoop e 0 it acc env)=A
 as:∀(A:Around) it acc env,A.under (.compStart e 0 it acc env)=A
 new:∀(A:Around)(s:Shared)(Q:Value->Shared->Prop)(E:Value->Shared->Prop),Q (.ref s.heap.objs.size) {s with heap:=s.heap.push ob}->wpAny (model P w) A newAcc Q E s
 ok:∀(H:Hp)(h:Heap),sysModules<h.objs.size->ObjOk P w H (h.push ob) h.objs.size u0
noncomputable def CWalk(J:It)(f:St)(g:TG)(tc:TT)(tm:TM)(u0:HO)(D:Addr)(H1:Hp)(Q:Hp->Prop):Prop:=
 ∃W:Nat->Nat->St->Hp->Prop,(∃m,W 0 m f (upd H1 D u0))/\∀i m σ' H',W i m σ' H'->
  ((J.stop i H'/\Q H')\/(J.go i H'/\∀x H2,J.yld i H' x H2->g x σ' H2 λσ2 H3=>tc σ2 H3 λb H4=>
    if b=true then tm σ2 H4 λσ5 H5=>∃m',m'<m/\W (i+1) m' σ5 H5
    else ∃m',m'<m/\W (i+1) m' σ2 H4))
noncomputable def tCG(K:PySem.W.Frag)(f:St->St)(wi:TI)(g:TG)(tc:TT)(tm:Addr->TM)(u0:HO):TE:=λσ H Q=>wi σ H λJ H1=>∀D,H1 D=none->K.lookup D=none->CWalk J (f σ) g tc (tm D) u0 D H1 λH'=>Q (.ref D) H'
section
variable{X:Cx}{ow fr:List Str}{ix:List Nat}{scope:Scope}{e tg iter:Expr}{ifs:List Expr}{pos:Pos}{wi:TI}{g:TG}{tc:TT}{tm:Addr->TM}{emit:Value->Env->Sem Unit}{newAcc:Sem Value}{ob:Obj}{u0:HO}
theorem zel{pins:List (Addr×Obj)}{s:Shared}{σ:St}{Q:VK}{RR:Value->Addr->Result->Shared->Prop}(CK:CKind X.prog X.w e tg iter ifs emit newAcc ob u0)(S:CompScope X ow fr ix scope)(hc:X.calm=true)
 (hg:∀C s₀ H₀ ex,PG (X.comp (ow++fr) scope C s₀ H₀ ex) tg g) (ht:∀C s₀ H₀ ex,PTs (X.comp (ow++fr) scope C s₀ H₀ ex) ifs tc) (he:∀C s₀ H₀ ex D,PM (X.comp (ow++fr) scope C s₀ H₀ ex) (emit (.ref D) (X.comp (ow++fr) scope C s₀ H₀ ex).env) (tm D))
 {itv:Value} {E:Value->Shared->Prop}
 (h:PIE X pins σ tg (λJ H1=>∀D,H1 D=none->X.K.lookup D=none->CWalk J (cσ ow fr ix σ) g tc (tm D) u0 D H1 λH'=>Q (.ref D) H') itv s)
 (fin:∀D C H' s' m,FpOk X pins H' C->s'.heap.Ns C m->(∀h'',Heap.SameBut C s'.heap h''->Inv X pins σ H' {s' with heap:=h''})->Q (.ref D) H'->RR (.ref D) C (.ok .next) s') :
 wpAny (model X.prog X.w) X.A newAcc (λacc s₃=>wpAny (model X.prog X.w) X.A (newFunctionEnv scope X.env.globals (zb7 X.env.cells scope.names []) [] X.env.qual none .none (some X.env)) (λcenv s₄=>
  codeAny (model X.prog X.w) X.A (.compStart e 0 itv acc {cenv with scope:=relabel scope X.env}) (RR acc cenv.locals) s₄) E s₃) E s:=by
 obtain⟨it,fp,tn,J,H1,ei,I1,T,st1,f1,hq⟩:=h
 subst ei
 have hD:H1 s.heap.objs.size=none:=I1.hok.fresh (vac _)
 have hKD:X.K.lookup s.heap.objs.size=none:=by
  cases q:X.K.lookup s.heap.objs.size with
  |none=>rfl
  |some o=>exact absurd (vaj (I1.kIn _ _ q)) (vcf _)
 obtain⟨W,⟨m0,w0⟩,turn⟩:=hq _ hD hKD
 have I3:Inv X pins σ (upd H1 s.heap.objs.size u0) {s with heap:=s.heap.push ob}:=I1.laid (t':=s.toks) (o:=u0) (λb u q=>vad _ q) (vac _) (CK.ok _ _ I1.big)
 have hlt1:∀b∈fp,b<s.heap.objs.size:=λb hb=>by
  obtain⟨o,ho,_⟩:=T.obj _ _ st1 b hb
  exact vaj ho
 have f3:∀b∈fp,FpOk X pins (upd H1 s.heap.objs.size u0) b:=λb hb=>⟨by rw[zaf (vau (hlt1 b hb))];exact(f1 b hb).1,(f1 b hb).2⟩
 refine CK.new _ _ _ _ (wpAny_newFunctionEnv S.nocell (by intro y hy;simp at hy) (λh₁ hns hsb=>?_) S.kind)
 dsimp only at hns hsb ⊢
 generalize hS3:({s with heap:=s.heap.push ob}:Shared)=s3 at I3
 have hh3:s3.heap=s.heap.push ob:=by rw[<-hS3]
 rw[<-hh3]at hns hsb ⊢
 have hk:∀b o,s3.heap.get? b=some o->h₁.get? b=some o:=λb o q=>hsb.extBut b o (vau (vaj q)) (vad _ q)
 have hlt3:∀b∈fp,b<s3.heap.objs.size:=λb hb=>by rw[hh3,vc6];exact vba (hlt1 b hb)
 have J3:=zis S I3 f3 hlt3 (tk:=s.toks) hns hk
 have st3:tn 0 h₁:=T.keep _ _ _ st1 λb hb o q=>hk b o (by rw[hh3];exact vad _ q)
 generalize hXc:X.comp (ow++fr) scope s3.heap.objs.size s3 (upd H1 s.heap.objs.size u0) fp=Y at J3
 have ex3:∀b∈fp,Y.Ok->∀{H':Hp},H' b=none->FpOk Y [] H' b:=λb hb ok H' hn=>by
  subst hXc
  exact⟨hn,(ok.exf b hb).1,ok.exfs b hb,.inl hb,(ok.exf b hb).2,λp hp=>by cases(show p∈([]:List (Addr×Obj))from hp)⟩
 have back:∀{σ':St}{H':Hp}{s':Shared},Inv Y [] σ' H' s'->∀h'',Heap.SameBut s3.heap.objs.size s'.heap h''->Inv X pins σ H' {s' with heap:=h''}:=λ{σ' H' s'} I' h'' hs=>by
  subst hXc
  have neC:∀b o,s3.heap.get? b=some o->b≠s3.heap.objs.size:=λb o q=>vau (vaj q)
  have un:Un (frs X.stack) fp (upd H1 s.heap.objs.size u0) H' s3.heap h'':=
   ⟨λb o q n hb hx=>(hs.2 b (neC b o q)).trans (I'.base.keep b o q n hb hx),λb o q n hb hx=>by
    obtain⟨sl,z⟩:=I'.base.slot b o q n hb hx
    exact⟨sl,(hs.2 b (neC b o q)).trans z⟩,I'.base.free,λb o q hx=>by
    obtain⟨o',z⟩:=I'.base.there b o q hx
    exact⟨o',(hs.2 b (neC b o q)).trans z⟩,I'.base.tups,I'.base.frzs,I'.base.tbls⟩
  have hok:HOk X.prog X.w H' h'':=λb ob q=>by
   refine(I'.hok b ob q).stay (λc w' hcc z=>(hs.2 c ?_).trans z) (λ_ z=>z) λ_ _ z=>z
   rintro rfl
   have hfree:=I'.free
   rcases hcc with rfl|hcc
   .rw[show H' s3.heap.objs.size=none from hfree]at q;cases q
   .rw[show H' s3.heap.objs.size=none from hfree]at hcc;cases hcc
  have hos:s'.os=s3.os:=I'.os
  exact I3.call' (s':={s' with heap:=h''}) (ch:=fp) hos un hok I'.bare λb hb=>by
   obtain⟨_,a1,a2,a3,a4,a5⟩:=f1 b hb
   exact⟨a3,a1,a4,a5⟩
 have hYP:Y.prog=X.prog:=by subst hXc;rfl
 have hYw:Y.w=X.w:=by subst hXc;rfl
 have hYK:Y.K=X.K:=by subst hXc;rfl
 have hYA:Y.A=X.A:=by subst hXc;rfl
 have hYc:Y.calm=true:=by rw[<-hXc];exact hc
 have hYx:Y.xe=noX:=by subst hXc;rfl
 have hYL:Y.env.locals=s3.heap.objs.size:=by subst hXc;rfl
 have hg':PG Y tg g:=by rw[<-hXc];exact hg _ _ _ _
 have ht':PTs Y ifs tc:=by rw[<-hXc];exact ht _ _ _ _
 have he':∀D,PM Y (emit (.ref D) Y.env) (tm D):=λD=>by rw[<-hXc];exact he _ _ _ _ D
 have loop:∀s4:Shared,Inv Y [] (cσ ow fr ix σ) (upd H1 s.heap.objs.size u0) s4->tn 0 s4.heap->codeAny (model X.prog X.w) X.A (.compLoop e 0 (.ref it) (.ref s.heap.objs.size) Y.env) (RR (.ref s.heap.objs.size) s3.heap.objs.size) s4:=by
  intro s4 I4 st4
  refine zlm (CK.turn _ _ _) (CK.dl _ _ _) (CK.al _ _ _ _) (λn s'=>∃i σ' H',Inv Y [] σ' H' s'/\tn i s'.heap/\(∀b∈fp,H' b=none)/\W i n σ' H') ?_ m0 ⟨0,_,_,I4,st4,λb hb=>(f3 b hb).1,w0⟩
  rintro n s5 ⟨i,σ5,H5,I5,st5,fr5,w5⟩
  rcases turn i n σ5 H5 w5 with⟨stop,q⟩|⟨go,step⟩
  .have td:=T.done Y hYP hYw hYK hYc i [] s5 σ5 H5 noX I5 (λb hb=>ex3 b hb I5.ok (fr5 b hb)) st5 stop
   rw[hYA]at td
   refine thn td λr s6 hq0=>?_
   obtain⟨hr,I6⟩:=hq0
   subst hr
   obtain⟨m6,hn6,_⟩:=I6.loc
   rw[hYL]at hn6
   have hf6:=I6.free
   rw[hYL]at hf6
   exact fin _ _ H5 s6 m6 (I3.fpOk (vac _) hf6) hn6 (back I6) q
  .have td:=T.item Y hYP hYw hYK hYc i [] s5 σ5 H5 noX I5 (λb hb=>ex3 b hb I5.ok (fr5 b hb)) st5 go
   rw[hYA]at td
   refine thn td λr s6 hq0=>?_
   obtain⟨u,hr,h6⟩:=hq0
   subst hr
   refine thn h6 λ_ s7 hq0=>?_
   obtain⟨x,H7,I7,r7,y7,st7,fr7⟩:=hq0
   have I7':=I7.pinned (λb hb=>ex3 b hb I7.ok (fr7 b hb)) (T.obj _ _ st7)
   have again:∀{σ8:St}{H8:Hp}{s8:Shared}{m':Nat},Inv Y ([]++zd9 fp s7.heap) σ8 H8 s8->m'<n->W (i+1) m' σ8 H8->∃m,m<n/\∃i σ' H',Inv Y [] σ' H' s8/\tn i s8.heap/\(∀b∈fp,H' b=none)/\W i m σ' H':=λ{σ8 H8 s8 m'} I8 hm w8=>by
    refine⟨m',hm,i+1,σ8,H8,I8.unpinned,T.keep _ _ _ st7 λb hb o q=>(I8.pin (b,o) (vas _ (vas _ (za6 hb q)))).1,λb hb=>?_,w8⟩
    obtain⟨o,q,d⟩:=T.obj _ _ st7 b hb
    exact(I8.pin (b,o) (vas _ (vas _ (za6 hb q)))).2.1
   have q7:=hg' _ s7 σ5 H7 x u _ I7' r7 (step x H7 y7)
   rw[hYP,hYw,hYA,hYx]at q7
   refine thn q7 λ_ s8 hq0=>?_
   obtain⟨σ8,H8,I8,q8⟩:=hq0
   have q8:=ht' _ s8 σ8 H8 _ I8 q8
   rw[hYP,hYw,hYA,hYx]at q8
   refine thn q8 λok s9 z9=>z9.el λH9 I9 q9=>?_
   cases ok with
   |false=>
    simp only[vah,vbe]at q9 ⊢
    obtain⟨m',hm,w9⟩:=q9
    exact again I9 hm w9
   |true=>
    simp only[vbd]at q9 ⊢
    have q10:=he' _ _ s9 σ8 H9 _ I9 q9
    rw[hYP,hYw,hYA,hYx]at q10
    exact thn q10 λ_ s10 ⟨σ10,H10,I10,m',hm,w10⟩=>again I10 hm w10
 have J3':Inv Y [] (cσ ow fr ix σ) (upd H1 s.heap.objs.size u0) {s with heap:=h₁,toks:=s.toks}:=by
  rw[<-hS3]at J3
  exact J3
 have hl:=loop _ J3' st3
 obtain⟨rest,hcl⟩:=CK.cl
 have fin':=zj4 hcl (CK.ds _ _ _) (CK.as _ _ _ _) hl (T.self _ 0 _ _ _ st3 hl)
 rw[<-hXc]at fin'
 exact fin'
theorem pe_cg(CK:CKind X.prog X.w e tg iter ifs emit newAcc ob u0)(hev:eval e X.env=comprehension e scope X.env pos newAcc false (eval iter X.env))(S:CompScope X ow fr ix scope)(hc:X.calm=true)(hi:PI X tg iter wi)
 (hg:∀C s₀ H₀ ex,PG (X.comp (ow++fr) scope C s₀ H₀ ex) tg g) (ht:∀C s₀ H₀ ex,PTs (X.comp (ow++fr) scope C s₀ H₀ ex) ifs tc) (he:∀C s₀ H₀ ex D,PM (X.comp (ow++fr) scope C s₀ H₀ ex) (emit (.ref D) (X.comp (ow++fr) scope C s₀ H₀ ex).env) (tm D))
 (hs:∀x,foldedSetIterable iter X.env x=pure x):PE X e (tCG X.K (cσ ow fr ix) wi g tc tm u0):=by
 intro pins s σ H Q I h
 rw[hev]
 obtain⟨rest,hcl⟩:=CK.cl
 refine vct (use:=none) hcl hs (zbh λy hy e=>I.ok.has _ (S.free y hy e)) S.kind S.names (thn (hi pins s σ H _ I h) λv s1 h1=>thn h1 λitv s2 h2=>?_)
 exact zel (RR:=λacc C=>compPost (model X.prog X.w) X.A X.xe none (EP X pins σ Q) acc C) CK S hc hg ht he h2 λD C H' s' m _ hn hI q=>⟨m,hn,λh'' hs''=>⟨.ref D,H',hI h'' hs'',rfl,q⟩⟩
theorem zoe{i:Nat}{y:Str}{py spos:Pos}(CK:CKind X.prog X.w e tg iter ifs emit newAcc ob u0)(hev:∀use,evalThenUse e X.env use=(do let _ <-comprehension e scope X.env pos newAcc false (eval iter X.env) (some use)))(hN:X.N.Nodup)(hiy:X.N[i]?=some y)(hy:Loc X.env.scope y)(S:CompScope X ow fr ix scope)(hc:X.calm=true)(hi:PI X tg iter wi)
 (hg:∀C s₀ H₀ ex,PG (X.comp (ow++fr) scope C s₀ H₀ ex) tg g) (ht:∀C s₀ H₀ ex,PTs (X.comp (ow++fr) scope C s₀ H₀ ex) ifs tc) (he:∀C s₀ H₀ ex D,PM (X.comp (ow++fr) scope C s₀ H₀ ex) (emit (.ref D) (X.comp (ow++fr) scope C s₀ H₀ ex).env) (tm D))
 (hsw:swapsWith e (some (.Name y py)) spos.line X.env=pure true) (hf:X.fn y=true\/X.env.scope.names.lookup y=some .local)
 (hs:∀x,foldedSetIterable iter X.env x=pure x):PS X (.Assign [.Name y py] e spos) (tAsg (tCG X.K (cσ ow fr ix) wi g tc tm u0) (gName i)):=by
 intro pins s σ H D I h
 rw[exec_Assign_Name_used _ _ _ _ hsw]
 refine vab (va4 (vab ?_))
 rw[hev]
 obtain⟨rest,hcl⟩:=CK.cl
 refine vab (vav (vct (use:=some (assign (.Name y py) X.env)) (Q:=λ_ s'=>SP X pins D .next s') hcl hs (zbh λy hy e=>I.ok.has _ (S.free y hy e)) S.kind S.names
  (thn (hi pins s σ H _ I h) λv s1 h1=>thn h1 λitv s2 h2=>?_)) (λ_ s' hq=>vaf (vaf hq)) λ_ _ e=>e)
 refine zel (Q:=λx H1=>gName i x σ H1 D.nx) (RR:=λacc C=>compPost (model X.prog X.w) X.A X.xe (some (assign (.Name y py) X.env)) (λ_ s'=>SP X pins D .next s') acc C) CK S hc hg ht he h2 λd C H' s' m hC hn hI q=>?_
 show wpAny _ X.A (assign (.Name y py) X.env (.ref d)) _ _ _
 have I':Inv X pins σ H' s':=hI s'.heap (.refl ..)
 refine wpAny_assign_Name (zd8 I' hN hiy hy (v:=.ref d) rfl (λs'' I'' ⟨a,hsb,ha⟩=>?_) hf)
 obtain⟨c0,c1,c2,c3,c4,c5⟩:=hC
 have hCa:C≠a:=by
  rcases ha with rfl|ha
  .exact c1
  .exact λz=>c4 _ _ ha z.symm
 exact⟨m,hn.sameBut hsb hCa,λh'' hs''=>⟨_,H',I''.turned (t':=s''.toks) (it:=C) (λb o hb q=>(hs''.2 b hb).trans q) c0 c1 c3 c4 c5,q⟩⟩
end
theorem zfz:fillsNumberSlot (.type "tuple") "mul" = pure false:=
 PySem.fillsNumberSlot_seq (id:="tuple.__mul__") (r:=some (.builtin "tuple.__rmul__")) vdi.lookup (by decide +kernel) F.slot_tuple_rmul.lookup (by decide +kernel)
theorem zln:seqRepeat? (.type "tuple")=pure (some (.builtin "tuple.__mul__")):=by
 unfold seqRepeat?
 rw[PySem.seqSlot_of (T:="tuple") (name:="__mul__") (id:="tuple.__mul__") vdi.lookup (by decide +kernel),PySem.seqSlot_of (T:="tuple") (name:="__rmul__") (id:="tuple.__rmul__") F.slot_tuple_rmul.lookup (by decide +kernel)]
 rfl
theorem zof(k:Int)(t:Tok)(l:Addr)(its:Array Value)(n:Nat)(dd:Option Addr)(sl:Array (Option Value)) :
 Meets (Builtin.«int.__rmul__» ⟨[.int k t,.ref l],[]⟩) (λ_ R s=>s.heap.get? l=some {cls:=.type "tuple",dict:=dd,data:=.seq its n,slots:=sl}/\R (.ok (.ret Value.notImplemented)) s):=
 .of_wp λprog w A R s h=>by
  obtain⟨hp,g,d,tk,os⟩:=s
  obtain⟨e,h⟩:=h
  wp_walk using va7 e
  exact⟨_,rfl,h⟩
theorem zog(l:Addr)(its:Array Value)(n:Nat)(dd:Option Addr)(sl:Array (Option Value))(k:Int)(t:Tok)(h1:¬(decide (k < -(2 ^ 63))||decide (k>=2 ^ 63))=true)(h2:(its.isEmpty||k==1)=true) :
 Meets (Builtin.«tuple.__mul__» ⟨[.ref l,.int k t],[]⟩) (λ_ R s=>s.heap.get? l=some {cls:=.type "tuple",dict:=dd,data:=.seq its n,slots:=sl}/\R (.ok (.ret (.ref l))) s):=
 .of_wp λprog w A R s h=>by
  obtain⟨hp,g,d,tk,os⟩:=s
  obtain⟨e,h⟩:=h
  have f1:=AutoSeq1.idx_int
  wp_walk using va7 e
  refine veg ?_
  rw[if_neg h1]
  wp_walk using va7 e
  exact⟨_,rfl,h⟩
theorem zoh(l:Addr)(its:Array Value)(n:Nat)(dd:Option Addr)(sl:Array (Option Value))(k:Int)(t:Tok)(h1:¬(decide (k < -(2 ^ 63))||decide (k>=2 ^ 63))=true)(h2:¬(its.isEmpty||k==1)=true)(h3:(decide (k<=0)||its.isEmpty)=true) :
 Meets (Builtin.«tuple.__mul__» ⟨[.ref l,.int k t],[]⟩) (λ_ R s=>s.heap.get? l=some {cls:=.type "tuple",dict:=dd,data:=.seq its n,slots:=sl}/\R (.ok (.ret (.ref s.heap.objs.size))) {s with heap:=s.heap.push {cls:=.type "tuple",data:=.seq #[]}}):=
 .of_wp λprog w A R s h=>by
  obtain⟨hp,g,d,tk,os⟩:=s
  obtain⟨e,h⟩:=h
  have f1:=AutoSeq1.idx_int
  wp_walk using va7 e
  refine veg ?_
  rw[if_neg h1]
  wp_walk using va7 e
  exact⟨_,rfl,h⟩
theorem zoi(l:Addr)(its:Array Value)(n:Nat)(dd:Option Addr)(sl:Array (Option Value))(k:Int)(t:Tok)(h1:¬(decide (k < -(2 ^ 63))||decide (k>=2 ^ 63))=true)(h2:¬(its.isEmpty||k==1)=true)(h3:¬(decide (k<=0)||its.isEmpty)=true)
 (h4:¬(its.size*k> (2 ^ 63-1)/8)) (h5:¬Builtin.Tuple.tupleTooMany (its.size*k)=true) (h6:((List.replicate k.toNat its).foldl (· ++ ·) #[]).size<=sizeLine) :
 Meets (Builtin.«tuple.__mul__» ⟨[.ref l,.int k t],[]⟩) (λ_ R s=>s.heap.get? l=some {cls:=.type "tuple",dict:=dd,data:=.seq its n,slots:=sl}/\R (.ok (.ret (.ref s.heap.objs.size))) {s with heap:=s.heap.push {cls:=.type "tuple",data:=.seq ((List.replicate k.toNat its).foldl (· ++ ·) #[])}}):=
 .of_wp λprog w A R s h=>by
  obtain⟨hp,g,d,tk,os⟩:=s
  obtain⟨e,h⟩:=h
  have f1:=AutoSeq1.idx_int
  wp_walk using va7 e
  refine veg ?_
  rw[if_neg h1]
  wp_walk using va7 e
  refine veg ?_
  rw[if_neg h4]
  wp_walk using va7 e
  exact⟨_,rfl,h⟩
section
variable{X:Cx}
noncomputable def rRepT(K:PySem.W.Frag):R2:=λx y H Q=>∃a k xs,x=.ref a/\y=.int k/\SqT K H a xs/\-(2 ^ 62)<=k/\k<2 ^ 62/\xs.length*k.toNat<=sizeLine/\
 ((xs.isEmpty||k==1)=true->Q (.ref a) H)/\((xs.isEmpty||k==1)=false->∀p,H p=none->Q (.ref p) (upd H p (.tup (List.replicate k.toNat xs).flatten)))
theorem zem{xs:List V}{us:List Value}(r:Vals xs us):us.toArray.isEmpty=xs.isEmpty:=by
 cases r<;>rfl
theorem zrk:OpR X (binaryOp .Mult) (rRepT X.K):=by
 intro pins s σ H x y v u Q I rx ry h
 obtain⟨a,k,xs,rfl,rfl,ha,k1,k2,hz,q1,q2⟩:=h
 cases rx
 obtain⟨t,rfl⟩:=ry
 obtain⟨its,r,p,_⟩:=I.tuple ha
 obtain⟨⟨c,dd,dt,sl⟩,e1,e2,n,e3⟩:=p
 replace e2:c=.type "tuple":=e2
 replace e3:dt=.seq its.toArray n:=e3
 subst e2 e3
 have hl:xs.length=its.length:=r.length
 have h1:¬(decide (k < -(2 ^ 63))||decide (k>=2 ^ 63))=true:=by
  simp only[vcu,vax]
  omega
 refine wpAny_binaryOp_repeat_ref (T:="tuple") (U:="int") (by decide) ⟨_,e1,rfl⟩ (λs'=>typeIs_int s' k t) zfz F.fills_int_mul F.slot_int_rmul zln F.slot_int_index.lookup
  (vdd F.slot_int_rmul (typeIs_int s k t) F.entry_int_rmul (F.args_int_rmul_2 _ _) (zof k t a its.toArray n dd sl) ⟨e1,rfl,⟨_,e1,rfl⟩,?_⟩)
 by_cases h2:(its.toArray.isEmpty||k==1)=true
 .refine vdd vdi ⟨_,e1,rfl⟩ F.entry_tuple_mul (F.args_tuple_mul_2 _ _) (zog a its.toArray n dd sl k t h1 h2) ⟨e1,?_⟩
  exact⟨.ref a,H,I,rfl,q1 (by rw[<-zem r];exact h2)⟩
 .have q2:=q2 (by rw[<-zem r];simpa using h2)
  by_cases h3:(decide (k<=0)||its.toArray.isEmpty)=true
  .have hk:k.toNat=0:=by
    have:its.toArray.isEmpty=false:=by
     cases q:its.toArray.isEmpty with
     |false=>rfl
     |true=>rw[q]at h2;exact absurd rfl h2
    rw[this,Bool.or_false,vax]at h3
    omega
   refine vdd vdi ⟨_,e1,rfl⟩ F.entry_tuple_mul (F.args_tuple_mul_2 _ _) (zoh a its.toArray n dd sl k t h1 h2 h3) ⟨e1,?_⟩
   rw[hk]at q2
   exact⟨.ref s.heap.objs.size,_,I.laid (t':=s.toks) (o:=.tup []) (λb ob q=>vad _ q) (vac _) ⟨va9 _,[],.nil,zbq.new _ _⟩,rfl,q2 _ (I.hok.fresh (vac _))⟩
  .have hk:0<k:=by
    simp only[vcu,vax,not_or]at h3
    omega
   have hkn:((k.toNat:Nat):Int)=k:=Int.toNat_of_nonneg (by omega)
   have hmul:(its.toArray.size:Int)*k=((xs.length*k.toNat:Nat):Int):=by
    rw[vag,<-hl,Int.natCast_mul,hkn]
   have hsl:(sizeLine:Nat)=16777216:=rfl
   have fl:(List.replicate k.toNat its.toArray).foldl (· ++ ·) #[]=(List.replicate k.toNat its).flatten.toArray:=by
    have:=zg1 its k.toNat []
    rw[vcj]at this
    exact this
   refine vdd vdi ⟨_,e1,rfl⟩ F.entry_tuple_mul (F.args_tuple_mul_2 _ _) (zoi a its.toArray n dd sl k t h1 h2 h3 (by rw[hmul];omega) (by
    unfold Builtin.Tuple.tupleTooMany
    rw[hmul,vax]
    omega) (by rw[fl,vag,zlc,Nat.mul_comm,<-hl];exact hz)) ⟨e1,?_⟩
   rw[fl]
   exact⟨.ref s.heap.objs.size,_,I.laid (t':=s.toks) (o:=.tup (List.replicate k.toNat xs).flatten) (λb ob q=>vad _ q) (vac _) ⟨by rw[zlc,Nat.mul_comm];exact hz,_,r.rep k.toNat,zbq.new _ _⟩,rfl,q2 _ (I.hok.fresh (vac _))⟩
noncomputable def zpu(K:PySem.W.Frag):R2:=λx y H Q=>∃a b ys,x=.ref a/\y=.ref b/\SqT K H a []/\SqT K H b ys/\Q (.ref b) H
theorem zoj:OpR X (binaryOp .Add) (zpu X.K):=by
 intro pins s σ H x y v u Q I rx ry h
 obtain⟨a,b,ys,rfl,rfl,ha,hb,q⟩:=h
 cases rx
 cases ry
 obtain⟨its,r1,p1,_⟩:=I.tuple ha
 obtain⟨its2,r2,p2,_⟩:=I.tuple hb
 cases r1
 obtain⟨⟨c,dd,dt,sl⟩,e1,e2,n,e3⟩:=p1
 obtain⟨⟨c2,dd2,dt2,sl2⟩,f1,f2,n2,f3⟩:=p2
 replace e2:c=.type "tuple":=e2
 replace e3:dt=.seq ([]:List Value).toArray n:=e3
 replace f2:c2=.type "tuple":=f2
 replace f3:dt2=.seq its2.toArray n2:=f3
 subst e2 e3 f2 f3
 exact concat_meets ⟨_,e1,rfl⟩ ⟨_,f1,rfl⟩ noFill_tuple_add seq_tuple_add PySem.F.slot_tuple_add PySem.F.entry_tuple_add (PySem.F.args_tuple_add_2 _ _) (tuple_addW0 a b ([]:List Value).toArray its2.toArray n n2 dd dd2 sl sl2 rfl) ⟨e1,f1,⟨.ref b,H,I,rfl,q⟩⟩
noncomputable def anyEq(ds:List PyData)(d:PyData):Bool:=ds.any λe=>PyData.eqv e d
noncomputable def rInD(K:PySem.W.Frag)(neg:Bool):R2:=λx y H Q=>∃p xs ds d,y=.ref p/\(SqL K H p xs\/SqT K H p xs)/\Rps K (λ_=>False) H xs ds/\Rp K (λ_=>False) H x d/\ds.all SeqAt.shaped=true/\SeqAt.shaped d=true/\Q (.bl (if neg then !anyEq ds d else anyEq ds d)) H
theorem zbe{h:Heap}:∀{us:List Value} {ds:List PyData} {as:List Addr} {i:Nat} {u:Value},ReadsAll h us ds as->us[i]?=some u->∃d bs,ds[i]?=some d/\Reads h u d bs
 |_,_,_,i,u,.nil,e=>by simp at e
 |_,_,_,0,u,.cons r _,e=>by simp at e;subst e;exact⟨_,_,rfl,r⟩
 |_,_,_,i+1,u,.cons _ rs,e=>by
  obtain⟨d,bs,h1,h2⟩:=zbe rs (by simpa using e)
  exact⟨d,bs,by simpa using h1,h2⟩
open Classical in
noncomputable def eqOf(us:List Value)(ds:List PyData)(d:PyData)(u:Value):Bool:=decide (∃(i:Nat) (e:PyData),us[i]?=some u/\ds[i]?=some e/\PyData.eqv e d=true)
open Classical in
theorem zcg{us:List Value}{ds:List PyData}{d:PyData}{u:Value}:eqOf us ds d u=true↔∃(i:Nat) (e:PyData),us[i]?=some u/\ds[i]?=some e/\PyData.eqv e d=true:=by
 unfold eqOf
 exact decide_eq_true_iff
theorem zdr{us:List Value}{ds:List PyData}{d:PyData}(hl:us.length=ds.length):us.any (eqOf us ds d)=anyEq ds d:=by
 cases q:anyEq ds d with
 |true=>
  unfold anyEq at q
  rw[List.any_eq_true]at q
  obtain⟨e,h1,h2⟩:=q
  obtain⟨i,hi,h3⟩:=List.mem_iff_getElem.mp h1
  rw[List.any_eq_true]
  refine⟨us[i]'(by omega),vdj _,?_⟩
  rw[zcg]
  exact⟨i,e,by simp,by rw[vay hi,h3],h2⟩
 |false=>
  unfold anyEq at q
  rw[List.any_eq_false]at q ⊢
  intro u hu z
  rw[zcg]at z
  obtain⟨i,e,h1,h2,h3⟩:=z
  exact q e (vb9 h2) h3
theorem zbi{h:Heap}:∀{us:List Value} {ds:List PyData} {as:List Addr},ReadsAll h us ds as->us.length=ds.length
 |_,_,_,.nil=>rfl
 |_,_,_,.cons _ r=>by rw[vam,vam,zbi r]
theorem zc7{A:Around}{s:Shared}{us:List Value}{ds:List PyData}{as bs:List Addr}{d:PyData}{v:Value}(hu:A.units+64<cLine)(ra:ReadsAll s.heap us ds as)(rb:Reads s.heap v d bs)(s1:ds.all SeqAt.shaped=true)(s2:SeqAt.shaped d=true) :
 ∀u∈us,SeqAt.EqAt A s u v (eqOf us ds d u):=by
 intro u hm
 have sh:∀(i:Nat)(e:PyData),ds[i]?=some e->SeqAt.shaped e=true:=λi e q=>vbr.mp s1 e (vb9 q)
 cases q:eqOf us ds d u with
 |true=>
  rw[zcg]at q
  obtain⟨i,e,h1,h2,h3⟩:=q
  obtain⟨e',cs,h4,h5⟩:=zbe ra h1
  rw[h2]at h4;cases h4
  have:=SeqAt.eqAt_reads e d A s u v cs bs h5 rb (vc7 (sh i e h2)) (vc7 s2) (SeqAt.room_of_shaped (sh i e h2) hu)
  rw[h3]at this;exact this
 |false=>
  obtain⟨i,hi,h1⟩:=List.mem_iff_getElem.mp hm
  have h1:us[i]?=some u:=by rw[vay hi,h1]
  obtain⟨e,cs,h4,h5⟩:=zbe ra h1
  have h3:PyData.eqv e d=false:=by
   cases z:PyData.eqv e d with
   |false=>rfl
   |true=>
    rw[zcg.mpr ⟨i,e,h1,h4,z⟩]at q
    cases q
  have:=SeqAt.eqAt_reads e d A s u v cs bs h5 rb (vc7 (sh i e h4)) (vc7 s2) (SeqAt.room_of_shaped (sh i e h4) hu)
  rw[h3]at this;exact this
theorem zuc(hu:X.A.in1.units+64<cLine):OpR X (compareOp .In) (rInD X.K false):=by
 intro pins s σ H x y v u Q I rx ry h
 obtain⟨p,xs,ds,d,rfl,hq,r1,r2,s1,s2,q⟩:=h
 cases ry
 obtain⟨bs,rb⟩:=r2.reads I rx
 rcases hq with hq|hq
 .obtain⟨its,r,pl,hz⟩:=I.list hq
  obtain⟨as,ra⟩:=r1.reads I r
  refine SeqAt.in_listAt (eqOf its ds d) pl.isList (λw hw=>zc7 hu ra rb s1 s2 w (by simpa using hw)) ⟨.bl _,H,I,rfl,?_⟩
  rw[show its.toArray.any (eqOf its ds d)=its.any (eqOf its ds d) by simp,zdr (zbi ra)]
  exact q
 .obtain⟨its,r,pl,hz⟩:=I.tuple hq
  obtain⟨as,ra⟩:=r1.reads I r
  refine SeqAt.in_tupleAt (eqOf its ds d) pl (λw hw=>zc7 hu ra rb s1 s2 w (by simpa using hw)) ⟨.bl _,H,I,rfl,?_⟩
  rw[show its.toArray.any (eqOf its ds d)=its.any (eqOf its ds d) by simp,zdr (zbi ra)]
  exact q
theorem zlo(hu:X.A.in1.units+64<cLine):OpR X (compareOp .NotIn) (rInD X.K true):=by
 intro pins s σ H x y v u Q I rx ry h
 obtain⟨p,xs,ds,d,rfl,hq,r1,r2,s1,s2,q⟩:=h
 cases ry
 obtain⟨bs,rb⟩:=r2.reads I rx
 rcases hq with hq|hq
 .obtain⟨its,r,pl,hz⟩:=I.list hq
  obtain⟨as,ra⟩:=r1.reads I r
  refine SeqAt.notIn_listAt (eqOf its ds d) pl.isList (λw hw=>zc7 hu ra rb s1 s2 w (by simpa using hw)) ⟨.bl _,H,I,rfl,?_⟩
  rw[show its.toArray.any (eqOf its ds d)=its.any (eqOf its ds d) by simp,zdr (zbi ra)]
  exact q
 .obtain⟨its,r,pl,hz⟩:=I.tuple hq
  obtain⟨as,ra⟩:=r1.reads I r
  refine SeqAt.notIn_tupleAt (eqOf its ds d) pl (λw hw=>zc7 hu ra rb s1 s2 w (by simpa using hw)) ⟨.bl _,H,I,rfl,?_⟩
  rw[show its.toArray.any (eqOf its ds d)=its.any (eqOf its ds d) by simp,zdr (zbi ra)]
  exact q
end
end L2
namespace HT
open PySem PySem.Spec PyProof.Rows
section
variable{prog:Program}{w:World}{A:Around}{E:Value->Shared->Prop}{s:Shared}
theorem getItem_tuple_whole{t sl:Addr}{items:Array Value}{vl vu:Value}{lo hi:Option Int}{Q:Value->Shared->Prop}(ht:IsTup s.heap t items)(hs:s.heap.IsSliceOf sl vl vu .none)(pl:IsPart vl lo)(pu:IsPart vu hi)
 (hw:sIx items.size 0 lo=0/\sIx items.size items.size hi=items.size)
 (h:Q (.ref t) s):wpAny (model prog w) A (getItem (.ref t) (.ref sl)) Q E s:=by
 obtain⟨os,hos,hcs,hds⟩:=id hs
 have hTs:s.TypeIs (.ref sl) "slice":=⟨os,hos,hcs⟩
 unfold getItem
 try with_reducible refine vbs ?_
 first|refine vab (vaf ?_)|skip
 refine vab (wpAny_sequenceKey ht.typeIs (by decide) ?_)
 refine vab (vcz (name:=Str.ofString "__getitem__") ht.typeIs vbl
  (vd0 vbl ht.typeIs entry_tuple_getitem ?_ (args_tuple_getitem _ _)))
 show wpAny _ _ (Builtin.Tuple.tupleItemsOf (.ref t) >>= _) _ _ s
 refine vab (tupleItemsOf_ ht ?_)
 refine vab (wpAny_typeOf hTs ?_)
 rw[if_pos (by decide)]
 refine vab (zb6 hs pl pu ?_)
 have hyes:((((sIx items.size 0 lo:Nat):Int)==0&& (1:Int)==1&& (sIx items.size items.size hi-sIx items.size 0 lo)==items.size)=true):=by
  rw[hw.1,hw.2];simp
 show wpAny _ _ (if(((sIx items.size 0 lo:Nat):Int)==0&& (1:Int)==1&& (sIx items.size items.size hi-sIx items.size 0 lo)==items.size)=true then _ else _) _ _ s
 rw[if_pos hyes]
 unfold Builtin.Tuple.tupleIsExact
 refine vab (vab (wpAny_typeOf ht.typeIs (vaf ?_)))
 rw[if_pos (by decide)]
 refine vab (vd5 ?_)
 exact vaf ⟨_,rfl,vaf h⟩
end
end HT
namespace L2
open PySem PySem.Spec PyProof.Rows
variable{X:Cx}
noncomputable def rSlW(K:PySem.W.Frag):V->Option Int->Option Int->Hp->VK->Prop:=λx lo hi H Q=>∃a xs,x=.ref a/\SqT K H a xs/\
 (HT.sIx xs.length 0 lo=0/\HT.sIx xs.length xs.length hi=xs.length)/\Q (.ref a) H
theorem zrl:SlR X (rSlW X.K):=by
 intro pins s σ H x v vl vu lo hi sl Q I rx hs pl pu h
 obtain⟨a,xs,rfl,hx,hw,q⟩:=h
 cases rx
 obtain⟨its,r,ht,hz⟩:=I.tuple hx
 have hlen:its.toArray.size=xs.length:=by rw[vag];exact r.length.symm
 refine⟨"tuple",_,vbl.lookup,ht.typeIs,?_⟩
 refine HT.getItem_tuple_whole ht hs pl pu (by rw[hlen];exact hw) ?_
 exact⟨.ref a,_,I,rfl,q⟩
noncomputable def rSlA(K:PySem.W.Frag):V->Option Int->Option Int->Hp->VK->Prop:=λx lo hi H Q=>(rSlT K x lo hi H Q\/rSlW K x lo hi H Q)\/rSlL K x lo hi H Q
theorem zud:SlR X (rSlA X.K):=(zt3.or zrl).or zra
theorem zok{bs:List Bool}{its:List Value}(r:Vals (bs.map .bl) its)(i:Nat){v:Value}(h:its[i]?=some v):∃b,bs[i]?=some b/\v=.bool b:=by
 have hl:=r.length
 rw[vai]at hl
 obtain⟨hi,_⟩:=van.mp h
 have hb:bs[i]?=some bs[i]:=vay (by omega)
 obtain⟨u,hu,ru⟩:=r.get (i:=i) (x:=.bl bs[i]) (by rw[vb3,hb];rfl)
 rw[h]at hu;cases hu
 exact⟨_,hb,ru⟩
theorem zlp(bs:List Bool):((List.range bs.length).all λi=>(bs[i]?).getD true)=bs.all id:=by
 rw[vdo,vbr,vbr]
 refine⟨λh b hb=>?_,λh i hi=>?_⟩
 .obtain⟨i,hi,rfl⟩:=List.getElem_of_mem hb
  have:=h i (veb.mpr hi)
  rw[vay hi]at this
  exact this
 .have hi':=veb.mp hi
  rw[vay hi']
  exact h _ (vdj hi')
section
variable{X:Cx}
theorem zol(hc:X.calm=true):CallR X (.builtin "all") (λxs H Q=>∃(p:Addr) (bs:List Bool),xs=[.ref p]/\SqL X.K H p (bs.map .bl)/\Q (.bl (bs.all id)) H):=by
 intro pins s σ H xs us Q I r h
 obtain⟨p,bs,rfl,hq,q⟩:=h
 obtain⟨u,rfl,ru⟩:=vals1 r
 cases ru
 obtain⟨its,rv,pl,hz⟩:=I.list hq
 have hL:s.heap.IsList p its.toArray:=pl.isList
 have hlt:p<s.heap.objs.size:=by obtain⟨_,e,_⟩:=hL;exact vaj e
 have hd:X.A.in1.handled=none:=I.ok.hd hc
 have hlen:its.toArray.size=bs.length:=by rw[vag,<-rv.length,vai]
 refine call_all_walk (wpAny_pyIter_list hL ⟨s.heap.objs.size,[s.heap.objs.size,p],[s.heap.objs.size],its.toArray.size,_,_,λi=>(bs[i]?).getD true,rfl,Walks.list (A:=X.A.in1) hd _ p (vau hlt) its.toArray,?_,?_,?_⟩)
 .exact⟨⟨_,va3 _ rfl,rfl,rfl⟩,hL.push _⟩
 .intro i v s' Q' E' hP hQ
  obtain⟨b,e,rfl⟩:=zok rv i (by simpa using hP)
  simp only[e,Option.getD_some]at hQ
  exact vbv hQ
 .intro h' tk hk
  rw[hlen,zlp]
  refine⟨.bl (bs.all id),H,I.kept (t':=tk) λb o e=>hk b o (λhm=>?_) (vad _ e),rfl,q⟩
  rw[va8.mp hm]at e
  exact vcf _ (vaj e)
end
noncomputable def turn1(e tg iter:Expr)(ifs:List Expr)(it acc:Value)(env:Env)(emit:Sem Unit):Sem Fin:=do
 standAt iter.pos
 match <-pyNext it with
 |none=>pure (.done .next)
 |some v=>
  letOwnedTupleGo tg it v
  assign tg env v
  let ok <-zc6 ifs env
  if ok then emit
  again (.compLoop e 1 it acc env)
noncomputable def emitL(elt:Expr):Value->Env->Sem Unit:=λacc env=>do let _ <-call (.builtin "list.append") [acc,<-eval elt env]
noncomputable def emit2(e iter2:Expr):Value->Env->Sem Unit:=λacc env=>do
 let x <-eval iter2 env
 standAt iter2.pos
 let x <-foldedSetIterable iter2 env x
 let _ <-runOwn (.compStart e 1 (<-holding [x] (pyIter x)) acc env) env
section
variable{prog:Program}{w:World}{A:Around}{R:Result->Shared->Prop}{s:Shared}{elt tg1 iter1 tg iter:Expr}{ifs1 ifs:List Expr}{scope:Scope}{pos:Pos}{it acc:Value}{env:Env}
theorem zlq(I:Nat->Shared->Prop)
 (turn:∀n s,I n s->wpAny (model prog w) A (pyNext it) (λr s₁=>match r with
   |none=>R (.ok .next) s₁
   |some v=>wpAny (model prog w) A (letOwnedTupleGo tg it v) (λ_ s₀=>wpAny (model prog w) A (assign tg env v) (λ_ s₂=>
    wpAny (model prog w) A (zc6 ifs env) (λok s₃=>
     if ok=true then wpAny (model prog w) A (emitL elt acc env) (λ_ s₅=>∃m,m<n/\I m s₅) noX s₃
     else ∃m,m<n/\I m s₃) noX s₂) noX s₀) noX s₁) noX s)
 (n:Nat) (h:I n s):codeAny (model prog w) A (.compLoop (.ListComp elt [⟨tg1,iter1,ifs1,0⟩,⟨tg,iter,ifs,0⟩] scope pos) 1 it acc env) R s:=by
 refine codeAny_loop rfl I (λn s hI=>?_) n h
 rw[show(model prog w).den (.compLoop (.ListComp elt [⟨tg1,iter1,ifs1,0⟩,⟨tg,iter,ifs,0⟩] scope pos) 1 it acc env)=(turn1 (.ListComp elt [⟨tg1,iter1,ifs1,0⟩,⟨tg,iter,ifs,0⟩] scope pos) tg iter ifs it acc env (emitL elt acc env)).onRaise (λx=>do noteFrame x env;theTreesLotGoes x)from rfl,
  show A.under (.compLoop (.ListComp elt [⟨tg1,iter1,ifs1,0⟩,⟨tg,iter,ifs,0⟩] scope pos) 1 it acc env)=A from rfl]
 refine wpAny_noted (zej ?_)
 unfold turn1
 refine vab (va4 (vab (vav (turn n s hI) (λr s₁ h₁=>?_) λ_ _ z=>z)))
 cases r with
 |none=>exact vaf h₁
 |some v=>
  refine vab (vav h₁ (λ_ s₀ h₀=>?_) λ_ _ z=>z)
  refine vab (vav h₀ (λ_ s₂ h₂=>vab (vav h₂ (λok s₃ h₃=>?_) λ_ _ z=>z)) λ_ _ z=>z)
  cases ok with
  |true=>
   simp only[vbd]at h₃ ⊢
   exact vab (vav h₃ (λ_ s₅ h₅=>vaf ⟨rfl,h₅⟩) λ_ _ z=>z)
  |false=>
   simp only[vah,vbe]at h₃ ⊢
   exact vaf ⟨rfl,h₃⟩
theorem zj5(h0:codeAny (model prog w) A (.compLoop (.ListComp elt [⟨tg1,iter1,ifs1,0⟩,⟨tg,iter,ifs,0⟩] scope pos) 1 it acc env) R s)
 (h:wpAny (model prog w) A (pyIter it) (λj s'=>codeAny (model prog w) A (.compLoop (.ListComp elt [⟨tg1,iter1,ifs1,0⟩,⟨tg,iter,ifs,0⟩] scope pos) 1 j acc env) R s') (notedBy (model prog w) A env λx s'=>R (.error x) s') s) :
 codeAny (model prog w) A (.compStart (.ListComp elt [⟨tg1,iter1,ifs1,0⟩,⟨tg,iter,ifs,0⟩] scope pos) 1 it acc env) R s:=by
 refine vd7 ?_
 rw[show(model prog w).den (.compStart (.ListComp elt [⟨tg1,iter1,ifs1,0⟩,⟨tg,iter,ifs,0⟩] scope pos) 1 it acc env)=(compStart (.ListComp elt [⟨tg1,iter1,ifs1,0⟩,⟨tg,iter,ifs,0⟩] scope pos) 1 it acc env).onRaise (λx=>do noteFrame x env;standAt theWindowsPlace)from rfl,
  show A.under (.compStart (.ListComp elt [⟨tg1,iter1,ifs1,0⟩,⟨tg,iter,ifs,0⟩] scope pos) 1 it acc env)=A from rfl]
 refine wpAny_notedAt ?_
 unfold compStart
 rw[show(clausesOf (.ListComp elt [⟨tg1,iter1,ifs1,0⟩,⟨tg,iter,ifs,0⟩] scope pos))=[⟨tg1,iter1,ifs1,0⟩,⟨tg,iter,ifs,0⟩]from rfl]
 show wpAny _ _ (ask >>= _) _ _ s
 refine vab (wpAny_askSetting (veg ?_))
 split
 .first
   |exact vab (vaf (vaf (And.intro rfl h0)))
   |exact vaf (And.intro rfl h0)
 .first
   |exact vab (vd5 (vab (va4 (vab (vav h (λj s' h'=>vaf ⟨rfl,h'⟩) λ_ _ z=>z)))))
   |(refine vab (vd5 ?_);show wpAny _ _ (standAt iter.pos >>= _) _ _ s;exact vab (va4 (vab (vav h (λj s' h'=>vaf ⟨rfl,h'⟩) λ_ _ z=>z))))
end
section
variable{X:Cx}{elt tg1 iter1 tg iter:Expr}{ifs1 ifs:List Expr}{scope:Scope}{pos:Pos}{wi:TI}{g:TG}{tc:TT}{te:TE}
noncomputable def tmL(te:TE)(D:Addr):TM:=λσ H Q=>te σ H λy H1=>∃ys,H1 D=some (.lst ys)/\ys.length<sizeLine/\Q σ (upd H1 D (.lst (ys++[y])))
theorem zrm(he:PE X elt te)(D:Addr):PM X (emitL elt (.ref D) X.env) (tmL te D):=by
 intro pins s σ H Q I h
 unfold emitL
 refine vab (thn (he pins s σ H _ I h) λy s1 z9=>z9.el λvy H1 I1 ry hq0=>?_)
 obtain⟨ys,hD,hz,q⟩:=hq0
 refine vab (thn (zef _ s1 σ H1 (.ref D) [vy] (.ref D) [y] (λv H'=>H'=upd H1 D (.lst (ys++[vy]))) I1 rfl (.cons ry .nil) ⟨_,ys,vy,rfl,rfl,hD,hz,rfl⟩) λ_ s2 hq0=>?_)
 obtain⟨v2,H2,I2,_,e2⟩:=hq0
 subst e2
 exact vaf ⟨σ,_,I2,q⟩
noncomputable def zpv(wi:TI)(g:TG)(tc:TT)(tm:TM):TM:=λσ H Q=>wi σ H λJ H1=>∃W:Nat->Nat->St->Hp->Prop,(∃m,W 0 m σ H1)/\∀i m σ' H',W i m σ' H'->
 ((J.stop i H'/\Q σ' H')\/(J.go i H'/\∀x H2,J.yld i H' x H2->g x σ' H2 λσ2 H3=>tc σ2 H3 λb H4=>
   if b=true then tm σ2 H4 λσ5 H5=>∃m',m'<m/\W (i+1) m' σ5 H5
   else ∃m',m'<m/\W (i+1) m' σ2 H4))
theorem ziw(hc:X.calm=true)(hx:X.xe=noX)(hi:PI X tg iter wi)(hg:PG X tg g)(ht:PTs X ifs tc)(he:PE X elt te)(hs:∀x,foldedSetIterable iter X.env x=pure x)(D:Addr) :
 PM X (emit2 (.ListComp elt [⟨tg1,iter1,ifs1,0⟩,⟨tg,iter,ifs,0⟩] scope pos) iter (.ref D) X.env) (zpv wi g tc (tmL te D)):=by
 intro pins s σ H Q I h
 unfold emit2
 have q1:=hi pins s σ H _ I h
 rw[hx]at q1 ⊢
 refine vab (thn q1 λv s1 h1=>vab (va4 ?_))
 rw[hs]
 refine vab (vaf (vab (vbs (thn h1 λitv s2 h2=>?_))))
 obtain⟨it,fp,tn,J,H2,e,I2,T,st2,f2,W,⟨m0,w0⟩,turn⟩:=h2
 subst e
 have stat:∀{H':Hp},(∀b∈fp,H' b=none)->∀b∈fp,FpOk X pins H' b:=λhn b hb=>⟨hn b hb,(f2 b hb).2⟩
 have loop:codeAny (model X.prog X.w) X.A (.compLoop (.ListComp elt [⟨tg1,iter1,ifs1,0⟩,⟨tg,iter,ifs,0⟩] scope pos) 1 (.ref it) (.ref D) X.env)
  (λr s'=>match r with|.ok f=>wpAny (model X.prog X.w) X.A (pure ()) (λ(_:Unit) s'=>∃σ' H',Inv X pins σ' H' s'/\Q σ' H') noX s'|.error e=>cameBackBy (model X.prog X.w) X.A X.env noX e s') s2:=by
  refine zlq (λn s'=>∃i σ' H',Inv X pins σ' H' s'/\tn i s'.heap/\(∀b∈fp,H' b=none)/\W i n σ' H') ?_ m0 ⟨0,σ,H2,I2,st2,λb hb=>(f2 b hb).1,w0⟩
  rintro n s3 ⟨i,σ3,H3,I3,st3,fr3,w3⟩
  rcases turn i n σ3 H3 w3 with⟨stop,qn⟩|⟨go,step⟩
  .refine thn (T.done X rfl rfl rfl hc i pins s3 σ3 H3 noX I3 (stat fr3) st3 stop) λr s4 hq0=>?_
   obtain⟨hr,I4⟩:=hq0
   subst hr
   exact vaf ⟨σ3,H3,I4,qn⟩
  .refine thn (T.item X rfl rfl rfl hc i pins s3 σ3 H3 noX I3 (stat fr3) st3 go) λr s4 hq0=>?_
   obtain⟨u,hr,h4⟩:=hq0
   subst hr
   refine thn h4 λ_ s5 hq0=>?_
   obtain⟨x,H5,I5,r5,y5,st5,fr5⟩:=hq0
   have I5':=I5.pinned (stat fr5) (T.obj _ _ st5)
   have again:∀{σ7:St}{H7:Hp}{s7:Shared}{m':Nat},Inv X (pins++zd9 fp s5.heap) σ7 H7 s7->m'<n->W (i+1) m' σ7 H7->∃m,m<n/\∃i σ' H',Inv X pins σ' H' s7/\tn i s7.heap/\(∀b∈fp,H' b=none)/\W i m σ' H':=λ{σ7 H7 s7 m'} I7 hm w7=>by
    refine⟨m',hm,i+1,σ7,H7,I7.unpinned,T.keep _ _ _ st5 λb hb o e=>(I7.pin (b,o) (vas _ (vas _ (za6 hb e)))).1,λb hb=>?_,w7⟩
    obtain⟨o,e,d⟩:=T.obj _ _ st5 b hb
    exact(I7.pin (b,o) (vas _ (vas _ (za6 hb e)))).2.1
   have q6:=hg _ s5 σ3 H5 x u _ I5' r5 (step x H5 y5)
   rw[hx]at q6
   refine thn q6 λ_ s6 hq0=>?_
   obtain⟨σ6,H6,I6,q6⟩:=hq0
   have q7:=ht _ s6 σ6 H6 _ I6 q6
   rw[hx]at q7
   refine thn q7 λok s7 z9=>z9.el λH7 I7 q7=>?_
   cases ok with
   |false=>
    simp only[vah,vbe]at q7 ⊢
    obtain⟨m',hm,w7⟩:=q7
    exact again I7 hm w7
   |true=>
    simp only[vbd]at q7 ⊢
    have q8:=zrm he D _ s7 σ6 H7 _ I7 q7
    rw[hx]at q8
    exact thn q8 λ_ s8 ⟨σ8,H8,I8,m',hm,w8⟩=>again I8 hm w8
 exact vab (wpAny_runOwn (zj5 loop (T.self _ 0 _ _ _ st2 loop)))
theorem zj6{iter2 tg2:Expr}{ifs2:List Expr}(it acc:Value)(env:Env):compTurn (.ListComp elt [⟨tg,iter,ifs,0⟩,⟨tg2,iter2,ifs2,0⟩] scope pos) 0 it acc env=turnG (.ListComp elt [⟨tg,iter,ifs,0⟩,⟨tg2,iter2,ifs2,0⟩] scope pos) tg iter ifs it acc env (emit2 (.ListComp elt [⟨tg,iter,ifs,0⟩,⟨tg2,iter2,ifs2,0⟩] scope pos) iter2 acc env):=by
 unfold compTurn turnG emit2
 simp only[Nat.zero_add,vc0,vb7,bne_self_eq_false,vah,vbe,reduceIte]
 congr 1
 funext _
 congr 1
 funext r
 cases r with
 |none=>rfl
 |some v=>
  dsimp only
  congr 1
  funext _
  congr 1
  funext _
  congr 1
  funext ok
  cases ok
  .rfl
  .simp only[vbd]
   simp only[LawfulMonad.bind_assoc,vdy]
theorem zix{P:Program}{w:World}{iter2 tg2:Expr}{ifs2:List Expr}:CKind P w (.ListComp elt [⟨tg,iter,ifs,0⟩,⟨tg2,iter2,ifs2,0⟩] scope pos) tg iter ifs (emit2 (.ListComp elt [⟨tg,iter,ifs,0⟩,⟨tg2,iter2,ifs2,0⟩] scope pos) iter2) (newList []) {cls:=.type "list",dict:=none,data:=.seq ([]:List Value).toArray} (.lst [])where
 cl:=⟨_,rfl⟩
 turn:=zj6
 dl:=λ_ _ _=>rfl
 ds:=λ_ _ _=>rfl
 al:=λ_ _ _ _=>rfl
 as:=λ_ _ _ _=>rfl
 new:=λA s Q E q=>vb4 q
 ok:=λH h hb=>⟨va9 _,[],0,.nil,va3 _ rfl⟩
end
theorem zf0{h:Heap}{us:List Value}{ds:List PyData}{as:List Addr}{d e:PyData}{u:Value}{i:Nat}(ra:ReadsAll h us ds as)(s1:ds.all SeqAt.shaped=true)(h1:us[i]?=some u)(h2:ds[i]?=some e):eqOf us ds d u=PyData.eqv e d:=by
 cases q:PyData.eqv e d with
 |true=>exact zcg.mpr ⟨i,e,h1,h2,q⟩
 |false=>
  refine Bool.eq_false_iff.mpr λz=>?_
  obtain⟨j,e',h3,h4,h5⟩:=zcg.mp z
  obtain⟨e1,cs1,g1,g2⟩:=zbe ra h1
  obtain⟨e2,cs2,g3,g4⟩:=zbe ra h3
  rw[h2]at g1;cases g1
  rw[h4]at g3;cases g3
  have:e=e':=(Reads.unique g2 _ _ g4).1
  subst this
  rw[q]at h5;cases h5
theorem ze8{α β:Type}{p:α->Bool}{q:β->Bool}:∀{us:List α} {ds:List β},us.length=ds.length->(∀(i:Nat) (u:α) (e:β),us[i]?=some u->ds[i]?=some e->p u=q e)->us.countP p=ds.countP q
 |[],[],_,_=>rfl
 |[],_::_,h,_=>by cases h
 |_::_,[],h,_=>by cases h
 |u::us,e::ds,h,k=>by
  rw[List.countP_cons,List.countP_cons,k 0 u e rfl rfl,ze8 (us:=us) (ds:=ds) (by simpa using h) λi u e h1 h2=>k (i+1) u e (by simpa using h1) (by simpa using h2)]
theorem zj7{h:Heap}{us:List Value}{ds:List PyData}{as:List Addr}{d:PyData}(ra:ReadsAll h us ds as)(s1:ds.all SeqAt.shaped=true):us.countP (eqOf us ds d)=ds.countP λe=>PyData.eqv e d:=
 ze8 (zbi ra) λi u e h1 h2=>zf0 ra s1 h1 h2
section
variable{X:Cx}
noncomputable def zue(K:PySem.W.Frag)(tup:Bool):V->List V->Hp->VK->Prop:=λx vs H Q=>∃p xs y ds d,x=.ref p/\vs=[y]/\(if tup then SqT K H p xs else SqL K H p xs)/\Rps K (λ_=>False) H xs ds/\Rp K (λ_=>False) H y d/\ds.all SeqAt.shaped=true/\SeqAt.shaped d=true/\
 Q (.int (ds.countP λe=>PyData.eqv e d:Nat)) H
theorem zlr(hu:X.A.in1.units+64<cLine):MtR X "list.count" (zue X.K false):=by
 intro pins s σ H x vs v us Q I rx rv h
 obtain⟨p,xs,y,ds,d,rfl,rfl,hq,r1,r2,s1,s2,q⟩:=h
 cases rx
 obtain⟨u,rfl,ru⟩:=rv.one
 obtain⟨bs,rb⟩:=r2.reads I ru
 simp only[vah,vbe]at hq
 obtain⟨its,r,pl,hz⟩:=I.list hq
 obtain⟨as,ra⟩:=r1.reads I r
 obtain⟨⟨c,dd,dt,sl⟩,n,e1,e2,e4,e3⟩:=pl
 replace e2:c=.type "list":=e2
 replace e3:dt=.seq its.toArray n:=e3
 subst e2 e3
 refine vdd PySem.F.slot_list_count ⟨_,e1,rfl⟩ PySem.F.entry_list_count (PySem.F.args_list_count_2 _ _) (SeqAt.list_countAt p its.toArray n dd sl u (eqOf its ds d)) ⟨e1,λw hw=>zc7 ?_ ra rb s1 s2 w (by simpa using hw),?_⟩
 .exact hu
 .refine⟨.int _,H,I.tok _,⟨_,rfl⟩,?_⟩
  rw[show its.toArray.toList=its from rfl,zj7 ra s1]
  exact q
end
end L2
namespace RF
open PySem
inductive W where
 |non|bl (b:Bool)|int (i:Int)|str (x:Str)|tup (ws:List W)|fz (ws:List W)|ref (i:Nat)
mutual
noncomputable def W.lt(n:Nat):W->Bool
 |.tup ws=>W.lts n ws
 |.fz ws=>W.lts n ws
 |.ref i=>Nat.blt i n
 |_=>true
noncomputable def W.lts(n:Nat):List W->Bool
 |[]=>true
 |w::ws=>W.lt n w&&W.lts n ws
end
inductive VO where
 |lst (ws:List W)|dk (kvs:List (L2.Key×W))
structure VH where
 n:Nat
 lo:Nat
 os:List VO
noncomputable def VH.get(h:VH)(i:Nat):Option VO:=if Nat.blt i h.n then h.os[h.n-1-i]? else none
noncomputable def VH.set(h:VH)(i:Nat)(o:VO):VH:=⟨h.n,if Nat.blt i h.lo then i else h.lo,h.os.set (h.n-1-i) o⟩
noncomputable def VH.new(h:VH)(o:VO):VH:=⟨h.n+1,h.lo,o::h.os⟩
inductive Res(α:Type)where
 |ok (a:α) (h:VH)|ex (x:W) (h:VH)|no
noncomputable def Res.bind{α β:Type}(r:Res α)(f:α->VH->Res β):Res β:=match r with
 |.ok a h=>f a h
 |.ex x h=>.ex x h
 |.no=>.no
noncomputable def Res.of{α:Type}(o:Option α)(h:VH):Res α:=match o with
 |some a=>.ok a h
 |none=>.no
inductive Op where
 |add|sub|mul|fdiv|mod|shl|pow|shr|band
 deriving DecidableEq
inductive Cp where
 |eq|ne|lt|le|gt|ge|isn|notn|inn|nin
 deriving DecidableEq
inductive Ty where
 |int|bool|tuple|list|str|dict
 deriving DecidableEq
inductive Bi where
 |len|list|tuple|int|abs|max|min|all|lrng
 deriving DecidableEq
inductive Mt where
 |append|reverse
 deriving DecidableEq
inductive Kd where
 |seq|rng1|enm
 deriving DecidableEq
inductive Tg where
 |one (i:Nat)|many (is:List Nat)
 deriving DecidableEq
inductive E where
 |var (i:Nat)|cst (w:W)
 |nil|cons (a r:E)
 |tup (a:E)|lst (a:E)|dsp (a:E)
 |op (o:Op) (a b:E)|neg (a:E)
 |cmp (c:Cp) (a b:E)|chn (c d:Cp) (a b e:E)
 |not (a:E)|and (a b:E)|or (a b:E)|tru (a:E)|ite (c a b:E)
 |idx (a b:E)|slc (a:E) (bl:Bool) (lo:E) (bh:Bool) (hi:E)
 |call (f:Nat) (a:E)|bi (b:Bi) (a:E)|isi (t:Ty) (a:E)|mt (m:Mt) (o a:E)
 |lc (k:Kd) (a:E) (t:Tg) (ow:Nat) (ix:List Nat) (c e:E)
 |lc2 (k:Kd) (a:E) (t:Tg) (ow:Nat) (ix:List Nat) (c:E) (k2:Kd) (a2:E) (t2:Tg) (c2 e:E)
inductive S where
 |skip|seq (a b:S)|set (i:Nat) (e:E)|unp (is:List Nat) (e:E)|aug (i:Nat) (o:Op) (e:E)
 |put (o i v:E)|ite (c:E) (a b:S)|ret (e:E)|expr (e:E)|brk|cnt
 |for (k:Kd) (a:E) (t:Tg) (b:S)|whl (c:E) (b:S)|tryc (f:Nat) (a:E) (tb:List (Nat×W))|tel (f:Nat) (a:E) (b:Bool) (s t:S)|no
noncomputable abbrev En:=List (Option W)
inductive Fl where
 |nx (ρ:En)|rt (w:W)|bk (ρ:En)|ct (ρ:En)
noncomputable def mapO{α β:Type}(f:α->Option β):List α->Option (List β)
 |[]=>some []
 |a::r=>match f a with
  |some b=>(match mapO f r with
   |some bs=>some (b::bs)
   |none=>none)
  |none=>none
noncomputable def toD(h:VH):Nat->W->Option PyData
 |0,_=>none
 |n+1,w=>match w with
  |.non=>some .none
  |.bl b=>some (.bool b)
  |.int i=>some (.int i)
  |.str x=>some (.str x)
  |.tup ws=>(mapO (toD h n) ws).map .tuple
  |.fz ws=>(mapO (toD h n) ws).map .list
  |.ref i=>match h.get i with
   |some (.lst ws)=>(mapO (toD h n) ws).map .list
   |_=>none
noncomputable def eqW(h:VH)(x y:W):Option Bool:=
 match toD h 24 x,toD h 24 y with
 |some d,some e=>if SeqAt.shaped d&&SeqAt.shaped e then some (PyData.eqv d e)else none
 |_,_=>none
noncomputable def big:Nat:=16777216
noncomputable def zby(i:Int):Bool:=decide (-(2 ^ 64)<i)&&decide (i<2 ^ 64)
noncomputable def opI:Op->Int->Int->Option Int
 |.add,i,j=>some (i+j)
 |.sub,i,j=>some (i-j)
 |.mul,i,j=>if zby i||zby j then some (i*j)else none
 |.fdiv,i,j=>if decide (0<j)&&decide (j<1073741824)then some (i/j)else none
 |.mod,i,j=>if decide (0<j)then some (i % j)else none
 |.shl,i,j=>if decide (0<=j)&&decide (j<=1000000)&&decide (i.natAbs<2 ^ 64)then some (i*2 ^ j.toNat)else none
 |.pow,i,j=>if decide (0<=j)&&decide (j<=1000000)&&decide (i.natAbs<2 ^ 64)then some (i ^ j.toNat)else none
 |.shr,i,j=>if decide (0<=j)then some (i/2 ^ j.toNat)else none
 |.band,i,j=>if decide (j=1)then some (i % 2)else none
noncomputable def opT:Op->List W->List W->Option (List W)
 |.add,xs,ys=>if Nat.ble (xs.length+ys.length) big then some (xs++ys)else none
 |_,_,_=>none
noncomputable def opL:Op->List W->List W->Option (List W)
 |.add,xs,ys=>if Nat.ble (xs.length+ys.length) big then some (xs++ys)else none
 |_,_,_=>none
noncomputable def fits(i:Int):Bool:=decide (-(2 ^ 62)<=i)&&decide (i<2 ^ 62)
noncomputable def repW(o:Op)(xs:List W)(k:Int):Option (List W):=match o with
 |.mul=>if fits k&&Nat.ble (xs.length*k.toNat) big then some (List.replicate k.toNat xs).flatten else none
 |_=>none
noncomputable def opW(o:Op)(x y:W)(h:VH):Res W:=match x,y with
 |.int i,.int j=>.of ((opI o i j).map .int) h
 |.tup xs,.tup ys=>.of ((opT o xs ys).map .tup) h
 |.tup xs,.int k=>.of ((repW o xs k).map .tup) h
 |.ref i,.ref j=>match h.get i,h.get j with
  |some (.lst xs),some (.lst ys)=>(match opL o xs ys with
   |some zs=>.ok (.ref h.n) (h.new (.lst zs))
   |none=>.no)
  |_,_=>.no
 |_,_=>.no
noncomputable def ipW(o:Op)(x y:W)(h:VH):Res W:=match x,y with
 |.int i,.int j=>(match o with
  |.add=>.ok (.int (i+j)) h
  |.sub=>.ok (.int (i-j)) h
  |.mul=>.of ((opI .mul i j).map .int) h
  |.fdiv=>.of ((opI .fdiv i j).map .int) h
  |_=>.no)
 |.ref i,.ref j=>match o,h.get i,h.get j with
  |.add,some (.lst xs),some (.lst ys)=>if Nat.ble (xs.length+ys.length) big then .ok (.ref i) (h.set i (.lst (xs++ys)))else .no
  |_,_,_=>.no
 |_,_=>.no
noncomputable def cmpI:Cp->Int->Int->Option Bool
 |.lt,i,j=>some (decide (i<j))
 |.le,i,j=>some (decide (i<=j))
 |.gt,i,j=>some (decide (j<i))
 |.ge,i,j=>some (decide (j<=i))
 |_,_,_=>none
noncomputable def isNon:W->Bool
 |.non=>true
 |_=>false
noncomputable def seqW(h:VH):W->Option (List W)
 |.tup ws=>some ws
 |.fz ws=>some ws
 |.ref i=>match h.get i with
  |some (.lst ws)=>some ws
  |_=>none
 |_=>none
noncomputable def inW(h:VH)(x y:W):Option Bool:=match seqW h y,toD h 24 x with
 |some ws,some d=>(match mapO (toD h 24) ws with
  |some ds=>if ds.all SeqAt.shaped&&SeqAt.shaped d then some (L2.anyEq ds d)else none
  |none=>none)
 |_,_=>none
noncomputable def isB:W->W->Option Bool
 |.bl c,.bl b=>some (c==b)
 |_,_=>none
noncomputable def cmpW(c:Cp)(h:VH)(x y:W):Option Bool:=match c with
 |.inn=>inW h x y
 |.nin=>(inW h x y).map (!·)
 |.eq=>eqW h x y
 |.ne=>(eqW h x y).map (!·)
 |.isn=>if isNon y then some (isNon x)else isB x y
 |.notn=>if isNon y then some (!isNon x)else(isB x y).map (!·)
 |c=>match x,y with
  |.int i,.int j=>cmpI c i j
  |_,_=>none
noncomputable def truW(h:VH):W->Option Bool
 |.bl b=>some b
 |.int i=>some (i != 0)
 |.non=>some false
 |.tup ws=>some (!ws.isEmpty)
 |.ref i=>match h.get i with
  |some (.lst ws)=>some (!ws.isEmpty)
  |_=>none
 |_=>none
noncomputable def keyW:W->Option L2.Key
 |.int i=>some (.inl i)
 |.str x=>some (.inr x)
 |_=>none
noncomputable def lookK(kvs:List (L2.Key×W))(k:L2.Key):Option W:=(kvs.find? λkv=>decide (kv.1=k)).map (·.2)
noncomputable def putKW(kvs:List (L2.Key×W))(k:L2.Key)(w:W):List (L2.Key×W):=
 if(kvs.any λkv=>decide (kv.1=k))=true then kvs.map (λkv=>if kv.1=k then(kv.1,w)else kv)else kvs++[(k,w)]
noncomputable def idxW(h:VH)(x y:W):Option W:=match x,y with
 |.tup ws,.int i=>L2.atI ws i
 |.fz ws,.int i=>L2.atI ws i
 |.ref a,.int i=>(match h.get a with
  |some (.lst ws)=>L2.atI ws i
  |some (.dk kvs)=>lookK kvs (.inl i)
  |_=>none)
 |.ref a,.str x=>(match h.get a with
  |some (.dk kvs)=>lookK kvs (.inr x)
  |_=>none)
 |_,_=>none
noncomputable def partW(b:Bool)(w:W):Option (Option Int):=match b,w with
 |false,_=>some none
 |true,.int i=>some (some i)
 |_,_=>none
noncomputable def cutW(ws:List W)(lo hi:Option Int):List W:=(ws.drop (HT.sIx ws.length 0 lo)).take (HT.sIx ws.length ws.length hi-HT.sIx ws.length 0 lo)
noncomputable def slcW(x:W)(l u:Option Int)(h:VH):Res W:=match x with
 |.tup ws=>.ok (.tup (cutW ws l u)) h
 |.ref i=>(match h.get i with
  |some (.lst ws)=>.ok (.ref h.n) (h.new (.lst (cutW ws l u)))
  |_=>.no)
 |_=>.no
@[simp] theorem slcW_tup {ws:List W} {l u:Option Int} {h:VH}:slcW (.tup ws) l u h=.ok (.tup (cutW ws l u)) h:=rfl
noncomputable def tyIs:Ty->VH->W->Option Bool
 |t,_,.non=>some false
 |t,_,.bl _=>some (t == .int||t == .bool)
 |t,_,.int _=>some (t == .int)
 |t,_,.str _=>some (t == .str)
 |t,_,.tup _=>some (t == .tuple)
 |_,_,.fz _=>none
 |t,h,.ref i=>match h.get i with
  |some (.lst _)=>some (t == .list)
  |some (.dk _)=>some (t == .dict)
  |_=>none
noncomputable def lenW(xs:List W)(h:VH):Res W:=match xs with
 |[x]=>.of (match seqW h x with
  |some ws=>some (.int ws.length)
  |none=>none) h
 |_=>.no
noncomputable def listW(xs:List W)(h:VH):Res W:=match xs with
 |[x]=>(match seqW h x with
  |some ws=>.ok (.ref h.n) (h.new (.lst ws))
  |none=>.no)
 |_=>.no
noncomputable def ze9(xs:List W)(h:VH):Res W:=match xs with
 |[x]=>.of (match seqW h x with
  |some ws=>some (.tup ws)
  |none=>none) h
 |_=>.no
noncomputable def intW(xs:List W)(h:VH):Res W:=match xs with
 |[.int i]=>.ok (.int i) h
 |[.bl b]=>.ok (.int (if b then 1 else 0)) h
 |_=>.no
noncomputable def absW(xs:List W)(h:VH):Res W:=match xs with
 |[.int i]=>.ok (.int (if i<0 then -i else i)) h
 |_=>.no
noncomputable def maxW(xs:List W)(h:VH):Res W:=match xs with
 |[.int i,.int j]=>.ok (.int (if j>i then j else i)) h
 |_=>.no
noncomputable def minW(xs:List W)(h:VH):Res W:=match xs with
 |[.int i,.int j]=>.ok (.int (if j<i then j else i)) h
 |_=>.no
noncomputable def blW:W->Option Bool
 |.bl b=>some b
 |_=>none
noncomputable def allW(xs:List W)(h:VH):Res W:=match xs with
 |[.ref i]=>(match h.get i with
  |some (.lst ws)=>.of ((mapO blW ws).map λbs=>.bl (bs.all id)) h
  |_=>.no)
 |_=>.no
noncomputable def ints0(j:Nat):List W:=(List.range' 0 j).map λ(i:Nat)=>W.int (0+ (i:Int))
noncomputable def lrngW(xs:List W)(h:VH):Res W:=match xs with
 |[.int i]=>if decide (0<=i)&&Nat.ble i.toNat big then .ok (.ref h.n) (h.new (.lst (ints0 i.toNat)))else .no
 |_=>.no
noncomputable def biW(b:Bi)(xs:List W)(h:VH):Res W:=match b with
 |.abs=>absW xs h
 |.max=>maxW xs h
 |.min=>minW xs h
 |.all=>allW xs h
 |.lrng=>lrngW xs h
 |.len=>lenW xs h
 |.list=>listW xs h
 |.tuple=>ze9 xs h
 |.int=>intW xs h
noncomputable def mtW(m:Mt)(o:W)(xs:List W)(h:VH):Res W:=match m,o,xs with
 |.append,.ref i,[x]=>(match h.get i with
  |some (.lst ws)=>if Nat.blt ws.length big then .ok .non (h.set i (.lst (ws++[x])))else .no
  |_=>.no)
 |.reverse,.ref i,[]=>(match h.get i with
  |some (.lst ws)=>.ok .non (h.set i (.lst ws.reverse))
  |_=>.no)
 |_,_,_=>.no
noncomputable def zdm(m:Mt)(h:VH)(o:W):Bool:=match m,o with
 |.append,.ref i=>(match h.get i with
  |some (.lst _)=>true
  |_=>false)
 |.reverse,.ref i=>(match h.get i with
  |some (.lst _)=>true
  |_=>false)
 |_,_=>false
noncomputable def nxt(k:Kd)(x:W)(i:Nat)(h:VH):Option (Option W):=match k with
 |.seq=>(seqW h x).map λws=>ws[i]?
 |.enm=>(match x with
  |.tup ws=>some ((ws[i]?).map λw=>.tup [.int i,w])
  |_=>none)
 |.rng1=>(match x with
  |.tup [.int j]=>if fits j then some (if decide ((i:Int)<j)then some (.int (0+i))else none)else none
  |_=>none)
noncomputable def zbs:List Nat->List W->En->Option En
 |[],[],ρ=>some ρ
 |i::is,w::ws,ρ=>zbs is ws (ρ.set i (some w))
 |_,_,_=>none
noncomputable def tgW(t:Tg)(w:W)(h:VH)(ρ:En):Option En:=match t with
 |.one i=>some (ρ.set i (some w))
 |.many is=>match seqW h w with
  |some ws=>zbs is ws ρ
  |none=>none
noncomputable def fuel:Nat:=1000000
noncomputable def inner(ow:Nat)(ix:List Nat)(ρ:En):En:=List.replicate ow none++ix.map λj=>(ρ[j]?).join
noncomputable def lcG(nx:Nat->VH->Option (Option W))(tg:W->VH->En->Option En)(c:En->VH->Res W)(e:En->VH->Res W):Nat->Nat->En->VH->List W->Res (List W)
 |0,_,_,_,_=>.no
 |f+1,i,ρ,h,acc=>match nx i h with
  |none=>.no
  |some none=>.ok acc.reverse h
  |some (some w)=>match tg w h ρ with
   |none=>.no
   |some ρ=>(c ρ h).bind λb h=>match b with
    |.bl true=>(e ρ h).bind λy h=>lcG nx tg c e f (i+1) ρ h (y::acc)
    |.bl false=>lcG nx tg c e f (i+1) ρ h acc
    |_=>.no
noncomputable def lcI(nx:Nat->VH->Option (Option W))(tg:W->VH->En->Option En)(c:En->VH->Res W)(e:En->VH->Res W):Nat->Nat->En->VH->List W->Res (En×List W)
 |0,_,_,_,_=>.no
 |f+1,i,ρ,h,acc=>match nx i h with
  |none=>.no
  |some none=>.ok (ρ,acc) h
  |some (some w)=>match tg w h ρ with
   |none=>.no
   |some ρ=>(c ρ h).bind λb h=>match b with
    |.bl true=>(e ρ h).bind λy h=>lcI nx tg c e f (i+1) ρ h (y::acc)
    |.bl false=>lcI nx tg c e f (i+1) ρ h acc
    |_=>.no
noncomputable def lcO(nx:Nat->VH->Option (Option W))(tg:W->VH->En->Option En)(c:En->VH->Res W)(inn:En->VH->List W->Res (En×List W)):Nat->Nat->En->VH->List W->Res (List W)
 |0,_,_,_,_=>.no
 |f+1,i,ρ,h,acc=>match nx i h with
  |none=>.no
  |some none=>.ok acc.reverse h
  |some (some w)=>match tg w h ρ with
   |none=>.no
   |some ρ=>(c ρ h).bind λb h=>match b with
    |.bl true=>(inn ρ h acc).bind λp h=>lcO nx tg c inn f (i+1) p.1 h p.2
    |.bl false=>lcO nx tg c inn f (i+1) ρ h acc
    |_=>.no
noncomputable def forG(nx:Nat->VH->Option (Option W))(tg:W->VH->En->Option En)(b:En->VH->Res Fl):Nat->Nat->En->VH->Res Fl
 |0,_,_,_=>.no
 |f+1,i,ρ,h=>match nx i h with
  |none=>.no
  |some none=>.ok (.nx ρ) h
  |some (some w)=>match tg w h ρ with
   |none=>.no
   |some ρ=>(b ρ h).bind λfl h=>match fl with
    |.nx ρ=>forG nx tg b f (i+1) ρ h
    |.ct ρ=>forG nx tg b f (i+1) ρ h
    |.bk ρ=>.ok (.nx ρ) h
    |.rt w=>.ok (.rt w) h
noncomputable def whlG(c:En->VH->Res W)(b:En->VH->Res Fl):Nat->En->VH->Res Fl
 |0,_,_=>.no
 |f+1,ρ,h=>(c ρ h).bind λt h=>match t with
  |.bl false=>.ok (.nx ρ) h
  |.bl true=>(b ρ h).bind λfl h=>match fl with
   |.nx ρ=>whlG c b f ρ h
   |.ct ρ=>whlG c b f ρ h
   |.bk ρ=>.ok (.nx ρ) h
   |.rt w=>.ok (.rt w) h
  |_=>.no
noncomputable def zen:List W->Option (List (L2.Key×W))
 |[]=>some []
 |k::v::r=>match keyW k with
  |some k=>(match zen r with
   |some kvs=>some ((k,v)::kvs)
   |none=>none)
  |none=>none
 |_=>none
noncomputable def zfa(kvs more:List (L2.Key×W)):List (L2.Key×W):=more.foldl (λacc kv=>putKW acc kv.1 kv.2) kvs
noncomputable abbrev Call:=Nat->List W->VH->Res W
noncomputable def ev(cl:Call):E->En->VH->Res W
 |.var i,ρ,h=>.of (ρ[i]?).join h
 |.cst w,_,h=>.ok w h
 |.nil,_,h=>.ok (.tup []) h
 |.cons a r,ρ,h=>(ev cl a ρ h).bind λx h=>(ev cl r ρ h).bind λy h=>match y with
  |.tup ys=>.ok (.tup (x::ys)) h
  |_=>.no
 |.tup a,ρ,h=>(ev cl a ρ h).bind λy h=>match y with
  |.tup ys=>if Nat.ble ys.length 1000 then .ok (.tup ys) h else .no
  |_=>.no
 |.lst a,ρ,h=>(ev cl a ρ h).bind λy h=>match y with
  |.tup ys=>if Nat.ble ys.length 1000 then .ok (.ref h.n) (h.new (.lst ys))else .no
  |_=>.no
 |.dsp a,ρ,h=>(ev cl a ρ h).bind λy h=>match y with
  |.tup ys=>(match zen ys with
   |some kvs=>if Nat.ble kvs.length 15 then .ok (.ref h.n) (h.new (.dk (zfa [] kvs)))else .no
   |none=>.no)
  |_=>.no
 |.op o a b,ρ,h=>(ev cl a ρ h).bind λx h=>(ev cl b ρ h).bind λy h=>opW o x y h
 |.neg a,ρ,h=>(ev cl a ρ h).bind λx h=>match x with
  |.int i=>.ok (.int (-i)) h
  |_=>.no
 |.cmp c a b,ρ,h=>(ev cl a ρ h).bind λx h=>(ev cl b ρ h).bind λy h=>.of ((cmpW c h x y).map .bl) h
 |.chn c d a b e,ρ,h=>(ev cl a ρ h).bind λx h=>(ev cl b ρ h).bind λy h=>match cmpW c h x y with
  |some true=>(ev cl e ρ h).bind λz h=>.of ((cmpW d h y z).map .bl) h
  |some false=>.ok (.bl false) h
  |none=>.no
 |.not a,ρ,h=>(ev cl a ρ h).bind λx h=>match x with
  |.bl b=>.ok (.bl (!b)) h
  |_=>.no
 |.and a b,ρ,h=>(ev cl a ρ h).bind λx h=>match x with
  |.bl true=>ev cl b ρ h
  |.bl false=>.ok (.bl false) h
  |_=>.no
 |.or a b,ρ,h=>(ev cl a ρ h).bind λx h=>match x with
  |.bl true=>.ok (.bl true) h
  |.bl false=>ev cl b ρ h
  |_=>.no
 |.tru a,ρ,h=>(ev cl a ρ h).bind λx h=>.of ((truW h x).map .bl) h
 |.ite c a b,ρ,h=>(ev cl c ρ h).bind λx h=>match x with
  |.bl true=>ev cl a ρ h
  |.bl false=>ev cl b ρ h
  |_=>.no
 |.idx a b,ρ,h=>(ev cl a ρ h).bind λx h=>(ev cl b ρ h).bind λy h=>.of (idxW h x y) h
 |.slc a bl lo bh hi,ρ,h=>(ev cl a ρ h).bind λx h=>(ev cl lo ρ h).bind λl h=>(ev cl hi ρ h).bind λu h=>match partW bl l,partW bh u with
  |some l,some u=>slcW x l u h
  |_,_=>.no
 |.call f a,ρ,h=>(ev cl a ρ h).bind λy h=>match y with
  |.tup ys=>cl f ys h
  |_=>.no
 |.bi b a,ρ,h=>(ev cl a ρ h).bind λy h=>match y with
  |.tup ys=>biW b ys h
  |_=>.no
 |.isi t a,ρ,h=>(ev cl a ρ h).bind λx h=>.of ((tyIs t h x).map .bl) h
 |.mt m o a,ρ,h=>(ev cl o ρ h).bind λx h=>if zdm m h x then(ev cl a ρ h).bind λy h=>match y with
  |.tup ys=>mtW m x ys h
  |_=>.no
  else .no
 |.lc k a t ow ix c e,ρ,h=>(ev cl a ρ h).bind λx h=>(lcG (nxt k x) (tgW t) (ev cl c) (ev cl e) fuel 0 (inner ow ix ρ) h []).bind λys h=>if Nat.ble ys.length big then .ok (.ref h.n) (h.new (.lst ys))else .no
 |.lc2 k a t ow ix c k2 a2 t2 c2 e,ρ,h=>(ev cl a ρ h).bind λx h=>(lcO (nxt k x) (tgW t) (ev cl c) (λρ h acc=>(ev cl a2 ρ h).bind λy h=>lcI (nxt k2 y) (tgW t2) (ev cl c2) (ev cl e) fuel 0 ρ h acc) fuel 0 (inner ow ix ρ) h []).bind λys h=>if Nat.ble ys.length big then .ok (.ref h.n) (h.new (.lst ys))else .no
noncomputable def tryW(tb:List (Nat×W))(ρ:En)(w:W)(h:VH):Res Fl:=match w with
 |.tup [_]=>.ok (.nx ρ) h
 |.int i=>(match tb.lookup i.toNat with
  |some w=>.ok (.rt w) h
  |none=>.no)
 |_=>.no
noncomputable def telW(b:Bool)(s t:En->VH->Res Fl)(ρ:En)(w:W)(h:VH):Res Fl:=match w with
 |.tup [x]=>if b then(match x with
  |.bl true=>t ρ h
  |.bl false=>s ρ h
  |_=>.no)else s ρ h
 |.int i=>.ok (.rt (.int i)) h
 |_=>.no
noncomputable def exs(cl:Call):S->En->VH->Res Fl
 |.skip,ρ,h=>.ok (.nx ρ) h
 |.seq a b,ρ,h=>(exs cl a ρ h).bind λfl h=>match fl with
  |.nx ρ=>exs cl b ρ h
  |fl=>.ok fl h
 |.set i e,ρ,h=>(ev cl e ρ h).bind λw h=>.ok (.nx (ρ.set i (some w))) h
 |.unp is e,ρ,h=>(ev cl e ρ h).bind λw h=>.of ((tgW (.many is) w h ρ).map .nx) h
 |.aug i o e,ρ,h=>match(ρ[i]?).join with
  |some x=>(ev cl e ρ h).bind λy h=>(ipW o x y h).bind λz h=>.ok (.nx (ρ.set i (some z))) h
  |none=>.no
 |.put o i v,ρ,h=>(ev cl v ρ h).bind λw h=>(ev cl o ρ h).bind λx h=>(ev cl i ρ h).bind λy h=>match x,y with
  |.ref a,.int j=>(match h.get a with
   |some (.lst ws)=>(match L2.ixN ws.length j with
    |some k=>.ok (.nx ρ) (h.set a (.lst (ws.set k w)))
    |none=>.no)
   |_=>.no)
  |_,_=>.no
 |.ite c a b,ρ,h=>(ev cl c ρ h).bind λx h=>match x with
  |.bl true=>exs cl a ρ h
  |.bl false=>exs cl b ρ h
  |_=>.no
 |.ret e,ρ,h=>(ev cl e ρ h).bind λw h=>.ok (.rt w) h
 |.expr e,ρ,h=>(ev cl e ρ h).bind λ_ h=>.ok (.nx ρ) h
 |.brk,ρ,h=>.ok (.bk ρ) h
 |.cnt,ρ,h=>.ok (.ct ρ) h
 |.for k a t b,ρ,h=>(ev cl a ρ h).bind λx h=>forG (nxt k x) (tgW t) (exs cl b) fuel 0 ρ h
 |.whl c b,ρ,h=>whlG (ev cl c) (exs cl b) fuel ρ h
 |.tryc f a tb,ρ,h=>(ev cl a ρ h).bind λy h=>match y with
  |.tup ys=>(cl f ys h).bind λw h=>tryW tb ρ w h
  |_=>.no
 |.tel f a b s t,ρ,h=>(ev cl a ρ h).bind λy h=>match y with
  |.tup ys=>(cl f ys h).bind λw h=>telW b (exs cl s) (exs cl t) ρ w h
  |_=>.no
 |.no,_,_=>.no
structure Fn where
 ps:Nat
 n:Nat
 body:S
noncomputable def leave(h:VH)(w:W)(h':VH):Res W:=
 if Nat.ble h.n h'.lo&&W.lt h.n w then .ok w h else .ok w ⟨h'.n,if Nat.ble h.lo h'.lo then h.lo else h'.lo,h'.os⟩
noncomputable def run(F:Nat->Option Fn):Nat->Call
 |0,_,_,_=>.no
 |k+1,f,ws,h=>match F f with
  |some fn=>if Nat.beq ws.length fn.ps then
   (exs (run F k) fn.body (ws.map some++List.replicate (fn.n-fn.ps) none) ⟨h.n,h.n,h.os⟩).bind λfl h'=>match fl with
     |.nx _=>leave h .non h'
     |.rt w=>leave h w h'
     |_=>.no
   else .no
  |none=>.no
open L2 PyProof.Rows PySem.Spec
noncomputable def Fz(K:PySem.W.Frag)(H:Hp)(a:Addr)(xs:List V):Prop:=
 (∃o,H a=some (.frz o (.lst xs)))\/∃(o:Obj) (its:Array Value) (n:Nat),K.lookup a=some o/\o.cls=.type "list"/\o.dict=none/\o.data=.seq its n/\its.size<=sizeLine/\Vals xs its.toList
theorem Fz.sq{K:PySem.W.Frag}{H:Hp}{a:Addr}{xs:List V}(h:Fz K H a xs):SqL K H a xs:=h.elim (λ⟨o,q⟩=>.inl (.inr ⟨o,q⟩)) .inr
mutual
inductive VRep(K:PySem.W.Frag)(m:Nat->Addr)(n:Nat)(H:Hp):V->W->Prop
 |non:VRep K m n H .non .non
 |bl (b:Bool):VRep K m n H (.bl b) (.bl b)
 |int (i:Int):VRep K m n H (.int i) (.int i)
 |str (x:Str):VRep K m n H (.str x) (.str x)
 |tup {a:Addr} {vs:List V} {ws:List W}:SqT K H a vs->VReps K m n H vs ws->VRep K m n H (.ref a) (.tup ws)
 |fz {a:Addr} {vs:List V} {ws:List W}:Fz K H a vs->VReps K m n H vs ws->VRep K m n H (.ref a) (.fz ws)
 |ref {i:Nat}:i<n->VRep K m n H (.ref (m i)) (.ref i)
inductive VReps(K:PySem.W.Frag)(m:Nat->Addr)(n:Nat)(H:Hp):List V->List W->Prop
 |nil:VReps K m n H [] []
 |cons {v:V} {w:W} {vs:List V} {ws:List W}:VRep K m n H v w->VReps K m n H vs ws->VReps K m n H (v::vs) (w::ws)
end
inductive KReps(K:PySem.W.Frag)(m:Nat->Addr)(n:Nat)(H:Hp):List (Key×V)->List (Key×W)->Prop
 |nil:KReps K m n H [] []
 |cons {k:Key} {v:V} {w:W} {vs:List (Key×V)} {ws:List (Key×W)}:VRep K m n H v w->KReps K m n H vs ws->KReps K m n H ((k,v)::vs) ((k,w)::ws)
noncomputable def ORep(K:PySem.W.Frag)(m:Nat->Addr)(n:Nat)(H:Hp)(a:Addr):VO->Prop
 |.lst ws=>∃vs,H a=some (.lst vs)/\VReps K m n H vs ws
 |.dk kvs=>∃kv,Rd H a (.dK kv)/\KReps K m n H kv kvs
structure Rel(K:PySem.W.Frag)(m:Nat->Addr)(h:VH)(H:Hp):Prop where
 obj:∀i,i<h.n->∃o,h.get i=some o/\ORep K m h.n H (m i) o
 inj:∀i j,i<h.n->j<h.n->m i=m j->i=j
 len:h.os.length=h.n
structure Stp(m:Nat->Addr)(n:Nat)(H:Hp)(m':Nat->Addr)(n':Nat)(H':Hp):Prop where
 le:n<=n'
 same:∀i,i<n->m' i=m i
 new:∀i,n<=i->i<n'->H (m' i)=none
 apart:∀i j,n<=i->i<n'->j<n->m' i≠m' j
 tup:∀b vs,H b=some (.tup vs)->H' b=some (.tup vs)
 frz:∀b o u,H b=some (.frz o u)->H' b=some (.frz o u)
 keep:∀b o,(∀i,i<n->m i≠b)->H b=some o->H' b=some o
section
variable{K:PySem.W.Frag}{m m' m1 m2:Nat->Addr}{n n' n1 n2:Nat}{h h':VH}{H H' H1 H2:Hp}
theorem Stp.refl:Stp m n H m n H:=⟨vac _,λ_ _=>rfl,λi a b=>absurd b (vb5.mpr a),λi j a b=>absurd b (vb5.mpr a),λ_ _ q=>q,λ_ _ _ q=>q,λ_ _ _ q=>q⟩
theorem Stp.trans(a:Stp m n H m1 n1 H1)(b:Stp m1 n1 H1 m2 n2 H2):Stp m n H m2 n2 H2 where
 le:=vap a.le b.le
 same:=λi hi=>(b.same i (vae hi a.le)).trans (a.same i hi)
 new:=λi hi hi2=>by
  by_cases hc:i<n1
  .rw[b.same i hc];exact a.new i hi hc
  .have hc:=vb5.mp hc
   cases q:H (m2 i)with
   |none=>rfl
   |some o=>
    have q1:H1 (m2 i)=none:=b.new i hc hi2
    rw[a.keep _ o (λj hj z=>b.apart i j hc hi2 (vae hj a.le) ((b.same j (vae hj a.le)).trans ((a.same j hj).trans z)).symm) q]at q1
    cases q1
 apart:=λi j hi hi2 hj=>by
  by_cases hc:i<n1
  .rw[b.same i hc,b.same j (vae hj a.le)];exact a.apart i j hi hc hj
  .exact b.apart i j (vb5.mp hc) hi2 (vae hj a.le)
 tup:=λc vs q=>b.tup c vs (a.tup c vs q)
 frz:=λc o u q=>b.frz c o u (a.frz c o u q)
 keep:=λc o hc q=>b.keep c o (λi hi=>by
  by_cases hl:i<n
  .rw[a.same i hl];exact hc i hl
  .intro z
   have:=a.new i (vb5.mp hl) hi
   rw[z,q]at this;cases this) (a.keep c o hc q)
theorem Stp.sqT{a:Addr}{vs:List V}(s:Stp m n H m' n' H')(q:SqT K H a vs):SqT K H' a vs:=by
 rcases q with(q|⟨o,q⟩)|q
 .exact .inl (.inl (s.tup _ _ q))
 .exact .inl (.inr ⟨o,s.frz _ _ _ q⟩)
 .exact .inr q
theorem Stp.fz{a:Addr}{vs:List V}(s:Stp m n H m' n' H')(q:Fz K H a vs):Fz K H' a vs:=by
 rcases q with⟨o,q⟩|q
 .exact .inl ⟨o,s.frz _ _ _ q⟩
 .exact .inr q
mutual
theorem VRep.stp(s:Stp m n H m' n' H'):∀{v:V} {w:W},VRep K m n H v w->VRep K m' n' H' v w
 |_,_,.non=>.non
 |_,_,.bl b=>.bl b
 |_,_,.int b=>.int b
 |_,_,.str b=>.str b
 |_,_,.tup q r=>.tup (s.sqT q) (VReps.stp s r)
 |_,_,.fz q r=>.fz (s.fz q) (VReps.stp s r)
 |_,_,.ref (i:=i) q=>by rw[<-s.same i q];exact .ref (vae q s.le)
theorem VReps.stp(s:Stp m n H m' n' H'):∀{vs:List V} {ws:List W},VReps K m n H vs ws->VReps K m' n' H' vs ws
 |_,_,.nil=>.nil
 |_,_,.cons q r=>.cons (VRep.stp s q) (VReps.stp s r)
end
theorem KReps.stp(s:Stp m n H m' n' H'):∀{vs:List (Key×V)} {ws:List (Key×W)},KReps K m n H vs ws->KReps K m' n' H' vs ws
 |_,_,.nil=>.nil
 |_,_,.cons q r=>.cons (q.stp s) (KReps.stp s r)
theorem VReps.length:∀{vs:List V} {ws:List W},VReps K m n H vs ws->vs.length=ws.length
 |_,_,.nil=>rfl
 |_,_,.cons _ r=>by rw[vam,vam,VReps.length r]
theorem VReps.get:∀{vs:List V} {ws:List W} {i:Nat} {w:W},VReps K m n H vs ws->ws[i]?=some w->∃v,vs[i]?=some v/\VRep K m n H v w
 |_,_,_,_,.nil,e=>by simp at e
 |_,_,0,_,.cons q _,e=>by simp at e;subst e;exact⟨_,rfl,q⟩
 |_,_,i+1,w,.cons _ r,e=>by
  obtain⟨v,h1,h2⟩:=VReps.get (i:=i) (w:=w) r (by simpa using e)
  exact⟨v,by simpa using h1,h2⟩
theorem VReps.append:∀{vs us:List V} {ws zs:List W},VReps K m n H vs ws->VReps K m n H us zs->VReps K m n H (vs++us) (ws++zs)
 |_,_,_,_,.nil,r=>r
 |_,_,_,_,.cons q r,t=>.cons q (VReps.append r t)
theorem VReps.rev:∀{vs:List V} {ws:List W},VReps K m n H vs ws->VReps K m n H vs.reverse ws.reverse
 |_,_,.nil=>.nil
 |_,_,.cons q r=>by
  rw[vcs,vcs]
  exact(VReps.rev r).append (.cons q .nil)
theorem VReps.drop:∀(k:Nat) {vs:List V} {ws:List W},VReps K m n H vs ws->VReps K m n H (vs.drop k) (ws.drop k)
 |0,_,_,r=>r
 |_+1,_,_,.nil=>.nil
 |k+1,_,_,.cons _ r=>VReps.drop k r
theorem VReps.take:∀(k:Nat) {vs:List V} {ws:List W},VReps K m n H vs ws->VReps K m n H (vs.take k) (ws.take k)
 |0,_,_,r=>.nil
 |_+1,_,_,.nil=>.nil
 |k+1,_,_,.cons q r=>.cons q (VReps.take k r)
theorem VReps.set{v:V}{w:W}(q:VRep K m n H v w):∀(k:Nat) {vs:List V} {ws:List W},VReps K m n H vs ws->VReps K m n H (vs.set k v) (ws.set k w)
 |_,_,_,.nil=>.nil
 |0,_,_,.cons _ r=>.cons q r
 |k+1,_,_,.cons p r=>.cons p (VReps.set q k r)
theorem ORep.stp{a:Addr}{o:VO}(s:Stp m n H m' n' H')(e:H' a=H a)(q:ORep K m n H a o):ORep K m' n' H' a o:=by
 cases o with
 |lst ws=>obtain⟨vs,h1,h2⟩:=q;exact⟨vs,e.trans h1,h2.stp s⟩
 |dk ws=>obtain⟨vs,h1,h2⟩:=q;exact⟨vs,h1.imp (λz=>e.trans z) λ⟨o,z⟩=>⟨o,e.trans z⟩,h2.stp s⟩
theorem ORep.some{a:Addr}{o:VO}(q:ORep K m n H a o):∃u,H a=some u:=by
 cases o with
 |lst ws=>obtain⟨vs,h1,h2⟩:=q;exact⟨_,h1⟩
 |dk ws=>
  obtain⟨vs,h1,h2⟩:=q
  rcases h1 with h1|⟨o,h1⟩<;>exact⟨_,h1⟩
theorem zax{i j:Nat}:Nat.blt i j=true↔i<j:=by
 unfold Nat.blt;rw[Nat.ble_eq];exact Iff.rfl
theorem zaq{i:Nat}{o:VO}(q:h.get i=some o):i<h.n:=by
 unfold VH.get at q
 split at q
 .rename_i z;exact zax.mp z
 .cases q
theorem Rel.at_(r:Rel K m h H){i:Nat}{o:VO}(q:h.get i=some o):ORep K m h.n H (m i) o:=by
 obtain⟨o',h1,h2⟩:=r.obj i (zaq q)
 rw[q]at h1;cases h1;exact h2
theorem Rel.lst(r:Rel K m h H){i:Nat}{ws:List W}(q:h.get i=some (.lst ws)):∃vs,H (m i)=some (.lst vs)/\VReps K m h.n H vs ws:=r.at_ q
theorem Rel.dk(r:Rel K m h H){i:Nat}{ws:List (Key×W)}(q:h.get i=some (.dk ws)):∃vs,Rd H (m i) (.dK vs)/\KReps K m h.n H vs ws:=r.at_ q
theorem zad{i:Nat}{o:VO}(hi:i<h.n):(h.new o).get i=h.get i:=by
 unfold VH.get VH.new
 have h1:Nat.blt i (h.n+1)=true:=zax.mpr (vba hi)
 have h2:Nat.blt i h.n=true:=zax.mpr hi
 simp only[h1,h2,vbd]
 have:h.n+1-1-i=(h.n-1-i)+1:=by omega
 rw[this];rfl
theorem zai{o:VO}:(h.new o).get h.n=some o:=by
 unfold VH.get VH.new
 have h1:Nat.blt h.n (h.n+1)=true:=zax.mpr (vaq _)
 simp only[h1,vbd]
 have:h.n+1-1-h.n=0:=by omega
 rw[this];rfl
theorem Rel.alloc(r:Rel K m h H){p:Addr}{o:VO}{u:HO}(hp:H p=none)(hu:∀t,u≠.tup t)
 (ho:Stp m h.n H (λi=>if i=h.n then p else m i) (h.n+1) (upd H p u)->ORep K (λi=>if i=h.n then p else m i) (h.n+1) (upd H p u) p o) :
 Stp m h.n H (λi=>if i=h.n then p else m i) (h.n+1) (upd H p u)/\Rel K (λi=>if i=h.n then p else m i) (h.new o) (upd H p u):=by
 have tr:∀i,i<h.n->m i≠p:=λi hi z=>by
  obtain⟨o',_,h2⟩:=r.obj i hi
  obtain⟨u',h3⟩:=h2.some
  rw[z,hp]at h3;cases h3
 have st:Stp m h.n H (λi=>if i=h.n then p else m i) (h.n+1) (upd H p u):=by
  refine⟨vdv _,λi hi=>by simp only[if_neg (vau hi)],λi hi hi2=>?_,λi j hi hi2 hj=>?_,λb vs q=>?_,λb o u q=>?_,λb o _ q=>?_⟩
  .have:i=h.n:=by omega
   subst this;simp only[vbd];exact hp
  .have:i=h.n:=by omega
   subst this;simp only[vbd,if_neg (vau hj)];exact(tr j hj).symm
  .rw[zaf (zaj q hp)];exact q
  .rw[zaf (zaj q hp)];exact q
  .rw[zaf (zaj q hp)];exact q
 refine⟨st,⟨λi hi=>?_,λi j hi hj z=>?_,?_⟩⟩
 .have hi:i<h.n+1:=hi
  by_cases e:i=h.n
  .subst e;exact⟨o,zai,by simp only[vbd];exact ho st⟩
  .have hl:i<h.n:=by omega
   obtain⟨o',h1,h2⟩:=r.obj i hl
   refine⟨o',(zad hl).trans h1,?_⟩
   simp only[if_neg e]
   exact ORep.stp st (zaf (tr i hl)) h2
 .have hi:i<h.n+1:=hi
  have hj:j<h.n+1:=hj
  by_cases e:i=h.n
  .by_cases e2:j=h.n
   .omega
   .simp only[if_pos e,if_neg e2]at z
    exact absurd z.symm (tr j (by omega))
  .by_cases e2:j=h.n
   .simp only[if_neg e,if_pos e2]at z
    exact absurd z (tr i (by omega))
   .simp only[if_neg e,if_neg e2]at z
    exact r.inj i j (by omega) (by omega) z
 .show(o::h.os).length=h.n+1
  rw[vam,r.len]
theorem zg6(r:Rel K m h H){i:Nat}{o:VO}(hi:i<h.n):(h.set i o).get i=some o:=by
 unfold VH.get VH.set
 have h1:Nat.blt i h.n=true:=zax.mpr hi
 simp only[h1,vbd]
 rw[vbg]
 rw[r.len];omega
theorem zc8{i j:Nat}{o:VO}(hi:i<h.n)(hj:j≠i):(h.set i o).get j=h.get j:=by
 unfold VH.get VH.set
 by_cases h1:j<h.n
 .have h2:Nat.blt j h.n=true:=zax.mpr h1
  simp only[h2,vbd]
  rw[vb8]
  omega
 .have h2:Nat.blt j h.n=false:=by
   cases q:Nat.blt j h.n with
   |false=>rfl
   |true=>exact absurd (zax.mp q) h1
  simp only[h2,vah,vbe]
theorem Rel.write(r:Rel K m h H){i:Nat}{o:VO}{u u0:HO}(hi:i<h.n)(h0:H (m i)=some u0)(hn:∀t,u0≠.tup t)(hf:∀o t,u0≠.frz o t)
 (ho:Stp m h.n H m h.n (upd H (m i) u)->ORep K m h.n (upd H (m i) u) (m i) o) :
 Stp m h.n H m h.n (upd H (m i) u)/\Rel K m (h.set i o) (upd H (m i) u):=by
 have st:Stp m h.n H m h.n (upd H (m i) u):=by
  refine⟨vac _,λ_ _=>rfl,λj a b=>absurd b (vb5.mpr a),λj k a b=>absurd b (vb5.mpr a),λb vs q=>?_,λb o t q=>?_,λb o nb q=>?_⟩
  .rw[zaf (ne_of q h0 (λz=>hn vs z.symm))];exact q
  .rw[zaf (ne_of q h0 (λz=>hf o t z.symm))];exact q
  .rw[zaf (nb i hi).symm];exact q
 refine⟨st,⟨λj hj=>?_,λa b ha hb=>r.inj a b ha hb,?_⟩⟩
 .have hj:j<h.n:=hj
  by_cases e:j=i
  .subst e;exact⟨o,zg6 r hj,ho st⟩
  .obtain⟨o',h1,h2⟩:=r.obj j hj
   exact⟨o',(zc8 hi e).trans h1,ORep.stp st (zaf λz=>e (r.inj j i hj hi z)) h2⟩
 .show(h.os.set _ o).length=h.n
  rw[vda,r.len]
theorem Rel.more(r:Rel K m h H){p:Addr}{u:HO}(hp:H p=none):Stp m h.n H m h.n (upd H p u)/\Rel K m h (upd H p u):=by
 have st:Stp m h.n H m h.n (upd H p u):=by
  refine⟨vac _,λ_ _=>rfl,λj a b=>absurd b (vb5.mpr a),λj k a b=>absurd b (vb5.mpr a),λb vs q=>?_,λb o t q=>?_,λb o nb q=>?_⟩
  .rw[zaf (zaj q hp)];exact q
  .rw[zaf (zaj q hp)];exact q
  .rw[zaf (zaj q hp)];exact q
 refine⟨st,⟨λj hj=>?_,r.inj,r.len⟩⟩
 obtain⟨o',h1,h2⟩:=r.obj j hj
 obtain⟨u',h3⟩:=h2.some
 exact⟨o',h1,ORep.stp st (zaf (zaj h3 hp)) h2⟩
end
theorem zls{α β:Type}{r:Res α}{f:α->VH->Res β}{b:β}{h':VH}(q:r.bind f=.ok b h'):∃a h1,r=.ok a h1/\f a h1=.ok b h':=by
 cases r with
 |ok a h=>exact⟨a,h,rfl,q⟩
 |ex x h=>cases q
 |no=>cases q
theorem zaa{α β:Type}{r:Res α}{f:α->VH->Res β}{w:β}{h':VH}{P:Prop}(e:r.bind f=.ok w h')(k:∀x h1,r=.ok x h1->f x h1=.ok w h'->P):P:=by
 obtain⟨x,h1,a,b⟩:=zls e
 exact k x h1 a b
theorem of_ok{α:Type}{o:Option α}{h h':VH}{a:α}(q:Res.of o h=.ok a h'):o=some a/\h'=h:=by
 cases o with
 |none=>cases q
 |some b=>cases q;exact⟨rfl,rfl⟩
structure Fr(K:PySem.W.Frag)(m:Nat->Addr)(n:Nat)(H:Hp)(σ:L2.St)(ρ:En):Prop where
 len:σ.length=ρ.length
 val:∀(i:Nat)(w:W),ρ[i]?=some (some w)->∃v,σ[i]?=some (some v)/\VRep K m n H v w
noncomputable abbrev FE:=En->VH->Res W
noncomputable abbrev FS:=En->VH->Res Fl
noncomputable def lft(K:PySem.W.Frag)(f:FE):TE:=λσ H Q=>∃ρ h m w h',Fr K m h.n H σ ρ/\Rel K m h H/\f ρ h=.ok w h'/\
 ∀v H' m',Stp m h.n H m' h'.n H'->Rel K m' h' H'->VRep K m' h'.n H' v w->Q v H'
noncomputable def lftT(K:PySem.W.Frag)(f:FE):TT:=λσ H Q=>∃ρ h m b h',Fr K m h.n H σ ρ/\Rel K m h H/\f ρ h=.ok (.bl b) h'/\
 ∀H' m',Stp m h.n H m' h'.n H'->Rel K m' h' H'->Q b H'
noncomputable def lftA(K:PySem.W.Frag)(f:FE):TA:=λσ H Q=>∃ρ h m ws h',Fr K m h.n H σ ρ/\Rel K m h H/\f ρ h=.ok (.tup ws) h'/\
 ∀vs H' m',Stp m h.n H m' h'.n H'->Rel K m' h' H'->VReps K m' h'.n H' vs ws->Q vs H'
section
variable{K:PySem.W.Frag}{m:Nat->Addr}{σ:L2.St}{H:Hp}{P:Prop}{fa:FE}{ρ:En}{h h':VH}
theorem lft.el{Q:VK}(q:lft K fa σ H Q)(k:∀ρ h m w h',Fr K m h.n H σ ρ->Rel K m h H->fa ρ h=.ok w h'->(∀v H' m',Stp m h.n H m' h'.n H'->Rel K m' h' H'->VRep K m' h'.n H' v w->Q v H')->P):P:=by
 obtain⟨ρ,h,m,w,h',f,r,e,k'⟩:=q
 exact k ρ h m w h' f r e k'
theorem lft.mk{Q:VK}{w:W}(f:Fr K m h.n H σ ρ)(r:Rel K m h H)(e:fa ρ h=.ok w h')(k:∀v H' m',Stp m h.n H m' h'.n H'->Rel K m' h' H'->VRep K m' h'.n H' v w->Q v H'):lft K fa σ H Q:=⟨ρ,h,m,w,h',f,r,e,k⟩
theorem lftT.el{Q:Bool->Hp->Prop}(q:lftT K fa σ H Q)(k:∀ρ h m b h',Fr K m h.n H σ ρ->Rel K m h H->fa ρ h=.ok (.bl b) h'->(∀H' m',Stp m h.n H m' h'.n H'->Rel K m' h' H'->Q b H')->P):P:=by
 obtain⟨ρ,h,m,w,h',f,r,e,k'⟩:=q
 exact k ρ h m w h' f r e k'
theorem lftT.mk{Q:Bool->Hp->Prop}{b:Bool}(f:Fr K m h.n H σ ρ)(r:Rel K m h H)(e:fa ρ h=.ok (.bl b) h')(k:∀H' m',Stp m h.n H m' h'.n H'->Rel K m' h' H'->Q b H'):lftT K fa σ H Q:=⟨ρ,h,m,b,h',f,r,e,k⟩
theorem lftA.el{Q:List V->Hp->Prop}(q:lftA K fa σ H Q)(k:∀ρ h m ws h',Fr K m h.n H σ ρ->Rel K m h H->fa ρ h=.ok (.tup ws) h'->(∀vs H' m',Stp m h.n H m' h'.n H'->Rel K m' h' H'->VReps K m' h'.n H' vs ws->Q vs H')->P):P:=by
 obtain⟨ρ,h,m,w,h',f,r,e,k'⟩:=q
 exact k ρ h m w h' f r e k'
theorem lftA.mk{Q:List V->Hp->Prop}{ws:List W}(f:Fr K m h.n H σ ρ)(r:Rel K m h H)(e:fa ρ h=.ok (.tup ws) h')(k:∀vs H' m',Stp m h.n H m' h'.n H'->Rel K m' h' H'->VReps K m' h'.n H' vs ws->Q vs H'):lftA K fa σ H Q:=⟨ρ,h,m,ws,h',f,r,e,k⟩
end
noncomputable abbrev SE(X:Cx)(e:Expr)(f:FE):Prop:=PE X e (lft X.K f)
noncomputable abbrev ST(X:Cx)(e:Expr)(f:FE):Prop:=PT X e (lftT X.K f)
noncomputable abbrev SW(X:Cx)(e:Expr)(f:FE):Prop:=PW X e (lftT X.K f)
noncomputable abbrev SA(X:Cx)(es:List Expr)(f:FE):Prop:=PA X es (lftA X.K f)
theorem _root_.L2.PE.imp{X:Cx}{e:Expr}{t t':TE}(h:PE X e t)(k:∀σ H Q,t' σ H Q->t σ H Q):PE X e t':=λpins s σ H Q I q=>h pins s σ H Q I (k σ H Q q)
theorem _root_.L2.PT.imp{X:Cx}{e:Expr}{t t':TT}(h:PT X e t)(k:∀σ H Q,t' σ H Q->t σ H Q):PT X e t':=λpins s σ H Q I q=>h pins s σ H Q I (k σ H Q q)
theorem _root_.L2.PW.imp{X:Cx}{e:Expr}{t t':TT}(h:PW X e t)(k:∀σ H Q,t' σ H Q->t σ H Q):PW X e t':=λwh pins s σ H Q I q=>h wh pins s σ H Q I (k σ H Q q)
theorem _root_.L2.PA.imp{X:Cx}{es:List Expr}{t t':TA}(h:PA X es t)(k:∀σ H Q,t' σ H Q->t σ H Q):PA X es t':=λp pins s σ H Q I q=>h p pins s σ H Q I (k σ H Q q)
theorem _root_.L2.PS.imp{X:Cx}{st:Stmt}{t t':TS}(h:PS X st t)(k:∀D σ H,t' D σ H->t D σ H):PS X st t':=λpins s σ H D I q=>h pins s σ H D I (k D σ H q)
theorem _root_.L2.PSs.imp{X:Cx}{st:List Stmt}{t t':TS}(h:PSs X st t)(k:∀D σ H,t' D σ H->t D σ H):PSs X st t':=λpins s σ H D I q=>h pins s σ H D I (k D σ H q)
section
variable{K:PySem.W.Frag}{m m':Nat->Addr}{n n':Nat}{h h':VH}{H H':Hp}{σ:L2.St}{ρ:En}
theorem Fr.stp(f:Fr K m n H σ ρ)(s:Stp m n H m' n' H'):Fr K m' n' H' σ ρ:=⟨f.len,λi w e=>let⟨v,h1,h2⟩:=f.val i w e;⟨v,h1,h2.stp s⟩⟩
theorem Fr.set(f:Fr K m n H σ ρ){v:V}{w:W}(q:VRep K m n H v w)(i:Nat):Fr K m n H (σ.set i (some v)) (ρ.set i (some w)):=by
 refine⟨by rw[vda,vda];exact f.len,λj w' e=>?_⟩
 by_cases hj:i=j
 .subst hj
  by_cases hl:i<ρ.length
  .rw[vbg hl]at e
   cases e
   exact⟨v,by rw[vbg (by rw[f.len];exact hl)],q⟩
  .rw[List.getElem?_eq_none (by rw[vda];omega)]at e;cases e
 .rw[vb8 hj]at e
  obtain⟨v',h1,h2⟩:=f.val j w' e
  exact⟨v',by rw[vb8 hj];exact h1,h2⟩
noncomputable def Wants(K:PySem.W.Frag)(m:Nat->Addr)(n:Nat)(H:Hp)(w:W)(h':VH)(Q:VK):Prop:=∀v H' m',Stp m n H m' h'.n H'->Rel K m' h' H'->VRep K m' h'.n H' v w->Q v H'
theorem Wants.here{w:W}{Q:VK}(k:Wants K m h.n H w h Q)(r:Rel K m h H){v:V}(q:VRep K m h.n H v w):Q v H:=k v H m .refl r q
theorem Wants.list{ws:List W}{vs:List V}{Q:VK}(k:Wants K m h.n H (.ref h.n) (h.new (.lst ws)) Q)(r:Rel K m h H)(q:VReps K m h.n H vs ws){p:Addr}(hp:H p=none):Q (.ref p) (upd H p (.lst vs)):=by
 obtain⟨st,r'⟩:=r.alloc (o:=.lst ws) (u:=.lst vs) hp (λ_ z=>nomatch z) (λst=>⟨vs,zag,q.stp st⟩)
 refine k _ _ _ st r' ?_
 have:VRep K (λi=>if i=h.n then p else m i) (h.n+1) (upd H p (.lst vs)) (.ref ((λi=>if i=h.n then p else m i) h.n)) (.ref h.n):=.ref (vaq _)
 simp only[vbd]at this
 exact this
theorem Wants.dict{ws:List (Key×W)}{vs:List (Key×V)}{Q:VK}(k:Wants K m h.n H (.ref h.n) (h.new (.dk ws)) Q)(r:Rel K m h H)(q:KReps K m h.n H vs ws){p:Addr}(hp:H p=none):Q (.ref p) (upd H p (.dK vs)):=by
 obtain⟨st,r'⟩:=r.alloc (o:=.dk ws) (u:=.dK vs) hp (λ_ z=>nomatch z) (λst=>⟨vs,.inl zag,q.stp st⟩)
 refine k _ _ _ st r' ?_
 have:VRep K (λi=>if i=h.n then p else m i) (h.n+1) (upd H p (.dK vs)) (.ref ((λi=>if i=h.n then p else m i) h.n)) (.ref h.n):=.ref (vaq _)
 simp only[vbd]at this
 exact this
theorem Wants.tuple{ws:List W}{vs:List V}{Q:VK}(k:Wants K m h.n H (.tup ws) h Q)(r:Rel K m h H)(q:VReps K m h.n H vs ws){p:Addr}(hp:H p=none):Q (.ref p) (upd H p (.tup vs)):=by
 obtain⟨st,r'⟩:=r.more (u:=.tup vs) hp
 exact k _ _ _ st r' (.tup (SqT.of zag) (q.stp st))
theorem zpw{fa:FE}{g:W->VH->Res W}{G:V->Hp->VK->Prop}
 (hG:∀(m:Nat->Addr)(h:VH)(H:Hp)(v:V)(x w:W)(h':VH)(Q:VK),Rel K m h H->VRep K m h.n H v x->g x h=.ok w h'->Wants K m h.n H w h' Q->G v H Q) {Q:VK}
 (q:lft K (λρ h=>(fa ρ h).bind λx h=>g x h) σ H Q):lft K fa σ H λv H1=>G v H1 Q:=by
 refine q.el λρ h m w h' f r e k=>?_
 refine zaa e λx h1 e1 e2=>?_
 exact(.mk f r e1 λv H1 m1 s1 r1 q1=>hG m1 h1 H1 v x w h' Q r1 q1 e2 λv' H' m' s' r' q'=>k v' H' m' (s1.trans s') r' q')
theorem zf1{fa fb:FE}{g:W->W->VH->Res W}{G:V->V->Hp->VK->Prop}
 (hG:∀(m:Nat->Addr)(h:VH)(H:Hp)(v u:V)(x y w:W)(h':VH)(Q:VK),Rel K m h H->VRep K m h.n H v x->VRep K m h.n H u y->g x y h=.ok w h'->Wants K m h.n H w h' Q->G v u H Q) {Q:VK}
 (q:lft K (λρ h=>(fa ρ h).bind λx h=>(fb ρ h).bind λy h=>g x y h) σ H Q):lft K fa σ H λv H1=>lft K fb σ H1 λu H2=>G v u H2 Q:=by
 refine q.el λρ h m w h' f r e k=>?_
 refine zaa e λx h1 e1 e2=>?_
 refine zaa e2 λy h2 e3 e4=>?_
 refine(.mk f r e1 λv H1 m1 s1 r1 q1=>(.mk (f.stp s1) r1 e3 λu H2 m2 s2 r2 q2=>?_))
 exact hG m2 h2 H2 v u x y w h' Q r2 (q1.stp s2) q2 e4 λv' H' m' s' r' q'=>k v' H' m' ((s1.trans s2).trans s') r' q'
theorem zc9{fa:FE}{g:List W->VH->Res W}{G:List V->Hp->VK->Prop}
 (hG:∀(m:Nat->Addr)(h:VH)(H:Hp)(vs:List V)(xs:List W)(w:W)(h':VH)(Q:VK),Rel K m h H->VReps K m h.n H vs xs->g xs h=.ok w h'->Wants K m h.n H w h' Q->G vs H Q) {Q:VK}
 (q:lft K (λρ h=>(fa ρ h).bind λy h=>match y with|.tup ys=>g ys h|_=>.no) σ H Q):lftA K fa σ H λvs H1=>G vs H1 Q:=by
 refine q.el λρ h m w h' f r e k=>?_
 refine zaa e λx h1 e1 e2=>?_
 cases x with
 |tup ys=>exact(.mk f r e1 λvs H1 m1 s1 r1 q1=>hG m1 h1 H1 vs ys w h' Q r1 q1 e2 λv' H' m' s' r' q'=>k v' H' m' (s1.trans s') r' q')
 |_=>cases e2
theorem ziy{f:FE}{Q:Bool->Hp->Prop}(q:lftT K f σ H Q):lft K f σ H λx H'=>∃k,x=.bl k/\Q k H':=by
 refine q.el λρ h m b h' f r e k=>?_
 exact(.mk f r e λv H' m' s' r' q'=>by cases q';exact⟨b,rfl,k H' m' s' r'⟩)
end
section
variable{X:Cx}{a b c e:Expr}{es:List Expr}{fa fb fc:FE}{pos:Pos}
theorem zuf{i:Nat}{x:Str}{pos:Pos}(hN:X.N[i]?=some x)(hv:Vis X.env.scope x)(hd:(x==("__debug__" : Str))=false)(hcd:(x==("__classdict__" : Str))=false):SE X (.Name x pos) (λρ h=>.of (ρ[i]?).join h):=
 (zio hN hv hd hcd).imp λσ H Q z9=>z9.el λρ h m w h' f r e k=>by
   obtain⟨e1,e2⟩:=of_ok e
   subst e2
   have e3:ρ[i]?=some (some w):=by
    cases q:ρ[i]? with
    |none=>rw[q]at e1;cases e1
    |some o=>rw[q]at e1;rw[<-e1];rfl
   obtain⟨v,h1,h2⟩:=f.val i w e3
   exact⟨v,h1,k v H m .refl r h2⟩
theorem zg7{w:W}{v:V}(h:PE X e (tC v))(hv:∀m n H,VRep X.K m n H v w):SE X e (λ_ h=>.ok w h):=
 h.imp λσ H Q z9=>z9.el λρ h m w h' f r e k=>by cases e;exact k v H m .refl r (hv m h.n H)
theorem zug{i j pos}:SE X (.Constant (.int i) j pos) (λ_ h=>.ok (.int i) h):=zg7 zpi λ_ _ _=>.int i
theorem se_bl{i j pos}:SE X (.Constant (.bool i) j pos) (λ_ h=>.ok (.bl i) h):=zg7 pe_bl λ_ _ _=>.bl i
theorem zuh{j pos}:SE X (.Constant .none j pos) (λ_ h=>.ok .non h):=zg7 ztb λ_ _ _=>.non
theorem zui{i j pos}:SE X (.Constant (.str i) j pos) (λ_ h=>.ok (.str i) h):=zg7 zkm λ_ _ _=>.str i
theorem zpx:SA X [] (λ_ h=>.ok (.tup []) h):=zcn.imp λσ H Q z9=>z9.el λρ h m ws h' f r e k=>by cases e;exact k [] H m .refl r .nil
theorem zlt(ha:SE X e fa)(hr:SA X es fb)(hs:starEach (e::es) X.env=(false,eval e X.env)::starEach es X.env) :
 SA X (e::es) (λρ h=>(fa ρ h).bind λx h=>(fb ρ h).bind λy h=>match y with|.tup ys=>.ok (.tup (x::ys)) h|_=>.no):=
 (zbg ha hr hs).imp λσ H Q z9=>z9.el λρ h m ws h' f r e k=>by
   refine zaa e λx h1 e1 e2=>?_
   refine zaa e2 λy h2 e3 e4=>?_
   cases y with
   |tup ys=>
    cases e4
    exact(.mk f r e1 λv H1 m1 s1 r1 q1=>(.mk (f.stp s1) r1 e3 λvs H2 m2 s2 r2 q2=>k _ H2 m2 (s1.trans s2) r2 (.cons (q1.stp s2) q2)))
   |_=>cases e4
theorem zpy{k:Nat}(h:Nat.ble k 1000=true):k<=sizeLine:=vc8 (zeh (va2 h))
theorem zuj{x1:Nat}(ha:SA X es fa):SE X (.Tuple es x1 pos) (λρ h=>(fa ρ h).bind λy h=>match y with|.tup ys=>(if Nat.ble ys.length 1000 then .ok (.tup ys) h else .no)|_=>.no):=
 (zt1 ha).imp λσ H Q q=>zc9 (g:=λys h=>if Nat.ble ys.length 1000 then .ok (.tup ys) h else .no) (G:=λxs H1 Q=>xs.length<=sizeLine/\∀p,H1 p=none->Q (.ref p) (upd H1 p (.tup xs)))
   (λm h H vs xs w h' Q r q e k=>by
     split at e
     .rename_i hl
      cases e
      exact⟨by rw[q.length];exact zpy hl,λp hp=>Wants.tuple k r q hp⟩
     .cases e) q
theorem zuk(ha:SA X es fa):SE X (.List es pos) (λρ h=>(fa ρ h).bind λy h=>match y with|.tup ys=>(if Nat.ble ys.length 1000 then .ok (.ref h.n) (h.new (.lst ys))else .no)|_=>.no):=
 (zk5 ha).imp λσ H Q q=>zc9 (g:=λys h=>if Nat.ble ys.length 1000 then .ok (.ref h.n) (h.new (.lst ys))else .no) (G:=λxs H1 Q=>xs.length<=sizeLine/\∀p,H1 p=none->Q (.ref p) (upd H1 p (.lst xs)))
   (λm h H vs xs w h' Q r q e k=>by
     split at e
     .rename_i hl
      cases e
      exact⟨by rw[q.length];exact zpy hl,λp hp=>Wants.list k r q hp⟩
     .cases e) q
noncomputable def OpV(K:PySem.W.Frag)(r:R2)(g:W->W->VH->Res W):Prop:=∀(m:Nat->Addr) (h:VH) (H:Hp) (v u:V) (x y w:W) (h':VH) (Q:VK),Rel K m h H->VRep K m h.n H v x->VRep K m h.n H u y->g x y h=.ok w h'->Wants K m h.n H w h' Q->r v u H Q
theorem se_op{O:Operator}{r:R2}{g:W->W->VH->Res W}(ho:OpR X (binaryOp O) r)(hg:OpV X.K r g)(ha:SE X a fa)(hb:SE X b fb):SE X (.BinOp a O b pos) (λρ h=>(fa ρ h).bind λx h=>(fb ρ h).bind λy h=>g x y h):=
 (pe_op ho ha hb).imp λσ H Q q=>zf1 (G:=r) hg q
noncomputable def opOf:Operator->Option Op
 |.Add=>some .add|.Sub=>some .sub|.Mult=>some .mul|.FloorDiv=>some .fdiv|.Mod=>some .mod|.LShift=>some .shl|.Pow=>some .pow|.RShift=>some .shr|.BitAnd=>some .band
 |_=>none
noncomputable def cI:Op->Int->Int->Prop
 |.mul=>CMul|.fdiv=>CDiv|.mod=>λ_ j=>0<j|.shl=>CPow|.pow=>CPow|.shr=>λ_ j=>0<=j|.band=>λ_ j=>j=1
 |_=>λ_ _=>True
noncomputable def gI:Op->Int->Int->Int
 |.add=>(· + ·)|.sub=>(· - ·)|.mul=>(· * ·)|.fdiv=>(· / ·)|.mod=>(· % ·)|.shl=>λi j=>i*2 ^ j.toNat|.pow=>λi j=>i ^ j.toNat|.shr=>λi j=>i/2 ^ j.toNat|.band=>λi _=>i % 2
noncomputable def rX(K:PySem.W.Frag):Op->R2
 |.add=>λx y H Q=>rCatT K x y H Q\/zpu K x y H Q\/rCat x y H Q
 |.mul=>λx y H Q=>rRepT K x y H Q
 |_=>λ_ _ _ _=>False
noncomputable def rB(K:PySem.W.Frag)(o:Op):R2:=λx y H Q=>rI (cI o) (λi j=>.int (gI o i j)) x y H Q\/rX K o x y H Q
theorem zbz{f:Value->Value->Sem Value}{r r':R2}(h:OpR X f r)(k:∀x y H Q,r' x y H Q->r x y H Q):OpR X f r':=λpins s σ H x y v u Q I rx ry q=>h pins s σ H x y v u Q I rx ry (k _ _ _ _ q)
theorem op_ok{O:Operator}{o:Op}(e:opOf O=some o):OpR X (binaryOp O) (rB X.K o):=by
 have tr:∀{g:Int->Int->V}{x y H Q},rI (λ_ _=>True) g x y H Q->rI0 g x y H Q:=λ⟨i,j,h1,h2,_,h3⟩=>⟨i,j,h1,h2,h3⟩
 cases O<;>cases e
 .exact zbz (ztq.or (zq9.or (zoj.or zlb))) λx y H Q q=>q.elim (λz=>.inl (tr z)) .inr
 .exact zbz ztr λx y H Q q=>q.elim (λz=>tr z) λz=>z.elim
 .exact zbz (zts.or zrk) λx y H Q q=>q
 .exact zbz ztt λx y H Q q=>q.elim id λz=>z.elim
 .exact zbz ztu λx y H Q q=>q.elim id λz=>z.elim
 .exact zbz ztv λx y H Q q=>q.elim id λz=>z.elim
 .exact zbz ztw λx y H Q q=>q.elim id λz=>z.elim
 .exact zbz ztx λx y H Q q=>q.elim (λ⟨i,j,h1,h2,h3,h4⟩=>⟨i,j,h1,h2,by
   have h3:j=1:=h3
   subst h3
   show Q (.int (Builtin.bitAnd i 1)) H
   rw[bitAnd_m1]
   exact h4⟩) λz=>z.elim
 .exact zbz zq2 λx y H Q q=>q.elim id λz=>z.elim
theorem zeo{i:Int}(h:zby i=true):-(2 ^ 64)<i/\i<2 ^ 64:=by
 unfold zby at h
 rw[vaa]at h
 exact⟨va6 h.1,va6 h.2⟩
theorem zlu{o:Op}{i j z:Int}(e:opI o i j=some z):cI o i j/\z=gI o i j:=by
 cases o<;>simp only[opI]at e
 .cases e;exact⟨trivial,rfl⟩
 .cases e;exact⟨trivial,rfl⟩
 .split at e
  .rename_i hc
   cases e
   rw[vcu]at hc
   exact⟨hc.elim (λq=>.inl (zeo q)) (λq=>.inr (zeo q)),rfl⟩
  .cases e
 .split at e
  .rename_i hc
   cases e
   rw[vaa]at hc
   exact⟨⟨va6 hc.1,va6 hc.2⟩,rfl⟩
  .cases e
 .split at e
  .rename_i hc
   cases e
   exact⟨(va6 hc:0<j),rfl⟩
  .cases e
 .split at e
  .rename_i hc
   cases e
   rw[vaa,vaa]at hc
   exact⟨⟨va6 hc.1.1,va6 hc.1.2,va6 hc.2⟩,rfl⟩
  .cases e
 .split at e
  .rename_i hc
   cases e
   rw[vaa,vaa]at hc
   exact⟨⟨va6 hc.1.1,va6 hc.1.2,va6 hc.2⟩,rfl⟩
  .cases e
 .split at e
  .rename_i hc
   cases e
   exact⟨(va6 hc:0<=j),rfl⟩
  .cases e
 .split at e
  .rename_i hc
   cases e
   exact⟨(va6 hc:j=1),rfl⟩
  .cases e
theorem zh2{i:Int}(h:fits i=true):-(2 ^ 62)<=i/\i<2 ^ 62:=by
 unfold fits at h
 rw[vaa]at h
 exact⟨va6 h.1,va6 h.2⟩
theorem zrn{o:Op}{xs zs:List W}{k:Int}(e:repW o xs k=some zs):o=.mul/\(-(2 ^ 62)<=k/\k<2 ^ 62)/\xs.length*k.toNat<=sizeLine/\zs=(List.replicate k.toNat xs).flatten:=by
 unfold repW at e
 split at e
 .split at e
  .rename_i hc
   cases e
   rw[vaa]at hc
   exact⟨rfl,zh2 hc.1,va2 hc.2,rfl⟩
  .cases e
 .cases e
theorem VReps.rep{K:PySem.W.Frag}{m:Nat->Addr}{n:Nat}{H:Hp}{vs:List V}{ws:List W}(q:VReps K m n H vs ws):∀k:Nat,VReps K m n H (List.replicate k vs).flatten (List.replicate k ws).flatten
 |0=>.nil
 |k+1=>by
  rw[vbf,vbf,vcd,vcd]
  exact q.append (VReps.rep q k)
theorem zh3{K:PySem.W.Frag}{m:Nat->Addr}{n:Nat}{H:Hp}{vs:List V}{ws:List W}(q:VReps K m n H vs ws):vs.isEmpty=ws.isEmpty:=by cases q<;>rfl
theorem zom{ws:List W}{k:Int}(h:(ws.isEmpty||k==1)=true):(List.replicate k.toNat ws).flatten=ws:=by
 rw[vcu]at h
 rcases h with h|h
 .have:ws=[]:=by simpa using h
  subst this
  induction k.toNat with
  |zero=>rfl
  |succ j ih=>rw[vbf,vcd,ih];rfl
 .have:k=1:=by simpa using h
  subst this
  show(List.replicate 1 ws).flatten=ws
  simp
theorem zul{K:PySem.W.Frag}(o:Op):OpV K (rB K o) (opW o):=by
 intro m h H v u x y w h' Q r qv qu e k
 unfold opW at e
 split at e
 .rename_i i j
  obtain⟨e,rfl⟩:=of_ok e
  cases qv;cases qu
  cases q:opI o i j with
  |none=>rw[q]at e;cases e
  |some z=>
   rw[q]at e;cases e
   obtain⟨h1,rfl⟩:=zlu q
   exact .inl ⟨i,j,rfl,rfl,h1,Wants.here k r (.int _)⟩
 .rename_i xs ys
  obtain⟨e,rfl⟩:=of_ok e
  cases q:opT o xs ys with
  |none=>rw[q]at e;cases e
  |some zs=>
   rw[q]at e;cases e
   cases o<;>simp only[opT]at q
   split at q
   .rename_i hc
    cases q
    cases qv with
    |tup qa ra=>
     cases qu with
     |tup qb rb=>
      rename_i a va b vb
      have hl:=va2 hc
      cases xs with
      |nil=>
       cases ra
       exact .inr (.inr (.inl ⟨a,b,vb,rfl,rfl,qa,qb,Wants.here k r (.tup qb rb)⟩))
      |cons x0 xs0=>
       refine .inr (.inl ⟨a,b,va,vb,rfl,rfl,qa,qb,λz=>?_,by rw[ra.length,rb.length];exact hl,λz=>?_,λ_ p hp=>Wants.tuple k r (ra.append rb) hp⟩)
       .subst z;cases ra
       .subst z;cases rb
        rw[va5]at k
        exact Wants.here k r (.tup qa ra)
   .cases q
   all_goals cases q
 .rename_i xs kk
  obtain⟨e,rfl⟩:=of_ok e
  cases q:repW o xs kk with
  |none=>rw[q]at e;cases e
  |some zs=>
   rw[q]at e;cases e
   obtain⟨rfl,⟨k1,k2⟩,hz,rfl⟩:=zrn q
   cases qu
   cases qv with
   |tup qa ra=>
    rename_i a va
    refine .inr ⟨a,kk,va,rfl,rfl,qa,k1,k2,by rw[ra.length];exact hz,λz=>?_,λz p hp=>Wants.tuple k r (ra.rep _) hp⟩
    rw[zh3 ra]at z
    rw[zom z]at k
    exact Wants.here k r (.tup qa ra)
 .rename_i i j
  split at e
  .rename_i xs ys hx hy
   split at e
   .rename_i zs q
    cases e
    cases o<;>simp only[opL]at q
    split at q
    .rename_i hc
     cases q
     obtain⟨va,pa,ra⟩:=r.lst hx
     obtain⟨vb,pb,rb⟩:=r.lst hy
     cases qv;cases qu
     exact .inr (.inr (.inr ⟨m i,m j,va,vb,rfl,rfl,pa,pb,by rw[ra.length,rb.length];exact va2 hc,λp hp=>Wants.list k r (ra.append rb) hp⟩))
    .cases q
    all_goals cases q
   .cases e
  .cases e
 .cases e
end
section
variable{K:PySem.W.Frag}{m:Nat->Addr}{h:VH}{H:Hp}
theorem zg8{f:W->Option PyData}(ih:∀(w:W) (d:PyData) (v:V),f w=some d->VRep K m h.n H v w->Rp K (λ_=>False) H v d):∀{ws:List W} {ds:List PyData} {vs:List V},mapO f ws=some ds->VReps K m h.n H vs ws->Rps K (λ_=>False) H vs ds
 |[],ds,_,e,.nil=>by cases e;exact .nil
 |w::ws,ds,_,e,.cons q r=>by
  unfold mapO at e
  split at e
  .rename_i d hd
   split at e
   .rename_i bs hb
    cases e
    exact .cons (ih w d _ hd q) (zg8 ih hb r)
   .cases e
  .cases e
theorem rp_of(r:Rel K m h H):∀(n:Nat) (w:W) (d:PyData) (v:V),toD h n w=some d->VRep K m h.n H v w->Rp K (λ_=>False) H v d
 |0,_,_,_,e,_=>by cases e
 |n+1,w,d,v,e,q=>by
  cases q with
  |non=>cases e;exact .non
  |bl b=>cases e;exact .bl b
  |int b=>cases e;exact .int b
  |str b=>cases e;exact .str b
  | @tup a vs ws sq rs=>
   simp only[toD]at e
   cases z:mapO (toD h n) ws with
   |none=>rw[z]at e;cases e
   |some ds=>rw[z]at e;cases e;exact .tup sq (λz=>z) (zg8 (rp_of r n) z rs)
  | @fz a vs ws sq rs=>
   simp only[toD]at e
   cases z:mapO (toD h n) ws with
   |none=>rw[z]at e;cases e
   |some ds=>rw[z]at e;cases e;exact .lst sq.sq (λz=>z) (zg8 (rp_of r n) z rs)
  | @ref i hi=>
   simp only[toD]at e
   cases g:h.get i with
   |none=>rw[g]at e;cases e
   |some o=>
    rw[g]at e
    cases o with
    |dk _=>cases e
    |lst ws=>
     obtain⟨vs,h1,h2⟩:=r.lst g
     simp only at e
     cases z:mapO (toD h n) ws with
     |none=>rw[z]at e;cases e
     |some ds=>rw[z]at e;cases e;exact .lst (SqL.of h1) (λz=>z) (zg8 (rp_of r n) z h2)
theorem zpz(r:Rel K m h H){x y:W}{v u:V}{b:Bool}(e:eqW h x y=some b)(qv:VRep K m h.n H v x)(qu:VRep K m h.n H u y) :
 ∃d e',Rp K (λ_=>False) H v d/\Rp K (λ_=>False) H u e'/\SeqAt.shaped d=true/\SeqAt.shaped e'=true/\b=PyData.eqv d e':=by
 unfold eqW at e
 split at e
 .rename_i d e' h1 h2
  split at e
  .rename_i hc
   cases e
   rw[vaa]at hc
   exact⟨d,e',rp_of r _ _ _ _ h1 qv,rp_of r _ _ _ _ h2 qu,hc.1,hc.2,rfl⟩
  .cases e
 .cases e
end
theorem zda{K:PySem.W.Frag}{m:Nat->Addr}{h:VH}{H:Hp}{v:V}{w:W}{ws:List W}(r:Rel K m h H)(q:VRep K m h.n H v w)(e:seqW h w=some ws):∃p vs,v=.ref p/\(SqL K H p vs\/SqT K H p vs)/\VReps K m h.n H vs ws:=by
 cases q<;>try cases e
 .exact⟨_,_,rfl,.inr ‹_›,‹_›⟩
 .rename_i q _;exact⟨_,_,rfl,.inl q.sq,‹_›⟩
 .rename_i i hi
  simp only[seqW]at e
  cases g:h.get i with
  |none=>rw[g]at e;cases e
  |some o=>
   rw[g]at e
   cases o with
   |dk _=>cases e
   |lst ws=>
    cases e
    obtain⟨vs,h1,h2⟩:=r.lst g
    exact⟨_,vs,rfl,.inl (SqL.of h1),h2⟩
theorem zp0{K:PySem.W.Frag}{m:Nat->Addr}{h:VH}{H:Hp}(r:Rel K m h H){x y:W}{v u:V}{b:Bool}(e:inW h x y=some b)(qv:VRep K m h.n H v x)(qu:VRep K m h.n H u y) :
 (∃p vs ds d,u=.ref p/\(SqL K H p vs\/SqT K H p vs)/\Rps K (λ_=>False) H vs ds/\Rp K (λ_=>False) H v d/\ds.all SeqAt.shaped=true/\SeqAt.shaped d=true/\b=anyEq ds d):=by
 unfold inW at e
 split at e
 .rename_i ws d h1 h2
  split at e
  .rename_i ds h3
   split at e
   .rename_i hc
    cases e
    rw[vaa]at hc
    obtain⟨p,vs,rfl,h4,h5⟩:=zda r qu h1
    exact⟨p,vs,ds,d,rfl,h4,zg8 (rp_of r 24) h3 h5,rp_of r _ _ _ _ h2 qv,hc.1,hc.2,rfl⟩
   .cases e
  .cases e
 .cases e
noncomputable def cpOf:CmpOp->Option Cp
 |.Eq=>some .eq|.NotEq=>some .ne|.Lt=>some .lt|.LtE=>some .le|.Gt=>some .gt|.GtE=>some .ge|.Is=>some .isn|.IsNot=>some .notn|.In=>some .inn|.NotIn=>some .nin
noncomputable def rC(K:PySem.W.Frag):Cp->R2
 |.eq=>rEqD K
 |.ne=>rNeD K
 |.lt=>rI0 λi j=>.bl (decide (i<j))
 |.le=>rI0 λi j=>.bl (decide (i<=j))
 |.gt=>rI0 λi j=>.bl (decide (j<i))
 |.ge=>rI0 λi j=>.bl (decide (j<=i))
 |.isn=>λx y H Q=>(y=.non/\Q (.bl (decide (x=.non))) H)\/∃c b,x=.bl c/\y=.bl b/\Q (.bl (c==b)) H
 |.notn=>λx y H Q=>(y=.non/\Q (.bl (!decide (x=.non))) H)\/∃c b,x=.bl c/\y=.bl b/\Q (.bl (!(c==b))) H
 |.inn=>λx y H Q=>rInD K false x y H Q
 |.nin=>λx y H Q=>rInD K true x y H Q
noncomputable def zco:Expr->Bool
 |.Set ..=>false
 |_=>true
theorem zh4{op:CmpOp}{b:Expr}(h:zco b=true):behindInMarks op b=false:=by
 cases b<;>first|rfl|cases h
section
variable{X:Cx}{a b c e:Expr}{es:List Expr}{fa fb fc:FE}{pos:Pos}
theorem zum:OpR X (compareOp .Is) (λx y H Q=>∃c b,x=.bl c/\y=.bl b/\Q (.bl (c==b)) H):=by
 intro pins s σ H x y v u Q I rx ry h
 obtain⟨c,b,rfl,rfl,q⟩:=h
 cases rx;cases ry
 exact wpAny_is_plain rfl (zas I q (by cases c<;>cases b<;>rfl))
theorem zlv:OpR X (compareOp .IsNot) (λx y H Q=>∃c b,x=.bl c/\y=.bl b/\Q (.bl (!(c==b))) H):=by
 intro pins s σ H x y v u Q I rx ry h
 obtain⟨c,b,rfl,rfl,q⟩:=h
 cases rx;cases ry
 exact wpAny_isNot_plain rfl (zas I q (by cases c<;>cases b<;>rfl))
theorem zfb(hu:X.A.units+65<cLine){O:CmpOp}{c:Cp}(e:cpOf O=some c):OpR X (compareOp O) (rC X.K c):=by
 cases O<;>cases e
 .exact zt7 (by omega)
 .exact zt8 (by omega)
 .exact op_lt
 .exact op_le
 .exact op_gt
 .exact op_ge
 .exact ztz.or zum
 .exact zq4.or zlv
 .exact zuc (by show X.A.units+1+64<cLine;omega)
 .exact zlo (by show X.A.units+1+64<cLine;omega)
theorem zds{K:PySem.W.Frag}{m:Nat->Addr}{n:Nat}{H:Hp}{v:V}{w:W}(q:VRep K m n H v w):isNon w=decide (v=.non):=by
 cases q<;>simp[isNon]
theorem zf2{K:PySem.W.Frag}(c:Cp):OpV K (rC K c) (λx y h=>.of ((cmpW c h x y).map .bl) h):=by
 intro m h H v u x y w h' Q r qv qu e k
 obtain⟨e,rfl⟩:=of_ok e
 cases z:cmpW c h' x y with
 |none=>rw[z]at e;cases e
 |some b=>
  rw[z]at e;cases e
  have fin:Q (.bl b) H:=Wants.here k r (.bl b)
  unfold cmpW at z
  split at z
  .obtain⟨p,vs,ds,d,h1,h2,h3,h4,h5,h6,rfl⟩:=zp0 r z qv qu
   exact⟨p,vs,ds,d,h1,h2,h3,h4,h5,h6,fin⟩
  .cases z2:inW h' x y with
   |none=>rw[z2]at z;cases z
   |some b2=>
    rw[z2]at z;cases z
    obtain⟨p,vs,ds,d,h1,h2,h3,h4,h5,h6,rfl⟩:=zp0 r z2 qv qu
    exact⟨p,vs,ds,d,h1,h2,h3,h4,h5,h6,fin⟩
  .obtain⟨d,e',h1,h2,h3,h4,rfl⟩:=zpz r z qv qu
   exact⟨d,e',h1,h2,h3,h4,fin⟩
  .cases z2:eqW h' x y with
   |none=>rw[z2]at z;cases z
   |some b2=>
    rw[z2]at z;cases z
    obtain⟨d,e',h1,h2,h3,h4,rfl⟩:=zpz r z2 qv qu
    exact⟨d,e',h1,h2,h3,h4,fin⟩
  .split at z
   .rename_i hn
    cases z
    have:=zds qu
    rw[hn]at this
    refine .inl ⟨va6 this.symm,?_⟩
    rw[<-zds qv];exact fin
   .unfold isB at z
    split at z
    .rename_i c b
     cases z
     cases qv;cases qu
     exact .inr ⟨_,_,rfl,rfl,fin⟩
    .cases z
  .split at z
   .rename_i hn
    cases z
    have:=zds qu
    rw[hn]at this
    refine .inl ⟨va6 this.symm,?_⟩
    rw[<-zds qv];exact fin
   .cases z2:isB x y with
    |none=>rw[z2]at z;cases z
    |some b2=>
     rw[z2]at z;cases z
     unfold isB at z2
     split at z2
     .rename_i c b
      cases z2
      cases qv;cases qu
      exact .inr ⟨_,_,rfl,rfl,fin⟩
     .cases z2
  .split at z
   .rename_i i j
    cases qv;cases qu
    cases c<;>simp only[cmpI]at z<;>cases z<;>exact⟨i,j,rfl,rfl,fin⟩
   .cases z
theorem zun(hu:X.A.units+65<cLine){O:CmpOp}{c:Cp}(e:cpOf O=some c)(hs:zco b=true)(ha:SE X a fa)(hb:SE X b fb) :
 SE X (.Compare a [O] [b] pos) (λρ h=>(fa ρ h).bind λx h=>(fb ρ h).bind λy h=>.of ((cmpW c h x y).map .bl) h):=
 (zkz (zfb hu e) ha hb (zh4 hs)).imp λσ H Q q=>zf1 (G:=rC X.K c) (zf2 c) q
theorem zuo(hu:X.A.units+65<cLine){O:CmpOp}{c:Cp}(e:cpOf O=some c)(hs:zco b=true)(ha:SE X a fa)(hb:SE X b fb) :
 ST X (.Compare a [O] [b] pos) (λρ h=>(fa ρ h).bind λx h=>(fb ρ h).bind λy h=>.of ((cmpW c h x y).map .bl) h):=
 (zk0 (zfb hu e) ha hb (zh4 hs)).imp λσ H Q q=>zf1 (G:=rC X.K c) (zf2 c) (ziy q)
theorem lm2{O O':CmpOp}{a b:Expr}(h:zco b=true):lastMarks [O,O'] [a,b]=false:=zh4 h
theorem zg9{K:PySem.W.Frag}{c1 c2:Cp}{σ:L2.St}{H:Hp}{Q:VK}
 (q:lft K (λρ h=>(fa ρ h).bind λx h=>(fb ρ h).bind λy h=>match cmpW c1 h x y with
   |some true=>(fc ρ h).bind λz h=>.of ((cmpW c2 h y z).map .bl) h
   |some false=>.ok (.bl false) h
   |none=>.no) σ H Q):zk1 (rC K c1) (rC K c2) (lft K fa) (lft K fb) (lft K fc) σ H Q:=by
 refine q.el λρ h m w h' f r e k=>?_
 refine zaa e λx h1 e1 e2=>?_
 refine zaa e2 λy h2 e3 e4=>?_
 refine(.mk f r e1 λv H1 m1 s1 r1 q1=>(.mk (f.stp s1) r1 e3 λu H2 m2 s2 r2 q2=>?_))
 have f2:=(f.stp s1).stp s2
 have k2:Wants K m2 h2.n H2 w h' Q:=λv' H' m' s' r' q'=>k v' H' m' ((s1.trans s2).trans s') r' q'
 cases z:cmpW c1 h2 x y with
 |none=>rw[z]at e4;cases e4
 |some b=>
  rw[z]at e4
  refine zf2 c1 m2 h2 H2 v u x y (.bl b) h2 _ r2 (q1.stp s2) q2 (by show Res.of ((cmpW c1 h2 x y).map W.bl) h2=_;rw[z];rfl) λv3 H3 m3 s3 r3 q3=>?_
  cases q3
  refine⟨b,rfl,?_⟩
  cases b with
  |true=>
   refine zaa e4 λz' h4 e5 e6=>?_
   rw[if_pos rfl]
   refine⟨ρ,h2,m3,z',h4,f2.stp s3,r3,e5,λv4 H4 m4 s4 r4 q4=>?_⟩
   exact zf2 c2 m4 h4 H4 u v4 y z' w h' Q r4 ((q2.stp s3).stp s4) q4 e6 λv' H' m' s' r' q'=>k2 v' H' m' ((s3.trans s4).trans s') r' q'
  |false=>
   cases e4
   simp only[vah,vbe]
   exact k2 _ H3 m3 s3 r3 (.bl false)
theorem zup(hu:X.A.units+65<cLine){O O':CmpOp}{c1 c2:Cp}(e:cpOf O=some c1)(e':cpOf O'=some c2)(hs:zco c=true)(ha:SE X a fa)(hb:SE X b fb)(hc:SE X c fc) :
 SE X (.Compare a [O,O'] [b,c] pos) (λρ h=>(fa ρ h).bind λx h=>(fb ρ h).bind λy h=>match cmpW c1 h x y with
  |some true=>(fc ρ h).bind λz h=>.of ((cmpW c2 h y z).map .bl) h
  |some false=>.ok (.bl false) h
  |none=>.no):=(zn1 (zfb hu e) (zfb hu e') ha hb hc (lm2 hs)).imp λσ H Q q=>zg9 q
theorem zuq(hu:X.A.units+65<cLine){O O':CmpOp}{c1 c2:Cp}(e:cpOf O=some c1)(e':cpOf O'=some c2)(hs:zco c=true)(ha:SE X a fa)(hb:SE X b fb)(hc:SE X c fc) :
 ST X (.Compare a [O,O'] [b,c] pos) (λρ h=>(fa ρ h).bind λx h=>(fb ρ h).bind λy h=>match cmpW c1 h x y with
  |some true=>(fc ρ h).bind λz h=>.of ((cmpW c2 h y z).map .bl) h
  |some false=>.ok (.bl false) h
  |none=>.no):=(zn2 (zfb hu e) (zfb hu e') ha hb hc (lm2 hs)).imp λσ H Q q=>zg9 (ziy q)
noncomputable abbrev gNot(fa:FE):FE:=λρ h=>(fa ρ h).bind λx h=>match x with|.bl b=>.ok (.bl (!b)) h|_=>.no
noncomputable abbrev gAnd(fa fb:FE):FE:=λρ h=>(fa ρ h).bind λx h=>match x with|.bl true=>fb ρ h|.bl false=>.ok (.bl false) h|_=>.no
noncomputable abbrev gOr(fa fb:FE):FE:=λρ h=>(fa ρ h).bind λx h=>match x with|.bl true=>.ok (.bl true) h|.bl false=>fb ρ h|_=>.no
noncomputable abbrev gIte(fa fb fc:FE):FE:=λρ h=>(fa ρ h).bind λx h=>match x with|.bl true=>fb ρ h|.bl false=>fc ρ h|_=>.no
variable{rest:List Expr}
theorem zur(ha:ST X a fa):ST X (.UnaryOp .Not a pos) (gNot fa):=(zkp ha).imp λσ H Q z9=>z9.el λρ h m b h' f r e k=>by
 refine zaa e λx h1 e1 e2=>?_
 cases x<;>try cases e2
 rename_i b
 exact(.mk f r e1 λH' m' s' r'=>k H' m' s' r')
theorem zus(ha:SE X a fa):SE X (.UnaryOp .Not a pos) (gNot fa):=(ztf ha).imp λσ H Q z9=>z9.el λρ h m b h' f r e k=>by
 refine zaa e λx h1 e1 e2=>?_
 cases x<;>try cases e2
 rename_i b
 exact(.mk f r e1 λv H' m' s' r' q=>by cases q;exact⟨b,rfl,k _ H' m' s' r' (.bl _)⟩)
theorem zp1{op:BoolOp}(ha:ST X a fa):SW X (.BoolOp op [a] pos) fa:=by
 cases op
 .exact zqy ha
 .exact zpk ha
theorem zut(ha:ST X a fa)(hb:SW X (.BoolOp .And (b::rest) pos) fb):SW X (.BoolOp .And (a::b::rest) pos) (gAnd fa fb):=(ztc ha hb).imp λσ H Q z9=>z9.el λρ h m b h' f r e k=>by
 refine zaa e λx h1 e1 e2=>?_
 cases x<;>try cases e2
 rename_i c
 refine(.mk f r e1 λH1 m1 s1 r1=>?_)
 cases c with
 |true=>rw[if_pos rfl];exact(.mk (f.stp s1) r1 e2 λH' m' s' r'=>k H' m' (s1.trans s') r')
 |false=>cases e2;simp only[vah,vbe];exact k H1 m1 s1 r1
theorem sw_or(ha:ST X a fa)(hb:SW X (.BoolOp .Or (b::rest) pos) fb):SW X (.BoolOp .Or (a::b::rest) pos) (gOr fa fb):=(pw_or ha hb).imp λσ H Q z9=>z9.el λρ h m b h' f r e k=>by
 refine zaa e λx h1 e1 e2=>?_
 cases x<;>try cases e2
 rename_i c
 refine(.mk f r e1 λH1 m1 s1 r1=>?_)
 cases c with
 |true=>cases e2;rw[if_pos rfl];exact k H1 m1 s1 r1
 |false=>simp only[vah,vbe];exact(.mk (f.stp s1) r1 e2 λH' m' s' r'=>k H' m' (s1.trans s') r')
theorem zp2{op:BoolOp}(ha:SE X a fa):SE X (.BoolOp op [a] pos) fa:=ztd ha
theorem zuu(ha:SE X a fa)(hb:SE X (.BoolOp .And (b::rest) pos) fb):SE X (.BoolOp .And (a::b::rest) pos) (gAnd fa fb):=(zte ha hb).imp λσ H Q z9=>z9.el λρ h m w h' f r e k=>by
 refine zaa e λx h1 e1 e2=>?_
 cases x<;>try cases e2
 rename_i c
 refine(.mk f r e1 λv H1 m1 s1 r1 q1=>?_)
 cases q1
 refine⟨c,rfl,?_⟩
 cases c with
 |true=>rw[if_pos rfl];exact(.mk (f.stp s1) r1 e2 λv H' m' s' r' q'=>k v H' m' (s1.trans s') r' q')
 |false=>cases e2;simp only[vah,vbe];exact k _ H1 m1 s1 r1 (.bl false)
theorem se_or(ha:SE X a fa)(hb:SE X (.BoolOp .Or (b::rest) pos) fb):SE X (.BoolOp .Or (a::b::rest) pos) (gOr fa fb):=(pe_or ha hb).imp λσ H Q z9=>z9.el λρ h m w h' f r e k=>by
 refine zaa e λx h1 e1 e2=>?_
 cases x<;>try cases e2
 rename_i c
 refine(.mk f r e1 λv H1 m1 s1 r1 q1=>?_)
 cases q1
 refine⟨c,rfl,?_⟩
 cases c with
 |true=>cases e2;rw[if_pos rfl];exact k _ H1 m1 s1 r1 (.bl true)
 |false=>simp only[vah,vbe];exact(.mk (f.stp s1) r1 e2 λv H' m' s' r' q'=>k v H' m' (s1.trans s') r' q')
theorem zuv(hc:ST X c fc)(ha:SE X a fa)(hb:SE X b fb):SE X (.IfExp c a b pos) (gIte fc fa fb):=(znu hc ha hb).imp λσ H Q z9=>z9.el λρ h m w h' f r e k=>by
 refine zaa e λx h1 e1 e2=>?_
 cases x<;>try cases e2
 rename_i c
 refine(.mk f r e1 λH1 m1 s1 r1=>?_)
 cases c with
 |true=>rw[if_pos rfl];exact(.mk (f.stp s1) r1 e2 λv H' m' s' r' q'=>k v H' m' (s1.trans s') r' q')
 |false=>simp only[vah,vbe];exact(.mk (f.stp s1) r1 e2 λv H' m' s' r' q'=>k v H' m' (s1.trans s') r' q')
theorem zdn{K:PySem.W.Frag}{m:Nat->Addr}{n:Nat}{H:Hp}{vs:List V}{ws:List W}(q:VReps K m n H vs ws):vs.isEmpty=ws.isEmpty:=by cases q<;>rfl
theorem zro{K:PySem.W.Frag}{m:Nat->Addr}{h:VH}{H:Hp}{v:V}{w:W}{b:Bool}(r:Rel K m h H)(q:VRep K m h.n H v w)(e:truW h w=some b):TruV K v H b:=by
 cases q with
 |non=>cases e;rfl
 |bl x=>cases e;rfl
 |int i=>cases e;rfl
 |str x=>cases e
 |fz _ _=>cases e
 |tup sq rs=>cases e;exact .inr (.inl ⟨_,sq,by rw[zdn rs]⟩)
 | @ref i hi=>
  simp only[truW]at e
  cases g:h.get i with
  |none=>rw[g]at e;cases e
  |some o=>
   rw[g]at e
   cases o with
   |dk _=>cases e
   |lst ws=>
    cases e
    obtain⟨vs,h1,h2⟩:=r.lst g
    exact .inl ⟨vs,SqL.of h1,by rw[zdn h2]⟩
theorem zlw(ha:SE X a fa)(he:∀whole,isTrue a X.env whole=(do let v <-whole;standAt a.pos;holding [v] (truthy v))) :
 ST X a (λρ h=>(fa ρ h).bind λx h=>.of ((truW h x).map .bl) h):=(zn3 ha he).imp λσ H Q z9=>z9.el λρ h m b h' f r e k=>by
 refine zaa e λx h1 e1 e2=>?_
 obtain⟨e2,rfl⟩:=of_ok e2
 cases z:truW h' x with
 |none=>rw[z]at e2;cases e2
 |some c=>
  rw[z]at e2;cases e2
  exact(.mk f r e1 λv H' m' s' r' q=>⟨b,zro r' q z,k H' m' s' r'⟩)
theorem zuw(ha:SE X a fa):SE X (.UnaryOp .USub a pos) (λρ h=>(fa ρ h).bind λx h=>match x with|.int i=>.ok (.int (-i)) h|_=>.no):=
 (pe_un zty ha).imp λσ H Q q=>zpw (g:=λx h=>match x with|.int i=>.ok (.int (-i)) h|_=>.no) (G:=rU λi=>.int (-i)) (λm h H v x w h' Q r q e k=>by
   cases q<;>try cases e
   rename_i i
   exact⟨i,rfl,Wants.here k r (.int _)⟩) q
end
section
variable{K:PySem.W.Frag}{m m0:Nat->Addr}{n n0:Nat}{h:VH}{H H0:Hp}
theorem Rel.adopt(r:Rel K m h H){p:Addr}{o:VO}{u u0:HO}(hp:∀i,i<h.n->m i≠p)(hu:H p=some u0)(ht:∀t,u0≠.tup t)(hf:∀o t,u0≠.frz o t)(s:Stp m0 n0 H0 m h.n H)(h0:H0 p=none)
 (ho:Stp m h.n H (λi=>if i=h.n then p else m i) (h.n+1) (upd H p u)\/True->(∀{v:V}{w:W},VRep K m h.n H v w->VRep K (λi=>if i=h.n then p else m i) (h.n+1) (upd H p u) v w)->ORep K (λi=>if i=h.n then p else m i) (h.n+1) (upd H p u) p o) :
 Stp m0 n0 H0 (λi=>if i=h.n then p else m i) (h.n+1) (upd H p u)/\Rel K (λi=>if i=h.n then p else m i) (h.new o) (upd H p u):=by
 have kt:∀b vs,H b=some (.tup vs)->upd H p u b=some (.tup vs):=λb vs q=>by rw[zaf (ne_of q hu λz=>ht vs z.symm)];exact q
 have kf:∀b o t,H b=some (.frz o t)->upd H p u b=some (.frz o t):=λb o t q=>by rw[zaf (ne_of q hu λz=>hf o t z.symm)];exact q
 have mv:∀{v:V}{w:W},VRep K m h.n H v w->VRep K (λi=>if i=h.n then p else m i) (h.n+1) (upd H p u) v w:=by
  intro v w q
  have st:Stp m h.n (λb=>if b=p then none else H b) (λi=>if i=h.n then p else m i) (h.n+1) (upd H p u):=by
   refine⟨vdv _,λi hi=>by simp only[if_neg (vau hi)],λi hi hi2=>?_,λi j hi hi2 hj=>?_,λb vs q=>?_,λb o t q=>?_,λb o _ q=>?_⟩
   .have:i=h.n:=by omega
    subst this;simp only[vbd]
   .have:i=h.n:=by omega
    subst this;simp only[vbd,if_neg (vau hj)];exact(hp j hj).symm
   .split at q
    .cases q
    .exact kt b vs q
   .split at q
    .cases q
    .exact kf b o t q
   .split at q
    .cases q
    .rename_i z;rw[zaf z];exact q
  refine VRep.stp st ?_
  have back:∀{a vs},SqT K H a vs->SqT K (λb=>if b=p then none else H b) a vs:=by
   intro a vs q
   rcases q with(q|⟨o,q⟩)|q
   .exact .inl (.inl (by simp only[if_neg (ne_of q hu λz=>ht vs z.symm)];exact q))
   .exact .inl (.inr ⟨o,by simp only[if_neg (ne_of q hu λz=>hf o _ z.symm)];exact q⟩)
   .exact .inr q
  have backf:∀{a vs},Fz K H a vs->Fz K (λb=>if b=p then none else H b) a vs:=by
   intro a vs q
   rcases q with⟨o,q⟩|q
   .exact .inl ⟨o,by simp only[if_neg (ne_of q hu λz=>hf o _ z.symm)];exact q⟩
   .exact .inr q
  exact(VRep.rec (K:=K) (m:=m) (n:=h.n) (H:=H) (motive_1:=λv w _=>VRep K m h.n (λb=>if b=p then none else H b) v w) (motive_2:=λvs ws _=>VReps K m h.n (λb=>if b=p then none else H b) vs ws)
   .non .bl .int .str (λsq _ ih=>.tup (back sq) ih) (λsq _ ih=>.fz (backf sq) ih) (λhi=>.ref hi) .nil (λ_ _ i1 i2=>.cons i1 i2) q)
 refine⟨⟨vde s.le,λi hi=>?_,λi hi hi2=>?_,λi j hi hi2 hj=>?_,λb vs q=>kt b vs (s.tup b vs q),λb o t q=>kf b o t (s.frz b o t q),λb o nb q=>?_⟩,⟨λi hi=>?_,λi j hi hj z=>?_,?_⟩⟩
 .have:=s.le
  simp only[if_neg (show i≠h.n by omega)];exact s.same i hi
 .by_cases e:i=h.n
  .subst e;simp only[vbd];exact h0
  .simp only[if_neg e];exact s.new i hi (by omega)
 .have:=s.le
  simp only[if_neg (show j≠h.n by omega)]
  by_cases e:i=h.n
  .subst e;simp only[vbd];exact(hp j (by omega)).symm
  .simp only[if_neg e];exact s.apart i j hi (by omega) hj
 .rw[zaf (zaj q h0)];exact s.keep b o nb q
 .have hi:i<h.n+1:=hi
  by_cases e:i=h.n
  .subst e;exact⟨o,zai,by simp only[vbd];exact ho (.inr trivial) mv⟩
  .have hl:i<h.n:=by omega
   obtain⟨o',h1,h2⟩:=r.obj i hl
   refine⟨o',(zad hl).trans h1,?_⟩
   simp only[if_neg e]
   have eq:upd H p u (m i)=H (m i):=zaf (hp i hl)
   cases o' with
   |lst ws=>
    obtain⟨vs,q1,q2⟩:=h2
    exact⟨vs,eq.trans q1,VReps.rec (K:=K) (m:=m) (n:=h.n) (H:=H) (motive_1:=λv w _=>VRep K m h.n H v w) (motive_2:=λvs ws _=>VReps K (λi=>if i=h.n then p else m i) (h.n+1) (upd H p u) vs ws)
     .non .bl .int .str (λsq q _=>.tup sq q) (λsq q _=>.fz sq q) (λhi=>.ref hi) .nil (λq _ _ i2=>.cons (mv q) i2) q2⟩
   |dk ws=>
    obtain⟨vs,q1,q2⟩:=h2
    have go:∀{vs:List (Key×V)}{ws:List (Key×W)},KReps K m h.n H vs ws->KReps K (λi=>if i=h.n then p else m i) (h.n+1) (upd H p u) vs ws:=by
     intro vs ws q2
     induction q2 with
     |nil=>exact .nil
     |cons q _ ih=>exact .cons (mv q) ih
    exact⟨vs,q1.imp (λz=>eq.trans z) λ⟨o,z⟩=>⟨o,eq.trans z⟩,go q2⟩
 .have hi:i<h.n+1:=hi
  have hj:j<h.n+1:=hj
  by_cases e:i=h.n
  .by_cases e2:j=h.n
   .omega
   .simp only[if_pos e,if_neg e2]at z
    exact absurd z.symm (hp j (by omega))
  .by_cases e2:j=h.n
   .simp only[if_neg e,if_pos e2]at z
    exact absurd z (hp i (by omega))
   .simp only[if_neg e,if_neg e2]at z
    exact r.inj i j (by omega) (by omega) z
 .show(o::h.os).length=h.n+1
  rw[vam,r.len]
theorem VReps.map{m':Nat->Addr}{n':Nat}{H':Hp}(mv:∀{v:V} {w:W},VRep K m n H v w->VRep K m' n' H' v w):∀{vs:List V} {ws:List W},VReps K m n H vs ws->VReps K m' n' H' vs ws
 |_,_,.nil=>.nil
 |_,_,.cons q r=>.cons (mv q) (VReps.map mv r)
theorem KReps.map{m':Nat->Addr}{n':Nat}{H':Hp}(mv:∀{v:V} {w:W},VRep K m n H v w->VRep K m' n' H' v w):∀{vs:List (Key×V)} {ws:List (Key×W)},KReps K m n H vs ws->KReps K m' n' H' vs ws
 |_,_,.nil=>.nil
 |_,_,.cons q r=>.cons (mv q) (KReps.map mv r)
theorem KReps.look(k:Key):∀{vs:List (Key×V)} {ws:List (Key×W)},KReps K m n H vs ws->(valV vs k=none/\lookK ws k=none)\/∃v w,valV vs k=some v/\lookK ws k=some w/\VRep K m n H v w
 |_,_,.nil=>.inl ⟨rfl,rfl⟩
 |_,_,.cons (k:=k') (v:=v) (w:=w) q r=>by
  by_cases e:k'=k
  .refine .inr ⟨v,w,zfy (p:=(k',v)) e,?_,q⟩
   unfold lookK;rw[vci];simp[e]
  .rcases KReps.look k r with⟨a,b⟩|⟨v',w',a,b,c⟩
   .refine .inl ⟨(zdq (p:=(k',v)) e).trans a,?_⟩
    unfold lookK at b ⊢;rw[vci];simp only[vbp e];exact b
   .refine .inr ⟨v',w',(zdq (p:=(k',v)) e).trans a,?_,c⟩
    unfold lookK at b ⊢;rw[vci];simp only[vbp e];exact b
theorem KReps.any(k:Key):∀{vs:List (Key×V)} {ws:List (Key×W)},KReps K m n H vs ws->(vs.any λkv=>decide (kv.1=k))=(ws.any λkv=>decide (kv.1=k))
 |_,_,.nil=>rfl
 |_,_,.cons q r=>by rw[vee,vee,KReps.any k r]
theorem KReps.repl{v:V}{w:W}(q:VRep K m n H v w)(k:Key):∀{vs:List (Key×V)} {ws:List (Key×W)},KReps K m n H vs ws->KReps K m n H (vs.map λkv=>if kv.1=k then(kv.1,v)else kv) (ws.map λkv=>if kv.1=k then(kv.1,w)else kv)
 |_,_,.nil=>.nil
 |_,_,.cons (k:=k') p r=>by
  rw[va1,va1]
  by_cases e:k'=k
  .simp only[if_pos e];exact .cons q (KReps.repl q k r)
  .simp only[if_neg e];exact .cons p (KReps.repl q k r)
theorem KReps.snoc{v:V}{w:W}(q:VRep K m n H v w)(k:Key):∀{vs:List (Key×V)} {ws:List (Key×W)},KReps K m n H vs ws->KReps K m n H (vs++[(k,v)]) (ws++[(k,w)])
 |_,_,.nil=>.cons q .nil
 |_,_,.cons p r=>.cons p (KReps.snoc q k r)
theorem KReps.put{v:V}{w:W}(q:VRep K m n H v w)(k:Key){vs:List (Key×V)}{ws:List (Key×W)}(r:KReps K m n H vs ws):KReps K m n H (putK vs k v) (putKW ws k w):=by
 unfold putK putKW
 rw[r.any k]
 split
 .exact r.repl q k
 .exact r.snoc q k
theorem KReps.merge{vs:List (Key×V)}{ws:List (Key×W)}(q:KReps K m n H vs ws):∀{va:List (Key×V)} {wa:List (Key×W)},KReps K m n H va wa->KReps K m n H (zdl va vs) (zfa wa ws):=by
 induction q with
 |nil=>exact λa=>a
 |cons q r ih=>exact λa=>ih (a.put q _)
theorem KReps.length:∀{vs:List (Key×V)} {ws:List (Key×W)},KReps K m n H vs ws->vs.length=ws.length
 |_,_,.nil=>rfl
 |_,_,.cons _ r=>by rw[vam,vam,KReps.length r]
theorem zrp{v:V}{w:W}{k:Key}(q:VRep K m n H v w)(e:keyW w=some k):v=kV k:=by
 cases q<;>cases e<;>rfl
theorem zf3{vs:List V}{ws:List W}{i:Int}{w:W}(q:VReps K m n H vs ws)(e:atI ws i=some w):∃v,atI vs i=some v/\VRep K m n H v w:=by
 unfold atI at e ⊢
 rw[q.length]
 cases z:ixN ws.length i with
 |none=>rw[z]at e;cases e
 |some j=>
  rw[z]at e
  exact q.get e
end
noncomputable def rIdx(K:PySem.W.Frag):R2:=λx y H Q=>rIxL K x y H Q\/rIxT K x y H Q\/∃a v,x=.ref a/\DGet H a y (some v)/\Q v H
section
variable{X:Cx}{a b c e o:Expr}{es:List Expr}{fa fb fc fo:FE}{pos:Pos}
theorem zrq(hu:X.A.units+1<cLine):IxR X (λx y H Q=>∃a v,x=.ref a/\DGet H a y (some v)/\Q v H):=by
 intro value slice pins s σ H x y v u Q I rx ry q hs
 obtain⟨a,v',rfl,g,q⟩:=q
 obtain rfl:v=Value.ref a:=rx
 exact tail_any (zh1 I g) PySem.F.slot_dict_getitem.lookup (zll hu I g ry λw' s3 I3 rw'=>⟨v',H,I3,rw',q⟩) hs
theorem ix_ok(hu:X.A.units+2<cLine):IxR X (rIdx X.K):=zla.or (zt4.or (zrq (by omega)))
theorem zrr{K:PySem.W.Frag}:OpV K (rIdx K) (λx y h=>.of (idxW h x y) h):=by
 intro m h H v u x y w h' Q r qv qu e0 k
 obtain⟨e,e1⟩:=of_ok e0
 clear e0
 subst e1
 unfold idxW at e
 split at e
 .cases qv with
  |tup sq rs=>
   cases qu
   obtain⟨v',h1,h2⟩:=zf3 rs e
   exact .inr (.inl ⟨_,_,_,v',rfl,rfl,sq,h1,Wants.here k r h2⟩)
 .cases qv with
  |fz sq rs=>
   cases qu
   obtain⟨v',h1,h2⟩:=zf3 rs e
   exact .inl ⟨_,_,_,v',rfl,rfl,sq.sq,h1,Wants.here k r h2⟩
 .rename_i i j
  cases qv;cases qu
  cases g:h'.get i with
  |none=>rw[g]at e;cases e
  |some ob=>
   rw[g]at e
   cases ob with
   |lst ws=>
    obtain⟨vs,p1,p2⟩:=r.lst g
    obtain⟨v',h1,h2⟩:=zf3 p2 e
    exact .inl ⟨_,_,_,v',rfl,rfl,SqL.of p1,h1,Wants.here k r h2⟩
   |dk ws=>
    have e:lookK ws (.inl j)=some w:=e
    obtain⟨vs,p1,p2⟩:=r.dk g
    rcases p2.look (.inl j)with⟨_,z⟩|⟨v',w',z1,z2,z3⟩
    .rw[z]at e;cases e
    .rw[z2]at e;cases e
     exact .inr (.inr ⟨_,v',rfl,by rw[<-z1];exact .inl ⟨vs,.inl j,p1,rfl,rfl⟩,Wants.here k r z3⟩)
 .rename_i i j
  cases qv;cases qu
  cases g:h'.get i with
  |none=>rw[g]at e;cases e
  |some ob=>
   rw[g]at e
   cases ob with
   |lst ws=>cases e
   |dk ws=>
    have e:lookK ws (.inr j)=some w:=e
    obtain⟨vs,p1,p2⟩:=r.dk g
    rcases p2.look (.inr j)with⟨_,z⟩|⟨v',w',z1,z2,z3⟩
    .rw[z]at e;cases e
    .rw[z2]at e;cases e
     exact .inr (.inr ⟨_,v',rfl,by rw[<-z1];exact .inl ⟨vs,.inr j,p1,rfl,rfl⟩,Wants.here k r z3⟩)
 .cases e
theorem zux(hu:X.A.units+2<cLine)(ha:SE X a fa)(hb:SE X b fb)(hs:zfv b):SE X (.Subscript a b pos) (λρ h=>(fa ρ h).bind λx h=>(fb ρ h).bind λy h=>.of (idxW h x y) h):=
 (pe_ix (ix_ok hu) ha hb hs).imp λσ H Q q=>zf1 (G:=rIdx X.K) zrr q
noncomputable def lftO(K:PySem.W.Frag)(b:Bool)(f:FE):TO:=λσ H Q=>∃ρ h m w o h',Fr K m h.n H σ ρ/\Rel K m h H/\f ρ h=.ok w h'/\partW b w=some o/\∀H' m',Stp m h.n H m' h'.n H'->Rel K m' h' H'->Q o H'
theorem lftO.el{K:PySem.W.Frag}{σ:L2.St}{H:Hp}{P:Prop}{b:Bool}{fa:FE}{Q:Option Int->Hp->Prop}(q:lftO K b fa σ H Q)(k:∀ρ h m w o h',Fr K m h.n H σ ρ->Rel K m h H->fa ρ h=.ok w h'->partW b w=some o->(∀H' m',Stp m h.n H m' h'.n H'->Rel K m' h' H'->Q o H')->P):P:=by
 obtain⟨ρ,h,m,w,o,h',f,r,e,ep,k'⟩:=q
 exact k ρ h m w o h' f r e ep k'
theorem lftO.mk{K:PySem.W.Frag}{σ:L2.St}{H:Hp}{m:Nat->Addr}{ρ:En}{h h':VH}{w:W}{o:Option Int}{b:Bool}{fa:FE}{Q:Option Int->Hp->Prop}(f:Fr K m h.n H σ ρ)(r:Rel K m h H)(e:fa ρ h=.ok w h')(ep:partW b w=some o)(k:∀H' m',Stp m h.n H m' h'.n H'->Rel K m' h' H'->Q o H'):lftO K b fa σ H Q:=⟨ρ,h,m,w,o,h',f,r,e,ep,k⟩
theorem zrs{w:W}:PO X none (lftO X.K false (λ_ h=>.ok w h)):=λpins s σ H Q I z9=>z9.el λρ h m w o h' f r e ep k=>by
 cases e
 have:o=none:=by
  unfold partW at ep
  cases ep;rfl
 subst this
 exact zq7 pins s σ H Q I (k H m .refl r)
theorem zrt(ha:SE X e fa):PO X (some e) (lftO X.K true fa):=λpins s σ H Q I z9=>z9.el λρ h m w o h' f r e ep k=>by
 refine zq8 ha pins s σ H Q I (.mk f r e λv H' m' s' r' q=>?_)
 cases q<;>cases ep
 exact⟨_,rfl,k H' m' s' r'⟩
theorem ziz{K:PySem.W.Frag}{m:Nat->Addr}{n:Nat}{H:Hp}{vs:List V}{ws:List W}(q:VReps K m n H vs ws)(lo hi:Option Int):VReps K m n H (cutV vs lo hi) (cutW ws lo hi):=by
 unfold cutV cutW
 rw[q.length]
 exact(q.drop _).take _
theorem zj8{ws:List W}{lo hi:Option Int}(h:HT.sIx ws.length 0 lo=0/\HT.sIx ws.length ws.length hi=ws.length):cutW ws lo hi=ws:=by
 unfold cutW
 rw[h.1,h.2]
 simp
theorem zuy{lo hi:Option Expr}{fl fh:FE}{p2:Pos}{bl bh:Bool}(ha:SE X a fa)(hl:PO X lo (lftO X.K bl fl))(hh:PO X hi (lftO X.K bh fh)) :
 SE X (.Subscript a (.Slice lo hi none p2) pos) (λρ h=>(fa ρ h).bind λx h=>(fl ρ h).bind λl h=>(fh ρ h).bind λu h=>match partW bl l,partW bh u with
 |some l,some u=>slcW x l u h
 |_,_=>.no):=
 (zn7 zud ha hl hh).imp λσ H Q z9=>z9.el λρ h m w h' f r e k=>by
   refine zaa e λx h1 e1 e2=>?_
   refine zaa e2 λl h2 e3 e4=>?_
   refine zaa e4 λu h3 e5 e6=>?_
   split at e6
   .rename_i l' u' pl pu
    refine(.mk f r e1 λv H1 m1 s1 r1 q1=>(.mk (f.stp s1) r1 e3 pl λH2 m2 s2 r2=>(.mk ((f.stp s1).stp s2) r2 e5 pu λH3 m3 s3 r3=>?_)))
    have q3:=(q1.stp s2).stp s3
    have kk:Wants X.K m3 h3.n H3 w h' Q:=λv' H' m' s' r' q'=>k v' H' m' (((s1.trans s2).trans s3).trans s') r' q'
    unfold slcW at e6
    split at e6
    .rename_i ws
     cases e6
     cases q3 with
     | @tup a vs _ sq rs=>
      by_cases hw:HT.sIx vs.length 0 l'=0/\HT.sIx vs.length vs.length u'=vs.length
      .refine .inl (.inr ⟨_,_,rfl,sq,hw,?_⟩)
       have hw':=hw
       rw[rs.length]at hw'
       rw[zj8 hw']at kk
       exact Wants.here kk r3 (.tup sq rs)
      .exact .inl (.inl ⟨_,_,rfl,sq,hw,λp hp=>Wants.tuple kk r3 (ziz rs l' u') hp⟩)
    .rename_i i
     cases q3
     cases g:h3.get i with
     |none=>rw[g]at e6;cases e6
     |some ob=>
      rw[g]at e6
      cases ob with
      |lst ws=>
       cases e6
       obtain⟨vs,p1,p2⟩:=r3.lst g
       exact .inr ⟨_,_,rfl,SqL.of p1,λp hp=>Wants.list kk r3 (ziz p2 l' u') hp⟩
      |dk ws=>cases e6
    .cases e6
   .cases e6
end
noncomputable def zat:Expr->Bool
 |.Starred ..=>false
 |_=>true
theorem zae{e:Expr}{es:List Expr}{env:Env}(h:zat e=true):starEach (e::es) env=(false,eval e env)::starEach es env:=by
 cases e<;>first|rfl|cases h
theorem za7{pos:Pos}{env:Env}:∀{es:List Expr},es.all zat=true->(backTo pos (starEach es env)).any (·.1)=false
 |[],_=>rfl
 |e::es,h=>by
  rw[vbn,vaa]at h
  rw[zae h.1]
  show(false|| (backTo pos (starEach es env)).any (·.1))=false
  rw[za7 h.2];rfl
noncomputable abbrev aNil:FE:=λ_ h=>.ok (.tup []) h
noncomputable abbrev aCons(fa fb:FE):FE:=λρ h=>(fa ρ h).bind λx h=>(fb ρ h).bind λy h=>match y with|.tup ys=>.ok (.tup (x::ys)) h|_=>.no
section
variable{X:Cx}{a b c e o:Expr}{es:List Expr}{fa fb fc fo:FE}{pos p:Pos}{x:Str}
noncomputable abbrev gArg(fa:FE)(g:List W->VH->Res W):FE:=λρ h=>(fa ρ h).bind λy h=>match y with|.tup ys=>g ys h|_=>.no
noncomputable def CallV(K:PySem.W.Frag)(r:List V->Hp->VK->Prop)(g:List W->VH->Res W):Prop:=∀(m:Nat->Addr) (h:VH) (H:Hp) (vs:List V) (xs:List W) (w:W) (h':VH) (Q:VK),Rel K m h H->VReps K m h.n H vs xs->g xs h=.ok w h'->Wants K m h.n H w h' Q->r vs H Q
theorem zdt{id:String}{r:List V->Hp->VK->Prop}{g:List W->VH->Res W}(hc:CallR X (.builtin id) r)(hv:CallV X.K r g)(hg:Gl X x)(hm:X.mg x=none)(hb:bootBuiltins x=some (.builtin id))(ha:SA X (e::es) fa)(hs:(e::es).all zat=true)
 (hn:x≠"__name__") (hdb:(x==("__debug__" : Str))=false):SE X (.Call (.Name x p) (e::es) [] pos) (gArg fa g):=by
 rw[vbn,vaa]at hs
 exact(zft hc hg hm hb ha hn hdb (zae hs.1) (za7 hs.2)).imp λσ H Q q=>zc9 hv q
theorem zep{T:String}{r:List V->Hp->VK->Prop}{g:List W->VH->Res W}(hc:CallR X (.type T) r)(hv:CallV X.K r g)(hg:Gl X x)(hm:X.mg x=none)(hb:bootBuiltins x=some (.type T))(ha:SA X (e::es) fa)(hs:(e::es).all zat=true)
 (hn:x≠"__name__") (hdb:(x==("__debug__" : Str))=false):SE X (.Call (.Name x p) (e::es) [] pos) (gArg fa g):=by
 rw[vbn,vaa]at hs
 exact(zk6 hc hg hm hb ha hn hdb (zae hs.1) (za7 hs.2)).imp λσ H Q q=>zc9 hv q
theorem reps1{K:PySem.W.Frag}{m:Nat->Addr}{n:Nat}{H:Hp}{vs:List V}{w:W}(q:VReps K m n H vs [w]):∃v,vs=[v]/\VRep K m n H v w:=by
 cases q with|cons q r=>cases r;exact⟨_,rfl,q⟩
theorem zuz{K:PySem.W.Frag}:CallV K (λxs H Q=>∃p ys,xs=[.ref p]/\(SqL K H p ys\/SqT K H p ys)/\Q (.int ys.length) H) lenW:=by
 intro m h H vs xs w h' Q r q e k
 unfold lenW at e
 split at e<;>try cases e
 rename_i x
 obtain⟨v,rfl,q1⟩:=reps1 q
 obtain⟨e,rfl⟩:=of_ok e
 cases z:seqW h' x with
 |none=>rw[z]at e;cases e
 |some ws=>
  rw[z]at e;cases e
  obtain⟨p,us,rfl,h1,h2⟩:=zda r q1 z
  exact⟨p,us,rfl,h1,by rw[h2.length];exact Wants.here k r (.int _)⟩
theorem zru{K:PySem.W.Frag}:CallV K (λxs H Q=>∃p ys,xs=[.ref p]/\(SqL K H p ys\/SqT K H p ys)/\∀l,H l=none->Q (.ref l) (upd H l (.lst ys))) listW:=by
 intro m h H vs xs w h' Q r q e k
 unfold listW at e
 split at e<;>try cases e
 rename_i x
 obtain⟨v,rfl,q1⟩:=reps1 q
 cases z:seqW h x with
 |none=>rw[z]at e;cases e
 |some ws=>
  rw[z]at e;cases e
  obtain⟨p,us,rfl,h1,h2⟩:=zda r q1 z
  exact⟨p,us,rfl,h1,λl hl=>Wants.list k r h2 hl⟩
theorem zon{K:PySem.W.Frag}:CallV K (λxs H Q=>∃p ys,xs=[.ref p]/\((SqL K H p ys/\∀l,H l=none->Q (.ref l) (upd H l (.tup ys)))\/(SqT K H p ys/\Q (.ref p) H))) ze9:=by
 intro m h H vs xs w h' Q r q e k
 unfold ze9 at e
 split at e<;>try cases e
 rename_i x
 obtain⟨v,rfl,q1⟩:=reps1 q
 obtain⟨e,rfl⟩:=of_ok e
 cases z:seqW h' x with
 |none=>rw[z]at e;cases e
 |some ws=>
  rw[z]at e;cases e
  obtain⟨p,us,rfl,h1,h2⟩:=zda r q1 z
  rcases h1 with h1|h1
  .exact⟨p,us,rfl,.inl ⟨h1,λl hl=>Wants.tuple k r h2 hl⟩⟩
  .exact⟨p,us,rfl,.inr ⟨h1,Wants.here k r (.tup h1 h2)⟩⟩
theorem zu0{K:PySem.W.Frag}:CallV K (λxs H Q=>(∃i,xs=[.int i]/\Q (.int i) H)\/∃k,xs=[.bl k]/\Q (.int (if k then 1 else 0)) H) intW:=by
 intro m h H vs xs w h' Q r q e k
 unfold intW at e
 split at e<;>try cases e
 .obtain⟨v,rfl,q1⟩:=reps1 q
  cases q1
  exact .inl ⟨_,rfl,Wants.here k r (.int _)⟩
 .obtain⟨v,rfl,q1⟩:=reps1 q
  cases q1
  exact .inr ⟨_,rfl,Wants.here k r (.int _)⟩
theorem zu1{K:PySem.W.Frag}:CallV K (λxs H Q=>∃i,xs=[.int i]/\Q (.int (if i<0 then -i else i)) H) absW:=by
 intro m h H vs xs w h' Q r q e k
 unfold absW at e
 split at e<;>try cases e
 obtain⟨v,rfl,q1⟩:=reps1 q
 cases q1
 exact⟨_,rfl,Wants.here k r (.int _)⟩
theorem reps2{K:PySem.W.Frag}{m:Nat->Addr}{n:Nat}{H:Hp}{vs:List V}{w z:W}(q:VReps K m n H vs [w,z]):∃v u,vs=[v,u]/\VRep K m n H v w/\VRep K m n H u z:=by
 cases q with|cons q r=>obtain⟨u,rfl,h⟩:=reps1 r;exact⟨_,_,rfl,q,h⟩
theorem zu2{K:PySem.W.Frag}:CallV K (λxs H Q=>∃i j,xs=[.int i,.int j]/\Q (.int (if j<i then j else i)) H) minW:=by
 intro m h H vs xs w h' Q r q e k
 unfold minW at e
 split at e<;>try cases e
 obtain⟨v,u,rfl,q1,q2⟩:=reps2 q
 cases q1;cases q2
 exact⟨_,_,rfl,Wants.here k r (.int _)⟩
theorem zi0{K:PySem.W.Frag}{m:Nat->Addr}{n:Nat}{H:Hp}:∀{vs:List V} {ws:List W} {bs:List Bool},VReps K m n H vs ws->mapO blW ws=some bs->vs=bs.map .bl
 |_,_,bs,.nil,e=>by cases e;rfl
 |_,_,bs,.cons (w:=w) (ws:=ws) q r,e=>by
  unfold mapO at e
  cases z:blW w with
  |none=>rw[z]at e;cases e
  |some b=>
   rw[z]at e
   cases z2:mapO blW ws with
   |none=>rw[z2]at e;cases e
   |some cs=>
    rw[z2]at e;cases e
    unfold blW at z
    split at z<;>cases z
    cases q
    rw[zi0 r z2];rfl
theorem zu3{K:PySem.W.Frag}:CallV K (λxs H Q=>∃(p:Addr) (bs:List Bool),xs=[.ref p]/\SqL K H p (bs.map .bl)/\Q (.bl (bs.all id)) H) allW:=by
 intro m h H vs xs w h' Q r q e k
 unfold allW at e
 split at e<;>try cases e
 rename_i i
 split at e<;>try cases e
 rename_i ws g
 obtain⟨v,rfl,q1⟩:=reps1 q
 obtain⟨e,rfl⟩:=of_ok e
 cases z:mapO blW ws with
 |none=>rw[z]at e;cases e
 |some bs=>
  rw[z]at e;cases e
  cases q1
  obtain⟨us,p1,p2⟩:=r.lst g
  refine⟨_,bs,rfl,?_,Wants.here k r (.bl _)⟩
  rw[<-zi0 p2 z]
  exact .inl (.inl p1)
noncomputable def tyN:Ty->String
 |.int=>"int" |.bool=>"bool" |.tuple=>"tuple" |.list=>"list" |.str=>"str" |.dict=>"dict"
noncomputable def rIsi(K:PySem.W.Frag)(n:String):List V->Hp->VK->Prop:=λxs H Q=>∃x b,xs=[x,.ty n]/\((∃t,TyOf K H x t/\PySem.W.kitOne K t (.type n)=some b)\/(∃a vs,x=.ref a/\SqT K H a vs/\PySem.W.kitOne K (.type "tuple") (.type n)=some b)\/∃a,x=.ref a/\(∃kvs,Rd H a (.dK kvs))/\PySem.W.kitOne K (.type "dict") (.type n)=some b)/\Q (.bl b) H
theorem zoo(n:String):CallR X (.builtin "isinstance") (rIsi X.K n):=by
 intro pins s σ H xs us Q I r h
 obtain⟨x,b,rfl,hi,q⟩:=h
 obtain⟨u,u2,rfl,rx,rc⟩:=vals2 r
 obtain rfl:u2=Value.type n:=rc
 rcases hi with⟨t,ty,e⟩|⟨a,vs,rfl,sq,e⟩|⟨a,rfl,rd,e⟩
 .exact zk4 I rx ty e λtk=>⟨.bl b,H,I.tok _,rfl,q⟩
 .obtain rfl:u=Value.ref a:=rx
  obtain⟨its,_,p,_⟩:=I.tuple sq
  obtain⟨o,h1,h2,_⟩:=p
  exact vbk PySem.W.kitx_tuple I.kIn ⟨o,h1,h2⟩ e (λz=>nomatch z) λtk=>⟨.bl b,H,I.tok _,rfl,q⟩
 .obtain rfl:u=Value.ref a:=rx
  obtain⟨o,h1,h2⟩:∃o,s.heap.get? a=some o/\o.ExactDict:=by
   obtain⟨kvs,rd⟩:=rd
   obtain⟨_,_,_,_,o,_,_,h1,h2,_⟩:=dk_rd I.hok rd
   exact⟨o,h1,h2⟩
  exact vbk PySem.W.kitx_dict I.kIn ⟨o,h1,h2.1⟩ e (λz=>nomatch z) λtk=>⟨.bl b,H,I.tok _,rfl,q⟩
theorem zu4{K:PySem.W.Frag}(t:Ty){m:Nat->Addr}{h:VH}{H:Hp}{v:V}{x:W}{b:Bool}(r:Rel K m h H)(q:VRep K m h.n H v x)(e:tyIs t h x=some b) :
 (∃t',TyOf K H v t'/\PySem.W.kitOne K t' (.type (tyN t))=some b)\/(∃a vs,v=.ref a/\SqT K H a vs/\PySem.W.kitOne K (.type "tuple") (.type (tyN t))=some b)\/∃a,v=.ref a/\(∃kvs,Rd H a (.dK kvs))/\PySem.W.kitOne K (.type "dict") (.type (tyN t))=some b:=by
 cases q with
 |non=>cases e;refine .inl ⟨_,.non,?_⟩;cases t<;>rfl
 |bl x=>cases e;refine .inl ⟨_,.bl x,?_⟩;cases t<;>rfl
 |int x=>cases e;refine .inl ⟨_,.int x,?_⟩;cases t<;>rfl
 |str x=>cases e;refine .inl ⟨_,.str x,?_⟩;cases t<;>rfl
 |tup sq rs=>cases e;refine .inr (.inl ⟨_,_,rfl,sq,?_⟩);cases t<;>rfl
 |fz _ _=>cases e
 | @ref i hi=>
  simp only[tyIs]at e
  cases g:h.get i with
  |none=>rw[g]at e;cases e
  |some o=>
   rw[g]at e
   cases o with
   |lst ws=>
    cases e
    obtain⟨vs,h1,h2⟩:=r.lst g
    refine .inl ⟨_,.lst h1,?_⟩;cases t<;>rfl
   |dk ws=>
    cases e
    obtain⟨vs,h1,h2⟩:=r.dk g
    refine .inr (.inr ⟨_,rfl,⟨_,h1⟩,?_⟩);cases t<;>rfl
theorem zu5(t:Ty){T:Str}{p2:Pos}(ha:SE X e fa)(hs:zat e=true)(hg:Gl X "isinstance")(hm:X.mg "isinstance" = none)(hgT:Gl X T)(hmT:X.mg T=none)(hbT:bootBuiltins T=some (.type (tyN t)))(hn:T≠"__name__")(hd:(T==("__debug__" : Str))=false) :
 SE X (.Call (.Name "isinstance" p) [e,.Name T p2] [] pos) (λρ h=>(fa ρ h).bind λx h=>.of ((tyIs t h x).map .bl) h):=by
 have hT:PE X (.Name T p2) (tC (.ty (tyN t))):=zko hgT hmT hbT rfl hn hd
 refine(zft (zoo (tyN t)) hg hm PyProof.Rows.boot_isinstance (zbg ha (zbg hT zcn) (zae hs)) (by decide) (by decide) (zae hs) rfl).imp λσ H Q q=>?_
 refine zpw (g:=λx h=>.of ((tyIs t h x).map .bl) h) (G:=λv H1 Q=>rIsi X.K (tyN t) [v,.ty (tyN t)] H1 Q) (λm h H v x w h' Q r q e k=>?_) q
 obtain⟨e,rfl⟩:=of_ok e
 cases z:tyIs t h' x with
 |none=>rw[z]at e;cases e
 |some b=>
  rw[z]at e;cases e
  exact⟨v,b,rfl,zu4 t r q z,Wants.here k r (.bl b)⟩
noncomputable def zf4:Expr->Bool
 |.Name .. |.Subscript ..=>true
 |_=>false
theorem zlx{o:Expr}{m:Str}{env:Env}(h:zf4 o=true):attributeBase o m env (eval o env)=eval o env:=by
 cases o<;>first|rfl|cases h
noncomputable abbrev gMt(m:Mt)(fo fa:FE):FE:=λρ h=>(fo ρ h).bind λx h=>if zdm m h x then(fa ρ h).bind λy h=>match y with|.tup ys=>mtW m x ys h|_=>.no else .no
theorem zly{apos:Pos}(ho:SE X o fo)(he:SE X e fa)(hb:zf4 o=true)(hs:zat e=true)(hl:(apos.endLine==pos.line)=true) :
 SE X (.Call (.Attribute o "append" apos) [e] [] pos) (gMt .append fo (aCons fa aNil)):=by
 refine(pe_bm (X:=X) vc1 PySem.F.slot_list_append PySem.F.type_list_append zef ho (zbg he zcn (zae hs)) (zlx hb) ?_ hl (zae hs) rfl).imp λσ H Q z9=>z9.el λρ h m w h' f r e k=>?_
 .rw[zae hs];rfl
 .refine zaa e λx h1 e1 e2=>?_
  split at e2
  .rename_i hk
   refine zaa e2 λy h2 e3 e4=>?_
   refine zaa e3 λz h3 e5 e6=>?_
   cases e6
   refine(.mk f r e1 λv H1 m1 s1 r1 q1=>?_)
   cases x<;>try cases hk
   rename_i i
   simp only[zdm]at hk
   cases g:h1.get i with
   |none=>rw[g]at hk;cases hk
   |some ob=>
    rw[g]at hk
    cases ob with
    |dk _=>cases hk
    |lst ws0=>
     cases q1
     obtain⟨vs0,p1,_⟩:=r1.lst g
     refine⟨.inl ⟨rfl,vs0,SqL.of p1⟩,ρ,h1,m1,z,h2,f.stp s1,r1,e5,λv2 H2 m2 s2 r2 q2=>?_⟩
     simp only[mtW]at e4
     cases g2:h2.get i with
     |none=>rw[g2]at e4;cases e4
     |some ob=>
      rw[g2]at e4
      cases ob with
      |dk _=>cases e4
      |lst ws=>
       simp only at e4
       split at e4
       .rename_i hz
        cases e4
        obtain⟨vs,p2,p3⟩:=r2.lst g2
        have hmi:m1 i=m2 i:=(s2.same i (zaq g)).symm
        refine⟨m1 i,vs,v2,rfl,rfl,by rw[hmi];exact p2,by rw[p3.length];exact zax.mp hz,?_⟩
        obtain⟨st,r'⟩:=r2.write (i:=i) (o:=.lst (ws++[z])) (u:=.lst (vs++[v2])) (zaq g2) p2 (λ_ z=>nomatch z) (λ_ _ z=>nomatch z) λst=>⟨vs++[v2],zag,(p3.stp st).append (.cons (q2.stp st) .nil)⟩
        rw[hmi]
        exact k .non _ m2 ((s1.trans s2).trans st) r' .non
       .cases e4
  .cases e2
theorem zu6:MtM X "list.reverse" zn9:=by
 intro pins s σ H x vs v us Q I rx rv h
 obtain⟨l,xs,rfl,rfl,hH,q⟩:=h
 cases rx
 have hus:=rv.zero
 subst hus
 obtain⟨z,its,n,r,hl,e⟩:=I.lstM hH
 refine vdd F.slot_list_reverse ⟨_,e,rfl⟩ F.entry_list_reverse (F.args_list_reverse_1 _) (AutoSeq1.list_reverse_list_0 l its.toArray n (by rw[vag];omega)) ⟨e,?_⟩
 refine⟨.non,_,I.lset (its':=its.reverse) hH e (by simp) r.reverse ?_,rfl,q⟩
 rw[vdl]
 omega
theorem zj9{apos:Pos}(ho:SE X o fo)(hb:zf4 o=true)(hl:(apos.endLine==pos.line)=true) :
 SE X (.Call (.Attribute o "reverse" apos) [] [] pos) (gMt .reverse fo aNil):=by
 refine(zt5 (X:=X) vc1 PySem.F.slot_list_reverse PySem.F.type_list_reverse zu6 ho (zlx hb) hl).imp λσ H Q z9=>z9.el λρ h m w h' f r e k=>?_
 .refine zaa e λx h1 e1 e2=>?_
  split at e2
  .rename_i hk
   refine(.mk f r e1 λv H1 m1 s1 r1 q1=>?_)
   cases x<;>try cases hk
   rename_i i
   simp only[zdm]at hk
   cases g:h1.get i with
   |none=>rw[g]at hk;cases hk
   |some ob=>
    rw[g]at hk
    cases ob with
    |dk _=>cases hk
    |lst ws=>
     cases q1
     obtain⟨vs,p1,p3⟩:=r1.lst g
     have e4:mtW .reverse (.ref i) [] h1=.ok w h':=e2
     simp only[mtW,g]at e4
     cases e4
     refine⟨.inl ⟨rfl,vs,SqL.of p1⟩,m1 i,vs,rfl,rfl,p1,?_⟩
     obtain⟨st,r'⟩:=r1.write (i:=i) (o:=.lst ws.reverse) (u:=.lst vs.reverse) (zaq g) p1 (λ_ z=>nomatch z) (λ_ _ z=>nomatch z) λst=>⟨vs.reverse,zag,(p3.stp st).rev⟩
     exact k .non _ m1 (s1.trans st) r' .non
  .cases e2
end
section
variable{K:PySem.W.Frag}{m m' m1:Nat->Addr}{n n' n1:Nat}{h h':VH}{H H' H1:Hp}
mutual
theorem VRep.mono(hn:n<=n')(hm:∀i,i<n->m' i=m i)(kt:∀b vs,H b=some (.tup vs)->H' b=some (.tup vs))(kf:∀b o u,H b=some (.frz o u)->H' b=some (.frz o u)):∀{v:V} {w:W},VRep K m n H v w->VRep K m' n' H' v w
 |_,_,.non=>.non
 |_,_,.bl b=>.bl b
 |_,_,.int b=>.int b
 |_,_,.str b=>.str b
 |_,_,.tup q r=>.tup (by
  rcases q with(q|⟨o,q⟩)|q
  .exact .inl (.inl (kt _ _ q))
  .exact .inl (.inr ⟨o,kf _ _ _ q⟩)
  .exact .inr q) (VReps.mono hn hm kt kf r)
 |_,_,.fz q r=>.fz (by
  rcases q with⟨o,q⟩|q
  .exact .inl ⟨o,kf _ _ _ q⟩
  .exact .inr q) (VReps.mono hn hm kt kf r)
 |_,_,.ref (i:=i) q=>by rw[<-hm i q];exact .ref (vae q hn)
theorem VReps.mono(hn:n<=n')(hm:∀i,i<n->m' i=m i)(kt:∀b vs,H b=some (.tup vs)->H' b=some (.tup vs))(kf:∀b o u,H b=some (.frz o u)->H' b=some (.frz o u)):∀{vs:List V} {ws:List W},VReps K m n H vs ws->VReps K m' n' H' vs ws
 |_,_,.nil=>.nil
 |_,_,.cons q r=>.cons (VRep.mono hn hm kt kf q) (VReps.mono hn hm kt kf r)
end
theorem Rel.side(r:Rel K m h H){D:Addr}{u u0:HO}(hu:H D=some u0)(ht:∀t,u0≠.tup t)(hf:∀o t,u0≠.frz o t)(ho:∀i,i<h.n->m i≠D)(s:Stp m1 n1 H1 m h.n H)(h0:H1 D=none) :
 Stp m1 n1 H1 m h.n (upd H D u)/\Rel K m h (upd H D u)/\∀{v:V}{w:W},VRep K m h.n H v w->VRep K m h.n (upd H D u) v w:=by
 have kt:∀b vs,H b=some (.tup vs)->upd H D u b=some (.tup vs):=λb vs q=>by rw[zaf (ne_of q hu λz=>ht vs z.symm)];exact q
 have kf:∀b o t,H b=some (.frz o t)->upd H D u b=some (.frz o t):=λb o t q=>by rw[zaf (ne_of q hu λz=>hf o t z.symm)];exact q
 have mv:∀{v:V}{w:W},VRep K m h.n H v w->VRep K m h.n (upd H D u) v w:=λq=>q.mono (vac _) (λ_ _=>rfl) kt kf
 refine⟨⟨s.le,s.same,s.new,s.apart,λb vs q=>kt b vs (s.tup b vs q),λb o t q=>kf b o t (s.frz b o t q),λb o nb q=>by rw[zaf (zaj q h0)];exact s.keep b o nb q⟩,⟨λi hi=>?_,r.inj,r.len⟩,mv⟩
 obtain⟨o,h1,h2⟩:=r.obj i hi
 have eq:upd H D u (m i)=H (m i):=zaf (ho i hi)
 refine⟨o,h1,?_⟩
 cases o with
 |lst ws=>obtain⟨vs,q1,q2⟩:=h2;exact⟨vs,eq.trans q1,q2.map mv⟩
 |dk ws=>obtain⟨vs,q1,q2⟩:=h2;exact⟨vs,q1.imp (λz=>eq.trans z) λ⟨o,z⟩=>⟨o,eq.trans z⟩,q2.map mv⟩
theorem Rel.out(r:Rel K m h H){p:Addr}(hp:H p=none):∀i,i<h.n->m i≠p:=λi hi z=>by
 obtain⟨o',_,h2⟩:=r.obj i hi
 obtain⟨u',h3⟩:=h2.some
 rw[z,hp]at h3;cases h3
theorem Stp.out(s:Stp m n H m' n' H'){p:Addr}{u:HO}(hp:∀i,i<n->m i≠p)(hu:H p=some u):∀i,i<n'->m' i≠p:=λi hi z=>by
 by_cases hl:i<n
 .exact hp i hl ((s.same i hl).symm.trans z)
 .have:=s.new i (vb5.mp hl) hi
  rw[z,hu]at this;cases this
end
inductive PReps(K:PySem.W.Frag)(m:Nat->Addr)(n:Nat)(H:Hp):List (V×V)->List W->Prop
 |nil:PReps K m n H [] []
 |cons {k v:V} {a b:W} {ps:List (V×V)} {ws:List W}:VRep K m n H k a->VRep K m n H v b->PReps K m n H ps ws->PReps K m n H ((k,v)::ps) (a::b::ws)
noncomputable def lftP(K:PySem.W.Frag)(f:FE)(σ:L2.St)(H:Hp)(Q:List (V×V)->Hp->Prop):Prop:=∃ρ h m ws h',Fr K m h.n H σ ρ/\Rel K m h H/\f ρ h=.ok (.tup ws) h'/\
 ∀ps H' m',Stp m h.n H m' h'.n H'->Rel K m' h' H'->PReps K m' h'.n H' ps ws->Q ps H'
theorem lftP.el{K:PySem.W.Frag}{σ:L2.St}{H:Hp}{P:Prop}{fa:FE}{Q:List (V×V)->Hp->Prop}(q:lftP K fa σ H Q)(k:∀ρ h m ws h',Fr K m h.n H σ ρ->Rel K m h H->fa ρ h=.ok (.tup ws) h'->(∀ps H' m',Stp m h.n H m' h'.n H'->Rel K m' h' H'->PReps K m' h'.n H' ps ws->Q ps H')->P):P:=by
 obtain⟨ρ,h,m,w,h',f,r,e,k'⟩:=q
 exact k ρ h m w h' f r e k'
theorem lftP.mk{K:PySem.W.Frag}{σ:L2.St}{H:Hp}{m:Nat->Addr}{ρ:En}{h h':VH}{ws:List W}{fa:FE}{Q:List (V×V)->Hp->Prop}(f:Fr K m h.n H σ ρ)(r:Rel K m h H)(e:fa ρ h=.ok (.tup ws) h')(k:∀ps H' m',Stp m h.n H m' h'.n H'->Rel K m' h' H'->PReps K m' h'.n H' ps ws->Q ps H'):lftP K fa σ H Q:=⟨ρ,h,m,ws,h',f,r,e,k⟩
noncomputable def SPs(X:Cx)(pos:Pos)(keys:List (Option Expr))(values:List Expr)(f:FE):Prop:=∃trs,PPs X pos keys values trs/\∀σ H Q,lftP X.K f σ H Q->ziv trs σ H Q
section
variable{X:Cx}{a b c e o:Expr}{es:List Expr}{fa fb fc fo fr:FE}{pos p:Pos}{x:Str}
theorem zrv:SPs X pos [] [] aNil:=⟨[],zri,λσ H Q z9=>z9.el λρ h m ws h' f r e k=>by cases e;exact k [] H m .refl r .nil⟩
theorem zop{ks:List (Option Expr)}{vs:List Expr}(ha:SE X a fa)(hb:SE X b fb)(hr:SPs X pos ks vs fr):SPs X pos (some a::ks) (b::vs) (aCons fa (aCons fb fr)):=by
 obtain⟨trs,h1,h2⟩:=hr
 refine⟨_,zod ha hb h1,λσ H Q z9=>z9.el λρ h m ws h' f r e k=>?_⟩
 refine zaa e λx h3 e1 e2=>?_
 refine zaa e2 λy h4 e3 e4=>?_
 refine zaa e3 λx2 h5 e5 e6=>?_
 refine zaa e6 λy2 h6 e7 e8=>?_
 cases y2<;>try cases e8
 cases e4
 rename_i ys
 exact(.mk f r e1 λv H1 m1 s1 r1 q1=>(.mk (f.stp s1) r1 e5 λv2 H2 m2 s2 r2 q2=>h2 σ H2 _ (.mk ((f.stp s1).stp s2) r2 e7 λps H3 m3 s3 r3 q3=>
  k _ H3 m3 ((s1.trans s2).trans s3) r3 (.cons ((q1.stp s2).stp s3) (q2.stp s3) q3))))
theorem zi1{K:PySem.W.Frag}{m:Nat->Addr}{n:Nat}{H:Hp}:∀{ps:List (V×V)} {ws:List W} {kws:List (Key×W)},PReps K m n H ps ws->zen ws=some kws->∃kvs:List (Key×V),ps=kvs.map (λkv=>(kV kv.1,kv.2))/\KReps K m n H kvs kws
 |_,_,_,.nil,e=>by cases e;exact⟨[],rfl,.nil⟩
 |_,_,_,.cons (a:=a) (v:=v) q1 q2 r,e=>by
  simp only[zen]at e
  split at e
  .rename_i k hk
   split at e
   .rename_i kvs hp
    cases e
    obtain⟨kv,rfl,r'⟩:=zi1 r hp
    refine⟨(k,v)::kv,?_,.cons q2 r'⟩
    rw[va1,zrp q1 hk]
   .cases e
  .cases e
noncomputable abbrev gDsp(f:FE):FE:=λρ h=>(f ρ h).bind λy h=>match y with
 |.tup ys=>(match zen ys with
  |some kvs=>if Nat.ble kvs.length 15 then .ok (.ref h.n) (h.new (.dk (zfa [] kvs)))else .no
  |none=>.no)
 |_=>.no
theorem zu7(hu:X.A.units+2<cLine){keys:List (Option Expr)}{values:List Expr}(hp:SPs X pos keys values fa)(hall:keys.all (·.isSome)=true)(hl:keys.length=values.length)(h0:keys≠[])(h15:keys.length<=15):SE X (.Dict keys values pos) (gDsp fa):=by
 obtain⟨trs,h1,h2⟩:=hp
 refine(zrj h1 hall hl h0 h15).imp λσ H Q z9 p hp=>z9.el λρ h m w h' f r e k=>?_
 refine zaa e λy h3 e1 e2=>?_
 cases y<;>try cases e2
 rename_i ys
 obtain⟨st0,r0⟩:=r.more (u:=.dK []) hp
 refine h2 σ _ _ (.mk (f.stp st0) r0 e1 λps H2 m2 s2 r2 q2=>?_)
 have hout:=s2.out (r.out hp) zag
 have hD:H2 p=some (.dK []):=s2.keep p _ (r.out hp) zag
 refine⟨hD,?_⟩
 have e2:(match zen ys with
  |some kvs=>if Nat.ble kvs.length 15 then Res.ok (W.ref h3.n) (h3.new (.dk (zfa [] kvs)))else .no
  |none=>.no)=.ok w h':=e2
 cases hk:zen ys with
 |none=>rw[hk]at e2;cases e2
 |some kws=>
  rw[hk]at e2
  have e2:(if Nat.ble kws.length 15 then Res.ok (W.ref h3.n) (h3.new (.dk (zfa [] kws)))else .no)=.ok w h':=e2
  by_cases hz:Nat.ble kws.length 15=true
  .rw[if_pos hz]at e2
   cases e2
   obtain⟨kvs,e3,q3⟩:=zi1 q2 hk
   refine⟨kvs,e3,by rw[q3.length];exact va2 hz,?_⟩
   obtain⟨st,r'⟩:=r2.adopt (o:=.dk (zfa [] kws)) (u:=.dK (zdl [] kvs)) hout hD (λ_ z=>nomatch z) (λ_ _ z=>nomatch z) (st0.trans s2) hp λ_ mv=>⟨_,.inl zag,(q3.merge .nil).map mv⟩
   refine k _ _ _ st r' ?_
   have:VRep X.K (λi=>if i=h3.n then p else m2 i) (h3.n+1) (upd H2 p (.dK (zdl [] kvs))) (.ref ((λi=>if i=h3.n then p else m2 i) h3.n)) (.ref h3.n):=.ref (vaq _)
   simp only[vbd]at this
   exact this
  .rw[if_neg hz]at e2;cases e2
theorem zrw:SE X (.Dict [] [] pos) (gDsp aNil):=zoc.imp λσ H Q z9 p hp=>z9.el λρ h m w h' f r e k=>by
 cases e
 exact Wants.dict (ws:=[]) (vs:=[]) k r .nil hp
noncomputable def spV(K:PySem.W.Frag)(np:Nat)(g:List W->VH->Res W):Sp:=λvs H Q _=>vs.length=np/\∃h m ws w h',Rel K m h H/\VReps K m h.n H vs ws/\g ws h=.ok w h'/\Wants K m h.n H w h' Q
theorem zrx{k:Nat}{f:Addr}{fd:FuncData}{ps:List Str}{g:List W->VH->Res W}(F:FnOk X.prog X.w X.K X.mg X.base CX0 k f fd ps (spV X.K ps.length g))(hr:Room k X.A)(hg:Gl X x)(hm:X.mg x=some (.ref f))(hk:PySem.W.keepIn X.K (.ref f)=true)
 (hb:Binds X.K fd ps []) (ha:SA X (e::es) fa) (hs:(e::es).all zat=true) (hdb:(x==("__debug__" : Str))=false) (hn:∀ws h w h',g ws h=.ok w h'->ws.length=ps.length):SE X (.Call (.Name x p) (e::es) [] pos) (gArg fa g):=by
 rw[vbn,vaa]at hs
 refine(zfs F hr hg hm hk hb .nil pass0 ha hdb (zae hs.1) (za7 hs.2)).imp λσ H Q q=>zc9 (G:=λvs H1 Q=>spV X.K ps.length g (vs++[]) H1 Q E0) (λm h H vs xs w h' Q r q e k=>?_) q
 rw[va5]
 exact⟨by rw[q.length];exact hn _ _ _ _ e,h,m,xs,w,h',r,q,e,k⟩
theorem zoq{k:Nat}{f:Addr}{fd:FuncData}{ps:List Str}{g:List W->VH->Res W}(F:FnOk X.prog X.w X.K X.mg X.base CX0 k f fd ps (spV X.K ps.length g))(hr:Room k X.A)(hg:Gl X x)(hm:X.mg x=some (.ref f))(hk:PySem.W.keepIn X.K (.ref f)=true)
 (hb:Binds X.K fd ps []) (hdb:(x==("__debug__" : Str))=false) (hn:∀ws h w h',g ws h=.ok w h'->ws.length=ps.length):SE X (.Call (.Name x p) [] [] pos) (gArg aNil g):=by
 refine(zn5 F hr hg hm hk hb .nil pass0 hdb).imp λσ H Q z9=>z9.el λρ h m w h' f r e k=>?_
 exact⟨hn _ _ _ _ e,h,m,[],w,h',r,.nil,e,k⟩
theorem zor{k:Nat}{f:Addr}{fd:FuncData}{ps:List Str}{g:List W->VH->Res W}(F:FnOk X.prog X.w X.K X.mg X.base CX0 k f fd ps (spV X.K ps.length g))(hr:Room k X.A)(hg:Gl X x)(hm:X.mg x=some (.ref f))(hk:PySem.W.keepIn X.K (.ref f)=true)
 (hb:Binds X.K fd ps [.none]) (ha:SA X (e::es) fa) (hs:(e::es).all zat=true) (hdb:(x==("__debug__" : Str))=false) (hn:∀ws h w h',g ws h=.ok w h'->ws.length=ps.length):SE X (.Call (.Name x p) (e::es) [] pos) (gArg fa λws h=>g (ws++[.non]) h):=by
 rw[vbn,vaa]at hs
 refine(zfs F hr hg hm hk hb (dvs:=[V.non]) (.cons rfl .nil) pass0 ha hdb (zae hs.1) (za7 hs.2)).imp λσ H Q q=>zc9 (G:=λvs H1 Q=>spV X.K ps.length g (vs++[V.non]) H1 Q E0) (λm h H vs xs w h' Q r q e k=>?_) q
 have q':VReps X.K m h.n H (vs++[V.non]) (xs++[W.non]):=q.append (.cons .non .nil)
 exact⟨by rw[q'.length];exact hn _ _ _ _ e,h,m,xs++[W.non],w,h',r,q',e,k⟩
noncomputable def ItOk(K:PySem.W.Frag)(nx:Nat->VH->Option (Option W))(J:It)(P:(Nat->Addr)->Nat->Hp->Prop):Prop:=
 (∀m n H m' n' H',n<=n'->(∀i,i<n->m' i=m i)->(∀b vs,H b=some (.tup vs)->H' b=some (.tup vs))->(∀b o u,H b=some (.frz o u)->H' b=some (.frz o u))->P m n H->P m' n' H')/\
 ∀m h H,Rel K m h H->P m h.n H->∀i,(∀w,nx i h=some (some w)->J.go i H/\∀y H3,J.yld i H y H3->Stp m h.n H m h.n H3/\Rel K m h H3/\VRep K m h.n H3 y w)/\(nx i h=some none->J.stop i H)
noncomputable def lftI(K:PySem.W.Frag)(kd:Kd)(f:FE):TI:=λσ H R=>∃ρ h m x h',Fr K m h.n H σ ρ/\Rel K m h H/\f ρ h=.ok x h'/\(∃o,nxt kd x 0 h'=some o)/\
 ∀J P H' m',Stp m h.n H m' h'.n H'->Rel K m' h' H'->ItOk K (nxt kd x) J P->P m' h'.n H'->R J H'
theorem lftI.el{K:PySem.W.Frag}{σ:L2.St}{H:Hp}{P:Prop}{kd:Kd}{fa:FE}{R}(q:lftI K kd fa σ H R)(k:∀ρ h m x h',Fr K m h.n H σ ρ->Rel K m h H->fa ρ h=.ok x h'->∀o,nxt kd x 0 h'=some o->(∀J P H' m',Stp m h.n H m' h'.n H'->Rel K m' h' H'->ItOk K (nxt kd x) J P->P m' h'.n H'->R J H')->P):P:=by
 obtain⟨ρ,h,m,w,h',f,r,e,⟨o,eo⟩,k'⟩:=q
 exact k ρ h m w h' f r e o eo k'
theorem lftI.mk{K:PySem.W.Frag}{σ:L2.St}{H:Hp}{m:Nat->Addr}{ρ:En}{h h':VH}{x:W}{kd:Kd}{fa:FE}{R}(f:Fr K m h.n H σ ρ)(r:Rel K m h H)(e:fa ρ h=.ok x h')(eo:∃o,nxt kd x 0 h'=some o)(k:∀J P H' m',Stp m h.n H m' h'.n H'->Rel K m' h' H'->ItOk K (nxt kd x) J P->P m' h'.n H'->R J H'):lftI K kd fa σ H R:=⟨ρ,h,m,x,h',f,r,e,eo,k⟩
theorem zi2{K:PySem.W.Frag}{H H':Hp}{a:Addr}{vs:List V}(kt:∀b vs,H b=some (.tup vs)->H' b=some (.tup vs))(kf:∀b o u,H b=some (.frz o u)->H' b=some (.frz o u))(q:SqT K H a vs):SqT K H' a vs:=by
 rcases q with(q|⟨o,q⟩)|q
 .exact .inl (.inl (kt _ _ q))
 .exact .inl (.inr ⟨o,kf _ _ _ q⟩)
 .exact .inr q
theorem zry{K:PySem.W.Frag}{H H':Hp}{a:Addr}{vs:List V}(kf:∀b o u,H b=some (.frz o u)->H' b=some (.frz o u))(q:Fz K H a vs):Fz K H' a vs:=by
 rcases q with⟨o,q⟩|q
 .exact .inl ⟨o,kf _ _ _ q⟩
 .exact .inr q
theorem zfc{ws:List W}{h:VH}{x:W}{i:Nat}{o:Option W}(e:seqW h x=some ws)(q:nxt .seq x i h=some o):ws[i]?=o:=by
 simp only[nxt,e]at q
 cases q;rfl
theorem zu8{K:PySem.W.Frag}{a:Addr}{vs:List V}{ws:List W}:ItOk K (nxt .seq (.tup ws)) (Itt K a) (λm n H=>SqT K H a vs/\VReps K m n H vs ws):=by
 refine⟨λm n H m' n' H' hn hm kt kf ⟨q1,q2⟩=>⟨zi2 kt kf q1,q2.mono hn hm kt kf⟩,λm h H r ⟨q1,q2⟩ i=>⟨λw e=>?_,λe=>?_⟩⟩
 .have e:=zfc (ws:=ws) rfl e
  obtain⟨v,h1,h2⟩:=q2.get e
  refine⟨⟨vs,v,q1,h1⟩,λy H3 ⟨e3,y3⟩=>?_⟩
  subst e3
  have:=y3 vs q1
  rw[h1]at this;cases this
  exact⟨.refl,r,h2⟩
 .have e:=zfc (ws:=ws) rfl e
  exact⟨vs,q1,by rw[q2.length];exact vbc.mp e⟩
theorem it_fz{K:PySem.W.Frag}{a:Addr}{vs:List V}{ws:List W}:ItOk K (nxt .seq (.fz ws)) (Itl K a) (λm n H=>Fz K H a vs/\VReps K m n H vs ws):=by
 refine⟨λm n H m' n' H' hn hm kt kf ⟨q1,q2⟩=>⟨zry kf q1,q2.mono hn hm kt kf⟩,λm h H r ⟨q1,q2⟩ i=>⟨λw e=>?_,λe=>?_⟩⟩
 .have e:=zfc (ws:=ws) rfl e
  obtain⟨v,h1,h2⟩:=q2.get e
  refine⟨⟨vs,v,q1.sq,h1⟩,λy H3 ⟨e3,y3⟩=>?_⟩
  subst e3
  have:=y3 vs q1.sq
  rw[h1]at this;cases this
  exact⟨.refl,r,h2⟩
 .have e:=zfc (ws:=ws) rfl e
  exact⟨vs,q1.sq,by rw[q2.length];exact vbc.mp e⟩
theorem zu9{K:PySem.W.Frag}{a:Addr}{l:Nat}:ItOk K (nxt .seq (.ref l)) (Itl K a) (λm n H=>l<n/\a=m l):=by
 refine⟨λm n H m' n' H' hn hm kt kf ⟨q1,q2⟩=>⟨vae q1 hn,by rw[hm l q1];exact q2⟩,λm h H r ⟨q1,q2⟩ i=>?_⟩
 subst q2
 cases g:h.get l with
 |none=>exact⟨λw e=>by simp[nxt,seqW,g]at e,λe=>by simp[nxt,seqW,g]at e⟩
 |some o=>
  cases o with
  |dk _=>exact⟨λw e=>by simp[nxt,seqW,g]at e,λe=>by simp[nxt,seqW,g]at e⟩
  |lst ws=>
   have hs:seqW h (.ref l)=some ws:=by simp[seqW,g]
   obtain⟨vs,p1,p2⟩:=r.lst g
   refine⟨λw e=>?_,λe=>?_⟩
   .have e:=zfc hs e
    obtain⟨v,h1,h2⟩:=p2.get e
    refine⟨⟨vs,v,SqL.of p1,h1⟩,λy H3 ⟨e3,y3⟩=>?_⟩
    subst e3
    have:=y3 vs (SqL.of p1)
    rw[h1]at this;cases this
    exact⟨.refl,r,h2⟩
   .have e:=zfc hs e
    exact⟨vs,SqL.of p1,by rw[p2.length];exact vbc.mp e⟩
theorem zva{K:PySem.W.Frag}{kd:Kd}{x:W}{lo:Int}{k:Nat}(hx:∀i h,nxt kd x i h=some (if i<k then some (.int (lo+i))else none)):ItOk K (nxt kd x) (Itr lo k) (λ_ _ _=>True):=by
 refine⟨λ_ _ _ _ _ _ _ _ _ _ _=>trivial,λm h H r _ i=>⟨λw e=>?_,λe=>?_⟩⟩
 .rw[hx]at e
  split at e
  .rename_i hi
   cases e
   refine⟨hi,λy H3 ⟨e3,y3⟩=>?_⟩
   subst e3 y3
   exact⟨.refl,r,.int _⟩
  .cases e
 .rw[hx]at e
  split at e
  .cases e
  .rename_i hi
   exact vb5.mp hi
theorem zp3{tg:Expr}(ha:SE X e fa):PI X tg e (lftI X.K .seq fa):=λpins s σ H R I z9=>z9.el λρ h m x h' f r ee o en k=>by
 have hs:∃ws,seqW h' x=some ws:=by
  cases z:seqW h' x with
  |none=>simp[nxt,z]at en
  |some ws=>exact⟨ws,rfl⟩
 obtain⟨ws,hs⟩:=hs
 cases x<;>try cases hs
 .exact zto ha pins s σ H R I (.mk f r ee λv H' m' s' r' q=>by
   cases q with
   |tup sq rs=>exact⟨_,rfl,⟨_,sq⟩,k _ _ H' m' s' r' zu8 ⟨sq,rs⟩⟩)
 .exact zkt ha pins s σ H R I (.mk f r ee λv H' m' s' r' q=>by
   cases q with
   |fz sq rs=>exact⟨_,rfl,⟨_,sq.sq⟩,k _ _ H' m' s' r' it_fz ⟨sq,rs⟩⟩)
 .rename_i l
  exact zkt ha pins s σ H R I (.mk f r ee λv H' m' s' r' q=>by
   obtain⟨p,vs,e1,e2,e3⟩:=zda r' q hs
   cases q with
   |ref hi=>
    cases g:h'.get l with
    |none=>simp[seqW,g]at hs
    |some ob=>
     cases ob with
     |dk _=>simp[seqW,g]at hs
     |lst ws'=>
      obtain⟨vs',p1,_⟩:=r'.lst g
      exact⟨_,rfl,⟨_,SqL.of p1⟩,k _ _ H' m' s' r' zu9 ⟨hi,rfl⟩⟩)
theorem zrz{tg:Expr}(ha:SA X [e] fa)(hs:zat e=true)(hg:Gl X "range")(hm:X.mg "range" = none):PI X tg (.Call (.Name "range" p) [e] [] pos) (lftI X.K .rng1 fa):=λpins s σ H R I z9=>z9.el λρ h m x h' f r ee o en k=>by
 simp only[nxt]at en
 split at en
 .rename_i j
  split at en
  .rename_i hf
   refine zku hg hm ha (zae hs) pins s σ H R I (.mk f r ee λvs H' m' s' r' q=>?_)
   obtain⟨v,rfl,q1⟩:=reps1 q
   cases q1
   refine⟨_,rfl,(zh2 hf).1,(zh2 hf).2,k _ _ H' m' s' r' (zva λi h=>?_) trivial⟩
   simp only[nxt,hf,vbd]
   split<;>split<;>first|rfl|(exfalso;simp at *;omega)
  .cases en
 .cases en
theorem zos{elts:List Expr}{kx:Nat}{tp:Pos}{l:Expr}{ta:TA}(hg:Gl X "enumerate")(hm:X.mg "enumerate" = none)(hv:bootBuiltins "enumerate" = some (.type "enumerate"))(ha:PA X [l] ta)(hs:starEach [l] X.env=[(false,eval l X.env)]) :
 PI X (.Tuple elts kx tp) (.Call (.Name "enumerate" p) [l] [] pos) (λσ H R=>ta σ H λvs H1=>∃a,vs=[.ref a]/\(∃xs,SqT X.K H1 a xs)/\R (IteT X.K a) H1):=by
 intro pins s σ H R I h
 refine Call_ (zgq I hg hm hv (PyProof.Rows.callWith_type1 (thn (ha pos pins s σ H _ I h) λus s1 ⟨vs,H1,I1,r1,q1⟩=>?_) hs rfl))
 obtain⟨a,e,⟨xs,hq⟩,q⟩:=q1
 subst e
 obtain⟨u,rfl,ru⟩:=vals1 r1
 cases ru
 obtain⟨its,rv,pl,hz⟩:=I1.tuple hq
 have pl:s1.heap.IsTuple a its.toArray:=pl
 have hlt:a<s1.heap.objs.size:=by obtain⟨o,q,_⟩:=pl;exact vaj q
 refine zj2 pl λh' he hit hsz kk=>wpAny_pyIter_enum he ?_
 have hf:∀b,s1.heap.objs.size<=b->FpOk X pins H1 b:=λb hb=>I1.fpOk hb (I1.hok.fresh hb)
 refine⟨s1.heap.objs.size+1,[s1.heap.objs.size+1,s1.heap.objs.size],_,_,H1,rfl,I1.kept (t':=s1.toks) kk,zj3 a _ _ (vca (vaq _)) (vau (vba hlt)) (vau hlt),⟨⟨_,he⟩,hit⟩,λb hb=>hf b ?_,q⟩
 rcases vat.mp hb with rfl|hb
 .exact vdv _
 .have e':b=s1.heap.objs.size:=by simpa using hb
  rw[e'];exact vac _
theorem zp4{ws:List W}{h:VH}{i:Nat}{o:Option W}(q:nxt .enm (.tup ws) i h=some o):o=(ws[i]?).map λw=>.tup [.int i,w]:=by
 cases q;rfl
theorem zr0{K:PySem.W.Frag}{a:Addr}{vs:List V}{ws:List W}:ItOk K (nxt .enm (.tup ws)) (IteT K a) (λm n H=>SqT K H a vs/\VReps K m n H vs ws):=by
 refine⟨λm n H m' n' H' hn hm kt kf ⟨q1,q2⟩=>⟨zi2 kt kf q1,q2.mono hn hm kt kf⟩,λm h H r ⟨q1,q2⟩ i=>⟨λw e=>?_,λe=>?_⟩⟩
 .have e:=zp4 (ws:=ws) e
  cases z:ws[i]? with
  |none=>rw[z]at e;cases e
  |some w0=>
   rw[z]at e;cases e
   obtain⟨v,h1,h2⟩:=q2.get z
   refine⟨⟨vs,v,q1,h1⟩,λy H3 ⟨T,v3,e1,e2,e3,y3⟩=>?_⟩
   subst e1 e3
   have:=y3 vs q1
   rw[h1]at this;cases this
   obtain⟨st,r'⟩:=r.more (u:=.tup [.int i,v]) e2
   exact⟨st,r',.tup (SqT.of zag) (.cons (.int _) (.cons (h2.stp st) .nil))⟩
 .have e:=zp4 (ws:=ws) e
  cases z:ws[i]? with
  |some w0=>rw[z]at e;cases e
  |none=>exact⟨vs,q1,by rw[q2.length];exact vbc.mp z⟩
theorem zlz:bootBuiltins "enumerate" = some (.type "enumerate"):=by decide +kernel
theorem zvb(ha:SE X e fa)(hs:zat e=true):PA X [e] (λσ H Q=>lft X.K fa σ H λv H1=>Q [v] H1):=λp pins s σ H Q I q=>by
 refine zbg ha zcn (zae hs) p pins s σ H Q I ?_
 refine q.el λρ h m w h' f r ee k=>?_
 exact(.mk f r ee λv H' m' s' r' q'=>k v H' m' s' r' q')
theorem zvc{elts:List Expr}{kx:Nat}{tp:Pos}(ha:SE X e fa)(hs0:zat e=true)(hg:Gl X "enumerate")(hm:X.mg "enumerate" = none):PI X (.Tuple elts kx tp) (.Call (.Name "enumerate" p) [e] [] pos) (lftI X.K .enm fa):=λpins s σ H R I z9=>z9.el λρ h m x h' f r ee o en k=>by
 cases x with
 |tup ws=>exact zos hg hm zlz (zvb ha hs0) (zae hs0) pins s σ H R I ⟨ρ,h,m,_,h',f,r,ee,λv H' m' s' r' q=>by
  cases q with
  |tup sq rs=>exact⟨_,rfl,⟨_,sq⟩,k _ _ H' m' s' r' zr0 ⟨sq,rs⟩⟩⟩
 |_=>cases en
end
section
variable{X:Cx}{a b c e o:Expr}{es:List Expr}{fa fb fc fo fr:FE}{pos p:Pos}{x:Str}
noncomputable def lftG(K:PySem.W.Frag)(t:Tg):TG:=λv σ H Q=>∃ρ h m w ρ',Fr K m h.n H σ ρ/\Rel K m h H/\VRep K m h.n H v w/\tgW t w h ρ=some ρ'/\∀σ',Fr K m h.n H σ' ρ'->Q σ' H
theorem lftG.el{K:PySem.W.Frag}{v:V}{σ:L2.St}{H:Hp}{P:Prop}{tg:Tg}{Q}(q:lftG K tg v σ H Q)(k:∀ρ h m w ρ',Fr K m h.n H σ ρ->Rel K m h H->VRep K m h.n H v w->tgW tg w h ρ=some ρ'->(∀σ',Fr K m h.n H σ' ρ'->Q σ' H)->P):P:=by
 obtain⟨ρ,h,m,w,h',f,r,e,eo,k'⟩:=q
 exact k ρ h m w h' f r e eo k'
theorem lftG.mk{K:PySem.W.Frag}{v:V}{σ:L2.St}{H:Hp}{m:Nat->Addr}{ρ ρ':En}{h:VH}{w:W}{tg:Tg}{Q}(f:Fr K m h.n H σ ρ)(r:Rel K m h H)(e:VRep K m h.n H v w)(eo:tgW tg w h ρ=some ρ')(k:∀σ',Fr K m h.n H σ' ρ'->Q σ' H):lftG K tg v σ H Q:=⟨ρ,h,m,w,ρ',f,r,e,eo,k⟩
theorem zvd{i:Nat}(hN:X.N.Nodup)(hi:X.N[i]?=some x)(hx:Loc X.env.scope x)(hf:X.fn x=true\/X.env.scope.names.lookup x=some .local):PG X (.Name x pos) (lftG X.K (.one i)):=λpins s σ H v u Q I ru z9=>z9.el λρ h m w ρ' f r q e k=>by
 cases e
 exact zkr hN hi hx hf pins s σ H v u Q I ru (k _ (f.set q i))
noncomputable def NmOk(X:Cx)(e:Expr)(i:Nat):Prop:=∃x p,e=.Name x p/\X.N[i]?=some x/\Loc X.env.scope x/\(X.fn x=true\/X.env.scope.names.lookup x=some .local)
noncomputable def lftGs(K:PySem.W.Frag)(is:List Nat):TGs:=λvs σ H Q=>∃ρ m n ws ρ',Fr K m n H σ ρ/\VReps K m n H vs ws/\zbs is ws ρ=some ρ'/\∀σ',Fr K m n H σ' ρ'->Q σ' H
theorem zp5(hN:X.N.Nodup):∀{es:List Expr} {is:List Nat},Paired (NmOk X) es is->PGs X es (lftGs X.K is)/\(assignEach es X.env).length=es.length/\(assignEach es X.env).findIdx? (·.1)=none
 |_,_,.nil=>by
  refine⟨λpins s σ H vs us Q I ru ⟨ρ,m,n,ws,ρ',f,q,e,k⟩=>?_,rfl,rfl⟩
  cases ws with
  |nil=>cases e;cases q;exact zq1 pins s σ H [] us Q I ru ⟨rfl,k _ f⟩
  |cons _ _=>cases e
 |e::es,i::is,.cons ⟨x,p,he,hi,hx,hf⟩ t=>by
  subst he
  obtain⟨h1,h2,h3⟩:=zp5 hN t
  refine⟨λpins s σ H vs us Q I ru ⟨ρ,m,n,ws,ρ',f,q,e,k⟩=>?_,?_,?_⟩
  .cases q with
   |nil=>cases e
   |cons q qs=>
    exact znx (zkr hN hi hx hf) h1 rfl pins s σ H _ us Q I ru ⟨_,_,rfl,ρ.set i (some _),m,n,_,ρ',f.set q i,qs,e,k⟩
  .show(assignEach es X.env).length+1=es.length+1
   rw[h2]
  .show List.findIdx? _ ((false,_)::assignEach es X.env)=none
   rw[List.findIdx?_cons,h3];rfl
theorem zfd:∀{is:List Nat} {ws:List W} {ρ ρ':En},zbs is ws ρ=some ρ'->ws.length=is.length
 |[],[],_,_,_=>rfl
 |[],_::_,_,_,e=>by cases e
 |_::_,[],_,_,e=>by cases e
 |_::_,_::_,_,_,e=>by
  rw[vam,vam,zfd (by simpa only[zbs]using e)]
theorem zve{t:TGs}{n k:Nat}(hc:X.calm=true)(h:PGs X es t)(hn:(assignEach es X.env).length=n)(hst:(assignEach es X.env).findIdx? (·.1)=none) :
 PG X (.Tuple es k pos) (λv σ H Q=>∃a xs,v=.ref a/\SqL X.K H a xs/\xs.length=n/\t xs σ H Q):=by
 intro pins s σ H v u Q I r hw
 obtain⟨a,xs,rfl,hq,hl,hw⟩:=hw
 cases r
 obtain⟨its,rv,ht,hz⟩:=I.list hq
 rw[assign_Tuple]
 refine vab (va4 ?_)
 unfold unpack
 have hsz:(assignEach es X.env).length=its.toArray.size:=by rw[hn,<-hl,rv.length,vag]
 rw[hst,hsz]
 refine vab (vbs (PySem.W.kun_itemsOf (I.ok.hd hc) ht.isList λh' hx=>?_))
 have I1:Inv X pins σ H {s with heap:=h'}:=I.kept (t':=s.toks) λb o e=>hx b o (vau (vaj e)) e
 exact h pins _ σ H xs _ Q I1 (by simpa using rv) hw
theorem zl0{is:List Nat}{k:Nat}(hc:X.calm=true)(hN:X.N.Nodup)(hs:Paired (NmOk X) es is):PG X (.Tuple es k pos) (lftG X.K (.many is)):=λpins s σ H v u Q I ru z9=>z9.el λρ h m w ρ' f r q e k=>by
 obtain⟨h1,h2,h3⟩:=zp5 hN hs
 simp only[tgW]at e
 cases z:seqW h w with
 |none=>rw[z]at e;cases e
 |some ws=>
  rw[z]at e
  have e:zbs is ws ρ=some ρ':=e
  obtain⟨p,vs,rfl,hq,qs⟩:=zda r q z
  have hl:vs.length=es.length:=by rw[qs.length,zfd e,hs.length]
  rcases hq with hq|hq
  .exact zve hc h1 h2 h3 pins s σ H _ u Q I ru ⟨p,vs,rfl,hq,hl,ρ,m,h.n,ws,ρ',f,qs,e,k⟩
  .exact zti hc h1 h2 h3 pins s σ H _ u Q I ru ⟨p,vs,rfl,hq,hl,ρ,m,h.n,ws,ρ',f,qs,e,k⟩
theorem zi3{K:PySem.W.Frag}{m:Nat->Addr}{n:Nat}{H:Hp}{σ:L2.St}{ρ:En}{ow fr:List Str}{ix:List Nat}(f:Fr K m n H σ ρ):Fr K m n H (cσ ow fr ix σ) (inner ow.length ix ρ):=by
 unfold cσ inner
 refine⟨by simp,λi w e=>?_⟩
 by_cases hi:i<ow.length
 .rw[vb1 (by simpa using hi)]at e
  rw[vcy]at e
  split at e<;>cases e
 .rw[vbm (by simpa using vb5.mp hi)]at e
  rw[vbm (by simpa using vb5.mp hi)]
  simp only[vc9,vai]at e ⊢
  rw[vb3]at e ⊢
  cases z:ix[i-ow.length]? with
  |none=>rw[z]at e;cases e
  |some j=>
   rw[z]at e
   simp only[vbb,Option.some.injEq]at e ⊢
   have e3:ρ[j]?=some (some w):=by
    cases q:ρ[j]? with
    |none=>rw[q]at e;cases e
    |some o=>rw[q]at e;rw[<-e];rfl
   obtain⟨v,h1,h2⟩:=f.val j w e3
   exact⟨v,by rw[h1];rfl,h2⟩
theorem zh5{nx:Nat->VH->Option (Option W)}{tg:W->VH->En->Option En}{c e:FE}:∀{f i:Nat} {ρ:En} {h:VH} {acc ys:List W} {h':VH},lcG nx tg c e f i ρ h acc=.ok ys h'->acc.length<=ys.length
 |0,_,_,_,_,_,_,q=>by cases q
 |f+1,i,ρ,h,acc,ys,h',q=>by
  simp only[lcG]at q
  split at q
  .cases q
  .cases q;simp
  .split at q
   .cases q
   .refine zaa q λb h1 e1 e2=>?_
    split at e2
    .refine zaa e2 λy h2 e3 e4=>?_
     have:=zh5 e4
     rw[vam]at this
     omega
    .exact zh5 e2
    .cases e2
theorem zvf{nx:Nat->VH->Option (Option W)}{tg:W->VH->En->Option En}{c e:FE}{f i:Nat}{ρ:En}{h:VH}{acc ys:List W}{h':VH}(q:lcG nx tg c e (f+1) i ρ h acc=.ok ys h'):∃o,nx i h=some o:=by
 simp only[lcG]at q
 split at q
 .cases q
 .exact⟨_,by assumption⟩
 .exact⟨_,by assumption⟩
theorem zi4{H:Hp}{a:Addr}{o:HO}(h:H a=some o):upd H a o=H:=by
 funext b
 unfold upd
 split
 .rename_i e;rw[e,h]
 .rfl
noncomputable abbrev gLc(kd:Kd)(fa:FE)(t:Tg)(ow:Nat)(ix:List Nat)(fc fe:FE):FE:=λρ h=>(fa ρ h).bind λx h=>(lcG (nxt kd x) (tgW t) fc fe fuel 0 (inner ow ix ρ) h []).bind λys h=>if Nat.ble ys.length big then .ok (.ref h.n) (h.new (.lst ys))else .no
theorem lc_ok{K:PySem.W.Frag}{kd:Kd}{t:Tg}{ow fr:List Str}{ix:List Nat}{fe:FE}{σ:L2.St}{H:Hp}{Q:VK}(q:lft K (gLc kd fa t ow.length ix fc fe) σ H Q):tLC K (cσ ow fr ix) (lftI K kd fa) (lftG K t) (lftT K fc) (lft K fe) σ H Q:=by
 refine q.el λρ h m w h' f r e k=>?_
 refine zaa e λx h1 e1 e2=>?_
 refine zaa e2 λys h2 e3 e4=>?_
 split at e4
 case isFalse=>cases e4
 rename_i hz
 cases e4
 have hz:=va2 hz
 refine(.mk f r e1 ?_ λJ P H1 m1 s1 r1 J1 p1 D hD hK=>?_)
 .exact zvf (f:=999999) e3
 obtain⟨st0,r0⟩:=r1.more (u:=.lst []) hD
 have p0:=J1.1 m1 h1.n H1 m1 h1.n (upd H1 D (.lst [])) (vac _) (λ_ _=>rfl) (λb vs q=>st0.tup b vs q) (λb o u q=>st0.frz b o u q) p1
 refine⟨λi fl σ' H' vs=>∃ρ' h3 m3 acc,lcG (nxt kd x) (tgW t) fc fe fl i ρ' h3 acc=.ok ys h2/\Fr K m3 h3.n H' σ' ρ'/\Rel K m3 h3 H'/\H' D=some (.lst vs)/\VReps K m3 h3.n H' vs acc.reverse/\(∀i,i<h3.n->m3 i≠D)/\Stp m1 h1.n H1 m3 h3.n H'/\P m3 h3.n H',
  ⟨fuel,inner ow.length ix ρ,h1,m1,[],e3,zi3 ((f.stp s1).stp st0),r0,zag,.nil,r1.out hD,st0,p0⟩,?_⟩
 rintro i fl σ' H' vs ⟨ρ',h3,m3,acc,e5,f3,r3,d3,q3,o3,s3,p3⟩
 refine⟨d3,?_⟩
 cases fl with
 |zero=>cases e5
 |succ fl=>
  simp only[lcG]at e5
  obtain⟨j1,j2⟩:=J1.2 m3 h3 H' r3 p3 i
  split at e5
  .cases e5
  .rename_i hn
   cases e5
   refine .inl ⟨j2 hn,?_⟩
   obtain⟨st,r'⟩:=r3.adopt (o:=.lst acc.reverse) (u:=.lst vs) o3 d3 (λ_ z=>nomatch z) (λ_ _ z=>nomatch z) (s1.trans s3) (by
    cases z:H D with
    |none=>rfl
    |some o=>
     have:=s1.keep D o (λi hi z2=>(r1.out hD) i (vae hi s1.le) ((s1.same i hi).trans z2)) z
     rw[hD]at this;cases this) λ_ mv=>⟨_,zag,q3.map mv⟩
   rw[zi4 d3]at st r'
   refine k _ _ _ st r' ?_
   have:VRep K (λi=>if i=h2.n then D else m3 i) (h2.n+1) H' (.ref ((λi=>if i=h2.n then D else m3 i) h2.n)) (.ref h2.n):=.ref (vaq _)
   simp only[vbd]at this
   exact this
  .rename_i w hn
   obtain⟨j3,j4⟩:=j1 w hn
   refine .inr ⟨j3,λy H4 hy=>?_⟩
   obtain⟨s4,r4,q4⟩:=j4 y H4 hy
   split at e5
   .cases e5
   .rename_i ρ5 ht
    refine⟨ρ',h3,m3,w,ρ5,f3.stp s4,r4,q4,ht,λσ5 f5=>?_⟩
    refine zaa e5 λbv h6 e6 e7=>?_
    have d4:H4 D=some (.lst vs):=s4.keep D _ o3 d3
    have s14:=s3.trans s4
    have p4:=J1.1 m3 h3.n H' m3 h3.n H4 (vac _) (λ_ _=>rfl) (λb vs q=>s4.tup b vs q) (λb o u q=>s4.frz b o u q) p3
    cases bv<;>try cases e7
    rename_i bb
    refine⟨ρ5,h3,m3,bb,h6,f5,r4,e6,λH6 m6 s6 r6=>?_⟩
    have o6:=s6.out o3 d4
    have d6:H6 D=some (.lst vs):=s6.keep D _ o3 d4
    have p6:=J1.1 m3 h3.n H4 m6 h6.n H6 s6.le s6.same (λb vs q=>s6.tup b vs q) (λb o u q=>s6.frz b o u q) p4
    cases bb with
    |false=>
     simp only[vah,vbe]
     exact⟨fl,vaq _,ρ5,h6,m6,acc,e7,f5.stp s6,r6,d6,(q3.stp s4).stp s6,o6,s14.trans s6,p6⟩
    |true=>
     simp only[vbd]
     refine zaa e7 λy7 h7 e8 e9=>?_
     refine⟨ρ5,h6,m6,y7,h7,f5.stp s6,r6,e8,λv7 H7 m7 s7 r7 q7=>?_⟩
     have o7:=s7.out o6 d6
     have d7:H7 D=some (.lst vs):=s7.keep D _ o6 d6
     have p7:=J1.1 m6 h6.n H6 m7 h7.n H7 s7.le s7.same (λb vs q=>s7.tup b vs q) (λb o u q=>s7.frz b o u q) p6
     have q37:=((q3.stp s4).stp s6).stp s7
     have hlen:=zh5 e9
     rw[vam]at hlen
     refine⟨d7,?_,fl,vaq _,ρ5,h7,m7,y7::acc,e9,?_⟩
     .rw[q37.length,vdl]
      have:big=sizeLine:=rfl
      omega
     .obtain⟨st8,r8,mv⟩:=r7.side (u:=.lst (vs++[v7])) d7 (λ_ z=>nomatch z) (λ_ _ z=>nomatch z) o7 ((s14.trans s6).trans s7) hD
      have kt:∀b us,H7 b=some (.tup us)->upd H7 D (.lst (vs++[v7])) b=some (.tup us):=λb us q=>by rw[zaf (ne_of q d7 λz=>nomatch z)];exact q
      have kf:∀b o u,H7 b=some (.frz o u)->upd H7 D (.lst (vs++[v7])) b=some (.frz o u):=λb o u q=>by rw[zaf (ne_of q d7 λz=>nomatch z)];exact q
      refine⟨⟨(f5.stp s6).len,λi w e=>let⟨v,h1,h2⟩:=((f5.stp s6).stp s7).val i w e;⟨v,h1,mv h2⟩⟩,r8,zag,?_,o7,st8,J1.1 m7 h7.n H7 m7 h7.n _ (vac _) (λ_ _=>rfl) kt kf p7⟩
      rw[vcs]
      exact(q37.map mv).append (.cons (mv q7) .nil)
theorem zf5{nx:Nat->VH->Option (Option W)}{tg:W->VH->En->Option En}{c e:FE}:∀{f i:Nat} {ρ:En} {h:VH} {acc:List W} {p:En×List W} {h':VH},lcI nx tg c e f i ρ h acc=.ok p h'->acc.length<=p.2.length
 |0,_,_,_,_,_,_,q=>by cases q
 |f+1,i,ρ,h,acc,ys,h',q=>by
  simp only[lcI]at q
  split at q
  .cases q
  .cases q;exact vac _
  .split at q
   .cases q
   .refine zaa q λb h1 e1 e2=>?_
    split at e2
    .refine zaa e2 λy h2 e3 e4=>?_
     have:=zf5 e4
     rw[vam]at this
     omega
    .exact zf5 e2
    .cases e2
theorem zh6{nx:Nat->VH->Option (Option W)}{tg:W->VH->En->Option En}{c:FE}{inn:En->VH->List W->Res (En×List W)}(hi:∀{ρ h acc p h'},inn ρ h acc=.ok p h'->acc.length<=p.2.length):∀{f i:Nat} {ρ:En} {h:VH} {acc ys:List W} {h':VH},lcO nx tg c inn f i ρ h acc=.ok ys h'->acc.length<=ys.length
 |0,_,_,_,_,_,_,q=>by cases q
 |f+1,i,ρ,h,acc,ys,h',q=>by
  simp only[lcO]at q
  split at q
  .cases q
  .cases q;simp
  .split at q
   .cases q
   .refine zaa q λb h1 e1 e2=>?_
    split at e2
    .refine zaa e2 λy h2 e3 e4=>?_
     exact vap (hi e3) (zh6 hi e4)
    .exact zh6 hi e2
    .cases e2
theorem zvg{nx:Nat->VH->Option (Option W)}{tg:W->VH->En->Option En}{c:FE}{inn:En->VH->List W->Res (En×List W)}{f i:Nat}{ρ:En}{h:VH}{acc ys:List W}{h':VH}(q:lcO nx tg c inn (f+1) i ρ h acc=.ok ys h'):∃o,nx i h=some o:=by
 simp only[lcO]at q
 split at q
 .cases q
 .exact⟨_,by assumption⟩
 .exact⟨_,by assumption⟩
theorem zvh{nx:Nat->VH->Option (Option W)}{tg:W->VH->En->Option En}{c e:FE}{f i:Nat}{ρ:En}{h:VH}{acc:List W}{p:En×List W}{h':VH}(q:lcI nx tg c e (f+1) i ρ h acc=.ok p h'):∃o,nx i h=some o:=by
 simp only[lcI]at q
 split at q
 .cases q
 .exact⟨_,by assumption⟩
 .exact⟨_,by assumption⟩
noncomputable abbrev gLc2(kd:Kd)(fa:FE)(t:Tg)(ow:Nat)(ix:List Nat)(fc:FE)(kd2:Kd)(fa2:FE)(t2:Tg)(fc2 fe:FE):FE:=λρ h=>(fa ρ h).bind λx h=>(lcO (nxt kd x) (tgW t) fc (λρ h acc=>(fa2 ρ h).bind λy h=>lcI (nxt kd2 y) (tgW t2) fc2 fe fuel 0 ρ h acc) fuel 0 (inner ow ix ρ) h []).bind λys h=>if Nat.ble ys.length big then .ok (.ref h.n) (h.new (.lst ys))else .no
theorem zp6{K:PySem.W.Frag}{kd kd2:Kd}{t t2:Tg}{ow fr:List Str}{ix:List Nat}{fa2 fc2 fe:FE}{σ:L2.St}{H:Hp}{Q:VK}(q:lft K (gLc2 kd fa t ow.length ix fc kd2 fa2 t2 fc2 fe) σ H Q) :
 tCG K (cσ ow fr ix) (lftI K kd fa) (lftG K t) (lftT K fc) (λD=>zpv (lftI K kd2 fa2) (lftG K t2) (lftT K fc2) (tmL (lft K fe) D)) (.lst []) σ H Q:=by
 refine q.el λρ h m w h' f r e k=>?_
 refine zaa e λx h1 e1 e2=>?_
 refine zaa e2 λys h2 e3 e4=>?_
 split at e4
 case isFalse=>cases e4
 rename_i hz
 cases e4
 have hz:=va2 hz
 have il:∀{ρ h acc p h'},(fa2 ρ h).bind (λy h=>lcI (nxt kd2 y) (tgW t2) fc2 fe fuel 0 ρ h acc)=.ok p h'->acc.length<=p.2.length:=λq=>by
  refine zaa q λy h1 e1 e2=>?_
  exact zf5 e2
 refine(.mk f r e1 ?_ λJ P H1 m1 s1 r1 J1 p1 D hD hK=>?_)
 .exact zvg (f:=999999) e3
 obtain⟨st0,r0⟩:=r1.more (u:=.lst []) hD
 have p0:=J1.1 m1 h1.n H1 m1 h1.n (upd H1 D (.lst [])) (vac _) (λ_ _=>rfl) (λb vs q=>st0.tup b vs q) (λb o u q=>st0.frz b o u q) p1
 refine⟨λi fl σ' H'=>∃ρ' h3 m3 acc vs,lcO (nxt kd x) (tgW t) fc (λρ h acc=>(fa2 ρ h).bind λy h=>lcI (nxt kd2 y) (tgW t2) fc2 fe fuel 0 ρ h acc) fl i ρ' h3 acc=.ok ys h2/\Fr K m3 h3.n H' σ' ρ'/\Rel K m3 h3 H'/\H' D=some (.lst vs)/\VReps K m3 h3.n H' vs acc.reverse/\(∀i,i<h3.n->m3 i≠D)/\Stp m1 h1.n H1 m3 h3.n H'/\P m3 h3.n H',
  ⟨fuel,inner ow.length ix ρ,h1,m1,[],[],e3,zi3 ((f.stp s1).stp st0),r0,zag,.nil,r1.out hD,st0,p0⟩,?_⟩
 rintro i fl σ' H' ⟨ρ',h3,m3,acc,vs,e5,f3,r3,d3,q3,o3,s3,p3⟩
 cases fl with
 |zero=>cases e5
 |succ fl=>
  simp only[lcO]at e5
  obtain⟨j1,j2⟩:=J1.2 m3 h3 H' r3 p3 i
  split at e5
  .cases e5
  .rename_i hn
   cases e5
   refine .inl ⟨j2 hn,?_⟩
   obtain⟨st,r'⟩:=r3.adopt (o:=.lst acc.reverse) (u:=.lst vs) o3 d3 (λ_ z=>nomatch z) (λ_ _ z=>nomatch z) (s1.trans s3) (by
    cases z:H D with
    |none=>rfl
    |some o=>
     have:=s1.keep D o (λi hi z2=>(r1.out hD) i (vae hi s1.le) ((s1.same i hi).trans z2)) z
     rw[hD]at this;cases this) λ_ mv=>⟨_,zag,q3.map mv⟩
   rw[zi4 d3]at st r'
   refine k _ _ _ st r' ?_
   have:VRep K (λi=>if i=h2.n then D else m3 i) (h2.n+1) H' (.ref ((λi=>if i=h2.n then D else m3 i) h2.n)) (.ref h2.n):=.ref (vaq _)
   simp only[vbd]at this
   exact this
  .rename_i w hn
   obtain⟨j3,j4⟩:=j1 w hn
   refine .inr ⟨j3,λy H4 hy=>?_⟩
   obtain⟨s4,r4,q4⟩:=j4 y H4 hy
   split at e5
   .cases e5
   .rename_i ρ5 ht
    refine⟨ρ',h3,m3,w,ρ5,f3.stp s4,r4,q4,ht,λσ5 f5=>?_⟩
    refine zaa e5 λbv h6 e6 e7=>?_
    have d4:H4 D=some (.lst vs):=s4.keep D _ o3 d3
    have s14:=s3.trans s4
    have p4:=J1.1 m3 h3.n H' m3 h3.n H4 (vac _) (λ_ _=>rfl) (λb vs q=>s4.tup b vs q) (λb o u q=>s4.frz b o u q) p3
    cases bv<;>try cases e7
    rename_i bb
    refine⟨ρ5,h3,m3,bb,h6,f5,r4,e6,λH6 m6 s6 r6=>?_⟩
    have o6:=s6.out o3 d4
    have d6:H6 D=some (.lst vs):=s6.keep D _ o3 d4
    have p6:=J1.1 m3 h3.n H4 m6 h6.n H6 s6.le s6.same (λb vs q=>s6.tup b vs q) (λb o u q=>s6.frz b o u q) p4
    cases bb with
    |false=>
     simp only[vah,vbe]
     exact⟨fl,vaq _,ρ5,h6,m6,acc,vs,e7,f5.stp s6,r6,d6,(q3.stp s4).stp s6,o6,s14.trans s6,p6⟩
    |true=>
     simp only[vbd]
     obtain⟨⟨ρ9,acc9⟩,h9,e8,e9⟩:=zls e7
     refine zaa e8 λy7 h7 e10 e11=>?_
     have hlen9:=zh6 il e9
     refine⟨ρ5,h6,m6,y7,h7,f5.stp s6,r6,e10,zvh (f:=999999) e11,λJ2 P2 H8 m8 s8 r8 J2k p8=>?_⟩
     have o8:=s8.out o6 d6
     have d8:H8 D=some (.lst vs):=s8.keep D _ o6 d6
     have p18:=J1.1 m6 h6.n H6 m8 h7.n H8 s8.le s8.same (λb vs q=>s8.tup b vs q) (λb o u q=>s8.frz b o u q) p6
     refine⟨λj gl σ' H'=>∃ρa ha ma acca va,lcI (nxt kd2 y7) (tgW t2) fc2 fe gl j ρa ha acca=.ok (ρ9,acc9) h9/\Fr K ma ha.n H' σ' ρa/\Rel K ma ha H'/\H' D=some (.lst va)/\VReps K ma ha.n H' va acca.reverse/\(∀i,i<ha.n->ma i≠D)/\Stp m1 h1.n H1 ma ha.n H'/\P ma ha.n H'/\P2 ma ha.n H',
      ⟨fuel,ρ5,h7,m8,acc,vs,e11,(f5.stp s6).stp s8,r8,d8,((q3.stp s4).stp s6).stp s8,o8,(s14.trans s6).trans s8,p18,p8⟩,?_⟩
     rintro j gl σa Ha ⟨ρa,ha,ma,acca,va,ea,fra,ra,da,qa,oa,sa,pa,pb⟩
     cases gl with
     |zero=>cases ea
     |succ gl=>
      simp only[lcI]at ea
      obtain⟨b1,b2⟩:=J2k.2 ma ha Ha ra pb j
      split at ea
      .cases ea
      .rename_i hn2
       cases ea
       exact .inl ⟨b2 hn2,fl,vaq _,ρ9,h9,ma,acc9,va,e9,fra,ra,da,qa,oa,sa,pa⟩
      .rename_i w2 hn2
       obtain⟨b3,b4⟩:=b1 w2 hn2
       refine .inr ⟨b3,λy2 Hb hy2=>?_⟩
       obtain⟨sb,rb,qb⟩:=b4 y2 Hb hy2
       split at ea
       .cases ea
       .rename_i ρb ht2
        refine⟨ρa,ha,ma,w2,ρb,fra.stp sb,rb,qb,ht2,λσb fb=>?_⟩
        refine zaa ea λbv2 hc2 ec ed=>?_
        have db:Hb D=some (.lst va):=sb.keep D _ oa da
        have pab:=J1.1 ma ha.n Ha ma ha.n Hb (vac _) (λ_ _=>rfl) (λb vs q=>sb.tup b vs q) (λb o u q=>sb.frz b o u q) pa
        have pbb:=J2k.1 ma ha.n Ha ma ha.n Hb (vac _) (λ_ _=>rfl) (λb vs q=>sb.tup b vs q) (λb o u q=>sb.frz b o u q) pb
        cases bv2<;>try cases ed
        rename_i bb2
        refine⟨ρb,ha,ma,bb2,hc2,fb,rb,ec,λHc mc sc rc=>?_⟩
        have oc:=sc.out oa db
        have dc:Hc D=some (.lst va):=sc.keep D _ oa db
        have pac:=J1.1 ma ha.n Hb mc hc2.n Hc sc.le sc.same (λb vs q=>sc.tup b vs q) (λb o u q=>sc.frz b o u q) pab
        have pbc:=J2k.1 ma ha.n Hb mc hc2.n Hc sc.le sc.same (λb vs q=>sc.tup b vs q) (λb o u q=>sc.frz b o u q) pbb
        cases bb2 with
        |false=>
         simp only[vah,vbe]
         exact⟨gl,vaq _,ρb,hc2,mc,acca,va,ed,fb.stp sc,rc,dc,(qa.stp sb).stp sc,oc,(sa.trans sb).trans sc,pac,pbc⟩
        |true=>
         simp only[vbd]
         refine zaa ed λyv hd2 ef eg=>?_
         refine⟨ρb,hc2,mc,yv,hd2,fb.stp sc,rc,ef,λvd Hd md sd rd qd=>?_⟩
         have od:=sd.out oc dc
         have dd:Hd D=some (.lst va):=sd.keep D _ oc dc
         have pad:=J1.1 mc hc2.n Hc md hd2.n Hd sd.le sd.same (λb vs q=>sd.tup b vs q) (λb o u q=>sd.frz b o u q) pac
         have pbd:=J2k.1 mc hc2.n Hc md hd2.n Hd sd.le sd.same (λb vs q=>sd.tup b vs q) (λb o u q=>sd.frz b o u q) pbc
         have qad:=((qa.stp sb).stp sc).stp sd
         have hlen:=zf5 eg
         rw[vam]at hlen
         refine⟨va,dd,?_,gl,vaq _,ρb,hd2,md,yv::acca,va++[vd],eg,?_⟩
         .rw[qad.length,vdl]
          have:big=sizeLine:=rfl
          have hl2:acc9.length<=ys.length:=hlen9
          have hl3:acca.length+1<=acc9.length:=hlen
          omega
         .obtain⟨st8,r9,mv⟩:=rd.side (u:=.lst (va++[vd])) dd (λ_ z=>nomatch z) (λ_ _ z=>nomatch z) od (((sa.trans sb).trans sc).trans sd) hD
          have kt:∀b us,Hd b=some (.tup us)->upd Hd D (.lst (va++[vd])) b=some (.tup us):=λb us q=>by rw[zaf (ne_of q dd λz=>nomatch z)];exact q
          have kf:∀b o u,Hd b=some (.frz o u)->upd Hd D (.lst (va++[vd])) b=some (.frz o u):=λb o u q=>by rw[zaf (ne_of q dd λz=>nomatch z)];exact q
          refine⟨⟨(fb.stp sc).len,λi w e=>let⟨v,h1,h2⟩:=((fb.stp sc).stp sd).val i w e;⟨v,h1,mv h2⟩⟩,r9,zag,?_,od,st8,J1.1 md hd2.n Hd md hd2.n _ (vac _) (λ_ _=>rfl) kt kf pad,J2k.1 md hd2.n Hd md hd2.n _ (vac _) (λ_ _=>rfl) kt kf pbd⟩
          rw[vcs]
          exact(qad.map mv).append (.cons (mv qd) .nil)
end
noncomputable def Grow(h h':VH):Prop:=h.n<=h'.n/\h'.lo<=h.lo/\∀i,i<h.n->i<h'.lo->h'.get i=h.get i
theorem Grow.refl{h:VH}:Grow h h:=⟨vac _,vac _,λ_ _ _=>rfl⟩
theorem Grow.trans{h h1 h2:VH}(a:Grow h h1)(b:Grow h1 h2):Grow h h2:=⟨vap a.1 b.1,vap b.2.1 a.2.1,λi hi hl=>(b.2.2 i (vae hi a.1) hl).trans (a.2.2 i hi (vae hl b.2.1))⟩
theorem Grow.new{h:VH}{o:VO}:Grow h (h.new o):=⟨vdv _,vac _,λi hi _=>zad hi⟩
theorem Grow.set{h:VH}{i:Nat}{o:VO}(hi:i<h.n):Grow h (h.set i o):=by
 refine⟨vac _,?_,λj hj hl=>zc8 hi ?_⟩
 .show(if Nat.blt i h.lo then i else h.lo)<=h.lo
  split
  .rename_i q;exact vc8 (zax.mp q)
  .exact vac _
 .have hl:j< (if Nat.blt i h.lo then i else h.lo):=hl
  split at hl
  .omega
  .rename_i q
   intro z
   rw[z]at hl
   exact q (zax.mpr hl)
noncomputable def Gr{α:Type}(r:Res α)(h:VH):Prop:=∀a h',r=.ok a h'->Grow h h'
section
variable{α β:Type}{h:VH}
theorem Gr.ok{a:α}:Gr (Res.ok a h) h:=λ_ _ e=>by cases e;exact .refl
theorem Gr.no:Gr (Res.no:Res α) h:=λ_ _ e=>by cases e
theorem Gr.of{o:Option α}:Gr (Res.of o h) h:=λ_ _ e=>by cases o with|none=>cases e|some a=>cases e;exact .refl
theorem Gr.new{a:α}{o:VO}:Gr (Res.ok a (h.new o)) h:=λ_ _ e=>by cases e;exact .new
theorem Gr.set{a:α}{o o':VO}{i:Nat}(g:h.get i=some o'):Gr (Res.ok a (h.set i o)) h:=λ_ _ e=>by cases e;exact .set (zaq g)
theorem Gr.bind{r:Res α}{f:α->VH->Res β}(a:Gr r h)(b:∀x h1,Gr (f x h1) h1):Gr (r.bind f) h:=λy h' e=>by
 cases r with
 |ok x h1=>exact(a x h1 rfl).trans (b x h1 y h' e)
 |ex _ _=>cases e
 |no=>cases e
end
theorem gr_op{o:Op}{x y:W}{h:VH}:Gr (opW o x y h) h:=by
 unfold opW
 split
 .exact .of
 .exact .of
 .exact .of
 .split
  .split
   .exact .new
   .exact .no
  .exact .no
 .exact .no
theorem gr_ip{o:Op}{x y:W}{h:VH}:Gr (ipW o x y h) h:=by
 unfold ipW
 split
 .split
  .exact .ok
  .exact .ok
  .exact .of
  .exact .of
  .exact .no
 .split
  .split
   .rename_i g _ _;exact .set g
   .exact .no
  .exact .no
 .exact .no
theorem zvi{x:W}{l u:Option Int}{h:VH}:Gr (slcW x l u h) h:=by
 unfold slcW
 split
 .exact .ok
 .split
  .exact .new
  .exact .no
 .exact .no
theorem gr_bi{b:Bi}{xs:List W}{h:VH}:Gr (biW b xs h) h:=by
 cases b<;>simp only[biW]
 .unfold lenW;split<;>first|exact .of|exact .no
 .unfold listW
  split
  .split
   .exact .new
   .exact .no
  .exact .no
 .unfold ze9;split<;>first|exact .of|exact .no
 .unfold intW;split<;>first|exact .ok|exact .no
 .unfold absW;split<;>first|exact .ok|exact .no
 .unfold maxW;split<;>first|exact .ok|exact .no
 .unfold minW;split<;>first|exact .ok|exact .no
 .unfold allW
  split
  .split
   .exact .of
   .exact .no
  .exact .no
 .unfold lrngW
  split
  .split
   .exact .new
   .exact .no
  .exact .no
theorem gr_mt{m:Mt}{o:W}{xs:List W}{h:VH}:Gr (mtW m o xs h) h:=by
 unfold mtW
 split
 .split
  .split
   .rename_i g _;exact .set g
   .exact .no
  .exact .no
 .split
  .rename_i g;exact .set g
  .exact .no
 .exact .no
theorem zl1{nx:Nat->VH->Option (Option W)}{tg:W->VH->En->Option En}{c e:En->VH->Res W}(hc:∀ρ h,Gr (c ρ h) h)(he:∀ρ h,Gr (e ρ h) h):∀(f i:Nat) (ρ:En) (h:VH) (acc:List W),Gr (lcI nx tg c e f i ρ h acc) h
 |0,_,_,_,_=>.no
 |f+1,i,ρ,h,acc=>by
  simp only[lcI]
  split
  .exact .no
  .exact .ok
  .split
   .exact .no
   .refine .bind (hc _ _) λb h1=>?_
    split
    .exact .bind (he _ _) λy h2=>zl1 hc he f _ _ _ _
    .exact zl1 hc he f _ _ _ _
    .exact .no
theorem zl2{nx:Nat->VH->Option (Option W)}{tg:W->VH->En->Option En}{c:En->VH->Res W}{e:En->VH->List W->Res (En×List W)}(hc:∀ρ h,Gr (c ρ h) h)(he:∀ρ h acc,Gr (e ρ h acc) h):∀(f i:Nat) (ρ:En) (h:VH) (acc:List W),Gr (lcO nx tg c e f i ρ h acc) h
 |0,_,_,_,_=>.no
 |f+1,i,ρ,h,acc=>by
  simp only[lcO]
  split
  .exact .no
  .exact .ok
  .split
   .exact .no
   .refine .bind (hc _ _) λb h1=>?_
    split
    .exact .bind (he _ _ _) λy h2=>zl2 hc he f _ _ _ _
    .exact zl2 hc he f _ _ _ _
    .exact .no
theorem gr_lc{nx:Nat->VH->Option (Option W)}{tg:W->VH->En->Option En}{c e:En->VH->Res W}(hc:∀ρ h,Gr (c ρ h) h)(he:∀ρ h,Gr (e ρ h) h):∀(f i:Nat) (ρ:En) (h:VH) (acc:List W),Gr (lcG nx tg c e f i ρ h acc) h
 |0,_,_,_,_=>.no
 |f+1,i,ρ,h,acc=>by
  simp only[lcG]
  split
  .exact .no
  .exact .ok
  .split
   .exact .no
   .refine .bind (hc _ _) λb h1=>?_
    split
    .exact .bind (he _ _) λy h2=>gr_lc hc he f _ _ _ _
    .exact gr_lc hc he f _ _ _ _
    .exact .no
theorem zl3{nx:Nat->VH->Option (Option W)}{tg:W->VH->En->Option En}{b:En->VH->Res Fl}(hb:∀ρ h,Gr (b ρ h) h):∀(f i:Nat) (ρ:En) (h:VH),Gr (forG nx tg b f i ρ h) h
 |0,_,_,_=>.no
 |f+1,i,ρ,h=>by
  simp only[forG]
  split
  .exact .no
  .exact .ok
  .split
   .exact .no
   .refine .bind (hb _ _) λfl h1=>?_
    split
    .exact zl3 hb f _ _ _
    .exact zl3 hb f _ _ _
    .exact .ok
    .exact .ok
theorem zl4{c:En->VH->Res W}{b:En->VH->Res Fl}(hc:∀ρ h,Gr (c ρ h) h)(hb:∀ρ h,Gr (b ρ h) h):∀(f:Nat) (ρ:En) (h:VH),Gr (whlG c b f ρ h) h
 |0,_,_=>.no
 |f+1,ρ,h=>by
  simp only[whlG]
  refine .bind (hc _ _) λt h1=>?_
  split
  .exact .ok
  .refine .bind (hb _ _) λfl h2=>?_
   split
   .exact zl4 hc hb f _ _
   .exact zl4 hc hb f _ _
   .exact .ok
   .exact .ok
  .exact .no
section
variable{cl:Call}
theorem gr_ev(hcl:∀f ws h,Gr (cl f ws h) h):∀(e:E) (ρ:En) (h:VH),Gr (ev cl e ρ h) h:=by
 intro e
 induction e with
 |var i=>intro ρ h;exact .of
 |cst w=>intro ρ h;exact .ok
 |nil=>intro ρ h;exact .ok
 |cons a r i1 i2=>intro ρ h;simp only[ev];refine .bind (i1 _ _) λx h1=>.bind (i2 _ _) λy h2=>?_;split<;>first|exact .ok|exact .no
 |tup a i1=>intro ρ h;simp only[ev];refine .bind (i1 _ _) λx h1=>?_;split<;>first|(split<;>first|exact .ok|exact .no)|exact .no
 |lst a i1=>intro ρ h;simp only[ev];refine .bind (i1 _ _) λx h1=>?_;split<;>first|(split<;>first|exact .new|exact .no)|exact .no
 |dsp a i1=>
  intro ρ h;simp only[ev];refine .bind (i1 _ _) λx h1=>?_
  split
  .split
   .split
    .exact .new
    .exact .no
   .exact .no
  .exact .no
 |op o a b i1 i2=>intro ρ h;simp only[ev];exact .bind (i1 _ _) λx h1=>.bind (i2 _ _) λy h2=>gr_op
 |neg a i1=>intro ρ h;simp only[ev];refine .bind (i1 _ _) λx h1=>?_;split<;>first|exact .ok|exact .no
 |cmp c a b i1 i2=>intro ρ h;simp only[ev];exact .bind (i1 _ _) λx h1=>.bind (i2 _ _) λy h2=>.of
 |chn c d a b e i1 i2 i3=>
  intro ρ h;simp only[ev];refine .bind (i1 _ _) λx h1=>.bind (i2 _ _) λy h2=>?_
  split
  .exact .bind (i3 _ _) λz h3=>.of
  .exact .ok
  .exact .no
 |not a i1=>intro ρ h;simp only[ev];refine .bind (i1 _ _) λx h1=>?_;split<;>first|exact .ok|exact .no
 |and a b i1 i2=>intro ρ h;simp only[ev];refine .bind (i1 _ _) λx h1=>?_;split<;>first|exact i2 _ _|exact .ok|exact .no
 |or a b i1 i2=>intro ρ h;simp only[ev];refine .bind (i1 _ _) λx h1=>?_;split<;>first|exact i2 _ _|exact .ok|exact .no
 |tru a i1=>intro ρ h;simp only[ev];exact .bind (i1 _ _) λx h1=>.of
 |ite c a b i1 i2 i3=>
  intro ρ h;simp only[ev];refine .bind (i1 _ _) λx h1=>?_
  split
  .exact i2 _ _
  .exact i3 _ _
  .exact .no
 |idx a b i1 i2=>intro ρ h;simp only[ev];exact .bind (i1 _ _) λx h1=>.bind (i2 _ _) λy h2=>.of
 |slc a bl lo bh hi i1 i2 i3=>
  intro ρ h;simp only[ev];refine .bind (i1 _ _) λx h1=>.bind (i2 _ _) λy h2=>.bind (i3 _ _) λz h3=>?_
  split
  .exact zvi
  .exact .no
 |call f a i1=>intro ρ h;simp only[ev];refine .bind (i1 _ _) λx h1=>?_;split<;>first|exact hcl _ _ _|exact .no
 |bi b a i1=>intro ρ h;simp only[ev];refine .bind (i1 _ _) λx h1=>?_;split<;>first|exact gr_bi|exact .no
 |isi t a i1=>intro ρ h;simp only[ev];exact .bind (i1 _ _) λx h1=>.of
 |mt m o a i1 i2=>
  intro ρ h;simp only[ev];refine .bind (i1 _ _) λx h1=>?_
  split
  .refine .bind (i2 _ _) λy h2=>?_
   split<;>first|exact gr_mt|exact .no
  .exact .no
 |lc k a t ow ix c e i1 i2 i3=>
  intro ρ h;simp only[ev]
  refine .bind (i1 _ _) λx h1=>.bind (gr_lc i2 i3 _ _ _ _ _) λys h2=>?_
  split
  .exact .new
  .exact .no
 |lc2 k a t ow ix c k2 a2 t2 c2 e i1 i2 i3 i4 i5=>
  intro ρ h;simp only[ev]
  refine .bind (i1 _ _) λx h1=>.bind (zl2 i2 (λρ h acc=>.bind (i3 _ _) λy h2=>zl1 i4 i5 _ _ _ _ _) _ _ _ _ _) λys h2=>?_
  split
  .exact .new
  .exact .no
theorem zha(hcl:∀f ws h,Gr (cl f ws h) h):∀(s:S) (ρ:En) (h:VH),Gr (exs cl s ρ h) h:=by
 have ge:=gr_ev hcl
 intro s
 induction s with
 |skip=>intro ρ h;exact .ok
 |seq a b i1 i2=>intro ρ h;simp only[exs];refine .bind (i1 _ _) λfl h1=>?_;split<;>first|exact i2 _ _|exact .ok
 |set i e=>intro ρ h;simp only[exs];exact .bind (ge _ _ _) λw h1=>.ok
 |unp is e=>intro ρ h;simp only[exs];exact .bind (ge _ _ _) λw h1=>.of
 |aug i o e=>
  intro ρ h;simp only[exs]
  split
  .exact .bind (ge _ _ _) λy h1=>.bind gr_ip λz h2=>.ok
  .exact .no
 |put o i v=>
  intro ρ h;simp only[exs]
  refine .bind (ge _ _ _) λw h1=>.bind (ge _ _ _) λx h2=>.bind (ge _ _ _) λy h3=>?_
  split
  .split
   .split
    .rename_i g _ _ _;exact .set g
    .exact .no
   .exact .no
  .exact .no
 |ite c a b i1 i2=>
  intro ρ h;simp only[exs];refine .bind (ge _ _ _) λx h1=>?_
  split
  .exact i1 _ _
  .exact i2 _ _
  .exact .no
 |ret e=>intro ρ h;simp only[exs];exact .bind (ge _ _ _) λw h1=>.ok
 |expr e=>intro ρ h;simp only[exs];exact .bind (ge _ _ _) λw h1=>.ok
 |brk=>intro ρ h;exact .ok
 |cnt=>intro ρ h;exact .ok
 | «for» k a t b i1=>intro ρ h;simp only[exs];exact .bind (ge _ _ _) λx h1=>zl3 i1 _ _ _ _
 |whl c b i1=>intro ρ h;simp only[exs];exact zl4 (ge c) i1 _ _ _
 |tryc f a tb=>
  intro ρ h;simp only[exs];refine .bind (ge _ _ _) λy h1=>?_
  split
  .refine .bind (hcl _ _ _) λw h2=>?_
   unfold tryW
   split
   .exact .ok
   .split
    .exact .ok
    .exact .no
   .exact .no
  .exact .no
 |tel f a b s t i1 i2=>
  intro ρ h;simp only[exs];refine .bind (ge _ _ _) λy h1=>?_
  split
  .refine .bind (hcl _ _ _) λw h2=>?_
   unfold telW
   split
   .split
    .split
     .exact i2 _ _
     .exact i1 _ _
     .exact .no
    .exact i1 _ _
   .exact .ok
   .exact .no
  .exact .no
 |no=>intro ρ h;exact .no
end
theorem zhb(F:Nat->Option Fn):∀(k f:Nat) (ws:List W) (h:VH),Gr (run F k f ws h) h
 |0,_,_,_=>.no
 |k+1,f,ws,h=>by
  intro a h' e
  simp only[run]at e
  split at e
  .rename_i fn hf
   split at e
   .rename_i hl
    generalize hr:exs (run F k) fn.body (ws.map some++List.replicate (fn.n-fn.ps) none) ⟨h.n,h.n,h.os⟩=r at e
    have g:=zha (zhb F k) fn.body (ws.map some++List.replicate (fn.n-fn.ps) none) ⟨h.n,h.n,h.os⟩
    rw[hr]at g
    have lv:∀w h1,Grow ⟨h.n,h.n,h.os⟩ h1->leave h w h1=.ok a h'->Grow h h':=by
     intro w h1 g1 e1
     unfold leave at e1
     split at e1
     .cases e1;exact .refl
     .cases e1
      refine⟨g1.1,?_,λi hi hlo=>?_⟩
      .show(if Nat.ble h.lo h1.lo then h.lo else h1.lo)<=h.lo
       split
       .exact vac _
       .rename_i q
        exact Nat.le_of_not_le λz=>q (Nat.ble_eq.mpr z)
      .have hlo:i< (if Nat.ble h.lo h1.lo then h.lo else h1.lo):=hlo
       have hh:i<h1.lo:=by
        split at hlo
        .rename_i q;exact vae hlo (va2 q)
        .exact hlo
       exact g1.2.2 i hi hh
    cases r with
    |no=>cases e
    |ex _ _=>cases e
    |ok fl h1=>
     have g1:=g fl h1 rfl
     simp only[Res.bind]at e
     split at e
     .exact lv _ _ g1 e
     .exact lv _ _ g1 e
     .cases e
   .cases e
  .cases e
noncomputable abbrev RtK:=(Nat->Addr)->Nat->Hp->VK->W->Prop
noncomputable abbrev Rr(K:PySem.W.Frag):RtK:=λm n H Q w=>∀v,VRep K m n H v w->Q v H
noncomputable def FlOk(K:PySem.W.Frag)(R:RtK)(m:Nat->Addr)(n:Nat)(H:Hp)(D:Ends):Fl->Prop
 |.nx ρ=>∀σ,Fr K m n H σ ρ->D.nx σ H
 |.bk ρ=>∀σ,Fr K m n H σ ρ->D.bk σ H
 |.ct ρ=>∀σ,Fr K m n H σ ρ->D.ct σ H
 |.rt w=>R m n H D.rt w
noncomputable def lftS(K:PySem.W.Frag)(R:RtK)(f:FS):TS:=λD σ H=>∃ρ h m fl h',Fr K m h.n H σ ρ/\Rel K m h H/\f ρ h=.ok fl h'/\∀H' m',Stp m h.n H m' h'.n H'->Rel K m' h' H'->FlOk K R m' h'.n H' D fl
theorem lftS.el{K:PySem.W.Frag}{R:RtK}{D:Ends}{σ:L2.St}{H:Hp}{P:Prop}{fa:FS}(q:lftS K R fa D σ H)(k:∀ρ h m fl h',Fr K m h.n H σ ρ->Rel K m h H->fa ρ h=.ok fl h'->(∀H' m',Stp m h.n H m' h'.n H'->Rel K m' h' H'->FlOk K R m' h'.n H' D fl)->P):P:=by
 obtain⟨ρ,h,m,w,h',f,r,e,k'⟩:=q
 exact k ρ h m w h' f r e k'
theorem lftS.mk{K:PySem.W.Frag}{R:RtK}{D:Ends}{σ:L2.St}{H:Hp}{m:Nat->Addr}{ρ:En}{h h':VH}{fl:Fl}{fa:FS}(f:Fr K m h.n H σ ρ)(r:Rel K m h H)(e:fa ρ h=.ok fl h')(k:∀H' m',Stp m h.n H m' h'.n H'->Rel K m' h' H'->FlOk K R m' h'.n H' D fl):lftS K R fa D σ H:=⟨ρ,h,m,fl,h',f,r,e,k⟩
noncomputable abbrev SR(X:Cx)(R:RtK)(st:Stmt)(f:FS):Prop:=PS X st (lftS X.K R f)
noncomputable abbrev SRs(X:Cx)(R:RtK)(st:List Stmt)(f:FS):Prop:=PSs X st (lftS X.K R f)
noncomputable abbrev SS(X:Cx)(st:Stmt)(f:FS):Prop:=SR X (Rr X.K) st f
noncomputable abbrev SSs(X:Cx)(st:List Stmt)(f:FS):Prop:=SRs X (Rr X.K) st f
section
variable{X:Cx}{a b c e o:Expr}{es:List Expr}{fa fb fc fo fr:FE}{pos p:Pos}{x:Str}{st:Stmt}{sts:List Stmt}{ga gb:FS}{R:RtK}
noncomputable abbrev gSkip:FS:=λρ h=>.ok (.nx ρ) h
noncomputable abbrev gSeq(ga gb:FS):FS:=λρ h=>(ga ρ h).bind λfl h=>match fl with|.nx ρ=>gb ρ h|fl=>.ok fl h
theorem zl5:SRs X R [] gSkip:=zhw.imp λD σ H z9=>z9.el λρ h m fl h' f r e k=>by cases e;exact k H m .refl r σ f
theorem zr1:SS X (.Pass pos) gSkip:=zqz.imp λD σ H z9=>z9.el λρ h m fl h' f r e k=>by cases e;exact k H m .refl r σ f
theorem zvj:SS X (.Break pos) (λρ h=>.ok (.bk ρ) h):=znv.imp λD σ H z9=>z9.el λρ h m fl h' f r e k=>by cases e;exact k H m .refl r σ f
theorem zvk:SS X (.Continue pos) (λρ h=>.ok (.ct ρ) h):=zhx.imp λD σ H z9=>z9.el λρ h m fl h' f r e k=>by cases e;exact k H m .refl r σ f
theorem zi5(h1:SR X R st ga)(h2:SRs X R sts gb):SRs X R (st::sts) (gSeq ga gb):=(zcs h1 h2).imp λD σ H z9=>z9.el λρ h m fl h' f r e k=>by
 refine zaa e λfl1 h1 e1 e2=>?_
 refine(.mk f r e1 λH1 m1 s1 r1=>?_)
 cases fl1 with
 |nx ρ1=>exact λσ1 f1=>⟨ρ1,h1,m1,fl,h',f1,r1,e2,λH' m' s' r'=>k H' m' (s1.trans s') r'⟩
 |bk ρ1=>cases e2;exact k H1 m1 s1 r1
 |ct ρ1=>cases e2;exact k H1 m1 s1 r1
 |rt w=>cases e2;exact k H1 m1 s1 r1
theorem ss_no:SS X st (λ_ _=>.no):=znw.imp λD σ H z9=>z9.el λρ h m fl h' f r e k=>by cases e
noncomputable def zfe:Expr->Bool
 |.ListComp .. |.SetComp .. |.DictComp ..=>false
 |_=>true
theorem zf6{e:Expr}{t:Option Expr}{l:Nat}{env:Env}(h:zfe e=true):swapsWith e t l env=pure false:=by
 cases e<;>first|rfl|cases h
theorem zl6(he:SE X e fa)(hs:zfe e=true):SS X (.Expr e pos) (λρ h=>(fa ρ h).bind λ_ h=>.ok (.nx ρ) h):=(zkq he (zf6 hs)).imp λD σ H z9=>z9.el λρ h m fl h' f r e k=>by
 refine zaa e λw h1 e1 e2=>?_
 cases e2
 exact(.mk f r e1 λv H1 m1 s1 r1 q1=>k H1 m1 s1 r1 σ (f.stp s1))
theorem zvl(he:SE X e fa):SS X (.Return (some e) pos) (λρ h=>(fa ρ h).bind λw h=>.ok (.rt w) h):=(zgr he).imp λD σ H z9=>z9.el λρ h m fl h' f r e k=>by
 refine zaa e λw h1 e1 e2=>?_
 cases e2
 exact(.mk f r e1 λv H1 m1 s1 r1 q1=>k H1 m1 s1 r1 v q1)
theorem zr2:SS X (.Return none pos) (λρ h=>(Res.ok W.non h).bind λw h=>.ok (.rt w) h):=zq0.imp λD σ H z9=>z9.el λρ h m fl h' f r e k=>by
 cases e
 exact k H m .refl r .non .non
noncomputable abbrev gSet(i:Nat)(fa:FE):FS:=λρ h=>(fa ρ h).bind λw h=>.ok (.nx (ρ.set i (some w))) h
theorem zl7{K:PySem.W.Frag}{i:Nat}{D:Ends}{σ:L2.St}{H:Hp}(q:lftS K R (gSet i fa) D σ H):lft K fa σ H λv H1=>gName i v σ H1 D.nx:=by
 refine q.el λρ h m fl h' f r e k=>?_
 refine zaa e λw h1 e1 e2=>?_
 cases e2
 exact(.mk f r e1 λv H1 m1 s1 r1 q1=>k H1 m1 s1 r1 _ ((f.stp s1).set q1 i))
theorem zp7{i:Nat}{pos':Pos}(hN:X.N.Nodup)(hi:X.N[i]?=some x)(hx:Loc X.env.scope x)(hf:X.fn x=true\/X.env.scope.names.lookup x=some .local)(he:SE X e fa)
 (hs:swapsWith e (some (.Name x pos')) pos.line X.env=pure false):SS X (.Assign [.Name x pos'] e pos) (gSet i fa):=(zpm hN hi hx he hs hf).imp λD σ H q=>zl7 q
theorem zot{i:Nat}{pos' lp:Pos}{ow fr:List Str}{ix:List Nat}{scope:Scope}{tg iter elt:Expr}{ifs:List Expr}{kd:Kd}{t:Tg}{fe:FE}(hN:X.N.Nodup)(hi:X.N[i]?=some x)(hx:Loc X.env.scope x)(hf:X.fn x=true\/X.env.scope.names.lookup x=some .local)
 (S:CompScope X ow fr ix scope) (hc:X.calm=true) (hI:PI X tg iter (lftI X.K kd fa)) (hg:∀C s₀ H₀ ex,PG (X.comp (ow++fr) scope C s₀ H₀ ex) tg (lftG X.K t)) (ht:∀C s₀ H₀ ex,PTs (X.comp (ow++fr) scope C s₀ H₀ ex) ifs (lftT X.K fc))
 (he:∀C s₀ H₀ ex,PE (X.comp (ow++fr) scope C s₀ H₀ ex) elt (lft X.K fe)) (hsw:swapsWith (.ListComp elt [⟨tg,iter,ifs,0⟩] scope lp) (some (.Name x pos')) pos.line X.env=pure true) (hs:∀x,foldedSetIterable iter X.env x=pure x) :
 SS X (.Assign [.Name x pos'] (.ListComp elt [⟨tg,iter,ifs,0⟩] scope lp) pos) (gSet i (gLc kd fa t ow.length ix fc fe)):=
 (zob hN hi hx S hc hI hg ht he hsw hf hs).imp λD σ H q=>lc_ok (zl7 q)
theorem se_lc{lp:Pos}{ow fr:List Str}{ix:List Nat}{scope:Scope}{tg iter elt:Expr}{ifs:List Expr}{kd:Kd}{t:Tg}{fe:FE}
 (S:CompScope X ow fr ix scope) (hc:X.calm=true) (hI:PI X tg iter (lftI X.K kd fa)) (hg:∀C s₀ H₀ ex,PG (X.comp (ow++fr) scope C s₀ H₀ ex) tg (lftG X.K t)) (ht:∀C s₀ H₀ ex,PTs (X.comp (ow++fr) scope C s₀ H₀ ex) ifs (lftT X.K fc))
 (he:∀C s₀ H₀ ex,PE (X.comp (ow++fr) scope C s₀ H₀ ex) elt (lft X.K fe)) (hs:∀x,foldedSetIterable iter X.env x=pure x) :
 SE X (.ListComp elt [⟨tg,iter,ifs,0⟩] scope lp) (gLc kd fa t ow.length ix fc fe):=(pe_lc S hc hI hg ht he hs).imp λσ H Q q=>lc_ok q
theorem zvm{lp:Pos}{ow fr:List Str}{ix:List Nat}{scope:Scope}{tg iter elt tg2 iter2:Expr}{ifs ifs2:List Expr}{kd kd2:Kd}{t t2:Tg}{fe fa2 fc2:FE}
 (S:CompScope X ow fr ix scope) (hc:X.calm=true) (hI:PI X tg iter (lftI X.K kd fa)) (hg:∀C s₀ H₀ ex,PG (X.comp (ow++fr) scope C s₀ H₀ ex) tg (lftG X.K t)) (ht:∀C s₀ H₀ ex,PTs (X.comp (ow++fr) scope C s₀ H₀ ex) ifs (lftT X.K fc))
 (hI2:∀C s₀ H₀ ex,PI (X.comp (ow++fr) scope C s₀ H₀ ex) tg2 iter2 (lftI X.K kd2 fa2)) (hg2:∀C s₀ H₀ ex,PG (X.comp (ow++fr) scope C s₀ H₀ ex) tg2 (lftG X.K t2)) (ht2:∀C s₀ H₀ ex,PTs (X.comp (ow++fr) scope C s₀ H₀ ex) ifs2 (lftT X.K fc2))
 (he:∀C s₀ H₀ ex,PE (X.comp (ow++fr) scope C s₀ H₀ ex) elt (lft X.K fe)) (hs:∀x,foldedSetIterable iter X.env x=pure x) (hs2:∀C s₀ H₀ ex x,foldedSetIterable iter2 (X.comp (ow++fr) scope C s₀ H₀ ex).env x=pure x) :
 SE X (.ListComp elt [⟨tg,iter,ifs,0⟩,⟨tg2,iter2,ifs2,0⟩] scope lp) (gLc2 kd fa t ow.length ix fc kd2 fa2 t2 fc2 fe):=
 (pe_cg zix rfl S hc hI hg ht (λC s₀ H₀ ex D=>ziw (X:=X.comp (ow++fr) scope C s₀ H₀ ex) hc rfl (hI2 C s₀ H₀ ex) (hg2 C s₀ H₀ ex) (ht2 C s₀ H₀ ex) (he C s₀ H₀ ex) (hs2 C s₀ H₀ ex) D) hs).imp λσ H Q q=>zp6 q
theorem zl8{i:Nat}{pos' lp:Pos}{ow fr:List Str}{ix:List Nat}{scope:Scope}{tg iter elt tg2 iter2:Expr}{ifs ifs2:List Expr}{kd kd2:Kd}{t t2:Tg}{fe fa2 fc2:FE}(hN:X.N.Nodup)(hi:X.N[i]?=some x)(hx:Loc X.env.scope x)(hf:X.fn x=true\/X.env.scope.names.lookup x=some .local)
 (S:CompScope X ow fr ix scope) (hc:X.calm=true) (hI:PI X tg iter (lftI X.K kd fa)) (hg:∀C s₀ H₀ ex,PG (X.comp (ow++fr) scope C s₀ H₀ ex) tg (lftG X.K t)) (ht:∀C s₀ H₀ ex,PTs (X.comp (ow++fr) scope C s₀ H₀ ex) ifs (lftT X.K fc))
 (hI2:∀C s₀ H₀ ex,PI (X.comp (ow++fr) scope C s₀ H₀ ex) tg2 iter2 (lftI X.K kd2 fa2)) (hg2:∀C s₀ H₀ ex,PG (X.comp (ow++fr) scope C s₀ H₀ ex) tg2 (lftG X.K t2)) (ht2:∀C s₀ H₀ ex,PTs (X.comp (ow++fr) scope C s₀ H₀ ex) ifs2 (lftT X.K fc2))
 (he:∀C s₀ H₀ ex,PE (X.comp (ow++fr) scope C s₀ H₀ ex) elt (lft X.K fe)) (hsw:swapsWith (.ListComp elt [⟨tg,iter,ifs,0⟩,⟨tg2,iter2,ifs2,0⟩] scope lp) (some (.Name x pos')) pos.line X.env=pure true) (hs:∀x,foldedSetIterable iter X.env x=pure x) (hs2:∀C s₀ H₀ ex x,foldedSetIterable iter2 (X.comp (ow++fr) scope C s₀ H₀ ex).env x=pure x) :
 SS X (.Assign [.Name x pos'] (.ListComp elt [⟨tg,iter,ifs,0⟩,⟨tg2,iter2,ifs2,0⟩] scope lp) pos) (gSet i (gLc2 kd fa t ow.length ix fc kd2 fa2 t2 fc2 fe)):=
 (zoe zix (λ_=>rfl) hN hi hx S hc hI hg ht (λC s₀ H₀ ex D=>ziw (X:=X.comp (ow++fr) scope C s₀ H₀ ex) hc rfl (hI2 C s₀ H₀ ex) (hg2 C s₀ H₀ ex) (ht2 C s₀ H₀ ex) (he C s₀ H₀ ex) (hs2 C s₀ H₀ ex) D) hsw hf hs).imp λD σ H q=>zp6 (zl7 q)
noncomputable def noTup:Expr->Bool
 |.Tuple ..=>false
 |_=>true
theorem zl9{es:List Expr}{k:Nat}{e:Expr}{l:Nat}{p:Pos}{env:Env}:swapsWithSole [.Tuple es k p] e l env=pure false:=by
 cases e<;>rfl
theorem zka{es:List Expr}{k:Nat}{p:Pos}{e:Expr}{env:Env}(h:noTup e=true):swappedStores [.Tuple es k p] e env=pure none:=by
 cases e<;>first|rfl|cases h
theorem zvn{is:List Nat}{k:Nat}(hc:X.calm=true)(hN:X.N.Nodup)(hs:Paired (NmOk X) es is)(he:SE X e fa)(ht:noTup e=true) :
 SS X (.Assign [.Tuple es k p] e pos) (λρ h=>(fa ρ h).bind λw h=>.of ((tgW (.many is) w h ρ).map .nx) h):=(zpl he (zl0 hc hN hs) zl9 (zka ht) rfl).imp λD σ H z9=>z9.el λρ h m fl h' f r e k=>by
 refine zaa e λw h1 e1 e2=>?_
 obtain⟨e2,e3⟩:=of_ok e2
 subst e3
 cases z:tgW (.many is) w h' ρ with
 |none=>rw[z]at e2;cases e2
 |some ρ'=>
  rw[z]at e2;cases e2
  exact(.mk f r e1 λv H1 m1 s1 r1 q1=>(.mk (f.stp s1) r1 q1 z λσ' f'=>k H1 m1 s1 r1 σ' f'))
noncomputable def zdb:Expr->Bool
 |.Slice ..=>false
 |_=>true
theorem zkb{o i:Expr}{p:Pos}{env:Env}(h:zdb i=true)(v:Value):assign (.Subscript o i p) env v=(do
 let ov <-holding [v] (eval o env)
 let iv <-holding [v,ov] (eval i env)
 standAt p
 holding [v,ov,iv] (setItem ov iv v)
 release [v,ov,iv] []):=by
 cases i<;>first|rfl|cases h
noncomputable abbrev gPut(fo fi fv:FE):FS:=λρ h=>(fv ρ h).bind λw h=>(fo ρ h).bind λx h=>(fi ρ h).bind λy h=>match x,y with
 |.ref a,.int j=>(match h.get a with
  |some (.lst ws)=>(match L2.ixN ws.length j with
   |some k=>.ok (.nx ρ) (h.set a (.lst (ws.set k w)))
   |none=>.no)
  |_=>.no)
 |_,_=>.no
theorem zma{o i e:Expr}{l:Nat}{p:Pos}{env:Env}:swapsWithSole [.Subscript o i p] e l env=pure false:=by
 cases e<;>rfl
theorem zh7{o i e:Expr}{p:Pos}{env:Env}:swappedStores [.Subscript o i p] e env=pure none:=by
 cases e<;>rfl
theorem zvo(hu:X.A.units+2<cLine)(ho:SE X o fo)(hi:SE X a fa)(hv:SE X e fb)(hs:zdb a=true):SS X (.Assign [.Subscript o a p] e pos) (gPut fo fa fb):=
 (zpl hv (ztj ho hi zn8 (zkb hs)) zma zh7 rfl).imp λD σ H z9=>z9.el λρ h m fl h' f r e k=>by
   refine zaa e λw h1 e1 e2=>?_
   refine zaa e2 λx h2 e3 e4=>?_
   refine zaa e4 λy h3 e5 e6=>?_
   refine(.mk f r e1 λv H1 m1 s1 r1 q1=>(.mk (f.stp s1) r1 e3 λvo H2 m2 s2 r2 q2=>(.mk ((f.stp s1).stp s2) r2 e5 λvi H3 m3 s3 r3 q3=>?_)))
   split at e6
   .rename_i l j
    split at e6
    .rename_i ws g
     split at e6
     .rename_i kk hk
      cases e6
      cases q3
      have q2':=q2.stp s3
      cases q2'
      obtain⟨vs,p1,p2⟩:=r3.lst g
      refine⟨m3 l,vs,j,kk,rfl,rfl,p1,by rw[p2.length];exact hk,?_⟩
      have qv:=((q1.stp s2).stp s3)
      obtain⟨st,r'⟩:=r3.write (i:=l) (o:=.lst (ws.set kk w)) (u:=.lst (vs.set kk v)) (zaq g) p1 (λ_ z=>nomatch z) (λ_ _ z=>nomatch z) λst=>⟨_,zag,VReps.set (qv.stp st) kk (p2.stp st)⟩
      exact k _ m3 (((s1.trans s2).trans s3).trans st) r' σ ((((f.stp s1).stp s2).stp s3).stp st)
     .cases e6
    .cases e6
   .cases e6
theorem zh8{M:Model}{A:Around}{E:Value->Shared->Prop}{s:Shared}{a b:Value}{T id:String}{Q:Value->Shared->Prop}(ha:s.TypeIs a T)(hb:s.TypeIs b T)
 (hI:typeLookup (.type T) (dunderI "add")=pure (some (.builtin id))) (hq:isSeqSlot (some (.builtin id))=true) (hfill:fillsNumberSlot (.type T) "add" = pure false) (hc:wpAny M A (call (.builtin id) [a,b]) Q E s):wpAny M A (inplaceOp .Add a b) Q E s:=by
 unfold inplaceOp
 refine vbs ?_
 have h1:fillsInplaceSlot (.type T) "add" (Operator.Add == .Add)=pure false:=by
  unfold fillsInplaceSlot
  show(typeLookup (.type T) (dunderI "add") >>= λfi=>pure (fi.isSome && !isSeqSlot fi))=_
  rw[hI,vdy,hq];rfl
 have h2:seqSlot? (.type T) (dunderI "add")=pure (some (.builtin id)):=by
  unfold seqSlot?
  rw[hI,vdy,hq];rfl
 refine vab (wpAny_typeOf ha (vab (vd8 h1 ?_)))
 show wpAny M A (if false=true then _ else _) Q E s
 rw[if_neg va0]
 refine vab (binaryOp1_none (nm:="add") ha hb hfill ?_)
 refine vab (vd8 h2 ?_)
 exact vab (vd5 hc)
noncomputable def rIcat:R2:=λx y H Q=>∃l b xs zs,x=.ref l/\y=.ref b/\H l=some (.lst xs)/\H b=some (.lst zs)/\xs.length+zs.length<=sizeLine/\Q (.ref l) (upd H l (.lst (xs++zs)))
theorem zvp:PIp X .Add rIcat:=by
 intro pins s σ H x y v u Q I rx ry h
 obtain⟨l,b,xs,zs,rfl,rfl,hH,hB,hz,q⟩:=h
 cases rx
 cases ry
 obtain⟨z,its,n,r,hl,e⟩:=I.lstM hH
 obtain⟨z2,its2,n2,r2,hl2,e2⟩:=I.lstM hB
 have hsz:its.toArray.size+its2.toArray.size<=sizeLine:=by rw[vag,vag];omega
 have hlong:¬(!its.toArray.isEmpty&&Builtin.List.listTooLong (its.toArray.size+its2.toArray.size))=true:=by
  rw[zir hsz,Bool.and_false]
  exact va0
 refine zh8 (T:="list") (id:="list.__iadd__") ⟨_,e,rfl⟩ ⟨_,e2,rfl⟩ PySem.F.slot_list_iadd.lookup (by decide +kernel) noFill_list_add ?_
 refine vdd PySem.F.slot_list_iadd ⟨_,e,rfl⟩ PySem.F.entry_list_iadd (PySem.F.args_list_iadd_2 _ _)
  (AutoSeq1.list___iadd___list_list_0 l its.toArray n b its2.toArray n2 hlong (by rw[vag];omega) (by omega)) ⟨e,e2,?_⟩
 refine⟨.ref l,_,I.lset (its':=its++its2) hH e (by simp) (r.append r2) ?_,rfl,q⟩
 rw[vak]
 omega
noncomputable def ipOf:Operator->Option Op
 |.Add=>some .add|.Sub=>some .sub|.Mult=>some .mul|.FloorDiv=>some .fdiv
 |_=>none
noncomputable def rIp:Op->R2
 |.mul=>rI CMul λi j=>.int (i*j)
 |.fdiv=>rI CDiv λi j=>.int (i/j)
 |.add=>λx y H Q=>ipI (λi j=>i+j) x y H Q\/rIcat x y H Q
 |.sub=>ipI λi j=>i-j
 |_=>λ_ _ _ _=>False
theorem ip_ok{O:Operator}{o:Op}(e:ipOf O=some o):PIp X O (rIp o):=by
 cases O<;>cases e
 .intro pins s σ H x y v u Q I rx ry q
  rcases q with q|q
  .exact ztl pins s σ H x y v u Q I rx ry q
  .exact zvp pins s σ H x y v u Q I rx ry q
 .exact ztm
 .exact zq3
 .exact zn0
theorem zvq{K:PySem.W.Frag}{O:Operator}{o:Op}(e:ipOf O=some o):OpV K (rIp o) (ipW o):=by
 intro m h H v u x y w h' Q r qv qu e2 k
 unfold ipW at e2
 split at e2
 .rename_i i j
  cases qv;cases qu
  split at e2
  .cases e2;exact .inl ⟨i,j,rfl,rfl,Wants.here k r (.int _)⟩
  .cases e2;exact⟨i,j,rfl,rfl,Wants.here k r (.int _)⟩
  .obtain⟨e2,rfl⟩:=of_ok e2
   cases z:opI .mul i j with
   |none=>rw[z]at e2;cases e2
   |some t=>
    rw[z]at e2;cases e2
    obtain⟨c1,rfl⟩:=zlu z
    exact⟨i,j,rfl,rfl,c1,Wants.here k r (.int _)⟩
  .obtain⟨e2,rfl⟩:=of_ok e2
   cases z:opI .fdiv i j with
   |none=>rw[z]at e2;cases e2
   |some t=>
    rw[z]at e2;cases e2
    obtain⟨c1,rfl⟩:=zlu z
    exact⟨i,j,rfl,rfl,c1,Wants.here k r (.int _)⟩
  .cases e2
 .rename_i i j
  split at e2
  .rename_i xs ys g1 g2
   split at e2
   .rename_i hz
    cases e2
    cases qv;cases qu
    obtain⟨vs,p1,p2⟩:=r.lst g1
    obtain⟨us,p3,p4⟩:=r.lst g2
    refine .inr ⟨m i,m j,vs,us,rfl,rfl,p1,p3,by rw[p2.length,p4.length];exact va2 hz,?_⟩
    obtain⟨st,r'⟩:=r.write (i:=i) (o:=.lst (xs++ys)) (u:=.lst (vs++us)) (zaq g1) p1 (λ_ z=>nomatch z) (λ_ _ z=>nomatch z) λst=>⟨_,zag,(p2.stp st).append (p4.stp st)⟩
    exact k _ _ m st r' (.ref (show i<h.n from zaq g1))
   .cases e2
  .cases e2
 .cases e2
noncomputable abbrev gAug(i:Nat)(o:Op)(fa:FE):FS:=λρ h=>match(ρ[i]?).join with
 |some x=>(fa ρ h).bind λy h=>(ipW o x y h).bind λz h=>.ok (.nx (ρ.set i (some z))) h
 |none=>.no
theorem zvr{i:Nat}{pos':Pos}{O:Operator}{o:Op}(eo:ipOf O=some o)(hN:X.N.Nodup)(hi:X.N[i]?=some x)(hx:Loc X.env.scope x)(hf:X.fn x=true\/X.env.scope.names.lookup x=some .local)(he:SE X e fa) :
 SS X (.AugAssign (.Name x pos') O e pos) (gAug i o fa):=(ztk hN hi hx he (ip_ok eo) hf).imp λD σ H z9=>z9.el λρ h m fl h' f r e k=>by
 have e:gAug i o fa ρ h=.ok fl h':=e
 simp only[gAug]at e
 cases z:(ρ[i]?).join with
 |none=>rw[z]at e;cases e
 |some x=>
  rw[z]at e
  simp only at e
  refine zaa e λy h1 e1 e2=>?_
  refine zaa e2 λw h2 e3 e4=>?_
  cases e4
  have e5:ρ[i]?=some (some x):=by
   cases q:ρ[i]? with
   |none=>rw[q]at z;cases z
   |some o=>rw[q]at z;rw[<-z];rfl
  obtain⟨v,p1,p2⟩:=f.val i x e5
  refine⟨v,p1,ρ,h,m,y,h1,f,r,e1,λu H1 m1 s1 r1 q1=>zvq eo m1 h1 H1 v u x y w h' _ r1 (p2.stp s1) q1 e3 λv' H' m' s' r' q'=>?_⟩
  exact k H' m' (s1.trans s') r' _ (((f.stp s1).stp s').set q' i)
noncomputable abbrev gIf(fc:FE)(ga gb:FS):FS:=λρ h=>(fc ρ h).bind λx h=>match x with|.bl true=>ga ρ h|.bl false=>gb ρ h|_=>.no
variable{sa sb:List Stmt}
theorem zp8(hc:ST X c fc)(ha:SRs X R sa ga)(hb:SRs X R sb gb):SR X R (.If c sa sb pos) (gIf fc ga gb):=(ps_if hc ha hb).imp λD σ H z9=>z9.el λρ h m fl h' f r e k=>by
 refine zaa e λx h1 e1 e2=>?_
 cases x<;>try cases e2
 rename_i c
 refine(.mk f r e1 λH1 m1 s1 r1=>?_)
 cases c with
 |true=>rw[if_pos rfl];exact(.mk (f.stp s1) r1 e2 λH' m' s' r'=>k H' m' (s1.trans s') r')
 |false=>simp only[vah,vbe];exact(.mk (f.stp s1) r1 e2 λH' m' s' r'=>k H' m' (s1.trans s') r')
theorem zr3{nx:Nat->VH->Option (Option W)}{tg:W->VH->En->Option En}{g:FS}{f i:Nat}{ρ:En}{h:VH}{fl:Fl}{h':VH}(q:forG nx tg g (f+1) i ρ h=.ok fl h'):∃o,nx i h=some o:=by
 simp only[forG]at q
 split at q
 .cases q
 .exact⟨_,by assumption⟩
 .exact⟨_,by assumption⟩
noncomputable abbrev gFor(kd:Kd)(fa:FE)(t:Tg)(g:FS):FS:=λρ h=>(fa ρ h).bind λx h=>forG (nxt kd x) (tgW t) g fuel 0 ρ h
theorem zvs{K:PySem.W.Frag}{kd:Kd}{t:Tg}{D:Ends}{σ:L2.St}{H:Hp}(q:lftS K R (gFor kd fa t ga) D σ H):tFor (lftI K kd fa) (lftG K t) (lftS K R ga) D σ H:=by
 refine q.el λρ h m fl h' f r e k=>?_
 refine zaa e λx h1 e1 e2=>?_
 refine(.mk f r e1 (zr3 (f:=999999) e2) λJ P H1 m1 s1 r1 J1 p1=>?_)
 refine⟨λi fu σ' H'=>∃ρ' h3 m3,forG (nxt kd x) (tgW t) ga fu i ρ' h3=.ok fl h'/\Fr K m3 h3.n H' σ' ρ'/\Rel K m3 h3 H'/\Stp m1 h1.n H1 m3 h3.n H'/\P m3 h3.n H',⟨fuel,ρ,h1,m1,e2,f.stp s1,r1,.refl,p1⟩,?_⟩
 rintro i fu σ' H' ⟨ρ',h3,m3,e3,f3,r3,s3,p3⟩
 cases fu with
 |zero=>cases e3
 |succ fu=>
  simp only[forG]at e3
  obtain⟨j1,j2⟩:=J1.2 m3 h3 H' r3 p3 i
  split at e3
  .cases e3
  .rename_i hn
   cases e3
   exact .inl ⟨j2 hn,k H' m3 (s1.trans s3) r3 σ' f3⟩
  .rename_i w hn
   obtain⟨j3,j4⟩:=j1 w hn
   split at e3
   .cases e3
   .rename_i ρ4 ht
    refine zaa e3 λfl5 h5 e5 e6=>?_
    refine .inr ⟨j3,λσ6 H6=>∃ρ6 m6,forG (nxt kd x) (tgW t) ga fu (i+1) ρ6 h5=.ok fl h'/\Fr K m6 h5.n H6 σ6 ρ6/\Rel K m6 h5 H6/\Stp m1 h1.n H1 m6 h5.n H6/\P m6 h5.n H6,λσ6 H6 ⟨ρ6,m6,a1,a2,a3,a4,a5⟩=>⟨fu,vaq _,ρ6,h5,m6,a1,a2,a3,a4,a5⟩,λy H4 hy=>?_⟩
    obtain⟨s4,r4,q4⟩:=j4 y H4 hy
    refine⟨ρ',h3,m3,w,ρ4,f3.stp s4,r4,q4,ht,λσ5 f5=>⟨ρ4,h3,m3,fl5,h5,f5,r4,e5,λH6 m6 s6 r6=>?_⟩⟩
    have p4:=J1.1 m3 h3.n H' m3 h3.n H4 (vac _) (λ_ _=>rfl) (λb vs q=>s4.tup b vs q) (λb o u q=>s4.frz b o u q) p3
    have p6:=J1.1 m3 h3.n H4 m6 h5.n H6 s6.le s6.same (λb vs q=>s6.tup b vs q) (λb o u q=>s6.frz b o u q) p4
    have s16:=(s3.trans s4).trans s6
    cases fl5 with
    |nx ρ6=>exact λσ6 f6=>⟨ρ6,m6,e6,f6,r6,s16,p6⟩
    |ct ρ6=>exact λσ6 f6=>⟨ρ6,m6,e6,f6,r6,s16,p6⟩
    |bk ρ6=>cases e6;exact λσ6 f6=>k H6 m6 (s1.trans s16) r6 σ6 f6
    |rt w6=>cases e6;exact k H6 m6 (s1.trans s16) r6
theorem zp9{kd:Kd}{t:Tg}{tg iter:Expr}(hp:PassesOwn (model X.prog X.w) X.A X.env X.xe)(hc:X.calm=true)(hI:PI X tg iter (lftI X.K kd fa))(hg:PG X tg (lftG X.K t))(hb:SRs X R sa ga)(hs:∀x,foldedSetIterable iter X.env x=pure x) :
 SR X R (.For tg iter sa [] pos) (gFor kd fa t ga):=(ztp hp hc hI hg hb hs).imp λD σ H q=>zvs q
theorem zvt(hp:PassesOwn (model X.prog X.w) X.A X.env X.xe)(hc:ST X c fc)(hb:SSs X sa ga):SS X (.While c sa [] pos) (λρ h=>whlG fc ga fuel ρ h):=(zny hp hc hb).imp λD σ H z9=>z9.el λρ h m fl h' f r e k=>by
 refine⟨λfu σ' H'=>∃ρ' h3 m3,whlG fc ga fu ρ' h3=.ok fl h'/\Fr X.K m3 h3.n H' σ' ρ'/\Rel X.K m3 h3 H'/\Stp m h.n H m3 h3.n H',⟨fuel,ρ,h,m,e,f,r,.refl⟩,?_⟩
 rintro fu σ' H' ⟨ρ',h3,m3,e3,f3,r3,s3⟩
 cases fu with
 |zero=>cases e3
 |succ fu=>
  simp only[whlG]at e3
  refine zaa e3 λx h4 e4 e5=>?_
  cases x<;>try cases e5
  rename_i b
  refine⟨ρ',h3,m3,b,h4,f3,r3,e4,λH4 m4 s4 r4=>?_⟩
  cases b with
  |false=>cases e5;simp only[vah,vbe];exact k H4 m4 (s3.trans s4) r4 σ' (f3.stp s4)
  |true=>
   simp only[vbd]
   refine zaa e5 λfl5 h5 e6 e7=>?_
   refine⟨λσ6 H6=>∃ρ6 m6,whlG fc ga fu ρ6 h5=.ok fl h'/\Fr X.K m6 h5.n H6 σ6 ρ6/\Rel X.K m6 h5 H6/\Stp m h.n H m6 h5.n H6,λσ6 H6 ⟨ρ6,m6,a1,a2,a3,a4⟩=>⟨fu,vaq _,ρ6,h5,m6,a1,a2,a3,a4⟩,?_⟩
   refine⟨ρ',h4,m4,fl5,h5,f3.stp s4,r4,e6,λH6 m6 s6 r6=>?_⟩
   have s16:=(s3.trans s4).trans s6
   cases fl5 with
   |nx ρ6=>exact λσ6 f6=>⟨ρ6,m6,e7,f6,r6,s16⟩
   |ct ρ6=>exact λσ6 f6=>⟨ρ6,m6,e7,f6,r6,s16⟩
   |bk ρ6=>cases e7;exact λσ6 f6=>k H6 m6 s16 r6 σ6 f6
   |rt w6=>cases e7;exact λv6 q6=>k H6 m6 s16 r6 v6 q6
end
theorem zcu{n:Str}:∀{ps:List Str} {us:List Value},us.length=ps.length->n∈ps->((ps.zip us).lookup n).isSome=true
 |[],_,_,h=>by cases h
 |p::ps,[],hl,_=>by cases hl
 |p::ps,u::us,hl,h=>by
  rw[vby,vaz]
  by_cases e:(n==p)=true
  .rw[e];rfl
  .have e':(n==p)=false:=by simpa using e
   rw[e']
   refine zcu (by simpa using hl) ?_
   rcases vat.mp h with z|z
   .rw[z]at e';simp at e'
   .exact z
theorem zou{n:Str}{u:Value}{p:Str}{ps:List Str}{us:List Value}(h:n≠p):((p,u)::ps.zip us).lookup n=(ps.zip us).lookup n:=by
 rw[vaz]
 have e':(n==p)=false:=by simpa using h
 rw[e']
theorem zi6{α β:Type}{f g:α->Option β}:∀{l:List α},(∀a∈l,f a=g a)->l.filterMap f=l.filterMap g
 |[],_=>rfl
 |a::r,h=>by
  rw[vcb,vcb,h a vaw,zi6 λb hb=>h b (vao _ hb)]
theorem zf7:∀{ps:List Str} {us:List Value},us.length=ps.length->ps.Nodup->ps.filterMap (λn=>((ps.zip us).lookup n).map (n,·))=ps.zip us
 |[],_,_,_=>rfl
 |p::ps,[],hl,_=>by cases hl
 |p::ps,u::us,hl,hn=>by
  obtain⟨h1,h2⟩:=vdp.mp hn
  rw[vby,vcb]
  have e:((p,u)::ps.zip us).lookup p=some u:=by rw[vaz];simp
  rw[e]
  simp only[vbb]
  congr 1
  have ih:=zf7 (ps:=ps) (us:=us) (by simpa using hl) h2
  refine Eq.trans ?_ ih
  exact zi6 λn hn'=>by
   have hne:n≠p:=λz=>h1 (by rw[<-z];exact hn')
   rw[zou hne]
theorem zff{x qual:Str}{args:List Arg}{body:List Stmt}{sc:Scope}{kV doc pm:Value}{an:Option Addr}{cdv ct:Value}{us:List Value}{df:List Expr}(hl:us.length=(args.map (·.arg)).length)(hn:(args.map (·.arg)).Nodup) :
 bindArgs (PySem.W.fnOf x qual ⟨[],args,none,[],[],none,df⟩ body sc .none kV doc pm an cdv ct) ⟨us,[]⟩=pure ((args.map (·.arg)).zip us):=by
 have hs:seqItems? Value.none=pure none:=rfl
 have hm:((args.map (·.arg)).filter λn=>(((args.map (·.arg)).zip us).lookup n).isNone)=[]:=by
  rw[List.filter_eq_nil_iff]
  intro n hn'
  have:=zcu hl hn'
  cases q:((args.map (·.arg)).zip us).lookup n with
  |none=>rw[q]at this;cases this
  |some v=>simp
 unfold bindArgs
 simp only[PySem.W.fnOf,vdb,vcj,va5,hs,vdy]
 have hg:¬(us.length> (args.map (·.arg)).length):=by omega
 have h0:(#[]:Array Value).toList=[]:=rfl
 simp only[Option.getD_none,h0,vdx,vdy,List.drop_nil,vdq,Nat.sub_zero,List.take_length,hm,List.isEmpty_nil,vd2,List.drop_length,List.zip_nil_right,List.zip_nil_left,vbp hg,vc4,vah,vbe,zf7 hl hn]
theorem zhc{z:Str}:∀{qs:List Str} {us:List Value},us.length=qs.length->(qs++[z]).zip us=qs.zip us
 |[],[],_=>rfl
 |[],_::_,h=>by cases h
 |_::_,[],h=>by cases h
 |q::qs,u::us,h=>by
  rw[vc3,vby,vby,zhc (by simpa using h)]
theorem zf8{z:Str}{v:Value}:∀{qs:List Str} {us:List Value},us.length=qs.length->(qs++[z]).zip (us++[v])=qs.zip us++[(z,v)]
 |[],[],_=>rfl
 |[],_::_,h=>by cases h
 |_::_,[],h=>by cases h
 |q::qs,u::us,h=>by
  rw[vc3,vc3,vby,vby,zf8 (by simpa using h),vc3]
theorem zmb{z:Str}:∀{qs:List Str} {us:List Value},z∉qs->(qs.zip us).lookup z=none
 |[],_,_=>rfl
 |_::_,[],_=>rfl
 |q::qs,u::us,h=>by
  rw[vby,vaz]
  have e':(z==q)=false:=by simpa using(λe=>h (by rw[e];exact vaw))
  rw[e']
  exact zmb λe=>h (vao _ e)
section
variable{x qual:Str}{args:List Arg}{df:List Expr}{body:List Stmt}{sc:Scope}{kV doc pm:Value}{an:Option Addr}{cdv ct:Value}{t:Addr}{o:Obj}{n:Nat}{s:Shared}{us:List Value}{qs:List Str}{z:Str}
theorem zqa(qs:List Str)(z:Str):List.drop ([Value.none].length- (qs++[z]).length) [Value.none]=[Value.none]:=by
 rw[vak,vbh,vbh,show 1- (qs.length+1)=0 by omega];rfl
theorem len_d(qs:List Str)(z:Str):(qs++[z]).length - [Value.none].length=qs.length:=by simp
theorem zkc(ha:args.map (·.arg)=qs++[z])(hn:(qs++[z]).Nodup)(ho:s.heap.get? t=some o)(hd:o.data=.seq #[.none] n)(hl:us.length=(qs++[z]).length) :
 BindsTo s (PySem.W.fnOf x qual ⟨[],args,none,[],[],none,df⟩ body sc (.ref t) kV doc pm an cdv ct) ⟨us,[]⟩ ((qs++[z]).zip us):=by
 apply BindsTo.of_defaults (items:=#[.none]) (n:=n) rfl ho hd
 .unfold bindArgs
  simp only[PySem.W.fnOf,vdb,vcj,va5,vdx,vdy,ha]
  rfl
 .have hm:(qs.filter λn=>(((qs++[z]).zip us).lookup n).isNone)=[]:=by
   rw[List.filter_eq_nil_iff]
   intro n hn'
   have:=zcu (n:=n) hl (List.mem_append_left _ hn')
   cases q:((qs++[z]).zip us).lookup n with
   |none=>rw[q]at this;cases this
   |some v=>simp
  have hz:(((qs++[z]).zip us).lookup z).isNone=false:=by
   have:=zcu (n:=z) hl (vas _ (va8.mpr rfl))
   cases q:((qs++[z]).zip us).lookup z with
   |none=>rw[q]at this;cases this
   |some v=>rfl
  have hg:¬(us.length> (qs++[z]).length):=by omega
  simp only[Option.getD_some,zqa,len_d,List.take_left',List.take_left,List.drop_left,List.drop_left',hm,vbp hg,vc4,vah,vbe,List.isEmpty_nil,vd2,vby,List.zip_nil_right,List.forIn_cons,vdx,hz,vdy,zf7 hl hn]
theorem zkd(ha:args.map (·.arg)=qs++[z])(hn:(qs++[z]).Nodup)(ho:s.heap.get? t=some o)(hd:o.data=.seq #[.none] n)(hl:us.length=qs.length) :
 BindsTo s (PySem.W.fnOf x qual ⟨[],args,none,[],[],none,df⟩ body sc (.ref t) kV doc pm an cdv ct) ⟨us,[]⟩ ((qs++[z]).zip (us++[.none])):=by
 apply BindsTo.of_defaults (items:=#[.none]) (n:=n) rfl ho hd
 .unfold bindArgs
  simp only[PySem.W.fnOf,vdb,vcj,va5,vdx,vdy,ha]
  rfl
 .have hm:(qs.filter λn=>((qs.zip us).lookup n).isNone)=[]:=by
   rw[List.filter_eq_nil_iff]
   intro n hn'
   have:=zcu (n:=n) hl hn'
   cases q:(qs.zip us).lookup n with
   |none=>rw[q]at this;cases this
   |some v=>simp
  have hzq:z∉qs:=λh=>(List.nodup_append.mp hn).2.2 z h z (va8.mpr rfl) rfl
  have hz:((qs.zip us).lookup z).isNone=true:=by rw[zmb hzq];rfl
  have hg:¬(us.length> (qs++[z]).length):=by rw[vak];omega
  have hl2:(us++[Value.none]).length=(qs++[z]).length:=by rw[vak,vak,hl];rfl
  have ha2:=zf7 hl2 hn
  rw[zf8 hl]at ha2
  simp only[Option.getD_some,zqa,len_d,zhc hl,zf8 hl,List.take_left',List.take_left,List.drop_left,List.drop_left',hm,vbp hg,vc4,vah,vbe,List.isEmpty_nil,vd2,vby,List.zip_nil_right,List.forIn_cons,vdx,hz,vbd,vdy,ha2]
end
structure FunD(K:PySem.W.Frag)(x qual:Str)(st:Stmt)(f:Addr)(fd:FuncData):Prop where
 ex:∃(oc:Value) (od:Option Addr) (dV kV doc pm:Value) (an:Option Addr) (cdv ct:Value) (osl:Array (Option Value)),fd=PySem.W.fnOf x qual (zre st) (zc4 st) (zam st) dV kV doc pm an cdv ct/\K.lookup f=some ⟨oc,od,.func fd,osl⟩/\PySem.W.codeIn K cdv qual=true
 kp:PySem.W.keepIn K (.ref f)=true
theorem FunD.ok{P:Program}{w:World}{K:PySem.W.Frag}{mg:Str->Option Value}{base:Heap}{x qual:Str}{st:Stmt}{f:Addr}{fd:FuncData}{N ps:List Str}{k:Nat}{sp:Sp}(F:FunD K x qual st f fd)(S:FnScope N ps (zam st))(len:∀vs H Q E,sp vs H Q E->vs.length=ps.length)
 (hbody:∀(cdv:Value)(A:Around)(outer:List Env)(s:Shared)(H:Hp)(vs:List V)(Q:VK)(E:XK),Room k (A.deeper (envOfC qual (zam st) s.heap.objs.size f cdv))->sp vs H Q E->∃t,PSs (cxOf CX0 P w K mg base N qual (zam st) f cdv A outer s H E).nox (zc4 st) t/\t {nx:=λ_ H'=>Q .non H',rt:=Q} (start N vs) H):FnOk P w K mg base CX0 (k+1) f fd ps sp:=
 let⟨_,_,_,_,_,_,_,cdv,_,_,e,lk,hcd⟩:=F.ex
 by subst e;exact fn_of lk hcd S len λA outer s H vs Q E hr hsp=>let⟨t,h,q⟩:=hbody cdv A outer s H vs Q E hr hsp;⟨t,h.nox,q⟩
section
variable{K:PySem.W.Frag}{m m':Nat->Addr}{n n':Nat}{h h':VH}{H H':Hp}
mutual
theorem VRep.refsLt:∀{v:V} {w:W},VRep K m n H v w->W.lt n w=true
 |_,_,.non=>rfl
 |_,_,.bl _=>rfl
 |_,_,.int _=>rfl
 |_,_,.str _=>rfl
 |_,_,.tup _ r=>VReps.refsLt r
 |_,_,.fz _ r=>VReps.refsLt r
 |_,_,.ref q=>zax.mpr q
theorem VReps.refsLt:∀{vs:List V} {ws:List W},VReps K m n H vs ws->W.lts n ws=true
 |_,_,.nil=>rfl
 |_,_,.cons q r=>by
  show(W.lt n _&&W.lts n _)=true
  rw[VRep.refsLt q,VReps.refsLt r];rfl
end
mutual
theorem VRep.cut:∀{v:V} {w:W},VRep K m n' H v w->W.lt n w=true->VRep K m n H v w
 |_,_,.non,_=>.non
 |_,_,.bl b,_=>.bl b
 |_,_,.int b,_=>.int b
 |_,_,.str b,_=>.str b
 |_,_,.tup q r,e=>.tup q (VReps.cut r e)
 |_,_,.fz q r,e=>.fz q (VReps.cut r e)
 |_,_,.ref q,e=>.ref (zax.mp e)
theorem VReps.cut:∀{vs:List V} {ws:List W},VReps K m n' H vs ws->W.lts n ws=true->VReps K m n H vs ws
 |_,_,.nil,_=>.nil
 |_,_,.cons q r,e=>by
  have e:(W.lt n _&&W.lts n _)=true:=e
  rw[vaa]at e
  exact .cons (VRep.cut q e.1) (VReps.cut r e.2)
end
theorem KReps.cut{m':Nat->Addr}{n1:Nat}{H':Hp}:∀{vs us:List (Key×V)} {ws:List (Key×W)},KReps K m n' H vs ws->KReps K m' n H' us ws->KReps K m n H vs ws
 |_,_,_,.nil,_=>.nil
 |_,_,_,.cons q r,.cons q2 r2=>.cons (q.cut q2.refsLt) (KReps.cut (n1:=n1) r r2)
theorem zmc{lo:Nat}(r:Rel K m h H):Rel K m ⟨h.n,lo,h.os⟩ H:=⟨r.obj,r.inj,r.len⟩
theorem zdu{w w2:W}{h1 h2:VH}{v:V}{Q:VK}(r:Rel K m h H)(s:Stp m h.n H m' h1.n H')(r1:Rel K m' h1 H')(q:VRep K m' h1.n H' v w)(g:Grow ⟨h.n,h.n,h.os⟩ h1)(e:leave h w h1=.ok w2 h2)(k:Wants K m h.n H w2 h2 Q):Q v H':=by
 unfold leave at e
 split at e
 .rename_i hc
  cases e
  rw[vaa]at hc
  have hlo:=va2 hc.1
  refine k v H' m' ⟨vac _,s.same,λi a b=>absurd b (vb5.mpr a),λi j a b=>absurd b (vb5.mpr a),s.tup,s.frz,s.keep⟩ ⟨λi hi=>?_,λi j hi hj=>r1.inj i j (vae hi s.le) (vae hj s.le),r.len⟩ (q.cut hc.2)
  have hg:h1.get i=h.get i:=g.2.2 i hi (vae hi hlo)
  obtain⟨o,p1,p2⟩:=r1.obj i (vae hi s.le)
  rw[hg]at p1
  refine⟨o,p1,?_⟩
  have p3:=r.at_ p1
  cases o with
  |lst ws=>
   obtain⟨vs,a1,a2⟩:=p2
   obtain⟨us,b1,b2⟩:=p3
   exact⟨vs,a1,a2.cut b2.refsLt⟩
  |dk ws=>
   obtain⟨vs,a1,a2⟩:=p2
   obtain⟨us,b1,b2⟩:=p3
   exact⟨vs,a1,KReps.cut (n1:=0) a2 b2⟩
 .cases e
  exact k v H' m' s (zmc r1) q
theorem zi7{N:List Str}{vs:List V}{ws:List W}(q:VReps K m n H vs ws):Fr K m n H (L2.start N vs) (ws.map some++List.replicate (N.length-ws.length) none):=by
 unfold L2.start
 refine⟨by simp[q.length],λi w e=>?_⟩
 by_cases hi:i<ws.length
 .rw[vb1 (by simpa using hi)]at e
  rw[vb1 (by simpa[q.length]using hi)]
  rw[vb3]at e ⊢
  cases z:ws[i]? with
  |none=>rw[z]at e;cases e
  |some w'=>
   rw[z]at e
   cases e
   obtain⟨v,h1,h2⟩:=q.get z
   exact⟨v,by rw[h1];rfl,h2⟩
 .rw[vbm (by simpa using vb5.mp hi)]at e
  rw[vcy]at e
  split at e<;>cases e
end
theorem zcb{F:Nat->Option Fn}{k idx:Nat}{ws:List W}{h h':VH}{w:W}{fn:Fn}(hF:F idx=some fn)(e:run F k idx ws h=.ok w h'):ws.length=fn.ps:=by
 cases k with
 |zero=>cases e
 |succ k=>
  simp only[run,hF]at e
  split at e
  .rename_i hl;exact vb6 hl
  .cases e
theorem zqb{P:Program}{w:World}{K:PySem.W.Frag}{mg:Str->Option Value}{base:Heap}{F:Nat->Option Fn}{k idx:Nat}{fn:Fn}{x qual:Str}{st:Stmt}{f:Addr}{fd:FuncData}{N ps:List Str}(hF:F idx=some fn)(Fu:FunD K x qual st f fd)(S:FnScope N ps (zam st))
 (hn:fn.n=N.length) (hp:fn.ps=ps.length)
 (hbody:∀(cdv:Value)(A:Around)(outer:List Env)(s:Shared)(H:Hp)(E:XK),Room k (A.deeper (envOfC qual (zam st) s.heap.objs.size f cdv))->SSs (cxOf CX0 P w K mg base N qual (zam st) f cdv A outer s H E).nox (zc4 st) (exs (run F k) fn.body)) :
 FnOk P w K mg base CX0 (k+1) f fd ps (spV K ps.length (run F (k+1) idx)):=by
 refine Fu.ok S (λvs H Q E h=>h.1) λcdv A outer s H vs Q E hr hsp=>?_
 refine⟨_,hbody cdv A outer s H E hr,?_⟩
 obtain⟨hl,h,m,ws,w2,h2,r,q,e,k2⟩:=hsp
 have hws:=zcb hF e
 simp only[run,hF]at e
 split at e
 .refine zaa e λfl h1 e1 e2=>?_
  have g:=zha (zhb F k) _ _ _ _ _ e1
  have hN:fn.n-fn.ps=N.length-ws.length:=by rw[hn,hws]
  rw[hN]at e1
  refine⟨_,⟨h.n,h.n,h.os⟩,m,fl,h1,zi7 q,zmc r,e1,λH' m' s' r'=>?_⟩
  cases fl with
  |nx ρ=>exact λσ' f'=>zdu r s' r' .non g e2 k2
  |rt w3=>exact λv q3=>zdu r s' r' q3 g e2 k2
  |bk _=>cases e2
  |ct _=>cases e2
 .cases e
theorem zmd{P:Program}{w:World}{K:PySem.W.Frag}{mg:Str->Option Value}{base:Heap}{F:Nat->Option Fn}{idx:Nat}{f:Addr}{fd:FuncData}{ps:List Str}:FnOk P w K mg base CX0 0 f fd ps (spV K ps.length (run F 0 idx)):=
 ⟨λvs H Q E h=>h.1,λA outer s H args us vs Q E hr he hb hv hs=>by obtain⟨_,h,m,ws,w2,h2,r,q,e,k2⟩:=hs;cases e⟩
noncomputable def zeq(K:PySem.W.Frag)(C:Addr)(f:Str):Bool:=match PySem.W.findIn K (.ref C) f with
 |some none=>true
 |_=>false
theorem zdc{K:PySem.W.Frag}{C:Addr}{f:Str}(h:zeq K C f=true):zpo K C f:=by
 unfold zeq at h
 split at h
 .rename_i e;exact e
 .cases h
noncomputable def metOf(x:Str):Option Str:=if x==("Fault.__init__" : Str)then some "__init__"else none
noncomputable def refAt(K:PySem.W.Frag)(x:Str):Option Addr:=if(metOf x).isSome then none else(match PySem.W.nsIn K mainGlobals x with
 |some (some (.ref f))=>some f
 |_=>none)
theorem zbt{K:PySem.W.Frag}{x:Str}{f:Addr}(h:refAt K x=some f):PySem.W.nsIn K mainGlobals x=some (some (.ref f)):=by
 unfold refAt at h
 split at h
 .cases h
 .split at h
  .rename_i g e;cases h;exact e
  .cases h
end RF
namespace XR
open PySem PySem.Spec PyProof.Rows
section
variable{M:Model}{A:Around}{E:Value->Shared->Prop}{s:Shared}{base:Heap}{env:Env}{outer:List Env}{L e:Addr}{c:Value}{dx:Option Addr}{vs:Array Value}{sl:Array (Option Value)}
structure Nt(fs ts:List Addr)(h h':Heap):Prop where
 keep:∀b o,h.get? b=some o->b∉fs->b∉ts->h'.get? b=some o
 slot:∀b o,h.get? b=some o->b∈fs->b∉ts->∃sl,h'.get? b=some {o with slots:=sl}
 size:h.objs.size<=h'.objs.size
theorem Nt.trans{fs ts:List Addr}{h h1 h2:Heap}(a:Nt fs ts h h1)(b:Nt fs ts h1 h2):Nt fs ts h h2:=
 ⟨λx o q n m=>b.keep x o (a.keep x o q n m) n m,λx o q n m=>by
  obtain⟨s1,q1⟩:=a.slot x o q n m
  obtain⟨s2,q2⟩:=b.slot x _ q1 n m
  exact⟨s2,q2⟩,vap a.size b.size⟩
theorem Nt.mono{fs ts ts':List Addr}{h h':Heap}(a:Nt fs ts h h')(k:∀b∈ts,b∈ts'):Nt fs ts' h h':=
 ⟨λx o q n m=>a.keep x o q n λz=>m (k x z),λx o q n m=>a.slot x o q n λz=>m (k x z),a.size⟩
theorem Nt.upd{fs:List Addr}{h:Heap}{b:Addr}{f:Obj->Obj}:Nt fs [b] h (h.update b f):=by
 have k:∀x,x∉[b]->(h.update b f).get? x=h.get? x:=λx m=>vbz _ _ λz=>m (by simp[z])
 exact⟨λx o q _ m=>(k x m).trans q,λx o q _ m=>⟨o.slots,(k x m).trans q⟩,Nat.le_of_eq (Heap.size_after_update ..).symm⟩
theorem Nt.push{fs ts:List Addr}{h h':Heap}{o:Obj}(a:Nt fs ts h h'):Nt fs ts h (h'.push o):=
 ⟨λx ob q n m=>vad _ (a.keep x ob q n m),λx ob q n m=>by
  obtain⟨s1,q1⟩:=a.slot x ob q n m
  exact⟨s1,vad _ q1⟩,by rw[vc6];exact vde a.size⟩
theorem zqc{h:Heap}{b:Addr}{c:Value}{dx:Option Addr}{vs:Array Value}{sl:Array (Option Value)}{f:Array Value->Array Value}(q:h.get? b=some ⟨c,dx,.fields vs,sl⟩) :
 (h.update b (Obj.mapFields f)).get? b=some ⟨c,dx,.fields (f vs),sl⟩:=vch (Obj.mapFields f) q rfl
theorem zme{hd:Value}{more:Bool}{Q:Unit->Shared->Prop}(hfr:A.frames=some (env::outer))(hl:s.heap.FunFrames base (env::outer))(hf:env.frame=some L)
 (he:s.heap.get? e=some ⟨c,dx,.fields vs,sl⟩) (hne:e∉(env::outer).filterMap (·.frame)) (hz:1<vs.size)
 (h:∀h' ts,Nt ((env::outer).filterMap (·.frame)) [e] s.heap h'->h'.get? e=some ⟨c,dx,.fields (vs.setIfInBounds 1 (.ref s.heap.objs.size)),sl⟩->h'.get? s.heap.objs.size=some ⟨.type "traceback",none,.fields ts,#[]⟩->ts[3]?=some (rawInt L)->Q () {s with heap:=h'}) :
 wpAny M A (do let a <-frameOf env;let pl <-entryPlaceOf L more;let b <-EntryCells.newEntry hd a .none (rawInt L) .none pl;setField (.ref e) 1 b) Q E s:=by
 refine vab (wpAny_frameOf_fun hfr hl hf λh1 so=>vab (wpAny_entryPlaceOf λpl hpl=>?_))
 have n1:Nt ((env::outer).filterMap (·.frame)) [e] s.heap h1:=⟨λb o q n _=>(so.2.1 b n).trans q,λb o q _ _=>so.2.2 b o q,Nat.le_of_eq so.1.symm⟩
 have e1:h1.get? e=some ⟨c,dx,.fields vs,sl⟩:=(so.2.1 e hne).trans he
 unfold EntryCells.newEntry newFields
 refine vab (vb4 ?_ (hpl.sizeOk5 _ _ _ _ _))
 refine vdw (vad _ e1) rfl hz ?_
 have hsz:h1.objs.size=s.heap.objs.size:=so.1
 have hlt:e<h1.objs.size:=vaj e1
 rw[hsz]
 refine h _ ([hd,.ref L,.none,rawInt L,.none]++(if pl.isEmpty then List.replicate 6 Value.none else pl)).toArray (n1.push.trans Nt.upd) (zqc (vad _ e1)) ?_ ?_
 .rw[vbz _ _ (by rw[<-hsz];exact vau hlt),<-hsz]
  exact va3 _ rfl
 .first|(simp;done)|(rcases hpl with rfl|⟨_,_,_,_,_,_,_,rfl⟩<;>simp)
structure Ex(h:Heap)(e T C:Addr)(dx:Option Addr)(fl:Option Value):Prop where
 ex:∃vs sl,h.get? e=some ⟨.ref C,dx,.fields vs,sl⟩/\match fl with
  |none=>vs[1]?=some .none
  |some f=>vs[1]?=some (.ref T)/\T≠e/\∃ts,h.get? T=some ⟨.type "traceback",none,.fields ts,#[]⟩/\ts[3]?=some f
theorem note{C T:Addr}{fl:Option Value}{Q:Unit->Shared->Prop}(hfr:A.frames=some (env::outer))(hl:s.heap.FunFrames base (env::outer))(hf:env.frame=some L)
 (x:Ex s.heap e T C dx fl) (hne:e∉(env::outer).filterMap (·.frame)) (hnt:T∉(env::outer).filterMap (·.frame)) (hfl:fl=none\/fl=some .none)
 (h:∀h',Nt ((env::outer).filterMap (·.frame)) [e,T] s.heap h'->Ex h' e s.heap.objs.size C dx (some (rawInt L))->Q () {s with heap:=h'}):wpAny M A (noteFrame (.ref e) env) Q E s:=by
 obtain⟨vs,sl,he,hx⟩:=x.ex
 unfold noteFrame
 simp only[hf]
 rcases hfl with rfl|rfl
 .have h1:vs[1]?=some .none:=hx
  refine vab (vcp he rfl h1 ?_)
  rw[if_neg (by decide)]
  refine zme hfr hl hf he hne (vbx.mp h1).1 λh' ts n q1 q2 q3=>h h' (n.mono λb z=>by simp at z;simp[z]) ⟨_,_,q1,?_,?_,_,q2,q3⟩
  .rw[Array.getElem?_setIfInBounds_self_of_lt (vbx.mp h1).1]
  .exact vca (vaj he)
 .obtain⟨h1,hte,ts,ht,h3⟩:=(show vs[1]?=some (.ref T)/\T≠e/\∃ts,s.heap.get? T=some ⟨.type "traceback",none,.fields ts,#[]⟩/\ts[3]?=some Value.none from hx)
  refine vab (vcp he rfl h1 ?_)
  rw[if_pos (show(Value.ref T != Value.none)=true from by simp)]
  refine vab (vcp ht rfl h3 ?_)
  rw[if_neg (show ¬((Value.none==rawInt L)=true)from by simp[rawInt])]
  refine vab (vdw ht rfl (vbx.mp h3).1 ?_)
  have n0:Nt ((env::outer).filterMap (·.frame)) [T] s.heap (s.heap.update T (Obj.mapFields (·.setIfInBounds 3 .none))):=Nt.upd
  have sz:(s.heap.update T (Obj.mapFields (·.setIfInBounds 3 .none))).objs.size=s.heap.objs.size:=Heap.size_after_update ..
  refine zme (base:=base) hfr (hl.of_keeps λb o q nf=>?_) hf (n0.keep e _ he hne (by simpa using vcq hte)) hne (vbx.mp h1).1 λh' ts' n q1 q2 q3=>?_
  .by_cases hb:b=T
   .subst hb;rw[ht]at q;cases q;exact absurd rfl (nf ts)
   .exact⟨o,(vbz _ _ (vcq hb)).trans q,rfl⟩
  .rw[sz]at q1 q2
   refine h h' ((n0.mono λb z=>by simp at z;simp[z]).trans (n.mono λb z=>by simp at z;simp[z])) ⟨_,_,q1,?_,?_,_,q2,q3⟩
   .rw[Array.getElem?_setIfInBounds_self_of_lt (vbx.mp h1).1]
   .exact vca (vaj he)
theorem land{C T:Addr}{f:Value}{fs:List Addr}{Q:Unit->Shared->Prop}(x:Ex s.heap e T C dx (some f))(h:∀h',Nt fs [T] s.heap h'->Ex h' e T C dx (some .none)->Q () {s with heap:=h'}):wpAny M A (setFlight (.ref e) none) Q E s:=by
 obtain⟨vs,sl,he,h1,hte,ts,ht,h3⟩:=x.ex
 unfold setFlight
 refine vab (vcp he rfl h1 ?_)
 rw[if_pos (show(Value.ref T != Value.none)=true from by simp)]
 have l3:=(vbx.mp h3).1
 refine vdw ht rfl l3 (h _ Nt.upd ⟨vs,sl,(vbz _ _ hte).trans he,h1,hte,_,zqc ht,?_⟩)
 rw[Array.getElem?_setIfInBounds_self_of_lt l3];rfl
theorem leave{C T:Addr}{fl:Option Value}{Q:Unit->Shared->Prop}(hfr:A.frames=some (env::outer))(hl:s.heap.FunFrames base (env::outer))(hf:env.frame=some L)
 (x:Ex s.heap e T C dx fl) (hne:e∉(env::outer).filterMap (·.frame)) (hnt:T∉(env::outer).filterMap (·.frame)) (hfl:fl=none\/fl=some .none)
 (h:∀h',Nt ((env::outer).filterMap (·.frame)) [e,T,s.heap.objs.size] s.heap h'->Ex h' e s.heap.objs.size C dx (some .none)->Q () {s with heap:=h'}):wpAny M A (leaving env (.ref e)) Q E s:=by
 unfold leaving
 refine vab (note hfr hl hf x hne hnt hfl λh1 n1 x1=>land (fs:=(env::outer).filterMap (·.frame)) x1 λh2 n2 x2=>h h2 ((n1.mono λb z=>?_).trans (n2.mono λb z=>?_)) x2)
 .simp at z;rcases z with z|z<;>simp[z]
 .simp at z;simp[z]
end
end XR
namespace L2
open PySem PySem.Spec PyProof.Rows
noncomputable def excR(C:Addr)(dx:Option Addr)(a:Addr):HO:=.ext λh=>∃vs sl,h.get? a=some ⟨.ref C,dx,.fields vs,sl⟩
section
variable{P:Program}{w:World}{H:Hp}{h:Heap}{a C:Addr}{dx:Option Addr}{vs:Array Value}{sl:Array (Option Value)}
theorem zh9(e:h.get? a=some ⟨.ref C,dx,.fields vs,sl⟩):ObjOk P w H h a (excR C dx a):=⟨⟨vs,sl,e⟩,⟨_,e⟩,λ_ _ ⟨v',s',q⟩ k=>⟨v',s',k _ q⟩⟩
theorem zr4(ok:HOk P w H h)(e:H a=some (excR C dx a)):∃vs sl,h.get? a=some ⟨.ref C,dx,.fields vs,sl⟩:=(ok a _ e).1
end
noncomputable def CX1(P:Program)(w:World):CXT:=λouter H s E e s'=>∃x T C dx H',e=.ref x/\s'.os=s.os/\AllBare s'.gens/\Un (frs outer) [] H H' s.heap s'.heap/\HOk P w H' s'.heap/\XR.Ex s'.heap x T C dx (some .none)/\
 s.heap.objs.size<=x/\s.heap.objs.size<=T/\H' x=some (excR C dx x)/\H' T=none/\E (.ref C) dx H'
noncomputable def FlyIn(X:Cx)(E:XK)(e:Value)(s':Shared):Prop:=∃x T C dx fl pins σ H',e=.ref x/\Inv X pins σ H' s'/\XR.Ex s'.heap x T C dx fl/\((fl=none/\T=x)\/(fl=some .none/\H' T=none))/\
 X.s₀.heap.objs.size<=x/\X.s₀.heap.objs.size<=T/\H' x=some (excR C dx x)/\E (.ref C) dx H'
section
variable{X:Cx}{E:XK}{pins:List (Addr×Obj)}{σ:St}{H:Hp}{s:Shared}
theorem Inv.nofr{b:Addr}{c:Value}{d:Option Addr}{vs:Array Value}{sl:Array (Option Value)}(I:Inv X pins σ H s)(e:s.heap.get? b=some ⟨c,d,.fields vs,sl⟩):b∉frs X.stack:=λhb=>by
 obtain⟨_,o,ho,nf⟩:=I.stack.mem hb
 rw[e]at ho;cases ho
 exact nf vs rfl
theorem Ex.nofr{x T C:Addr}{dx:Option Addr}{fl:Option Value}(I:Inv X pins σ H s)(q:XR.Ex s.heap x T C dx fl)(h:(fl=none/\T=x)\/(fl=some .none/\H T=none)):x∉frs X.stack/\T∉frs X.stack:=by
 obtain⟨vs,sl,he,r⟩:=q.ex
 refine⟨I.nofr he,?_⟩
 rcases h with⟨_,rfl⟩|⟨rfl,_⟩
 .exact I.nofr he
 .obtain⟨_,_,ts,ht,_⟩:=r
  exact I.nofr ht
theorem HOk.noted{fs ts:List Addr}{h':Heap}{x C:Addr}{dx:Option Addr}{vs:Array Value}{sl:Array (Option Value)}{P:Program}{w:World}(ok:HOk P w H s.heap)(n:XR.Nt fs ts s.heap h')(hf:∀b∈fs,H b=none)(ht:∀b∈ts,b=x\/H b=none)
 (hx:H x=some (excR C dx x)) (e:h'.get? x=some ⟨.ref C,dx,.fields vs,sl⟩):HOk P w H h':=λb u q=>by
 by_cases hb:b=x
 .subst hb
  rw[hx]at q;cases q
  exact zh9 e
 .refine(ok b u q).stay (λc v hc k=>n.keep c v k ?_ ?_) (λ_ z=>z) λ_ _ z=>z
  .intro z
   have:=hf c z
   rcases hc with rfl|hc
   .rw[q]at this;cases this
   .rw[hc]at this;cases this
  .intro z
   rcases ht c z with rfl|z
   .rcases hc with rfl|hc
    .exact hb rfl
    .rw[hx]at hc;cases hc
   .rcases hc with rfl|hc
    .rw[q]at z;cases z
    .rw[hc]at z;cases z
theorem zr5{e:Value}{s':Shared}{Er:Value->Shared->Prop}(hs:X.stack=X.env::X.outer)(hf:X.env.frame=some X.env.locals)(hx0:X.ex=[])(q:FlyIn X E e s') :
 wpAny (model X.prog X.w) X.A (leaving X.env e) (λ_ s''=>CX1 X.prog X.w X.outer X.H₀ X.s₀ E e s'') Er s':=by
 obtain⟨x,T,C,dx,fl,pins,σ,H',rfl,I,ex,hfl,lx,lT,hx,hE⟩:=q
 obtain⟨nx,nT⟩:=Ex.nofr I ex hfl
 have fre:=I.stkFree
 have stk:=I.stack
 have sub:=I.stkSub
 rw[hs]at nx nT fre stk sub
 refine XR.leave (base:=X.base) (L:=X.env.locals) (by rw[I.ok.frames,hs]) stk hf ex nx nT (hfl.elim (λz=>.inl z.1) λz=>.inr z.1) λh' n ex'=>?_
 have lt0:∀b o,X.s₀.heap.get? b=some o->b<X.s₀.heap.objs.size:=λb o q=>vaj q
 have sz:=I.sz
 have nts:∀b o,X.s₀.heap.get? b=some o->b∉[x,T,s'.heap.objs.size]:=λb o q z=>by
  have:=lt0 b o q
  simp at z
  rcases z with z|z|z<;>rw[z]at this
  .exact absurd lx (Nat.not_le.mpr this)
  .exact absurd lT (Nat.not_le.mpr this)
  .exact absurd sz (Nat.not_le.mpr this)
 have nL:∀b o,X.s₀.heap.get? b=some o->b≠X.env.locals:=λb o q=>vau (vae (lt0 b o q) I.ok.above)
 obtain⟨vs,sl,he,r⟩:=ex'.ex
 have hb:=I.base
 rw[hx0]at hb
 refine⟨x,s'.heap.objs.size,C,dx,H',rfl,I.os,I.bare,⟨λb o q z hb1 hb2=>?_,λb o q z hb1 hb2=>?_,hb.free,λb o q hb2=>?_,hb.tups,hb.frzs,hb.tbls⟩,HOk.noted I.hok n fre (λb z=>?_) hx he,ex',lx,sz,hx,I.hok.fresh (vac _),hE⟩
 .refine n.keep b o (hb.keep b o q z hb1 hb2) (λm=>?_) (nts b o q)
  rcases vat.mp (sub b m)with m|m
  .exact nL b o q m
  .exact hb1 m
 .obtain⟨s1,q1⟩:=hb.slot b o q z hb1 hb2
  obtain⟨s2,q2⟩:=n.slot b _ q1 (by show b∈(X.env::X.outer).filterMap (·.frame);rw[vcb,hf];exact vao _ hb1) (nts b o q)
  exact⟨s2,q2⟩
 .obtain⟨o',q1⟩:=hb.there b o q hb2
  by_cases m:b∈(X.env::X.outer).filterMap (·.frame)
  .obtain⟨s2,q2⟩:=n.slot b o' q1 m (nts b o q)
   exact⟨_,q2⟩
  .exact⟨o',n.keep b o' q1 m (nts b o q)⟩
 .simp at z
  rcases z with rfl|rfl|rfl
  .exact .inl rfl
  .rcases hfl with⟨_,z⟩|⟨_,z⟩
   .exact .inl z
   .exact .inr z
  .exact .inr (I.hok.fresh (vac _))
theorem pass1:ze2 (CX1 X.prog X.w) (X.wish (FlyIn X E)) E:=by
 intro pins σ H s e s' I q
 obtain⟨x,T,C,dx,H',rfl,os,bare,un,hok,ex,lx,lT,hx,hT,hE⟩:=q
 have I:=I.unwish
 obtain⟨hh,g,d,t,os'⟩:=s'
 obtain rfl:os'=s.os:=os
 exact⟨x,T,C,dx,some .none,pins,σ,H',rfl,I.call (h':=hh) (g':=g) (d':=d) (t':=t) (ch:=[]) un hok bare (λb z=>absurd z (by simp)),ex,.inr ⟨rfl,hT⟩,vap I.sz lx,vap I.sz lT,hx,hE⟩
theorem zmf{C:Addr}{x:Str}{p cpos pos:Pos}(M:MkE X.K C)(hc:X.calm=true)(hg:Gl X x)(hm:X.mg x=some (.ref C))(hdb:(x==("__debug__" : Str))=false:=by decide) :
 PS (X.wish (FlyIn X E)) (.Raise (some (.Call (.Name x p) [] [] cpos)) none pos) (λ_ _ H=>∀a,H a=none->E (.ref C) none (upd H a (excR C none a))):=by
 intro pins s σ H D I h
 have I:=I.unwish
 obtain⟨nm,qn,N,bs,bm,hd,sn,sub,ab,col,dd,k0,k1,k2,k3,k5,hC,T⟩:=XL.excCls_of I.kIn M.cls
 have hb:bm.contains (.type "BaseException")=true:=T.hasType (by decide +kernel)
 have ev:wpAny (model X.prog X.w) X.A (eval (.Call (.Name x p) [] [] cpos) X.env) (λv s1=>∃e t,v=.ref e/\s1.heap.get? C=some (excClassObj nm qn C N bs bm hd sn sub ab col dd k0 k1 k2 k3 k5 "ValueError.__new__")/\s1.heap.get? e=some (XL.excObj C none t)/\FlyIn X E (.ref e) s1) (FlyIn X E) s:=by
  refine vbt (zbf I hg hm ?_ hdb)
  refine PySem.W.callWith_K0 I.kIn M.kp (XL.make_exc0 I.kIn M.cls M.init (va9 _) λh' t kk he=>?_)
  have hle:s.heap.objs.size<=s.heap.objs.size+1:=vdv _
  exact⟨_,t,rfl,kk _ _ hC,he,_,_,C,none,none,pins,σ,_,rfl,I.laid (t':=s.toks) kk hle (zh9 he),⟨_,_,he,rfl⟩,.inl ⟨rfl,rfl⟩,vap I.sz hle,vap I.sz hle,zag,h _ (I.hok.fresh hle)⟩
 show wpAny (model X.prog X.w) X.A (exec (.Raise (some (.Call (.Name x p) [] [] cpos)) none pos) X.env) _ (FlyIn X E) s
 rw[arm_exec_Raise]
 first
  |exact vab (va4 (wpAny_raiseStmt_made_sub (C:=C) hb (I.ok.hd hc) (vab (thn ev λv s1 q=>vab (va4 (vaf q))))))
  |(simp only[evalOpt,Option.map];exact vab (va4 (wpAny_raiseStmt_made_sub (C:=C) hb (I.ok.hd hc) (vab (thn ev λv s1 q=>vab (va4 (vaf q)))))))
  |(show wpAny _ _ (do standAt pos;raiseStmt X.env (some (do let v <-eval (.Call (.Name x p) [] [] cpos) X.env;standAt pos;pure v)) none) _ _ s;exact vab (va4 (wpAny_raiseStmt_made_sub (C:=C) hb (I.ok.hd hc) (vab (thn ev λv s1 q=>vab (va4 (vaf q)))))))
end
structure At(X:Cx)(pins:List (Addr×Obj))(σ:St)(H:Hp)(s:Shared)(x T C:Addr)(dx:Option Addr)(f:Value):Prop where
 I:Inv X pins σ H s
 ex:XR.Ex s.heap x T C dx (some f)
 hx:H x=some (excR C dx x)
 hT:H T=none
 lx:X.s₀.heap.objs.size<=x
 lT:X.s₀.heap.objs.size<=T
 pT:∀p∈X.pn++pins,p.1≠T
section
variable{X:Cx}{pins:List (Addr×Obj)}{σ:St}{H:Hp}{s:Shared}{x T C:Addr}{dx:Option Addr}{f f':Value}
theorem Inv.noLoc{b:Addr}{c:Value}{d:Option Addr}{vs:Array Value}{sl:Array (Option Value)}(I:Inv X pins σ H s)(e:s.heap.get? b=some ⟨c,d,.fields vs,sl⟩):b≠X.env.locals/\∀y c,X.env.cells.lookup y=some c->c≠b:=by
 refine⟨?_,?_⟩
 .rintro rfl
  obtain⟨m,⟨o,es,ep,ho,hd,_⟩,_⟩:=I.loc
  rw[e]at ho;cases ho
  cases hd
 .rintro y c' hc rfl
  obtain⟨v,o,ho,hd⟩:=I.cell y c' hc
  rw[e]at ho;cases ho
  cases hd
theorem At.step{h':Heap}{ts:List Addr}{T':Addr}(a:At X pins σ H s x T C dx f)(n:XR.Nt (frs X.stack) ts s.heap h')(hts:∀b∈ts,b=x\/b=T\/b=s.heap.objs.size)(hT':T'=T\/T'=s.heap.objs.size)
 (ex':XR.Ex h' x T' C dx (some f')):At X pins σ H {s with heap:=h'} x T' C dx f':=by
 obtain⟨vs,sl,he,_⟩:=ex'.ex
 obtain⟨vs0,sl0,he0,_,_,ts0,ht0,_⟩:=a.ex.ex
 have I:=a.I
 have fr:∀b,s.heap.objs.size<=b->H b=none:=λb z=>I.hok.fresh z
 have np:∀p∈X.pn++pins,p.1<s.heap.objs.size:=λp hp=>vaj (I.pin p hp).1
 have fx:∀b,H b=none->b≠x:=λb z q=>by rw[q,a.hx]at z;cases z
 have un:∀b∈ts,b≠x->H b=none:=λb hb q=>by
  rcases hts b hb with z|z|z
  .exact absurd z q
  .rw[z];exact a.hT
  .rw[z];exact fr _ (vac _)
 have I':Inv X pins σ H {s with heap:=h'}:=by
  refine I.call (h':=h') (g':=s.gens) (d':=s.drawn) (t':=s.toks) (ch:=ts) ⟨λb o q z hb hc=>n.keep b o q hb hc,λb o q z hb hc=>n.slot b o q hb hc,λb o q z _=>z,λb o q hc=>?_,λ_ _ q=>q,λ_ _ _ q=>q,λb ps q=>⟨#[],by rw[q];simp⟩⟩
   (HOk.noted I.hok n I.stkFree (λb z=>?_) a.hx he) I.bare λb hb=>?_
  .by_cases m:b∈frs X.stack
   .obtain⟨s2,q2⟩:=n.slot b o q m hc
    exact⟨_,q2⟩
   .exact⟨o,n.keep b o q m hc⟩
  .by_cases q:b=x
   .exact .inl q
   .exact .inr (un b z q)
  .rcases hts b hb with rfl|rfl|rfl
   .exact⟨.inr a.lx,(I.noLoc he0).1,(I.noLoc he0).2,λp hp q=>by have:=(I.pin p hp).2.1;rw[q,a.hx]at this;cases this⟩
   .exact⟨.inr a.lT,(I.noLoc ht0).1,(I.noLoc ht0).2,a.pT⟩
   .refine⟨.inr I.sz,vca I.lt,λy c hc=>?_,λp hp=>vau (np p hp)⟩
    obtain⟨v,o,ho,_⟩:=I.cell y c hc
    exact vau (vaj ho)
 refine⟨I',ex',a.hx,?_,a.lx,?_,?_⟩
 .rcases hT' with rfl|rfl
  .exact a.hT
  .exact fr _ (vac _)
 .rcases hT' with rfl|rfl
  .exact a.lT
  .exact I.sz
 .rcases hT' with rfl|rfl
  .exact a.pT
  .exact λp hp=>vau (np p hp)
theorem At.noted{E:Value->Shared->Prop}{Q:Unit->Shared->Prop}(a:At X pins σ H s x T C dx .none)(hs:X.stack=X.env::X.outer)(hf:X.env.frame=some X.env.locals)(h:∀s' T',At X pins σ H s' x T' C dx (rawInt X.env.locals)->Q () s') :
 wpAny (model X.prog X.w) X.A (noteFrame (.ref x) X.env) Q E s:=by
 obtain⟨n1,n2⟩:=Ex.nofr a.I a.ex (.inr ⟨rfl,a.hT⟩)
 have stk:=a.I.stack
 rw[hs]at n1 n2 stk
 refine XR.note (base:=X.base) (by rw[a.I.ok.frames,hs]) stk hf a.ex n1 n2 (.inr rfl) λh' n ex'=>h _ s.heap.objs.size (a.step (by rw[hs];exact n) (λb z=>?_) (.inr rfl) ex')
 simp at z
 rcases z with z|z
 .exact .inl z
 .exact .inr (.inl z)
theorem At.lands{M:Model}{A:Around}{E:Value->Shared->Prop}{Q:Unit->Shared->Prop}(a:At X pins σ H s x T C dx f)(h:∀s',At X pins σ H s' x T C dx .none->Q () s'):wpAny M A (setFlight (.ref x) none) Q E s:=
 XR.land (fs:=frs X.stack) a.ex λh' n ex'=>h _ (a.step n (λb z=>by simp at z;exact .inr (.inl z)) (.inl rfl) ex')
theorem At.of{E:XK}{e:Value}{s':Shared}(I:Inv X pins σ H s)(q:CX1 X.prog X.w X.stack H s E e s'):∃x T C dx H',e=.ref x/\At X pins σ H' s' x T C dx .none/\E (.ref C) dx H':=by
 obtain⟨x,T,C,dx,H',rfl,os,bare,un,hok,ex,lx,lT,hx,hT,hE⟩:=q
 obtain⟨hh,g,d,t,os'⟩:=s'
 obtain rfl:os'=s.os:=os
 exact⟨x,T,C,dx,H',rfl,⟨I.call (h':=hh) (g':=g) (d':=d) (t':=t) (ch:=[]) un hok bare (λb z=>absurd z (by simp)),ex,hx,hT,vap I.sz lx,vap I.sz lT,λp hp=>vau (vae (vaj (I.pin p hp).1) lT)⟩,hE⟩
noncomputable abbrev _root_.L2.Cx.hand(X:Cx)(x:Addr):Cx:={X with A:=X.A.mark (some (.ref x)),calm:=false,xe:=λ_ _=>False}
theorem Cx.Ok.hand(ok:X.Ok)(x:Addr):(X.hand x).Ok:=
 ⟨ok.mod,ok.kind,ok.glob,ok.blt,ok.above,ok.inj,ok.has,ok.cab,(λz=>nomatch z),ok.frames,ok.stk,ok.exf,ok.bs,ok.bsz,ok.noex,ok.exfs,ok.funs,ok.frf⟩
theorem Inv.hand(I:Inv X pins σ H s)(x:Addr):Inv (X.hand x) pins σ H s:=⟨I.ok.hand x,I.os,I.bare,I.base,I.loc,I.cell,I.free,I.freeC,I.pin,I.hok,I.len⟩
theorem Inv.unhand(ok:X.Ok)(I:Inv (X.hand x) pins σ H s):Inv X pins σ H s:=⟨ok,I.os,I.bare,I.base,I.loc,I.cell,I.free,I.freeC,I.pin,I.hok,I.len⟩
theorem Inv.gone{M:Model}{A:Around}{E:Value->Shared->Prop}{i:Nat}{y:Str}{pos:Pos}{Q:Unit->Shared->Prop}(I:Inv X pins σ H s)(hN:X.N.Nodup)(hi:X.N[i]?=some y)(hk:X.env.kindOf y=some .local)
 (h:∀s',Inv X pins (σ.set i none) H s'->Q () s'):wpAny M A (do bindName X.env y .none;unbindBehindTheSuite X.env y pos) Q E s:=by
 obtain⟨m,hn,hl⟩:=I.loc
 have hcls:(X.env.scope.kind == .class|| (X.env.scope.kind == .module&&X.env.locals != X.env.globals))=false:=by rw[I.ok.kind];rfl
 have hiσ:i<σ.length:=by rw[I.len];exact(van.mp hi).1
 refine wpAny_nameGoes_keeps hk hn hcls λh' v hn' hs=>h _ ?_
 have low:∀b o,X.s₀.heap.get? b=some o->b≠X.env.locals:=λb o e=>vau (vae (vaj e) I.ok.above)
 refine⟨I.ok,I.os,I.bare,⟨λb o e n hb hx=>(hs.2 b (low b o e)).trans (I.base.keep b o e n hb hx),λb o e n hb hx=>?_,I.base.free,λb o e hx=>?_,I.base.tups,I.base.frzs,I.base.tbls⟩,⟨_,hn',λj z v' e1 e2 e3=>?_⟩,λz c e=>?_,I.free,I.freeC,λp hp=>?_,λb u e=>?_,by simpa using I.len⟩
 .obtain⟨sl,e1⟩:=I.base.slot b o e n hb hx
  exact⟨sl,(hs.2 b (low b o e)).trans e1⟩
 .obtain⟨o',e1⟩:=I.base.there b o e hx
  exact⟨o',(hs.2 b (low b o e)).trans e1⟩
 .by_cases hj:j=i
  .subst hj
   rw[vbg hiσ]at e2
   cases e2
  .rw[vb8 (vcq hj)]at e2
   obtain⟨u',r',q⟩:=hl j z v' e1 e2 e3
   refine⟨u',r',?_⟩
   rcases q with⟨k,e⟩|⟨k,c,e,w⟩
   .have:z≠y:=λe=>hj (zfq hN e1 (e▸hi))
    exact .inl ⟨k,by simp[this,e]⟩
   .exact .inr ⟨k,c,e,w.sameBut hs (I.cne z c e)⟩
 .obtain⟨w',z⟩:=I.cell z c e
  exact⟨w',z.sameBut hs (I.cne _ c e)⟩
 .obtain⟨e,n,ne,nf,d⟩:=I.pin p hp
  exact⟨(hs.2 p.1 ne).trans e,n,ne,nf,d⟩
 .refine(I.hok b u e).stay (λc w' hc q=>(hs.2 c ?_).trans q) (λ_ q=>q) λ_ _ q=>q
  rintro rfl
  have fl:=I.free
  rcases hc with rfl|hc
  .rw[fl]at e;cases e
  .rw[fl]at hc;cases hc
end
noncomputable def subE(K:PySem.W.Frag)(C D:Addr):Bool:=XL.excCls K C&&XL.excCls K D&&match K.lookup C with
 |some o=>(match o.data with
  |.cls cd=>cd.mro.contains (.ref D)
  |_=>false)
 |none=>false
section
variable{M:Model}{A:Around}{E:Value->Shared->Prop}{s:Shared}{K:PySem.W.Frag}{C D x:Addr}{oe:Obj}
theorem zia{Q:Bool->Shared->Prop}(X:K.In s.heap)(hs:subE K C D=true)(he:s.heap.get? x=some oe)(hc:oe.cls=.ref C)(h:Q true s):wpAny M A (excMatches (.ref x) (.ref D)) Q E s:=by
 unfold subE at hs
 rw[vaa,vaa]at hs
 obtain⟨⟨hC,hD⟩,hm⟩:=hs
 obtain⟨nm,qn,N,bs,bm,hd,sn,sub,ab,col,dd,k0,k1,k2,k3,k5,oC,T⟩:=XL.excCls_of X hC
 obtain⟨nm',qn',N',bs',bm',hd',sn',sub',ab',col',dd',k0',k1',k2',k3',k5',oD,T'⟩:=XL.excCls_of X hD
 have c1:(Value.ref D::bm').contains (.type "BaseException")=true:=by rw[List.contains_cons,T'.hasType (X:="BaseException") (b:=true) (by decide +kernel),Bool.or_true]
 have c2:(Value.ref C::bm).contains (.ref D)=true:=by
  cases q:K.lookup C with
  |none=>rw[q]at hm;cases hm
  |some o=>
   rw[q]at hm
   have:=X C o q
   rw[oC]at this
   cases this
   exact hm
 have f:=tc_notTuple
 obtain⟨hp,g,d,tk,os⟩:=s
 unfold excMatches
 repeat(first
  |(with_reducible refine vbw he ?_;rw[hc])
  |with_reducible refine vbw oD ?_
  |(with_reducible refine vce oD ?_;rw[c1])
  |(with_reducible refine vce oC ?_;rw[c2])
  |wp_step)
 exact h
end
noncomputable def tryE(K:PySem.W.Frag)(D:Addr)(i:Nat)(th:TS)(D0:Ends)(σ:St):XK:=λc dx H2=>∃C,c=.ref C/\subE K C D=true/\
 ∀x,H2 x=some (excR C dx x)->th {nx:=λσ' H'=>D0.nx (σ'.set i none) H',rt:=D0.rt,bk:=λσ' H'=>D0.bk (σ'.set i none) H',ct:=λσ' H'=>D0.ct (σ'.set i none) H'} (σ.set i (some (.ref x))) H2
noncomputable def tTry(K:PySem.W.Frag)(D:Addr)(i:Nat)(sp:Sp)(ta:TA)(th:TS):TS:=λD0 σ H=>ta σ H λvs H1=>sp vs H1 (λ_ H2=>D0.nx σ H2) (tryE K D i th D0 σ)
section
variable{X:Cx}
theorem zvu{k i:Nat}{fa D:Addr}{fd:FuncData}{ps:List Str}{sp:Sp}{f xb n:Str}{p cpos epos tp hpos pos:Pos}{e:Expr}{es:List Expr}{b0:Stmt}{suite:List Stmt}{ta:TA}{th:TS}
 (hs:X.stack=X.env::X.outer) (hf:X.env.frame=some X.env.locals) (F:FnOk X.prog X.w X.K X.mg X.base (CX1 X.prog X.w) k fa fd ps sp) (hr:Room k X.A) (hg:Gl X f) (hm:X.mg f=some (.ref fa)) (hk:PySem.W.keepIn X.K (.ref fa)=true) (hb:Binds X.K fd ps [])
 (ha:PA X.nox (e::es) ta) (hgb:Gl X xb) (hmb:X.mg xb=some (.ref D)) (hN:X.N.Nodup) (hi:X.N[i]?=some n) (hl:X.env.kindOf n=some .local) (hx:Loc X.env.scope n) (hfn:X.fn n=true)
 (hh:∀x,PSs (X.hand x) (b0::suite) th) (hdb:(f==("__debug__" : Str))=false:=by decide) (hdb2:(xb==("__debug__" : Str))=false:=by decide)
 (he:starEach (e::es) X.env=(false,eval e X.env)::starEach es X.env:=by rfl) (hpl:(backTo cpos (starEach es X.env)).any (·.1)=false:=by rfl) (hsw:swapsWith (.Call (.Name f p) (e::es) [] cpos) none epos.line X.env=pure false:=by rfl) :
 PS X (.Try [.Expr (.Call (.Name f p) (e::es) [] cpos) epos] [.ExceptHandler (some (.Name xb tp)) (some n) (b0::suite) hpos] [] [] pos) (tTry X.K D i sp ta th):=by
 intro pins s σ H D0 I h
 refine wpAny_Try_except (vc2 (vec ?_ I.quiet hsw))
 refine vbt (zbf I hg hm ?_ hdb)
 refine vcn (h₀:=X.base) I.ok.mod.kin hk (vav (ha cpos pins s σ H _ (I.wish _) h) (λus s1 z9=>z9.el λvs H1 I1 r q=>?_) λ_ _ z=>z.elim) he hpl
 have I1:=I1.unwish
 refine⟨I1.kIn,?_⟩
 have len:us.length=ps.length:=by rw[<-r.length];exact F.len _ _ _ _ q
 have hb1:=hb s1 us I1.kIn (by rw[va5];exact len)
 rw[va5]at hb1
 refine vc5 (vcv (F.run X.A X.stack s1 H1 ⟨us,[]⟩ us vs (λ_ H2=>D0.nx σ H2) (tryE X.K D i th D0 σ) hr I1.env0 hb1 r q) λres s' hq=>?_)
 cases res with
 |ok fl=>
  cases fl with
  |ret u=>
   obtain⟨v,H2,I2,_,q2⟩:=I1.after hq
   exact vbu (vbu ⟨σ,H2,I2,q2⟩)
  |next=>exact False.elim hq
  |brk=>exact False.elim hq
  |cont=>exact False.elim hq
 |error er=>
  obtain⟨x,T,C,dx,H2,rfl,a,C',hc',sb,hth⟩:=At.of (E:=tryE X.K D i th D0 σ) I1 hq
  cases hc'
  refine a.noted hs hf λs2 T2 a2=>a2.lands λs3 a3=>?_
  refine wpAny_handleBy_cons (codeAny_handlers_test ?_) (by intro z;cases z)
  have I3:=a3.I.hand x
  refine zbf (X:=X.hand x) I3 hgb hmb ?_ hdb2
  obtain⟨vs3,sl3,he3,_⟩:=a3.ex.ex
  refine zia a3.I.kIn sb he3 rfl ?_
  refine codeAny_handlers_suite_as (a3.lands λs4 a4=>?_)
  refine zcf (X:=X.hand x) (a4.I.hand x) hN hi hx (v:=.ref x) rfl (λs5 I5=>?_) (.inl hfn)
  refine vav (hh x pins s5 _ H2 _ I5 (hth x a4.hx)) (λfl s6 q6=>?_) λ_ _ z=>z.elim
  cases fl with
  |next=>
   obtain⟨σ',H',I',q'⟩:=q6
   exact(I'.unhand I.ok).gone hN hi hl λs7 I7=>⟨_,H',I7,q'⟩
  |brk=>
   obtain⟨σ',H',I',q'⟩:=q6
   exact(I'.unhand I.ok).gone hN hi hl λs7 I7=>⟨_,H',I7,q'⟩
  |cont=>
   obtain⟨σ',H',I',q'⟩:=q6
   exact(I'.unhand I.ok).gone hN hi hl λs7 I7=>⟨_,H',I7,q'⟩
  |ret u=>
   obtain⟨v,σ',H',I',r',q'⟩:=q6
   exact(I'.unhand I.ok).gone hN hi hl λs7 I7=>⟨v,_,H',I7,r',q'⟩
end
structure RoomH(k:Nat)(A:Around):Prop where
 dp:A.depth+k+2<recursionLimit
 un:A.units+4*k+100<cLine
theorem Room.h2{k:Nat}{A:Around}(r:Room k A):RoomH 2 A:=⟨by have:=r.dp;omega,by have:=r.un;omega⟩
theorem Room.h{k:Nat}{A:Around}{v:Option Value}(r:Room k A):RoomH 2 (A.mark v):=⟨r.h2.dp,r.h2.un⟩
noncomputable abbrev bareA(A:Around):Around:={A with handled:=none}
theorem RoomH.depth{k:Nat}{A:Around}(r:RoomH k A):A.depth<recursionLimit:=by have:=r.dp;omega
theorem RoomH.deeper{k:Nat}{A:Around}(r:RoomH (k+1) A)(env:Env):RoomH k (A.deeper env):=
 ⟨by have:=r.dp;show A.depth+1+k+2<_;omega,by have:=r.un;show A.units+3+4*k+100<_;omega⟩
structure FnOkH(P:Program)(w:World)(K:PySem.W.Frag)(mg:Str->Option Value)(base:Heap)(k:Nat)(f:Addr)(fd:FuncData)(ps:List Str)(sp:List V->Hp->VK->Prop):Prop where
 len:∀vs H Q,sp vs H Q->vs.length=ps.length
 run:∀(A:Around)(outer:List Env)(s:Shared)(H:Hp)(args:Args)(us:List Value)(vs:List V)(Q:VK),RoomH k A->Env0 P w K mg base A outer s H->BindsTo s fd args (ps.zip us)->Vals vs us->sp vs H Q->
  codeAny (model P w) A (.call (.ref f) args) (CR CX0 outer P w H s Q E0) s
noncomputable abbrev cxH(P:Program)(w:World)(K:PySem.W.Frag)(mg:Str->Option Value)(base:Heap)(N:List Str)(qual:Str)(scope:Scope)(f:Addr)(cd:Value)(A:Around)(outer:List Env)(s:Shared)(H:Hp):Cx:=
 {cxOf CX0 P w K mg base N qual scope f cd A outer s H E0 with calm:=false,xe:=λ_ _=>False}
theorem fnH{P:Program}{w:World}{K:PySem.W.Frag}{mg:Str->Option Value}{base:Heap}{k:Nat}{f:Addr}{name qual:Str}{params:Arguments}{body:List Stmt}{scope:Scope}{dV kV doc pm cdv ct oc:Value}{an od:Option Addr}
 {osl:Array (Option Value)} {N ps:List Str} {sp:List V->Hp->VK->Prop} (lk:K.lookup f=some ⟨oc,od,.func (PySem.W.fnOf name qual params body scope dV kV doc pm an cdv ct),osl⟩) (hcd:PySem.W.codeIn K cdv qual=true) (S:FnScope N ps scope)
 (len:∀vs H Q,sp vs H Q->vs.length=ps.length)
 (hbody:∀(A:Around)(outer:List Env)(s:Shared)(H:Hp)(vs:List V)(Q:VK),RoomH k (A.deeper (envOfC qual scope s.heap.objs.size f cdv))->sp vs H Q->
   ∃t,PSs (cxH P w K mg base N qual scope f cdv A outer s H) body t/\t {nx:=λ_ H'=>Q .non H',rt:=Q} (start N vs) H) :
 FnOkH P w K mg base (k+1) f (PySem.W.fnOf name qual params body scope dV kV doc pm an cdv ct) ps sp:=by
 refine⟨len,λA outer s H args us vs Q hr e0 hb r hsp=>?_⟩
 have hl:=len _ _ _ hsp
 have KX:K.In s.heap:=e0.mod.kin.keeps λb o e=>(e0.bs b o e).1
 have lim:s.heap.NoLimit:=e0.mod.nolimit.keeps λb o e=>(e0.bs b o e).1
 have hkind:∀y∈ps.zip us,scope.names.lookup y.1=some .local\/(scope.names.lookup y.1=some .cell/\((cellsFrom (s.heap.objs.size+1) scope.names []).lookup y.1).isSome=true):=λhq0 hy=>by
  obtain⟨n,v⟩:=hq0
  rcases S.par n (vd6 hy).1 with q|q
  .exact .inl q
  .exact .inr ⟨q,PySem.W.cellsFrom_some _ _ _ (.inl q)⟩
 refine codeAny_call_function hr.depth (KX _ _ lk) rfl S.co S.gen rfl (PySem.W.codeRec_of KX hcd) (hb _ _ _ _ ?_)
 refine wpAny_newFunctionEnv_cells S.kind hkind λenv he s1 x=>?_
 subst he
 refine⟨lim.keeps x.toInCall.keep,codeAny_func ?_⟩
 obtain⟨t,ht,hq⟩:=hbody A outer s H vs Q (hr.deeper _) hsp
 have J:Inv (cxOf CX0 P w K mg base N qual scope f cdv (bareA A) outer s H E0) [] (start N vs) H s1:=zgx S rfl ⟨e0.frames,e0.mod,e0.bs,e0.bsz,e0.funs,e0.frf,e0.hok,e0.bare⟩ hl r x
 have ok:=J.ok
 have I:Inv (cxH P w K mg base N qual scope f cdv A outer s H) [] (start N vs) H s1:=
  ⟨⟨ok.mod,ok.kind,ok.glob,ok.blt,ok.above,ok.inj,ok.has,ok.cab,(λz=>nomatch z),ok.frames,ok.stk,ok.exf,ok.bs,ok.bsz,ok.noex,ok.exfs,ok.funs,ok.frf⟩,J.os,J.bare,J.base,J.loc,J.cell,J.free,J.freeC,J.pin,J.hok,J.len⟩
 refine vav (ht [] s1 (start N vs) H _ I hq) (λfl s' hs=>?_) λe s' hs=>hs.elim
 have fin:∀{σ':St}{H':Hp}{v:V}{u:Value},Inv (cxH P w K mg base N qual scope f cdv A outer s H) [] σ' H' s'->RelV v u->Q v H'->CE outer P w H s Q u s':=
  λ{σ' H' v u} J rv q=>⟨v,H',J.os,J.bare,J.base,J.hok,rv,q⟩
 cases fl with
 |ret u=>
  obtain⟨v,σ',H',J,rv,q⟩:=hs
  exact fin J rv q
 |next=>
  obtain⟨σ',H',J,q⟩:=hs
  exact fin (v:=V.non) (u:=Value.none) J rfl q
 |brk=>
  obtain⟨_,_,_,q⟩:=hs
  exact False.elim q
 |cont=>
  obtain⟨_,_,_,q⟩:=hs
  exact False.elim q
section
variable{X:Cx}{k:Nat}{f:Addr}{fd:FuncData}{ps:List Str}{sp:List V->Hp->VK->Prop}{x:Str}{p pos:Pos}{e:Expr}{es:List Expr}{t:TA}
theorem zi8(F:FnOkH X.prog X.w X.K X.mg X.base k f fd ps sp)(hr:RoomH k X.A)(hg:Gl X x)(hm:X.mg x=some (.ref f))(hk:PySem.W.keepIn X.K (.ref f)=true)(hb:Binds X.K fd ps [])
 (ha:PA X (e::es) t) (hdb:(x==("__debug__" : Str))=false:=by decide) (he:starEach (e::es) X.env=(false,eval e X.env)::starEach es X.env:=by rfl) (hpl:(backTo pos (starEach es X.env)).any (·.1)=false:=by rfl) :
 PE X (.Call (.Name x p) (e::es) [] pos) (λσ H Q=>t σ H λvs H1=>sp vs H1 Q):=by
 intro pins s σ H Q I h
 refine vbt (zbf I hg hm ?_ hdb)
 refine vcn (h₀:=X.base) I.ok.mod.kin hk (thn (ha pos pins s σ H _ I h) λus s1 z9=>z9.el λvs H1 I1 r q=>⟨I1.kIn,?_⟩) he hpl
 have len:us.length=ps.length:=by rw[<-r.length];exact F.len _ _ _ q
 have hb1:=hb s1 us I1.kIn (by rw[va5];exact len)
 rw[va5]at hb1
 refine vc5 (vcv (F.run X.A X.stack s1 H1 ⟨us,[]⟩ us vs Q hr I1.env0 hb1 r q) λres s' hq=>?_)
 cases res with
 |error er=>exact False.elim hq
 |ok fl=>
  cases fl with
  |ret u=>exact I1.after hq
  |next=>exact False.elim hq
  |brk=>exact False.elim hq
  |cont=>exact False.elim hq
end
end L2
namespace RF
open PySem PySem.Spec PyProof.Rows L2
noncomputable def Hx(H H':Hp):Prop:=∀a o,H a=some o->H' a=some o
theorem Hx.refl{H:Hp}:Hx H H:=λ_ _ q=>q
theorem Hx.trans{H H1 H2:Hp}(a:Hx H H1)(b:Hx H1 H2):Hx H H2:=λx o q=>b x o (a x o q)
theorem Hx.new{H:Hp}{p:Addr}{o:HO}(hp:H p=none):Hx H (upd H p o):=λa u q=>by
 rw[zaf (λz=>by rw[z,hp]at q;cases q)];exact q
end RF
namespace L2
open PySem PySem.Spec PyProof.Rows
noncomputable def DxOk(dx:Option Addr)(H:Hp):Prop:=∀d,dx=some d->∃fs,H d=some (xdH fs d)
noncomputable def Err(C a:Addr)(H:Hp):Prop:=∃dx,H a=some (excR C dx a)/\DxOk dx H
theorem Err.mono{C a:Addr}{H H':Hp}(h:Err C a H)(k:RF.Hx H H'):Err C a H':=by
 obtain⟨dx,q,d⟩:=h
 exact⟨dx,k _ _ q,λe z=>let⟨fs,y⟩:=d e z;⟨fs,k _ _ y⟩⟩
noncomputable def zer(C:Addr)(E:XK)(H:Hp):Prop:=∀H' dx a,RF.Hx H H'->H' a=some (excR C dx a)->DxOk dx H'->E (.ref C) dx H'
theorem zer.plain{C:Addr}{E:XK}{H:Hp}(h:zer C E H):∀a,H a=none->E (.ref C) none (upd H a (excR C none a)):=λa ha=>h _ none a (.new ha) zag λ_ z=>nomatch z
section
variable{M:Model}{A:Around}{E:Value->Shared->Prop}{env:Env}{s:Shared}
variable{nm q:Str}{C N:Addr}{bs bm:List Value}{hdct:Bool}{sn:List Str}{sub:List Value}{ab:Bool}{col:Option Bool}{dd:Option Addr}{k0 k1 k2 k3 k5:Option Value}{nw:String}
theorem zdd{x:Sem Value}{Q:Flow->Shared->Prop}(hb:bm.contains (.type "BaseException")=true)(hh:A.handled=none)
 (h:wpAny M A x (λv z=>∃e t dx,v=.ref e/\z.heap.get? C=some (excClassObj nm q C N bs bm hdct sn sub ab col dd k0 k1 k2 k3 k5 nw)/\z.heap.get? e=some (XL.excObj C dx t)/\E (.ref e) z) E s) :
 wpAny M A (raiseStmt env (some x) none) Q E s:=by
 have hB:(Value.ref C::bm).contains (.type "BaseException")=true:=by rw[List.contains_cons,hb,Bool.or_true]
 unfold raiseStmt
 refine vab (vav h (λv z y=>?_) λ_ _ y=>y)
 obtain⟨e,t,dx,rfl,hC,he,hE⟩:=y
 obtain⟨hp,g,d,tk,os⟩:=z
 unfold XL.excObj at he
 repeat(first
  |with_reducible refine vbw he ?_
  |with_reducible refine vbw hC ?_
  |(with_reducible refine vce hC ?_;rw[hB])
  |wp_step)
 exact wpAny_raiseNew_none hh hE
end
noncomputable def spI(C:Addr):List V->Hp->VK->Prop:=λvs H Q=>∃a x y,vs=[.ref a,x,y]/\H a=some (excH C none a)/\
 ∀dx fs H',H dx=none->H' a=some (excH C (some dx) a)->H' dx=some (xdH fs dx)->(∀b o,b≠a->H b=some o->H' b=some o)->Q .non H'
theorem RoomH.make{k:Nat}{A:Around}(r:RoomH (k+1) A)(C:Addr)(us:List Value):RoomH k (A.under (.builtin "type.__call__" ⟨.ref C::us,[]⟩)):=
 ⟨by have:=r.dp;rw[zjw];omega,by have:=r.un;rw[zjx];omega⟩
section
variable{X:Cx}{E:XK}{C f:Addr}{fd:FuncData}{ps:List Str}{x:Str}{p cpos pos:Pos}{e:Expr}{es:List Expr}{t:TA}
theorem zmg(M:MkI X.K C f)(F:FnOkH X.prog X.w X.K X.mg X.base 1 f fd ps (spI C))(hr:RoomH 2 X.A)(hb:Binds X.K fd ps [])(hc:X.calm=true)(hg:Gl X x)(hm:X.mg x=some (.ref C))(ha:PA X.nox (e::es) t)
 (hdb:(x==("__debug__" : Str))=false) (he:starEach (e::es) X.env=(false,eval e X.env)::starEach es X.env) (hpl:(backTo cpos (starEach es X.env)).any (·.1)=false) :
 PS (X.wish (FlyIn X E)) (.Raise (some (.Call (.Name x p) (e::es) [] cpos)) none pos) (λ_ σ H=>t σ H λvs H1=>vs.length=2/\zer C E H1):=by
 intro pins s σ H D I h
 have I:=I.unwish
 obtain⟨nm,qn,N,bs,bm,hd,sn,sub,ab,col,dd,k0,k1,k2,k3,k5,hC,T⟩:=XL.excCls_of I.kIn M.cls
 have hB:bm.contains (.type "BaseException")=true:=T.hasType (by decide +kernel)
 obtain⟨oC,hK⟩:∃o,X.K.lookup C=some o:=by
  cases z:X.K.lookup C with
  |some o=>exact⟨o,rfl⟩
  |none=>
   have:=M.cls
   unfold XL.excCls at this
   simp[z]at this
 have eC:oC=excClassObj nm qn C N bs bm hd sn sub ab col dd k0 k1 k2 k3 k5 "ValueError.__new__":=by
  have:=I.kIn C oC hK
  rw[hC]at this;cases this;rfl
 subst eC
 have ev:wpAny (model X.prog X.w) X.A (eval (.Call (.Name x p) (e::es) [] cpos) X.env) (λv s1=>∃e t dx,v=.ref e/\s1.heap.get? C=some (excClassObj nm qn C N bs bm hd sn sub ab col dd k0 k1 k2 k3 k5 "ValueError.__new__")/\s1.heap.get? e=some (XL.excObj C dx t)/\FlyIn X E (.ref e) s1) (FlyIn X E) s:=by
  refine vbt (zbf I hg hm ?_ hdb)
  refine vcn (h₀:=X.base) I.ok.mod.kin M.kp (vav (ha cpos pins s σ H _ (I.wish _) h) (λus s1 z9=>z9.el λvs H1 I1 r ⟨hz,q⟩=>?_) λ_ _ z=>z.elim) he hpl
  have I1:=I1.unwish
  refine⟨I1.kIn,?_⟩
  have hle:s1.heap.objs.size<=s1.heap.objs.size+1:=vdv _
  have hfr:H1 (s1.heap.objs.size+1)=none:=I1.hok.fresh hle
  have e2:((s1.heap.push {cls:=.type "tuple",data:=.seq us.toArray}).push (XL.excObj C none s1.heap.objs.size)).get? (s1.heap.objs.size+1)=some (XL.excObj C none s1.heap.objs.size):=by
   have:=va3 (s1.heap.push {cls:=.type "tuple",data:=.seq us.toArray}) (o:=XL.excObj C none s1.heap.objs.size) rfl
   rwa [vc6]at this
  have I2:Inv X pins σ (upd H1 (s1.heap.objs.size+1) (excH C none (s1.heap.objs.size+1))) {s1 with heap:=(s1.heap.push {cls:=.type "tuple",data:=.seq us.toArray}).push (XL.excObj C none s1.heap.objs.size)}:=
   I1.laid (t':=s1.toks) (λb u q=>vad _ (vad _ q)) hle (zlj e2)
  have r2:Vals (V.ref (s1.heap.objs.size+1)::vs) (Value.ref (s1.heap.objs.size+1)::us):=.cons rfl r
  obtain⟨v1,v2,rfl⟩:∃v1 v2,vs=[v1,v2]:=by
   match vs,hz with
   |[a,b],_=>exact⟨a,b,rfl⟩
  have hq:spI C [.ref (s1.heap.objs.size+1),v1,v2] (upd H1 (s1.heap.objs.size+1) (excH C none (s1.heap.objs.size+1))) (λv H2=>v=.non/\∃dx fs,H1 dx=none/\dx≠s1.heap.objs.size+1/\H2 (s1.heap.objs.size+1)=some (excH C (some dx) (s1.heap.objs.size+1))/\H2 dx=some (xdH fs dx)/\RF.Hx H1 H2):=
   ⟨_,v1,v2,rfl,zag,λdx fs H' d1 d2 d3 d4=>by
    have hne:dx≠s1.heap.objs.size+1:=λz=>by rw[z,zag]at d1;cases d1
    rw[zaf hne]at d1
    exact⟨rfl,dx,fs,d1,hne,d2,d3,λb o z=>by
     have hbn:b≠s1.heap.objs.size+1:=λy=>by rw[y,hfr]at z;cases z
     exact d4 b o hbn (by rw[zaf hbn];exact z)⟩⟩
  have hl:(Value.ref (s1.heap.objs.size+1)::us++[]).length=ps.length:=by
   rw[va5,<-r2.length];exact F.len _ _ _ hq
  have hb2:=hb _ (Value.ref (s1.heap.objs.size+1)::us) I2.kIn hl
  rw[va5]at hb2
  refine vc5 (XL.make_excI I1.kIn M.cls M.init (vcc.mp M.fn) (by show us.length<=sizeLine;rw[<-r.length];show 2<=sizeLine;decide) (vcv (F.run _ X.stack _ _ ⟨Value.ref (s1.heap.objs.size+1)::us,[]⟩ (Value.ref (s1.heap.objs.size+1)::us) _ _ (hr.make C us)
   (I2.env0.make C us []) hb2 r2 hq) λr s' hq'=>?_))
  cases r with
  |error e=>exact False.elim hq'
  |ok fl=>
   cases fl with
   |ret u=>
    obtain⟨v,H',I3,rv,ev,dx,fs,g1,g2,g3,g4,g5⟩:=I2.after hq'
    subst ev
    obtain⟨tt,ht⟩:=zhy I3.hok g3
    have I4:Inv X pins σ (upd H' (s1.heap.objs.size+1) (excR C (some dx) (s1.heap.objs.size+1))) s':=
     I3.write (h':=s'.heap) (t':=s'.toks) (x:=s1.heap.objs.size+1) (e:=s1.heap.objs.size+1) (by rw[g3];exact True.intro) (.inl rfl) (λb u _ z=>z) ⟨_,ht⟩ (zh9 ht)
    refine⟨rv,_,tt,some dx,rfl,I3.kIn _ _ hK,ht,_,_,C,some dx,none,pins,σ,_,rfl,I4,⟨_,_,ht,rfl⟩,.inl ⟨rfl,rfl⟩,vap I1.sz hle,vap I1.sz hle,zag,?_⟩
    refine q _ (some dx) _ (λb o z=>?_) zag λd hd=>?_
    .have hbn:b≠s1.heap.objs.size+1:=λy=>by rw[y,hfr]at z;cases z
     rw[zaf hbn];exact g5 b o z
    .cases hd
     exact⟨fs,by rw[zaf g2];exact g4⟩
   |next=>exact False.elim hq'
   |brk=>exact False.elim hq'
   |cont=>exact False.elim hq'
 show wpAny (model X.prog X.w) X.A (exec (.Raise (some (.Call (.Name x p) (e::es) [] cpos)) none pos) X.env) _ (FlyIn X E) s
 rw[arm_exec_Raise]
 first
  |exact vab (va4 (zdd (C:=C) hB (I.ok.hd hc) (vab (thn ev λv s1 q=>vab (va4 (vaf q))))))
  |(simp only[evalOpt,Option.map];exact vab (va4 (zdd (C:=C) hB (I.ok.hd hc) (vab (thn ev λv s1 q=>vab (va4 (vaf q)))))))
  |(show wpAny _ _ (do standAt pos;raiseStmt X.env (some (do let v <-eval (.Call (.Name x p) (e::es) [] cpos) X.env;standAt pos;pure v)) none) _ _ s;exact vab (va4 (zdd (C:=C) hB (I.ok.hd hc) (vab (thn ev λv s1 q=>vab (va4 (vaf q)))))))
end
theorem PS.fly{X:Cx}{E:XK}{st:Stmt}{t:TS}(h:PS (X.wish (FlyIn X E)) st t)(k:∀e s,FlyIn X E e s->X.xe e s):PS X st t:=λpins s σ H D I hw=>
 vav (h pins s σ H D (I.wish _) hw) (λ_ _ z=>SP.unwish z) k
theorem PI.nox{X:Cx}{tg it:Expr}{t:TI}(h:PI X.nox tg it t):PI X tg it t:=λpins s σ H R I hw=>
 vav (h pins s σ H R (I.wish _) hw) (λv s1 q=>vav q (λitv s2 ⟨i,fp,tn,J,H',e,I',T,t0,f0,r⟩=>⟨i,fp,tn,J,H',e,I'.unwish,T,t0,f0,r⟩) λ_ _ z=>z.elim) λ_ _ z=>z.elim
theorem PG.nox{X:Cx}{tg:Expr}{t:TG}(h:PG X.nox tg t):PG X tg t:=λpins s σ H v u Q I r hw=>
 vav (h pins s σ H v u Q (I.wish _) r hw) (λ_ _ ⟨σ',H',I',q⟩=>⟨σ',H',I'.unwish,q⟩) λ_ _ z=>z.elim
theorem PA.nox{X:Cx}{es:List Expr}{t:TA}(h:PA X.nox es t):PA X es t:=λpos pins s σ H Q I hw=>
 vav (h pos pins s σ H Q (I.wish _) hw) (λ_ _ ⟨vs,H',I',r,q⟩=>⟨vs,H',I'.unwish,r,q⟩) λ_ _ z=>z.elim
section
variable{X:Cx}
noncomputable def zvv(K:PySem.W.Frag):V->List V->Hp->VK->Prop:=λx vs H Q=>∃p xs y ds d j e,x=.ref p/\vs=[y]/\SqL K H p xs/\Rps K (λ_=>False) H xs ds/\Rp K (λ_=>False) H y d/\ds.all SeqAt.shaped=true/\SeqAt.shaped d=true/\
 ds[j]?=some e/\PyData.eqv e d=true/\(∀(m:Nat)(e:PyData),m<j->ds[m]?=some e->PyData.eqv e d=false)/\(j:Int)<2 ^ 63-1/\Q (.int (j:Nat)) H
theorem zmh(hu:X.A.in1.units+64<cLine):MtR X "list.index" (zvv X.K):=by
 intro pins s σ H x vs v us Q I rx rv h
 obtain⟨p,xs,y,ds,d,j,ej,rfl,rfl,hq,r1,r2,s1,s2,hj,hjt,hjf,hsm,q⟩:=h
 cases rx
 obtain⟨u,rfl,ru⟩:=rv.one
 obtain⟨bs,rb⟩:=r2.reads I ru
 obtain⟨its,r,pl,hz⟩:=I.list hq
 obtain⟨as,ra⟩:=r1.reads I r
 obtain⟨⟨c,dd,dt,sl⟩,n,e1,e2,e4,e3⟩:=pl
 replace e2:c=.type "list":=e2
 replace e3:dt=.seq its.toArray n:=e3
 subst e2 e3
 have len:its.length=ds.length:=zbi ra
 have hjl:j<its.toArray.size:=by rw[vag,len];exact(van.mp hj).1
 have at':∀(m:Nat)(hm:m<its.toArray.size),its[m]?=some its.toArray[m]:=λm hm=>by
  rw[vay (by simpa using hm)];rfl
 refine vdd PySem.F.slot_list_index ⟨_,e1,rfl⟩ PySem.F.entry_list_index (PySem.F.args_list_index_2 _ _) (SeqAt.list_indexAt p its.toArray n dd sl u (eqOf its ds d) j hjl hsm ?_ λm hm hlt=>?_) ⟨e1,λw hw=>zc7 ?_ ra rb s1 s2 w (by simpa using hw),?_⟩
 .rw[zf0 ra s1 (at' j hjl) hj];exact hjt
 .have hm':m<ds.length:=by rw[<-len];simpa using hm
  rw[zf0 ra s1 (at' m hm) (vay hm')]
  exact hjf m _ hlt (vay hm')
 .exact hu
 .exact⟨.int _,H,I.tok _,⟨_,rfl⟩,q⟩
noncomputable def rIsE(K:PySem.W.Frag)(c:Value)(cv:V):List V->Hp->VK->Prop:=λxs H Q=>∃a C b,xs=[.ref a,cv]/\Err C a H/\XL.ExcI K C/\PySem.W.kitOne K (.ref C) c=some b/\Q (.bl b) H
theorem zov{c:Value}{cv:V}(hc:tyVal cv=some c):CallR X (.builtin "isinstance") (rIsE X.K c cv):=by
 intro pins s σ H xs us Q I r h
 obtain⟨a,C,b,rfl,ea,kk,e,q⟩:=h
 obtain⟨u,u2,rfl,rx,rc⟩:=vals2 r
 have e2:u2=c:=by
  cases cv with
  |ty n=>cases hc;exact rc
  |ref a=>cases hc;exact rc
  |_=>cases hc
 subst e2
 obtain rfl:u=Value.ref a:=rx
 obtain⟨dx,ea,hd⟩:=ea
 obtain⟨vs,sl,ht⟩:=zr4 I.hok ea
 have hin:∃od,PySem.W.InstAt s.heap a ⟨.ref C,dx,.fields vs,sl⟩ C od:=by
  cases dx with
  |none=>exact⟨none,ht,rfl,rfl,trivial⟩
  |some d=>
   obtain⟨fs,ed⟩:=hd d rfl
   obtain⟨mA,n1,_⟩:=zps I.hok ed
   obtain⟨od,hod,_⟩:=zea n1
   exact⟨some od,ht,rfl,rfl,hod⟩
 obtain⟨od,hin⟩:=hin
 exact vbk (XL.kitx_exc (od:=od) kk) I.kIn hin e (λz=>nomatch z) λtk=>⟨.bl b,H,I.tok _,rfl,q⟩
end
end L2
namespace RF
open PySem PySem.Spec PyProof.Rows L2
noncomputable def spWd(C:Addr)(z:Str):List V->Hp->VK->Prop:=λvs H Q=>∃a,vs=[.ref a]/\Err C a H/\∀H',Hx H H'->Q (.str z) H'
section
variable{K:PySem.W.Frag}{m m':Nat->Addr}{n:Nat}{h h':VH}{H H':Hp}
theorem Rel.hx(r:Rel K m h H)(k:Hx H H'):Stp m h.n H m h.n H'/\Rel K m h H':=by
 have st:Stp m h.n H m h.n H':=⟨vac _,λ_ _=>rfl,λj a b=>absurd b (vb5.mpr a),λj k a b=>absurd b (vb5.mpr a),λb vs q=>k _ _ q,λb o t q=>k _ _ q,λb o nb q=>k _ _ q⟩
 refine⟨st,⟨λj hj=>?_,r.inj,r.len⟩⟩
 obtain⟨o',h1,h2⟩:=r.obj j hj
 obtain⟨u',h3⟩:=h2.some
 exact⟨o',h1,ORep.stp st (by rw[h3];exact k _ _ h3) h2⟩
noncomputable def Rais(K:PySem.W.Frag)(m:Nat->Addr)(n:Nat)(H:Hp)(C:Addr)(h':VH)(E:XK):Prop:=∀H' m',Stp m n H m' h'.n H'->Rel K m' h' H'->zer C E H'
noncomputable def endX(K:PySem.W.Frag)(m:Nat->Addr)(n:Nat)(H:Hp)(w:W)(h':VH)(Q:VK)(E:XK):Prop:=match w with
 |.tup [x]=>Wants K m n H x h' Q
 |.int i=>Rais K m n H i.toNat h' E
 |_=>False
noncomputable def spX(K:PySem.W.Frag)(np:Nat)(g:List W->VH->Res W):Sp:=λvs H Q E=>vs.length=np/\∃h m ws w h',Rel K m h H/\VReps K m h.n H vs ws/\g ws h=.ok w h'/\endX K m h.n H w h' Q E
noncomputable def rtX(K:PySem.W.Frag)(m:Nat->Addr)(n:Nat)(H:Hp)(Q:VK)(E:XK)(w:W):Prop:=match w with
 |.tup [x]=>∀v,VRep K m n H v x->Q v H
 |.int i=>zer i.toNat E H
 |_=>False
noncomputable abbrev Rx(K:PySem.W.Frag)(E:XK):RtK:=λm n H Q w=>rtX K m n H Q E w
end
noncomputable def noRet:S->Bool
 |.seq a b=>noRet a&&noRet b
 |.ite _ a b=>noRet a&&noRet b
 |.for _ _ _ b=>noRet b
 |.whl _ b=>noRet b
 |.ret _=>false
 |.tryc _ _ _=>false
 |.tel ..=>false
 |_=>true
noncomputable def isRt:Fl->Bool
 |.rt _=>true
 |_=>false
noncomputable def NoRt(r:Res Fl):Prop:=∀fl h',r=.ok fl h'->isRt fl=false
theorem NoRt.bind{α:Type}{r:Res α}{f:α->VH->Res Fl}(k:∀a h,NoRt (f a h)):NoRt (r.bind f):=λfl h' e=>zaa e λa h1 _ e2=>k a h1 fl h' e2
theorem NoRt.no:NoRt .no:=λ_ _ e=>nomatch e
theorem NoRt.of{o:Option En}{h:VH}:NoRt (.of (o.map .nx) h):=λfl h' e=>by
 obtain⟨e,_⟩:=of_ok e
 cases o with
 |none=>cases e
 |some ρ=>cases e;rfl
theorem NoRt.nx{ρ:En}{h:VH}:NoRt (.ok (.nx ρ) h):=λ_ _ e=>by cases e;rfl
theorem zf9{nx:Nat->VH->Option (Option W)}{tg:W->VH->En->Option En}{b:En->VH->Res Fl}(hb:∀ρ h,NoRt (b ρ h)):∀(f i:Nat) (ρ:En) (h:VH),NoRt (forG nx tg b f i ρ h)
 |0,_,_,_=>.no
 |f+1,i,ρ,h=>by
  simp only[forG]
  split
  .exact .no
  .exact .nx
  .split
   .exact .no
   .intro fl h' e
    refine zaa e λfl1 h1 e1 e2=>?_
    have:=hb _ _ fl1 h1 e1
    cases fl1 with
    |nx ρ=>exact zf9 hb f _ _ _ fl h' e2
    |ct ρ=>exact zf9 hb f _ _ _ fl h' e2
    |bk ρ=>cases e2;rfl
    |rt w=>cases this
theorem zga{c:En->VH->Res W}{b:En->VH->Res Fl}(hb:∀ρ h,NoRt (b ρ h)):∀(f:Nat) (ρ:En) (h:VH),NoRt (whlG c b f ρ h)
 |0,_,_=>.no
 |f+1,ρ,h=>by
  simp only[whlG]
  refine .bind λt h1=>?_
  split
  .exact .nx
  .intro fl h' e
   refine zaa e λfl1 h1 e1 e2=>?_
   have:=hb _ _ fl1 h1 e1
   cases fl1 with
   |nx ρ=>exact zga hb f _ _ fl h' e2
   |ct ρ=>exact zga hb f _ _ fl h' e2
   |bk ρ=>cases e2;rfl
   |rt w=>cases this
  .exact .no
theorem nort{cl:Call}:∀(s:S),noRet s=true->∀(ρ:En) (h:VH),NoRt (exs cl s ρ h):=by
 intro s
 induction s with
 |skip=>intro _ ρ h;exact .nx
 |seq a b i1 i2=>
  intro hs ρ h
  simp only[noRet,vaa]at hs
  intro fl h' e
  simp only[exs]at e
  refine zaa e λfl1 h1 e1 e2=>?_
  have:=i1 hs.1 _ _ fl1 h1 e1
  cases fl1 with
  |nx ρ1=>exact i2 hs.2 _ _ fl h' e2
  |bk _=>cases e2;rfl
  |ct _=>cases e2;rfl
  |rt _=>cases this
 |set i e=>intro _ ρ h;simp only[exs];exact .bind λw h1=>.nx
 |unp is e=>intro _ ρ h;simp only[exs];exact .bind λw h1=>.of
 |aug i o e=>
  intro _ ρ h;simp only[exs]
  split
  .exact .bind λy h1=>.bind λz h2=>.nx
  .exact .no
 |put o i v=>
  intro _ ρ h;simp only[exs]
  refine .bind λw h1=>.bind λx h2=>.bind λy h3=>?_
  split
  .split
   .split
    .exact .nx
    .exact .no
   .exact .no
  .exact .no
 |ite c a b i1 i2=>
  intro hs ρ h
  simp only[noRet,vaa]at hs
  simp only[exs]
  refine .bind λx h1=>?_
  split
  .exact i1 hs.1 _ _
  .exact i2 hs.2 _ _
  .exact .no
 |ret e=>intro hs;cases hs
 |expr e=>intro _ ρ h;simp only[exs];exact .bind λw h1=>.nx
 |brk=>intro _ ρ h fl h' e;cases e;rfl
 |cnt=>intro _ ρ h fl h' e;cases e;rfl
 | «for» k a t b i1=>intro hs ρ h;simp only[exs];exact .bind λx h1=>zf9 (i1 hs) _ _ _ _
 |whl c b i1=>intro hs ρ h;simp only[exs];exact zga (i1 hs) _ _ _
 |tryc f a tb=>intro hs;cases hs
 |tel f a b s t=>intro hs;cases hs
 |no=>intro _ ρ h;exact .no
theorem _root_.L2.PS.nox{X:Cx}{st:Stmt}{t:TS}(h:PS X.nox st t):PS X st t:=λpins s σ H D I hw=>vav (h pins s σ H D (I.wish _) hw) (λ_ _ z=>SP.unwish z) λ_ _ z=>z.elim
section
variable{X:Cx}{E:XK}{c e:Expr}{fa fc:FE}{pos p:Pos}{x:Str}{st:Stmt}{sts sa sb:List Stmt}{gs gt:FS}
noncomputable abbrev SX(X:Cx)(E:XK)(st:Stmt)(f:FS):Prop:=SR X (Rx X.K E) st f
noncomputable abbrev SXs(X:Cx)(E:XK)(st:List Stmt)(f:FS):Prop:=SRs X (Rx X.K E) st f
structure Fly(X:Cx)(E:XK):Prop where
 fly:∀e s,FlyIn X E e s->X.xe e s
 own:PassesOwn (model X.prog X.w) X.A X.env X.xe
theorem zi9{cl:Call}{s:S}(h:SS X.nox st (exs cl s))(hs:noRet s=true):SX X E st (exs cl s):=(PS.nox h).imp λD σ H z9=>z9.el λρ h m fl h' f r e k=>.mk f r e λH' m' s' r'=>by
 have n:=nort s hs ρ h fl h' e
 have:=k H' m' s' r'
 cases fl with
 |nx _=>exact this
 |bk _=>exact this
 |ct _=>exact this
 |rt _=>cases n
theorem zvw(he:SE X.nox e fa):SX X E (.Return (some e) pos) (λρ h=>(fa ρ h).bind λw h=>.ok (.rt (.tup [w])) h):=(zgr (PE.nox he)).imp λD σ H z9=>z9.el λρ h m fl h' f r e k=>by
 refine zaa e λw h1 e1 e2=>?_
 cases e2
 exact(.mk f r e1 λv H1 m1 s1 r1 q1=>k H1 m1 s1 r1 v q1)
theorem zow{C:Addr}{cpos:Pos}(F:Fly X E)(M:MkE X.K C)(hc:X.calm=true)(hg:Gl X x)(hm:X.mg x=some (.ref C))(hdb:(x==("__debug__" : Str))=false) :
 SX X E (.Raise (some (.Call (.Name x p) [] [] cpos)) none pos) (λ_ h=>.ok (.rt (.int C)) h):=((zmf M hc hg hm hdb).fly F.fly).imp λD σ H z9=>z9.el λρ h m fl h' f r e k=>by
 cases e
 exact zer.plain (k H m .refl r)
theorem zmi{C g:Addr}{fd:FuncData}{ps:List Str}{es:List Expr}{cpos:Pos}{ga:FE}(F:Fly X E)(M:MkI X.K C g)(G:FnOkH X.prog X.w X.K X.mg X.base 1 g fd ps (spI C))(hr:RoomH 2 X.A)(hb:Binds X.K fd ps [])(hc:X.calm=true)(hg:Gl X x)(hm:X.mg x=some (.ref C))(hdb:(x==("__debug__" : Str))=false)
 (ha:SA X.nox (e::es) ga) (hst:(e::es).all zat=true):SX X E (.Raise (some (.Call (.Name x p) (e::es) [] cpos)) none pos) (λρ h=>(ga ρ h).bind λy h=>match y with|.tup [_,_]=>.ok (.rt (.int C)) h|_=>.no):=by
 rw[vbn,vaa]at hst
 refine((zmg M G hr hb hc hg hm ha hdb (zae hst.1) (za7 hst.2)).fly F.fly).imp λD σ H z9=>z9.el λρ h m fl h' f r e k=>?_
 refine zaa e λy h1 e1 e2=>?_
 split at e2
 .rename_i a b
  cases e2
  exact lftA.mk f r e1 λvs H1 m1 s1 r1 q1=>⟨q1.length,k H1 m1 s1 r1⟩
 .cases e2
noncomputable abbrev gTel(g:List W->VH->Res W)(fa:FE)(b:Bool)(s t:FS):FS:=λρ h=>(fa ρ h).bind λy h=>match y with
 |.tup ys=>(g ys h).bind λw h=>telW b s t ρ w h
 |_=>.no
section
variable{k:Nat}{g:Addr}{fd:FuncData}{ps:List Str}{rn:List W->VH->Res W}{es:List Expr}{ga:FE}{cpos p2:Pos}
theorem zmj(F:Fly X E):ze2 (CX1 X.prog X.w) X E:=λpins σ H s e s' I q=>F.fly _ _ (pass1 pins σ H s e s' (I.wish _) q)
theorem zqd{b:Bool}{gs gt:FS}{Q:VK}{σ:L2.St}{H:Hp}{ρ:En}{h h':VH}{m:Nat->Addr}{fl:Fl}{D:Ends}(hlen:∀ws h w h',rn ws h=.ok w h'->ws.length=ps.length)(f:Fr X.K m h.n H σ ρ)(r:Rel X.K m h H)(e:gTel rn ga b gs gt ρ h=.ok fl h')
 (k:∀H' m',Stp m h.n H m' h'.n H'->Rel X.K m' h' H'->FlOk X.K (Rx X.K E) m' h'.n H' D fl)
 (kv:∀x h2,telW b gs gt ρ (.tup [x]) h2=.ok fl h'->∀v H' m',Stp m h.n H m' h2.n H'->Rel X.K m' h2 H'->VRep X.K m' h2.n H' v x->Q v H') :
 lftA X.K ga σ H λvs H1=>spX X.K ps.length rn (vs++[]) H1 Q E:=by
 refine zaa e λy h1 e1 e2=>?_
 cases y with
 |tup ys=>
  refine zaa e2 λw h2 e3 e4=>?_
  refine lftA.mk f r e1 λvs H1 m1 s1 r1 q1=>⟨by rw[va5,q1.length,hlen _ _ _ _ e3],h1,m1,ys,w,h2,r1,by rw[va5];exact q1,e3,?_⟩
  unfold endX
  split
  .rename_i x
   exact λv H' m' s' r' q'=>kv x h2 e4 v H' m' (s1.trans s') r' q'
  .rename_i i
   cases e4
   exact λH' m' s' r'=>k H' m' (s1.trans s') r'
  .rename_i n1 n2
   unfold telW at e4
   split at e4
   .exact(n1 _ rfl).elim
   .exact(n2 _ rfl).elim
   .cases e4
 |_=>cases e2
theorem zr6(F:Fly X E)(G:FnOk X.prog X.w X.K X.mg X.base (CX1 X.prog X.w) k g fd ps (spX X.K ps.length rn))(hr:Room k X.A)(hg:Gl X x)(hm:X.mg x=some (.ref g))(hk:PySem.W.keepIn X.K (.ref g)=true)(hb:Binds X.K fd ps [])
 (hlen:∀ws h w h',rn ws h=.ok w h'->ws.length=ps.length) (ha:SA X.nox (e::es) ga) (hst:(e::es).all zat=true) (hdb:(x==("__debug__" : Str))=false) :
 SX X E (.Expr (.Call (.Name x p) (e::es) [] cpos) pos) (gTel rn ga false gSkip gSkip):=by
 rw[vbn,vaa]at hst
 refine(zkq (zfs (E:=E) G hr hg hm hk hb .nil (zmj F) (PA.nox ha) hdb (zae hst.1) (za7 hst.2)) (by rfl)).imp λD σ H z9=>z9.el λρ h m fl h' f r e k=>?_
 refine zqd (D:=D) hlen f r e k λx h2 e4 v H' m' s' r' q'=>?_
 cases e4
 exact k H' m' s' r' σ (f.stp s')
theorem zr7(F:Fly X E)(G:FnOk X.prog X.w X.K X.mg X.base (CX1 X.prog X.w) k g fd ps (spX X.K ps.length rn))(hr:Room k X.A)(hg:Gl X x)(hm:X.mg x=some (.ref g))(hk:PySem.W.keepIn X.K (.ref g)=true)(hb:Binds X.K fd ps [])
 (hlen:∀ws h w h',rn ws h=.ok w h'->ws.length=ps.length) (ha:SA X.nox (e::es) ga) (hst:(e::es).all zat=true) (hdb:(x==("__debug__" : Str))=false) (hsa:SXs X E sa gs) (hsb:SXs X E sb gt) :
 SX X E (.If (.UnaryOp .Not (.Call (.Name x p) (e::es) [] cpos) p2) sa sb pos) (gTel rn ga true gs gt):=by
 rw[vbn,vaa]at hst
 refine(ps_if (zkp (zpj (zfs (E:=E) G hr hg hm hk hb .nil (zmj F) (PA.nox ha) hdb (zae hst.1) (za7 hst.2)) λ_=>rfl)) hsa hsb).imp λD σ H z9=>z9.el λρ h m fl h' f r e k=>?_
 refine zqd (D:=D) hlen f r e k λx h2 e4 v H' m' s' r' q'=>?_
 unfold telW at e4
 simp only[vbd]at e4
 split at e4
 .cases q'
  exact⟨_,rfl,.mk (f.stp s') r' e4 λH3 m3 s3 r3=>k H3 m3 (s'.trans s3) r3⟩
 .cases q'
  exact⟨_,rfl,.mk (f.stp s') r' e4 λH3 m3 s3 r3=>k H3 m3 (s'.trans s3) r3⟩
 .cases e4
end
end
section
variable{K:PySem.W.Frag}{m m':Nat->Addr}{h h1 h2:VH}{H H':Hp}
theorem zr8{w w2:W}(e:leave h w h1=.ok w2 h2):w2=w:=by
 unfold leave at e
 split at e<;>cases e<;>rfl
theorem zr9{x:W}(e:leave h (.tup [x]) h1=.ok (.tup [x]) h2):leave h x h1=.ok x h2:=by
 unfold leave at e ⊢
 have hl:W.lt h.n (.tup [x])=W.lt h.n x:=by simp only[W.lt,W.lts,Bool.and_true]
 rw[hl]at e
 split at e
 .rename_i z;cases e;rw[if_pos z]
 .rename_i z;cases e;rw[if_neg z]
theorem zmk{w w2:W}{Q:VK}{E:XK}(r:Rel K m h H)(s:Stp m h.n H m' h1.n H')(r1:Rel K m' h1 H')(g:Grow ⟨h.n,h.n,h.os⟩ h1)(e:leave h w h1=.ok w2 h2)(k:endX K m h.n H w2 h2 Q E):rtX K m' h1.n H' Q E w:=by
 obtain rfl:=zr8 e
 unfold endX at k
 unfold rtX
 split at k
 .rename_i x
  exact λv hv=>zdu r s r1 hv g (zr9 e) k
 .rename_i i
  exact zdu (v:=.int i) (Q:=λ_ H'=>zer i.toNat E H') r s r1 (.int i) g e (λv H' m' s r _=>k H' m' s r)
 .cases k
end
theorem zsa{P:Program}{w:World}{K:PySem.W.Frag}{mg:Str->Option Value}{base:Heap}{F:Nat->Option Fn}{k idx:Nat}{fn:Fn}{x qual:Str}{st:Stmt}{f:Addr}{fd:FuncData}{N ps:List Str}{b:S}(hF:F idx=some fn)(Fu:FunD K x qual st f fd)(S:FnScope N ps (zam st))
 (hn:fn.n=N.length) (hp:fn.ps=ps.length) (hb:fn.body=.seq b (.ret (.cst (.tup [.non]))))
 (hbody:∀(cdv:Value)(A:Around)(outer:List Env)(s:Shared)(H:Hp)(E:XK),Room k (A.deeper (envOfC qual (zam st) s.heap.objs.size f cdv))->SXs (cxOf (CX1 P w) P w K mg base N qual (zam st) f cdv A outer s H E) E (zc4 st) (exs (run F k) b)) :
 FnOk P w K mg base (CX1 P w) (k+1) f fd ps (spX K ps.length (run F (k+1) idx)):=by
 obtain⟨_,_,_,_,_,_,_,cdv,_,_,e,lk,hcd⟩:=Fu.ex
 subst e
 refine fn_of lk hcd S (λvs H Q E h=>h.1) λA outer s H vs Q E hr hsp=>?_
 refine⟨_,hbody cdv A outer s H E hr,?_⟩
 obtain⟨hl,h,m,ws,w2,h2,r,q,e,k2⟩:=hsp
 have hws:=zcb hF e
 simp only[run,hF]at e
 split at e
 .refine zaa e λfl h1 e1 e2=>?_
  have g:=zha (zhb F k) _ _ _ _ _ e1
  have hN:fn.n-fn.ps=N.length-ws.length:=by rw[hn,hws]
  rw[hN,hb]at e1
  simp only[exs]at e1
  refine zaa e1 λfl1 h3 e3 e4=>?_
  refine⟨_,⟨h.n,h.n,h.os⟩,m,fl1,h3,zi7 q,zmc r,e3,λH' m' s' r'=>?_⟩
  cases fl1 with
  |nx ρ=>
   cases e4
   have:=zmk (K:=K) (m:=m) (m':=m') (H:=H) (H':=H') (h:=h) (Q:=Q) (E:=E) r s' r' g e2 k2
   exact λσ' f'=>this .non .non
  |rt w3=>cases e4;exact zmk r s' r' g e2 k2
  |bk _=>cases e4;cases e2
  |ct _=>cases e4;cases e2
 .cases e
theorem zox{P:Program}{w:World}{K:PySem.W.Frag}{mg:Str->Option Value}{base:Heap}{F:Nat->Option Fn}{idx:Nat}{f:Addr}{fd:FuncData}{ps:List Str}:FnOk P w K mg base (CX1 P w) 0 f fd ps (spX K ps.length (run F 0 idx)):=
 ⟨λvs H Q E h=>h.1,λA outer s H args us vs Q E hr he hb hv hs=>by obtain⟨_,h,m,ws,w2,h2,r,q,e,k2⟩:=hs;cases e⟩
end RF
namespace L2
open PySem PySem.Spec PyProof.Rows
section
variable{X:Cx}
theorem zsb{k i:Nat}{fa ga D:Addr}{fd gd:FuncData}{ps qs:List Str}{sp sq:Sp}{f g xb n:Str}{p cpos epos p2 cpos2 epos2 ipos tp hpos pos:Pos}{c e e2:Expr}{es es2:List Expr}{b0:Stmt}{suite:List Stmt}{tc:TT}{ta tb:TA}{th:TS}
 (hs:X.stack=X.env::X.outer) (hf:X.env.frame=some X.env.locals) (hc:PT X.nox c tc)
 (F:FnOk X.prog X.w X.K X.mg X.base (CX1 X.prog X.w) k fa fd ps sp) (hr:Room k X.A) (hg:Gl X f) (hm:X.mg f=some (.ref fa)) (hk:PySem.W.keepIn X.K (.ref fa)=true) (hb:Binds X.K fd ps [])
 (F2:FnOk X.prog X.w X.K X.mg X.base (CX1 X.prog X.w) k ga gd qs sq) (hg2:Gl X g) (hm2:X.mg g=some (.ref ga)) (hk2:PySem.W.keepIn X.K (.ref ga)=true) (hb2:Binds X.K gd qs [])
 (ha:PA X.nox (e::es) ta) (ha2:PA X.nox (e2::es2) tb) (hgb:Gl X xb) (hmb:X.mg xb=some (.ref D)) (hN:X.N.Nodup) (hi:X.N[i]?=some n) (hl:X.env.kindOf n=some .local) (hx:Loc X.env.scope n) (hfn:X.fn n=true)
 (hh:∀x,PSs (X.hand x) (b0::suite) th) (hdb:(f==("__debug__" : Str))=false) (hdg:(g==("__debug__" : Str))=false) (hdb2:(xb==("__debug__" : Str))=false)
 (he:starEach (e::es) X.env=(false,eval e X.env)::starEach es X.env) (hpl:(backTo cpos (starEach es X.env)).any (·.1)=false) (hsw:swapsWith (.Call (.Name f p) (e::es) [] cpos) none epos.line X.env=pure false)
 (he2:starEach (e2::es2) X.env=(false,eval e2 X.env)::starEach es2 X.env) (hpl2:(backTo cpos2 (starEach es2 X.env)).any (·.1)=false) (hsw2:swapsWith (.Call (.Name g p2) (e2::es2) [] cpos2) none epos2.line X.env=pure false) :
 PS X (.Try [.If c [.Expr (.Call (.Name f p) (e::es) [] cpos) epos] [.Expr (.Call (.Name g p2) (e2::es2) [] cpos2) epos2] ipos] [.ExceptHandler (some (.Name xb tp)) (some n) (b0::suite) hpos] [] [] pos) (tIfS tc (tTry X.K D i sp ta th) (tTry X.K D i sq tb th)):=by
 intro pins s σ H D0 I h
 refine wpAny_Try_except (vc2 (wpAny_If (vav (hc pins s σ H _ (I.wish _) h) (λd s0 z9=>z9.el λH0 I0 q0=>?_) λ_ _ z=>z.elim)))
 have I0:=I0.unwish
 cases d with
 |true=>
  refine vc2 (vec ?_ I0.quiet hsw)
  refine vbt (zbf I0 hg hm ?_ hdb)
  refine vcn (h₀:=X.base) I0.ok.mod.kin hk (vav (ha cpos pins s0 σ H0 _ (I0.wish _) q0) (λus s1 z9=>z9.el λvs H1 I1 r q=>?_) λ_ _ z=>z.elim) he hpl
  have I1:=I1.unwish
  refine⟨I1.kIn,?_⟩
  have len:us.length=ps.length:=by rw[<-r.length];exact F.len _ _ _ _ q
  have hb1:=hb s1 us I1.kIn (by rw[va5];exact len)
  rw[va5]at hb1
  refine vc5 (vcv (F.run X.A X.stack s1 H1 ⟨us,[]⟩ us vs (λ_ H2=>D0.nx σ H2) (tryE X.K D i th D0 σ) hr I1.env0 hb1 r q) λres s' hq=>?_)
  cases res with
  |ok fl=>
   cases fl with
   |ret u=>
    obtain⟨v,H2,I2,_,q2⟩:=I1.after hq
    exact vbu (vbu (vbu ⟨σ,H2,I2,q2⟩))
   |next=>exact False.elim hq
   |brk=>exact False.elim hq
   |cont=>exact False.elim hq
  |error er=>
   obtain⟨x,T,C,dx,H2,rfl,a,C',hc',sb,hth⟩:=At.of (E:=tryE X.K D i th D0 σ) I1 hq
   cases hc'
   refine a.noted hs hf λs2 T2 a2=>a2.lands λs3 a3=>?_
   refine wpAny_handleBy_cons (codeAny_handlers_test ?_) (by intro z;cases z)
   have I3:=a3.I.hand x
   refine zbf (X:=X.hand x) I3 hgb hmb ?_ hdb2
   obtain⟨vs3,sl3,he3,_⟩:=a3.ex.ex
   refine zia a3.I.kIn sb he3 rfl ?_
   refine codeAny_handlers_suite_as (a3.lands λs4 a4=>?_)
   refine zcf (X:=X.hand x) (a4.I.hand x) hN hi hx (v:=.ref x) rfl (λs5 I5=>?_) (.inl hfn)
   refine vav (hh x pins s5 _ H2 _ I5 (hth x a4.hx)) (λfl s6 q6=>?_) λ_ _ z=>z.elim
   cases fl with
   |next=>
    obtain⟨σ',H',I',q'⟩:=q6
    exact(I'.unhand I.ok).gone hN hi hl λs7 I7=>⟨_,H',I7,q'⟩
   |brk=>
    obtain⟨σ',H',I',q'⟩:=q6
    exact(I'.unhand I.ok).gone hN hi hl λs7 I7=>⟨_,H',I7,q'⟩
   |cont=>
    obtain⟨σ',H',I',q'⟩:=q6
    exact(I'.unhand I.ok).gone hN hi hl λs7 I7=>⟨_,H',I7,q'⟩
   |ret u=>
    obtain⟨v,σ',H',I',r',q'⟩:=q6
    exact(I'.unhand I.ok).gone hN hi hl λs7 I7=>⟨v,_,H',I7,r',q'⟩
 |false=>
  refine vc2 (vec ?_ I0.quiet hsw2)
  refine vbt (zbf I0 hg2 hm2 ?_ hdg)
  refine vcn (h₀:=X.base) I0.ok.mod.kin hk2 (vav (ha2 cpos2 pins s0 σ H0 _ (I0.wish _) q0) (λus s1 z9=>z9.el λvs H1 I1 r q=>?_) λ_ _ z=>z.elim) he2 hpl2
  have I1:=I1.unwish
  refine⟨I1.kIn,?_⟩
  have len:us.length=qs.length:=by rw[<-r.length];exact F2.len _ _ _ _ q
  have hb1:=hb2 s1 us I1.kIn (by rw[va5];exact len)
  rw[va5]at hb1
  refine vc5 (vcv (F2.run X.A X.stack s1 H1 ⟨us,[]⟩ us vs (λ_ H2=>D0.nx σ H2) (tryE X.K D i th D0 σ) hr I1.env0 hb1 r q) λres s' hq=>?_)
  cases res with
  |ok fl=>
   cases fl with
   |ret u=>
    obtain⟨v,H2,I2,_,q2⟩:=I1.after hq
    exact vbu (vbu (vbu ⟨σ,H2,I2,q2⟩))
   |next=>exact False.elim hq
   |brk=>exact False.elim hq
   |cont=>exact False.elim hq
  |error er=>
   obtain⟨x,T,C,dx,H2,rfl,a,C',hc',sb,hth⟩:=At.of (E:=tryE X.K D i th D0 σ) I1 hq
   cases hc'
   refine a.noted hs hf λs2 T2 a2=>a2.lands λs3 a3=>?_
   refine wpAny_handleBy_cons (codeAny_handlers_test ?_) (by intro z;cases z)
   have I3:=a3.I.hand x
   refine zbf (X:=X.hand x) I3 hgb hmb ?_ hdb2
   obtain⟨vs3,sl3,he3,_⟩:=a3.ex.ex
   refine zia a3.I.kIn sb he3 rfl ?_
   refine codeAny_handlers_suite_as (a3.lands λs4 a4=>?_)
   refine zcf (X:=X.hand x) (a4.I.hand x) hN hi hx (v:=.ref x) rfl (λs5 I5=>?_) (.inl hfn)
   refine vav (hh x pins s5 _ H2 _ I5 (hth x a4.hx)) (λfl s6 q6=>?_) λ_ _ z=>z.elim
   cases fl with
   |next=>
    obtain⟨σ',H',I',q'⟩:=q6
    exact(I'.unhand I.ok).gone hN hi hl λs7 I7=>⟨_,H',I7,q'⟩
   |brk=>
    obtain⟨σ',H',I',q'⟩:=q6
    exact(I'.unhand I.ok).gone hN hi hl λs7 I7=>⟨_,H',I7,q'⟩
   |cont=>
    obtain⟨σ',H',I',q'⟩:=q6
    exact(I'.unhand I.ok).gone hN hi hl λs7 I7=>⟨_,H',I7,q'⟩
   |ret u=>
    obtain⟨v,σ',H',I',r',q'⟩:=q6
    exact(I'.unhand I.ok).gone hN hi hl λs7 I7=>⟨v,_,H',I7,r',q'⟩
end
end L2
namespace RF
open PySem PySem.Spec PyProof.Rows L2
noncomputable def oneOf{α:Type}:List α->Option α
 |[a]=>some a
 |_=>none
theorem za8{α:Type}{l:List α}{a:α}(h:oneOf l=some a):l=[a]:=by
 unfold oneOf at h
 split at h
 .cases h;rfl
 .cases h
noncomputable def nmE:Expr->Option (Str×Pos)
 |.Name x p=>some (x,p)
 |_=>none
theorem zfg{e:Expr}{q:Str×Pos}(h:nmE e=some q):e=.Name q.1 q.2:=by
 unfold nmE at h
 split at h
 .cases h;rfl
 .cases h
structure CallQ where
 f:Str
 p:Pos
 args:List Expr
 cp:Pos
noncomputable def zes:Expr->Option CallQ
 |.Call g args [] cp=>(nmE g).map λq=>⟨q.1,q.2,args,cp⟩
 |_=>none
theorem mapS{α β:Type}{o:Option α}{f:α->β}{b:β}(h:o.map f=some b):∃a,o=some a/\f a=b:=by
 cases o with
 |none=>cases h
 |some a=>cases h;exact⟨a,rfl,rfl⟩
theorem bindS{α β:Type}{o:Option α}{f:α->Option β}{b:β}(h:o.bind f=some b):∃a,o=some a/\f a=some b:=by
 cases o with
 |none=>cases h
 |some a=>exact⟨a,rfl,h⟩
theorem zcc{e:Expr}{q:CallQ}(h:zes e=some q):e=.Call (.Name q.f q.p) q.args [] q.cp:=by
 unfold zes at h
 split at h
 .obtain⟨z,h1,rfl⟩:=mapS h
  rw[zfg h1]
 .cases h
noncomputable def stE:Stmt->Option (Expr×Pos)
 |.Expr e p=>some (e,p)
 |_=>none
theorem zvx{s:Stmt}{q:Expr×Pos}(h:stE s=some q):s=.Expr q.1 q.2:=by
 unfold stE at h
 split at h
 .cases h;rfl
 .cases h
noncomputable def stR:Stmt->Option (Expr×Pos)
 |.Return o p=>o.map λe=>(e,p)
 |_=>none
theorem zvy{s:Stmt}{q:Expr×Pos}(h:stR s=some q):s=.Return (some q.1) q.2:=by
 unfold stR at h
 split at h
 .obtain⟨e,h1,rfl⟩:=mapS h
  rw[h1]
 .cases h
noncomputable def isWd(n:Str)(q:CallQ):Bool:=q.f==("_law_word" : Str)&& (match(oneOf q.args).bind nmE with
 |some y=>y.1==n
 |none=>false)
theorem zml{n:Str}{q:CallQ}(h:isWd n q=true):q.f = "_law_word"/\∃yp,q.args=[.Name n yp]:=by
 unfold isWd at h
 rw[vaa,vcc]at h
 obtain⟨h1,h2⟩:=h
 split at h2
 .rename_i y hy
  obtain⟨a,e1,e2⟩:=bindS hy
  rw[vcc]at h2
  exact⟨h1,y.2,by rw[za8 e1,zfg e2,h2]⟩
 .cases h2
noncomputable def strE:Expr->Option (Str×Nat×Pos)
 |.Constant c k p=>(match c with
  |.str t=>some (t,k,p)
  |_=>none)
 |_=>none
theorem zsc{e:Expr}{q:Str×Nat×Pos}(h:strE e=some q):e=.Constant (.str q.1) q.2.1 q.2.2:=by
 unfold strE at h
 split at h
 .split at h
  .cases h;rfl
  .cases h
 .cases h
noncomputable def isEq:CmpOp->Bool
 |.Eq=>true
 |_=>false
noncomputable def hForm(n:Str):Expr->Option (Option Str)
 |.Compare a ops cs _=>(match(oneOf ops).map isEq,(oneOf cs).bind strE,zes a with
  |some true,some t,some q=>if isWd n q then some (some t.1)else none
  |_,_,_=>none)
 |e=>(match zes e with
  |some q=>if isWd n q then some none else none
  |none=>none)
theorem zoy{n:Str}{e:Expr}{o:Option Str}(h:hForm n e=some o):∃wp yp cp,(o=none/\e=.Call (.Name "_law_word" wp) [.Name n yp] [] cp)\/∃t k kp pos,o=some t/\e=.Compare (.Call (.Name "_law_word" wp) [.Name n yp] [] cp) [.Eq] [.Constant (.str t) k kp] pos:=by
 unfold hForm at h
 split at h
 .split at h
  .rename_i t q h1 h2 h3
   split at h
   .rename_i hw
    cases h
    obtain⟨w1,yp,w2⟩:=zml hw
    obtain⟨op,g1,g2⟩:=mapS h1
    obtain⟨c,g3,g4⟩:=bindS h2
    have g5:op=.Eq:=by cases op<;>first|rfl|cases g2
    have g6:=zcc h3
    rw[w1,w2]at g6
    exact⟨q.p,yp,q.cp,.inr ⟨_,_,_,_,rfl,by rw[za8 g1,g5,za8 g3,zsc g4,g6]⟩⟩
   .cases h
  .cases h
 .split at h
  .rename_i q h3
   split at h
   .rename_i hw
    cases h
    obtain⟨w1,yp,w2⟩:=zml hw
    have g6:=zcc h3
    rw[w1,w2]at g6
    exact⟨q.p,yp,q.cp,.inl ⟨rfl,g6⟩⟩
   .cases h
  .cases h
noncomputable def hV(o:Option Str)(z:Str):V:=match o with
 |none=>.str z
 |some t=>.bl (decide (V.str z=V.str t))
noncomputable def hW(o:Option Str)(z:Str):W:=match o with
 |none=>.str z
 |some t=>.bl (decide (V.str z=V.str t))
theorem hVW{K:PySem.W.Frag}{m:Nat->Addr}{n:Nat}{H:Hp}(o:Option Str)(z:Str):VRep K m n H (hV o z) (hW o z):=by
 cases o with
 |none=>exact .str z
 |some t=>exact .bl _
noncomputable def tHand(tb:List (Nat×Str))(o:Option Str)(i:Nat):TS:=λD σ H=>∃C z x,(C,z)∈tb/\(i<σ.length->σ[i]?=some (some (.ref x)))/\Err C x H/\∀H',Hx H H'->D.rt (hV o z) H'
noncomputable abbrev gTry(g:List W->VH->Res W)(fa:FE)(tb:List (Nat×W)):FS:=λρ h=>(fa ρ h).bind λy h=>match y with
 |.tup ys=>(g ys h).bind λw h=>tryW tb ρ w h
 |_=>.no
noncomputable def Word(X:Cx)(C:Nat)(z:Str):Prop:=∃f fd ps,X.mg "_law_word" = some (.ref f)/\FnOkH X.prog X.w X.K X.mg X.base 2 f fd ps (spWd C z)/\PySem.W.keepIn X.K (.ref f)=true/\Binds X.K fd ps []
theorem zja{o:Option Str}:∀{tb:List (Nat×Str)} {c:Nat} {w:W},(tb.map λp=>(p.1,hW o p.2)).lookup c=some w->∃z,(c,z)∈tb/\w=hW o z
 |[],_,_,e=>by cases e
 |(d,z)::r,c,w,e=>by
  rw[va1,vaz]at e
  by_cases h:(c==d)=true
  .rw[h]at e
   cases e
   exact⟨z,by rw[show c=d by simpa using h];exact vaw ..,rfl⟩
  .rw[show(c==d)=false by simpa using h]at e
   obtain⟨z',h1,h2⟩:=zja e
   exact⟨z',vao _ h1,h2⟩
section
variable{X:Cx}{tb:List (Nat×Str)}{n:Str}{i:Nat}
theorem zmm{o:Option Str}{hb:Expr}{rp:Pos}{x:Addr}(hf:hForm n hb=some o)(hr:RoomH 2 (X.hand x).A)(hw:∀C z,(C,z)∈tb->Word X C z)(hgw:Gl X "_law_word")(hi:X.N[i]?=some n)(hv:Vis X.env.scope n)(hd:(n==("__debug__" : Str))=false)(hcd:(n==("__classdict__" : Str))=false) :
 PSs (X.hand x) [.Return (some hb) rp] (tHand tb o i):=by
 intro pins s σ H D I ⟨C,z,y,hm,hσ,hx,k⟩
 have hl:i<σ.length:=by rw[I.len];exact(van.mp hi).1
 obtain⟨f,fd,ps,w1,w2,w3,w4⟩:=hw C z hm
 have pe:∀wp yp cp,PE (X.hand x) (.Call (.Name "_law_word" wp) [.Name n yp] [] cp) _:=λwp yp cp=>zi8 (X:=X.hand x) (p:=wp) (pos:=cp) w2 hr hgw w1 w3 w4 (zbg (zio (X:=X.hand x) (pos:=yp) hi hv hd hcd) zcn)
 obtain⟨wp,yp,cp,⟨rfl,rfl⟩|⟨t,kk,kp,pos,rfl,rfl⟩⟩:=zoy hf
 .exact(zfr (zgr (pe _ _ _))) pins s σ H D I ⟨_,hσ hl,y,rfl,hx,λH' h=>k H' h⟩
 .exact(zfr (zgr (zkz op_eq (pe _ _ _) zkm rfl))) pins s σ H D I ⟨_,hσ hl,y,rfl,hx,λH' h=>⟨rfl,k H' h⟩⟩
theorem zib{ps:List Str}{g:List W->VH->Res W}{ga:FE}{o:Option Str}{D:Addr}{D0:Ends}{σ:L2.St}{H:Hp}(hlen:∀ws h w h',g ws h=.ok w h'->ws.length=ps.length)(hsub:∀C z,(C,z)∈tb->subE X.K C D=true)
 (q:lftS X.K (Rr X.K) (gTry g ga (tb.map λc=>(c.1,hW o c.2))) D0 σ H):tTry X.K D i (spX X.K ps.length g) (lftA X.K ga) (tHand tb o i) D0 σ H:=by
 refine q.el λρ h m fl h' f r e kk=>?_
 refine zaa e λy h1 e1 e2=>?_
 cases y with
 |tup ys=>
  refine zaa e2 λw h2 e3 e4=>?_
  refine lftA.mk f r e1 λvs H1 m1 s1 r1 q1=>⟨by rw[q1.length,hlen _ _ _ _ e3],h1,m1,ys,w,h2,r1,q1,e3,?_⟩
  unfold tryW at e4
  split at e4
  .cases e4
   exact λv H' m' s' r' _=>kk H' m' (s1.trans s') r' σ (f.stp (s1.trans s'))
  .rename_i ii
   split at e4
   .rename_i w' hlk
    cases e4
    obtain⟨z,hmem,rfl⟩:=zja hlk
    intro H' m' s' r' H2 dx a hk hx2 hd2
    refine⟨ii.toNat,rfl,hsub _ _ hmem,λx hx'=>⟨ii.toNat,z,x,hmem,λhl'=>vbg (by rwa [vda]at hl'),⟨dx,hx',hd2⟩,λH'' hh=>?_⟩⟩
    obtain⟨st,r''⟩:=r'.hx (hk.trans hh)
    exact kk H'' m' ((s1.trans s').trans st) r'' _ (hVW o z)
   .cases e4
  .cases e4
 |_=>cases e2
theorem zvz{k:Nat}{fa D:Addr}{fd:FuncData}{ps:List Str}{g:List W->VH->Res W}{f xb:Str}{p cpos epos tp hpos pos rp:Pos}{e hb:Expr}{es:List Expr}{ga:FE}{o:Option Str}
 (hs:X.stack=X.env::X.outer) (hf:X.env.frame=some X.env.locals) (F:FnOk X.prog X.w X.K X.mg X.base (CX1 X.prog X.w) k fa fd ps (spX X.K ps.length g)) (hr:Room k X.A) (hr2:∀x,RoomH 2 (X.hand x).A) (hg:Gl X f) (hm:X.mg f=some (.ref fa)) (hk:PySem.W.keepIn X.K (.ref fa)=true) (hbd:Binds X.K fd ps [])
 (hlen:∀ws h w h',g ws h=.ok w h'->ws.length=ps.length) (ha:SA X.nox (e::es) ga) (hst:(e::es).all zat=true) (hgb:Gl X xb) (hmb:X.mg xb=some (.ref D)) (hN:X.N.Nodup) (hi:X.N[i]?=some n) (hl:X.env.kindOf n=some .local) (hx:Loc X.env.scope n) (hv:Vis X.env.scope n) (hfn:X.fn n=true)
 (hfo:hForm n hb=some o) (hw:∀C z,(C,z)∈tb->Word X C z) (hgw:Gl X "_law_word") (hsub:∀C z,(C,z)∈tb->subE X.K C D=true)
 (hdb:(f==("__debug__" : Str))=false) (hdb2:(xb==("__debug__" : Str))=false) (hdb3:(n==("__debug__" : Str))=false) (hcd:(n==("__classdict__" : Str))=false) :
 SS X (.Try [.Expr (.Call (.Name f p) (e::es) [] cpos) epos] [.ExceptHandler (some (.Name xb tp)) (some n) [.Return (some hb) rp] hpos] [] [] pos) (gTry g ga (tb.map λc=>(c.1,hW o c.2))):=by
 rw[vbn,vaa]at hst
 refine(zvu (i:=i) (th:=tHand tb o i) hs hf F hr hg hm hk hbd ha hgb hmb hN hi hl hx hfn (λx=>zmm hfo (hr2 x) hw hgw hi hv hdb3 hcd) hdb hdb2 (zae hst.1) (za7 hst.2) rfl).imp λD0 σ H z9=>zib hlen hsub z9
theorem zsd{k:Nat}{fa fb D:Addr}{fd gd:FuncData}{ps qs:List Str}{g1 g2:List W->VH->Res W}{f g xb:Str}{p cpos epos p2 cpos2 epos2 ipos tp hpos pos rp:Pos}{c e e2 hb:Expr}{es es2:List Expr}{fc ga gb:FE}{o:Option Str}
 (hs:X.stack=X.env::X.outer) (hf:X.env.frame=some X.env.locals) (hc:ST X.nox c fc)
 (F:FnOk X.prog X.w X.K X.mg X.base (CX1 X.prog X.w) k fa fd ps (spX X.K ps.length g1)) (hr:Room k X.A) (hr2:∀x,RoomH 2 (X.hand x).A) (hg:Gl X f) (hm:X.mg f=some (.ref fa)) (hk:PySem.W.keepIn X.K (.ref fa)=true) (hbd:Binds X.K fd ps [])
 (F2:FnOk X.prog X.w X.K X.mg X.base (CX1 X.prog X.w) k fb gd qs (spX X.K qs.length g2)) (hg2:Gl X g) (hm2:X.mg g=some (.ref fb)) (hk2:PySem.W.keepIn X.K (.ref fb)=true) (hbd2:Binds X.K gd qs [])
 (hlen:∀ws h w h',g1 ws h=.ok w h'->ws.length=ps.length) (hlen2:∀ws h w h',g2 ws h=.ok w h'->ws.length=qs.length) (ha:SA X.nox (e::es) ga) (hst:(e::es).all zat=true) (ha2:SA X.nox (e2::es2) gb) (hst2:(e2::es2).all zat=true)
 (hgb:Gl X xb) (hmb:X.mg xb=some (.ref D)) (hN:X.N.Nodup) (hi:X.N[i]?=some n) (hl:X.env.kindOf n=some .local) (hx:Loc X.env.scope n) (hv:Vis X.env.scope n) (hfn:X.fn n=true)
 (hfo:hForm n hb=some o) (hw:∀C z,(C,z)∈tb->Word X C z) (hgw:Gl X "_law_word") (hsub:∀C z,(C,z)∈tb->subE X.K C D=true)
 (hdb:(f==("__debug__" : Str))=false) (hdg:(g==("__debug__" : Str))=false) (hdb2:(xb==("__debug__" : Str))=false) (hdb3:(n==("__debug__" : Str))=false) (hcd:(n==("__classdict__" : Str))=false) :
 SS X (.Try [.If c [.Expr (.Call (.Name f p) (e::es) [] cpos) epos] [.Expr (.Call (.Name g p2) (e2::es2) [] cpos2) epos2] ipos] [.ExceptHandler (some (.Name xb tp)) (some n) [.Return (some hb) rp] hpos] [] [] pos) (gIf fc (gTry g1 ga (tb.map λc=>(c.1,hW o c.2))) (gTry g2 gb (tb.map λc=>(c.1,hW o c.2)))):=by
 rw[vbn,vaa]at hst hst2
 refine(zsb (i:=i) (th:=tHand tb o i) hs hf hc F hr hg hm hk hbd F2 hg2 hm2 hk2 hbd2 ha ha2 hgb hmb hN hi hl hx hfn (λx=>zmm hfo (hr2 x) hw hgw hi hv hdb3 hcd) hdb hdg hdb2 (zae hst.1) (za7 hst.2) rfl (zae hst2.1) (za7 hst2.2) rfl).imp λD0 σ H z9=>z9.el λρ h m fl h' f r e kk=>?_
 refine zaa e λx h1 e1 e9=>?_
 cases x<;>try cases e9
 rename_i b
 refine(.mk f r e1 λH1 m1 s1 r1=>?_)
 cases b with
 |true=>rw[if_pos rfl];exact zib hlen hsub (.mk (f.stp s1) r1 e9 λH' m' s' r'=>kk H' m' (s1.trans s') r')
 |false=>simp only[vah,vbe];exact zib hlen2 hsub (.mk (f.stp s1) r1 e9 λH' m' s' r'=>kk H' m' (s1.trans s') r')
end
set_option genInjectivity false in
structure CC where
 N:List Str
 names:List (Str×NameKind)
 fnAll:Bool
noncomputable def zbu:List Str->Str->Nat->Option Nat
 |[],_,_=>none
 |y::r,x,i=>if y==x then some i else zbu r x (i+1)
theorem zhd:∀{N:List Str} {x:Str} {k i:Nat},zbu N x k=some i->∃j,i=k+j/\N[j]?=some x
 |[],_,_,_,e=>by cases e
 |y::r,x,k,i,e=>by
  unfold zbu at e
  split at e
  .rename_i h
   cases e
   exact⟨0,rfl,by simpa using h⟩
  .obtain⟨j,h1,h2⟩:=zhd e
   exact⟨j+1,by omega,by simpa using h2⟩
theorem zb8{N:List Str}{x:Str}{i:Nat}(e:zbu N x 0=some i):N[i]?=some x:=by
 obtain⟨j,h1,h2⟩:=zhd e
 rw[show i=j by omega];exact h2
noncomputable def visK:Option NameKind->Bool
 |some .local|some .cell|some .free=>true
 |_=>false
noncomputable def locK(all:Bool):Option NameKind->Bool
 |some .local=>true
 |some .cell=>all
 |_=>false
noncomputable def okN(x:Str):Bool:=!(x==("__debug__" : Str)) && !(x==("__classdict__" : Str)) && !(x==("__name__" : Str)) && !(x==("" : Str))
theorem zv0{x:Str}(h:okN x=true):x≠"":=by
 unfold okN at h
 simp only[vaa,vdu]at h
 exact λz=>by rw[z]at h;simp at h
theorem za2{x:Str}(h:okN x=true):(x==("__debug__" : Str))=false/\(x==("__classdict__" : Str))=false/\x≠"__name__":=by
 unfold okN at h
 simp only[vaa,vdu]at h
 exact⟨h.1.1.1,h.1.1.2,λz=>by rw[z]at h;simp at h⟩
noncomputable def cstW(K:PySem.W.Frag):Nat->Value->Option W
 |0,_=>none
 |n+1,v=>match v with
  |.none=>some .non
  |.bool b=>some (.bl b)
  |.int i _=>some (.int i)
  |.str x _=>some (.str x)
  |.ref a=>(match K.lookup a with
   |some o=>(match o.cls,o.dict,o.data with
    |.type t,none,.seq its _=>if t == "tuple" && Nat.ble its.size 1000 then(mapO (cstW K n) its.toList).map .tup else none
    |_,_,_=>none)
   |none=>none)
  |_=>none
theorem zmn{K:PySem.W.Frag}{f:Value->Option W}(ih:∀v w,f v=some w->∃x,RelV x v/\∀m n H,VRep K m n H x w):∀{us:List Value} {ws:List W},mapO f us=some ws->∃xs,Vals xs us/\∀m n H,VReps K m n H xs ws
 |[],_,e=>by cases e;exact⟨[],.nil,λ_ _ _=>.nil⟩
 |u::us,ws,e=>by
  unfold mapO at e
  split at e
  .rename_i b hb
   split at e
   .rename_i bs hbs
    cases e
    obtain⟨x,h1,h2⟩:=ih u b hb
    obtain⟨xs,h3,h4⟩:=zmn ih hbs
    exact⟨x::xs,.cons h1 h3,λm n H=>.cons (h2 m n H) (h4 m n H)⟩
   .cases e
  .cases e
theorem zqe{K:PySem.W.Frag}:∀(n:Nat) (v:Value) (w:W),cstW K n v=some w->∃x,RelV x v/\∀m n H,VRep K m n H x w
 |0,_,_,e=>by cases e
 |n+1,v,w,e=>by
  unfold cstW at e
  split at e
  .cases e;exact⟨.non,rfl,λ_ _ _=>.non⟩
  .cases e;exact⟨.bl _,rfl,λ_ _ _=>.bl _⟩
  .cases e;exact⟨.int _,⟨_,rfl⟩,λ_ _ _=>.int _⟩
  .cases e;exact⟨.str _,⟨_,rfl⟩,λ_ _ _=>.str _⟩
  .rename_i a
   split at e
   .rename_i o ho
    split at e
    .rename_i t its nn hc hdd hd
     split at e
     .rename_i hz
      rw[vaa]at hz
      have ht:t = "tuple":=by simpa using hz.1
      subst ht
      cases z:mapO (cstW K n) its.toList with
      |none=>rw[z]at e;cases e
      |some ws=>
       rw[z]at e
       cases e
       obtain⟨xs,h3,h4⟩:=zmn (zqe n) z
       exact⟨.ref a,rfl,λm n H=>.tup (.inr ⟨o,its,nn,ho,hc,hdd,hd,vc8 (zeh (va2 hz.2)),h3⟩) (h4 m n H)⟩
     .cases e
    .cases e
   .cases e
  .cases e
noncomputable def cL(f:Expr->Option E):List Expr->Option E
 |[]=>some .nil
 |e::es=>match f e,cL f es with
  |some a,some r=>some (.cons a r)
  |_,_=>none
noncomputable def fnAt(K:PySem.W.Frag)(x:Str):Option (Addr×Obj×FuncData):=match refAt K x with
 |some f=>(match K.lookup f with
  |some o=>(match o.data with
   |.func fd=>some (f,o,fd)
   |_=>none)
  |none=>none)
 |none=>none
noncomputable def za9:Arguments->Option (List Arg)
 |⟨[],args,none,[],[],none,_⟩=>some args
 |_=>none
noncomputable def isNone:Value->Bool
 |.none=>true
 |_=>false
noncomputable def zgb:Data->Bool
 |.seq xs _=>(match xs.toList with
  |[v]=>isNone v
  |_=>false)
 |_=>false
noncomputable def noneD(K:PySem.W.Frag):Value->Bool
 |.ref t=>(match K.lookup t with
  |some o=>zgb o.data
  |none=>false)
 |_=>false
noncomputable def zet(K:PySem.W.Frag)(x:Str)(n:Nat):Bool:=match fnAt K x with
 |some (_,_,fd)=>noneD K fd.defaults&&Nat.beq (n+1) fd.params.args.length
 |none=>false
noncomputable def hasD(K:PySem.W.Frag)(x:Str):Bool:=match fnAt K x with
 |some (_,_,fd)=>noneD K fd.defaults
 |none=>false
theorem zke{K:PySem.W.Frag}{x:Str}{n:Nat}(h:zet K x n=true):hasD K x=true:=by
 unfold zet at h
 unfold hasD
 split at h
 .rw[vaa]at h;exact h.1
 .cases h
noncomputable def padE:E->E
 |.nil=>.cons (.cst .non) .nil
 |.cons a r=>.cons a (padE r)
 |e=>e
noncomputable def argsE:E->Bool
 |.nil=>true
 |.cons _ r=>argsE r
 |_=>false
theorem zv1{cl:Call}:∀{a:E},argsE a=true->∀(ρ:En) (h:VH),ev cl (padE a) ρ h=(ev cl a ρ h).bind λy h=>match y with|.tup ys=>.ok (.tup (ys++[.non])) h|_=>.no:=by
 intro a
 induction a with
 |nil=>intro _ ρ h;rfl
 |cons x r _ ih=>
  intro ha ρ h
  have ih:=ih ha
  simp only[padE,ev]
  cases ev cl x ρ h with
  |no=>rfl
  |ex _ _=>rfl
  |ok w h1=>
   show Res.bind (ev cl (padE r) ρ h1) _=Res.bind (Res.bind (ev cl r ρ h1) _) _
   rw[ih]
   cases ev cl r ρ h1 with
   |no=>rfl
   |ex _ _=>rfl
   |ok y h2=>cases y<;>rfl
 |_=>intro ha;cases ha
theorem zmo{f:Expr->Option E}:∀{es:List Expr} {a:E},cL f es=some a->argsE a=true
 |[],_,h=>by cases h;rfl
 |e::es,a,h=>by
  unfold cL at h
  split at h
  .rename_i x r h1 h2
   cases h
   show argsE r=true
   exact zmo h2
  .cases h
noncomputable def cPs(f:Expr->Option E):List (Option Expr)->List Expr->Option E
 |[],[]=>some .nil
 |some k::ks,v::vs=>match f k,f v,cPs f ks vs with
  |some a,some b,some r=>some (.cons a (.cons b r))
  |_,_,_=>none
 |_,_=>none
noncomputable def cB(and:Bool)(f:Expr->Option E):List Expr->Option E
 |[]=>none
 |[a]=>f a
 |a::b::r=>match f a,cB and f (b::r)with
  |some x,some y=>some (if and then .and x y else .or x y)
  |_,_=>none
noncomputable def cO(f:Expr->Option E):Option Expr->Option (Bool×E)
 |none=>some (false,.cst .non)
 |some e=>(f e).map λc=>(true,c)
noncomputable def zeu(K:PySem.W.Frag)(C:CC)(x:Str):Bool:=C.names.lookup x==some .globalImplicit&& (match PySem.W.nsIn K mainGlobals x with|some none=>true|_=>false)
noncomputable def tyOf(x:Str):Option Ty:=
 if x==("int" : Str)then some .int else if x==("bool" : Str)then some .bool else if x==("tuple" : Str)then some .tuple else if x==("list" : Str)then some .list else if x==("str" : Str)then some .str else if x==("dict" : Str)then some .dict else none
noncomputable def lrOf(f:Str)(args:List Expr):Option Expr:=if f==("list" : Str)then(match args with
 |[.Call (.Name g _) [a] [] _]=>if g==("range" : Str)then some a else none
 |_=>none)else none
noncomputable def biOf(x:Str):Option Bi:=
 if x==("len" : Str)then some .len else if x==("list" : Str)then some .list else if x==("tuple" : Str)then some .tuple else if x==("int" : Str)then some .int else if x==("abs" : Str)then some .abs else if x==("min" : Str)then some .min else if x==("all" : Str)then some .all else none
noncomputable def zv2:Expr->Bool
 |.Tuple ..=>true
 |_=>false
noncomputable def okW:Kd->Expr->Bool
 |.enm,t=>zv2 t
 |_,_=>true
noncomputable def nmIx(C:CC):Expr->Option Nat
 |.Name x _=>if okN x&&locK C.fnAll (C.names.lookup x)then zbu C.N x 0 else none
 |_=>none
noncomputable def cTg(C:CC):Expr->Option Tg
 |.Name x p=>(nmIx C (.Name x p)).map .one
 |.Tuple es _ _=>(mapO (nmIx C) es).map .many
 |_=>none
noncomputable def ownOf(sc:Scope):List Str:=(sc.names.filter λy=>y.2 == .local && !(y.1==(".0" : Str))).map (·.1)
noncomputable def zau(sc:Scope):List Str:=(sc.names.filter λy=>y.2 == .free).map (·.1)
noncomputable def zcv(C:CC)(sc:Scope)(ix:List Nat):Bool:=
 decide (sc.kind=.function)&&sc.names.all (λy=>decide (y.2≠.cell))&&sc.names.all (λy=>decide (y.2=.local->sc.names.lookup y.1=some .local)) &&
 (ownOf sc).all (λx=>decide (sc.names.lookup x=some .local))&&sc.names.all (λy=>decide (y.2=.free->C.names.lookup y.1=some .cell\/C.names.lookup y.1=some .free))&&decide (ix.length=(zau sc).length) &&
 ((List.range (zau sc).length).all λk=>match(zau sc)[k]?,ix[k]? with
   |some x,some j=>decide (C.N[j]?=some x)&&decide (sc.names.lookup x=some .free)
   |_,_=>false)&&decide (ownOf sc++zau sc).Nodup
noncomputable def inC(sc:Scope):CC:=⟨ownOf sc++zau sc,sc.names,false⟩
mutual
noncomputable def cE(K:PySem.W.Frag)(T:List Str):Nat->CC->Expr->Option E
 |0,_,_=>none
 |n+1,C,e=>match e with
  |.Name x _=>if okN x then(if visK (C.names.lookup x)then(zbu C.N x 0).map .var
   else if C.names.lookup x==some .globalImplicit then(match PySem.W.nsIn K mainGlobals x with
    |some (some v)=>(cstW K 8 v).map .cst
    |_=>none)else none)else none
  |.Constant c _ _=>(match c with
   |.int i=>some (.cst (.int i))
   |.bool b=>some (.cst (.bl b))
   |.none=>some (.cst .non)
   |.str x=>some (.cst (.str x))
   |_=>none)
  |.Tuple es _ _=>(cL (cE K T n C) es).map .tup
  |.List es _=>(cL (cE K T n C) es).map .lst
  |.Dict ks vs _=>if Nat.ble ks.length 15&&Nat.beq ks.length vs.length&&ks.all (·.isSome)then(cPs (cE K T n C) ks vs).map .dsp else none
  |.BinOp a O b _=>(match opOf O,cE K T n C a,cE K T n C b with
   |some o,some x,some y=>some (.op o x y)
   |_,_,_=>none)
  |.UnaryOp o a _=>(match o with
   |.Not=>(cE K T n C a).map .not
   |.USub=>(cE K T n C a).map .neg
   |_=>none)
  |.BoolOp o es _=>(match o with
   |.And=>cB true (cE K T n C) es
   |.Or=>cB false (cE K T n C) es)
  |.Compare a Os bs _=>(match Os,bs with
   |[O],[b]=>if zco b then(match cpOf O,cE K T n C a,cE K T n C b with
   |some c,some x,some y=>some (.cmp c x y)
   |_,_,_=>none)else none
   |[O,O'],[b,c]=>if zco c then(match cpOf O,cpOf O',cE K T n C a,cE K T n C b,cE K T n C c with
   |some o,some o',some x,some y,some z=>some (.chn o o' x y z)
   |_,_,_,_,_=>none)else none
   |_,_=>none)
  |.IfExp c a b _=>(match cT K T n C c,cE K T n C a,cE K T n C b with
   |some z,some x,some y=>some (.ite z x y)
   |_,_,_=>none)
  |.Subscript a b _=>(match b with
   |.Slice lo hi st _=>(match st with
    |none=>(match cE K T n C a,cO (cE K T n C) lo,cO (cE K T n C) hi with
   |some x,some (bl,l),some (bh,u)=>some (.slc x bl l bh u)
   |_,_,_=>none)
    |some _=>none)
   |b=>if zdb b then(match cE K T n C a,cE K T n C b with
   |some x,some y=>some (.idx x y)
   |_,_=>none)else none)
  |.Call fn args kw pos=>(match kw with
   |[]=>(match fn with
    |.Name f _=>if okN f&&C.names.lookup f==some .globalImplicit then(match PySem.W.nsIn K mainGlobals f with
     |some none=>if f==("isinstance" : Str)then(match args with
      |[a,.Name t _]=>(match tyOf t,cE K T n C a with
       |some ty,some x=>if okN t&&zeu K C t then some (.isi ty x)else none
       |_,_=>none)
      |_=>none)
      else(match biOf f,args with
       |some b,_::_=>(cL (cE K T n C) args).map (.bi b)
       |_,_=>none)
     |some (some _)=>(match zbu T f 0 with
      |some i=>if zet K f args.length && !args.isEmpty then(cL (cE K T n C) args).map (λa=>.call i (padE a))else(cL (cE K T n C) args).map (.call i)
      |none=>none)
     |none=>none)else none
    |.Attribute o mth ap=>if zf4 o&& (ap.endLine==pos.line)then(match cE K T n C o,args with
     |some x,[a]=>if mth==("append" : Str)then(cE K T n C a).map λy=>.mt .append x (.cons y .nil)else none
     |some x,[]=>if mth==("reverse" : Str)then some (.mt .reverse x .nil)else none
     |_,_=>none)else none
    |_=>none)
   |_=>none)
  |.ListComp elt gs sc _=>(match gs with
   |[⟨tg,iter,ifs,0⟩]=>(match mapO (λx=>zbu C.N x 0) (zau sc)with
    |some ix=>if zcv C sc ix then(match cW K T n C iter,cTg (inC sc) tg,(match ifs with|[]=>some (.cst (.bl true))|[c]=>cT K T n (inC sc) c|_=>none),cE K T n (inC sc) elt with
     |some (kd,a),some t,some c,some e=>if okW kd tg then some (.lc kd a t (ownOf sc).length ix c e)else none
     |_,_,_,_=>none)else none
    |none=>none)
   |[⟨tg,iter,ifs,0⟩,⟨tg2,iter2,ifs2,0⟩]=>(match mapO (λx=>zbu C.N x 0) (zau sc)with
    |some ix=>if zcv C sc ix then(match cW K T n C iter,cTg (inC sc) tg,(match ifs with|[]=>some (E.cst (.bl true))|[c]=>cT K T n (inC sc) c|_=>none),cE K T n (inC sc) elt with
     |some (kd,a),some t,some c,some e=>if okW kd tg then(match cW K T n (inC sc) iter2,cTg (inC sc) tg2,(match ifs2 with|[]=>some (E.cst (.bl true))|[c]=>cT K T n (inC sc) c|_=>none)with
      |some (kd2,a2),some t2,some c2=>if okW kd2 tg2 then some (.lc2 kd a t (ownOf sc).length ix c kd2 a2 t2 c2 e)else none
      |_,_,_=>none)else none
     |_,_,_,_=>none)else none
    |none=>none)
   |_=>none)
  |_=>none
noncomputable def cT(K:PySem.W.Frag)(T:List Str):Nat->CC->Expr->Option E
 |0,_,_=>none
 |n+1,C,e=>match e with
  |.Compare a Os bs _=>(match Os,bs with
   |[O],[b]=>if zco b then(match cpOf O,cE K T n C a,cE K T n C b with
   |some c,some x,some y=>some (.cmp c x y)
   |_,_,_=>none)else none
   |[O,O'],[b,c]=>if zco c then(match cpOf O,cpOf O',cE K T n C a,cE K T n C b,cE K T n C c with
   |some o,some o',some x,some y,some z=>some (.chn o o' x y z)
   |_,_,_,_,_=>none)else none
   |_,_=>none)
  |.UnaryOp o a _=>(match o with
   |.Not=>(cT K T n C a).map .not
   |_=>none)
  |.BoolOp o es _=>(match o with
   |.And=>cB true (cT K T n C) es
   |.Or=>cB false (cT K T n C) es)
  |.Name x p=>(cE K T n C (.Name x p)).map .tru
  |.Call f as ks p=>(cE K T n C (.Call f as ks p)).map .tru
  |.Subscript a b p=>(cE K T n C (.Subscript a b p)).map .tru
  |_=>none
noncomputable def cW(K:PySem.W.Frag)(T:List Str):Nat->CC->Expr->Option (Kd×E)
 |0,_,_=>none
 |n+1,C,e=>match e with
  |.Call (.Name f p) args [] pos=>if f==("range" : Str)then(if zeu K C f then(match args with
   |[a]=>(cE K T n C a).map λx=>(.rng1,.cons x .nil)
   |_=>none)else none)
   else if f==("enumerate" : Str)then(if zeu K C f then(match args with
    |[a]=>(cE K T n C a).map λx=>(.enm,x)
    |_=>none)else none)
   else(cE K T n C (.Call (.Name f p) args [] pos)).map λx=>(.seq,x)
  |.Set ..=>none
  |e=>(cE K T n C e).map λx=>(.seq,x)
end
noncomputable def cSs(f:Stmt->Option S):List Stmt->Option S
 |[]=>some .skip
 |s::r=>match f s,cSs f r with
  |some a,some b=>some (.seq a b)
  |_,_=>none
structure RX where
 tel:List Str
 at_:Nat
 tb:List (Nat×Str)
structure TryQ where
 c:CallQ
 ep:Pos
 xb:Str×Pos
 nm:Str
 hb:Expr
 rp:Pos
 hp:Pos
noncomputable def tryOf(b:List Stmt)(hs:List ExceptHandler):Option TryQ:=match((oneOf b).bind stE).bind λe=>(zes e.1).map λq=>(q,e.2),oneOf hs with
 |some q,some (.ExceptHandler t n hb hp)=>(match t.bind nmE,n,(oneOf hb).bind stR with
  |some x,some nm,some r=>some ⟨q.1,q.2,x,nm,r.1,r.2,hp⟩
  |_,_,_=>none)
 |_,_=>none
theorem zgc{b:List Stmt}{hs:List ExceptHandler}{q:TryQ}(h:tryOf b hs=some q):b=[.Expr (.Call (.Name q.c.f q.c.p) q.c.args [] q.c.cp) q.ep]/\hs=[.ExceptHandler (some (.Name q.xb.1 q.xb.2)) (some q.nm) [.Return (some q.hb) q.rp] q.hp]:=by
 unfold tryOf at h
 split at h
 .rename_i qq t n hb hp h1 h2
  split at h
  .rename_i x nm r h3 h4
   cases h
   obtain⟨s,h5,h6⟩:=bindS h1
   obtain⟨z,h7,h8⟩:=mapS h6
   obtain⟨s1,h9,h10⟩:=bindS h5
   obtain⟨te,h11,h12⟩:=bindS h3
   obtain⟨s2,h13,h14⟩:=bindS h4
   cases h8
   rw[za8 h9,zvx h10,zcc h7,za8 h2,h11,zfg h12,za8 h13,zvy h14]
   exact⟨rfl,rfl⟩
  .cases h
 .cases h
noncomputable def cTry(K:PySem.W.Frag)(T:List Str)(R:RX)(d:Nat)(C:CC)(f:Str)(args:List Expr)(xb nm:Str)(hb:Expr):Option S:=
 if okN f&&C.names.lookup f==some .globalImplicit&&okN xb&&C.names.lookup xb==some .globalImplicit&&okN nm&&C.names.lookup nm==some .local&&C.names.lookup ("_law_word" : Str)==some .globalImplicit then
  (match zbu R.tel f 0,PySem.W.nsIn K mainGlobals xb,zbu C.N nm 0,hForm nm hb,cL (cE K T d C) args with
    |some j,some (some (.ref D)),some _,some o,some a=>if R.tb.all λc=>subE K c.1 D then some (.tryc (R.at_+j) a (R.tb.map λc=>(c.1,hW o c.2)))else none
    |_,_,_,_,_=>none)
 else none
noncomputable def stIf:Stmt->Option (Expr×Stmt×Stmt×Pos)
 |.If c a b p=>(match oneOf a,oneOf b with
  |some x,some y=>some (c,x,y,p)
  |_,_=>none)
 |_=>none
theorem zse{s:Stmt}{q:Expr×Stmt×Stmt×Pos}(h:stIf s=some q):s=.If q.1 [q.2.1] [q.2.2.1] q.2.2.2:=by
 unfold stIf at h
 split at h
 .split at h
  .rename_i h1 h2
   cases h
   rw[za8 h1,za8 h2]
  .cases h
 .cases h
noncomputable def cTryQ(K:PySem.W.Frag)(T:List Str)(R:RX)(d:Nat)(C:CC)(q:TryQ):Option S:=if q.c.args.isEmpty then none else cTry K T R d C q.c.f q.c.args q.xb.1 q.nm q.hb
noncomputable def cTryS(K:PySem.W.Frag)(T:List Str)(R:RX)(d:Nat)(C:CC)(b:List Stmt)(hs:List ExceptHandler):Option S:=match tryOf b hs with
 |some q=>cTryQ K T R d C q
 |none=>(match(oneOf b).bind stIf with
  |some q=>(match tryOf [q.2.1] hs,tryOf [q.2.2.1] hs,cT K T d C q.1 with
   |some q1,some q2,some z=>(match cTryQ K T R d C q1,cTryQ K T R d C q2 with
    |some a,some b=>some (.ite z a b)
    |_,_=>none)
   |_,_,_=>none)
  |none=>none)
noncomputable def cS(K:PySem.W.Frag)(T:List Str)(R:RX)(d:Nat):Nat->CC->Stmt->Option S
 |0,_,_=>none
 |n+1,C,s=>match s with
  |.Pass _=>some .skip
  |.Break _=>some .brk
  |.Continue _=>some .cnt
  |.Raise ..=>some .no
  |.Return r _=>(match r with
   |none=>some (.ret (.cst .non))
   |some e=>(cE K T d C e).map .ret)
  |.Expr e _=>if zfe e then(cE K T d C e).map .expr else none
  |.Assign l e _=>(match l with
   |[t]=>(match t with
    |.Name x p=>(match nmIx C (.Name x p),cE K T d C e with
    |some i,some c=>some (.set i c)
    |_,_=>none)
    |.Tuple ts _ _=>if noTup e then(match mapO (nmIx C) ts,cE K T d C e with
    |some is,some c=>some (.unp is c)
    |_,_=>none)else none
    |.Subscript o i _=>if zdb i then(match cE K T d C o,cE K T d C i,cE K T d C e with
    |some x,some y,some z=>some (.put x y z)
    |_,_,_=>none)else none
    |_=>none)
   |_=>none)
  |.AugAssign t O e _=>(match t with
   |.Name x p=>(match nmIx C (.Name x p),ipOf O,cE K T d C e with
    |some i,some o,some c=>some (.aug i o c)
    |_,_,_=>none)
   |_=>none)
  |.If c a b _=>(match cT K T d C c,cSs (cS K T R d n C) a,cSs (cS K T R d n C) b with
   |some z,some x,some y=>some (.ite z x y)
   |_,_,_=>none)
  |.For tg it b el _=>(match el with
   |[]=>(match cW K T d C it,cTg C tg,cSs (cS K T R d n C) b with
    |some (kd,a),some t,some x=>if okW kd tg then some (.for kd a t x)else none
    |_,_,_=>none)
   |_=>none)
  |.While c b el _=>(match el with
   |[]=>(match cT K T d C c,cSs (cS K T R d n C) b with
    |some z,some x=>some (.whl z x)
    |_,_=>none)
   |_=>none)
  |.Try b hs el fb _=>(match el,fb with
   |[],[]=>cTryS K T R d C b hs
   |_,_=>none)
  |_=>none
structure XOk(X:Cx)(C:CC)(T:List Str)(R:RX)(F:Nat->Option Fn)(k:Nat):Prop where
 hN:X.N=C.N
 nd:C.N.Nodup
 vis:∀x,visK (C.names.lookup x)=true->Vis X.env.scope x
 loc:∀x,locK C.fnAll (C.names.lookup x)=true->Loc X.env.scope x/\(X.fn x=true\/X.env.scope.names.lookup x=some .local)
 gl:∀x,C.names.lookup x=some .globalImplicit->Gl X x
 cf:∀x,(C.names.lookup x=some .cell\/C.names.lookup x=some .free)->X.env.kindOf x=some .cell\/X.env.kindOf x=some .free
 calm:X.calm=true
 room:Room k X.A
 xe:X.xe=λ_ _=>False
 kfn:X.env.scope.kind=.function
 mgs:∀x v,PySem.W.nsIn X.K mainGlobals x=some (some v)->X.mg x=some v
 mgn:∀x,PySem.W.nsIn X.K mainGlobals x=some none->X.mg x=none
 fns:∀(i:Nat)(x:Str),T[i]?=some x->x≠""->∃f fd ps fn,refAt X.K x=some f/\FnOk X.prog X.w X.K X.mg X.base CX0 k f fd ps (spV X.K ps.length (run F k i))/\PySem.W.keepIn X.K (.ref f)=true/\Binds X.K fd ps []/\F i=some fn/\fn.ps=ps.length/\(hasD X.K x=true->Binds X.K fd ps [.none])
 rs:∀(j:Nat)(x:Str),R.tel[j]?=some x->∃f fd ps fn,refAt X.K x=some f/\FnOk X.prog X.w X.K X.mg X.base (CX1 X.prog X.w) k f fd ps (spX X.K ps.length (run F k (R.at_+j)))/\PySem.W.keepIn X.K (.ref f)=true/\Binds X.K fd ps []/\F (R.at_+j)=some fn/\fn.ps=ps.length
 wd:∀C z,(C,z)∈R.tb->Word X C z
section
variable{X:Cx}{C:CC}{T:List Str}{R:RX}{F:Nat->Option Fn}{k:Nat}
theorem XOk.u65(O:XOk X C T R F k):X.A.units+65<cLine:=by have:=O.room.un;omega
theorem XOk.u2(O:XOk X C T R F k):X.A.units+2<cLine:=vbi (vdm (by decide:2<=64) _) O.room.units
theorem zev(O:XOk X C T R F k){x:Str}(h:zeu X.K C x=true):Gl X x/\X.mg x=none:=by
 unfold zeu at h
 rw[vaa]at h
 refine⟨O.gl x (by simpa using h.1),O.mgn x ?_⟩
 have h2:=h.2
 split at h2
 .assumption
 .cases h2
theorem nm_ok(O:XOk X C T R F k){e:Expr}{i:Nat}(h:nmIx C e=some i):NmOk X e i:=by
 unfold nmIx at h
 split at h
 .split at h
  .rename_i hc
   rw[vaa]at hc
   obtain⟨h1,h2⟩:=O.loc _ hc.2
   exact⟨_,_,rfl,by rw[O.hN];exact zb8 h,h1,h2⟩
  .cases h
 .cases h
theorem zmp(O:XOk X C T R F k):∀{es:List Expr} {is:List Nat},mapO (nmIx C) es=some is->Paired (NmOk X) es is
 |[],_,h=>by cases h;exact .nil
 |e::es,is,h=>by
  unfold mapO at h
  split at h
  .rename_i b hb
   split at h
   .rename_i bs hbs
    cases h
    exact .cons (nm_ok O hb) (zmp O hbs)
   .cases h
  .cases h
theorem tg_ok(O:XOk X C T R F k){e:Expr}{t:Tg}(h:cTg C e=some t):PG X e (lftG X.K t):=by
 unfold cTg at h
 split at h
 .rename_i x p
  cases z:nmIx C (.Name x p)with
  |none=>rw[z]at h;cases h
  |some i=>
   rw[z]at h;cases h
   obtain⟨x',p',e,h1,h2,h3⟩:=nm_ok O z
   cases e
   exact zvd (O.hN▸O.nd) h1 h2 h3
 .rename_i es kx p
  cases z:mapO (nmIx C) es with
  |none=>rw[z]at h;cases h
  |some is=>rw[z]at h;cases h;exact zl0 O.calm (O.hN▸O.nd) (zmp O z)
 .cases h
theorem cL_ok{f:Expr->Option E}{cl:Call}(ih:∀e c,f e=some c->SE X e (ev cl c)/\zat e=true):∀{es:List Expr} {c:E},cL f es=some c->SA X es (ev cl c)/\es.all zat=true
 |[],_,h=>by cases h;exact⟨zpx,rfl⟩
 |e::es,c,h=>by
  unfold cL at h
  split at h
  .rename_i a r ha hr
   cases h
   obtain⟨h1,h2⟩:=ih e a ha
   obtain⟨h3,h4⟩:=cL_ok ih hr
   exact⟨zlt h1 h3 (zae h2),by rw[vbn,h2,h4];rfl⟩
  .cases h
theorem zqf{f:Expr->Option E}{cl:Call}{pos:Pos}(ih:∀e c,f e=some c->SE X e (ev cl c)/\zat e=true):∀{ks:List (Option Expr)} {vs:List Expr} {c:E},cPs f ks vs=some c->SPs X pos ks vs (ev cl c)
 |[],[],_,h=>by cases h;exact zrv
 |[],_::_,_,h=>by cases h
 |none::_,_,_,h=>by cases h
 |some _::_,[],_,h=>by cases h
 |some a::ks,v::vs,c,h=>by
  unfold cPs at h
  split at h
  .rename_i x y r hx hy hr
   cases h
   exact zop (ih _ _ hx).1 (ih _ _ hy).1 (zqf ih hr)
  .cases h
theorem cB_ok{f:Expr->Option E}{cl:Call}{pos:Pos}(ih:∀e c,f e=some c->SE X e (ev cl c)/\zat e=true):∀{es:List Expr} {c:E},(cB true f es=some c->SE X (.BoolOp .And es pos) (ev cl c))/\(cB false f es=some c->SE X (.BoolOp .Or es pos) (ev cl c))
 |[],_=>⟨(λh=>nomatch h),(λh=>nomatch h)⟩
 |[a],c=>⟨λh=>zp2 (ih a c h).1,λh=>zp2 (ih a c h).1⟩
 |a::b::r,c=>by
  refine⟨λh=>?_,λh=>?_⟩
  .unfold cB at h
   split at h
   .rename_i x y hx hy
    cases h
    exact zuu (ih a x hx).1 ((cB_ok ih).1 hy)
   .cases h
  .unfold cB at h
   split at h
   .rename_i x y hx hy
    cases h
    exact se_or (ih a x hx).1 ((cB_ok ih).2 hy)
   .cases h
theorem zjb{f:Expr->Option E}{cl:Call}{pos:Pos}(ih:∀e c,f e=some c->ST X e (ev cl c)):∀{es:List Expr} {c:E},(cB true f es=some c->SW X (.BoolOp .And es pos) (ev cl c))/\(cB false f es=some c->SW X (.BoolOp .Or es pos) (ev cl c))
 |[],_=>⟨(λh=>nomatch h),(λh=>nomatch h)⟩
 |[a],c=>⟨λh=>zp1 (ih a c h),λh=>zp1 (ih a c h)⟩
 |a::b::r,c=>by
  refine⟨λh=>?_,λh=>?_⟩
  .unfold cB at h
   split at h
   .rename_i x y hx hy
    cases h
    exact zut (ih a x hx) ((zjb ih).1 hy)
   .cases h
  .unfold cB at h
   split at h
   .rename_i x y hx hy
    cases h
    exact sw_or (ih a x hx) ((zjb ih).2 hy)
   .cases h
theorem cO_ok{f:Expr->Option E}{cl:Call}(ih:∀e c,f e=some c->SE X e (ev cl c)/\zat e=true){o:Option Expr}{b:Bool}{c:E}(h:cO f o=some (b,c)):PO X o (lftO X.K b (ev cl c)):=by
 unfold cO at h
 split at h
 .cases h;exact zrs
 .rename_i e
  cases z:f e with
  |none=>rw[z]at h;cases h
  |some c'=>rw[z]at h;cases h;exact zrt (ih _ _ z).1
theorem zsf{x:Str}{t:Ty}(h:tyOf x=some t):bootBuiltins x=some (.type (tyN t)):=by
 unfold tyOf at h
 split at h
 .rename_i e;cases h;rw[show x = "int" by simpa using e];exact PyProof.Rows.boot_int
 split at h
 .rename_i e;cases h;rw[show x = "bool" by simpa using e];decide +kernel
 split at h
 .rename_i e;cases h;rw[show x = "tuple" by simpa using e];exact PyProof.Rows.boot_tuple
 split at h
 .rename_i e;cases h;rw[show x = "list" by simpa using e];exact PyProof.Rows.boot_list
 split at h
 .rename_i e;cases h;rw[show x = "str" by simpa using e];decide +kernel
 split at h
 .rename_i e;cases h;rw[show x = "dict" by simpa using e];decide +kernel
 .cases h
theorem bi_ok{x:Str}{b:Bi}{e:Expr}{es:List Expr}{fa:FE}{p pos:Pos}(h:biOf x=some b)(hg:Gl X x)(hm:X.mg x=none)(hn:okN x=true)(hc:X.calm=true)(ha:SA X (e::es) fa)(hs:(e::es).all zat=true):SE X (.Call (.Name x p) (e::es) [] pos) (gArg fa (biW b)):=by
 obtain⟨n1,_,n2⟩:=za2 hn
 unfold biOf at h
 split at h
 .rename_i z
  cases h
  have z:x = "len":=by simpa using z
  subst z
  exact zdt zgz zuz hg hm PySem.boot_len ha hs n2 n1
 split at h
 .rename_i z
  cases h
  have z:x = "list":=by simpa using z
  subst z
  exact zep zg0 zru hg hm PyProof.Rows.boot_list ha hs n2 n1
 split at h
 .rename_i z
  cases h
  have z:x = "tuple":=by simpa using z
  subst z
  exact zep zfx zon hg hm PyProof.Rows.boot_tuple ha hs n2 n1
 split at h
 .rename_i z
  cases h
  have z:x = "int":=by simpa using z
  subst z
  exact zep zk3 zu0 hg hm PyProof.Rows.boot_int ha hs n2 n1
 split at h
 .rename_i z
  cases h
  have z:x = "abs":=by simpa using z
  subst z
  exact zdt zn4 zu1 hg hm (by decide +kernel) ha hs n2 n1
 split at h
 .rename_i z
  cases h
  have z:x = "min":=by simpa using z
  subst z
  exact zdt (zk2 hc) zu2 hg hm (by decide +kernel) ha hs n2 n1
 split at h
 .rename_i z
  cases h
  have z:x = "all":=by simpa using z
  subst z
  exact zdt (zol hc) zu3 hg hm (by decide +kernel) ha hs n2 n1
 .cases h
theorem zfh{b:Expr}(h:zdb b=true):zfv b:=λo i=>by cases b<;>first|rfl|cases h
end
section
variable{X:Cx}{C:CC}{T:List Str}{R:RX}{F:Nat->Option Fn}{k:Nat}
theorem za4{env:Env}{kd:NameKind}(hk:kd≠.free):∀{l:List (Str×NameKind)} {x:Str},l.lookup x=some kd->
 (l.map λ(n,k)=>if(k==NameKind.free&&env.scope.kind == .function&&env.kindOf n==some .cell)then(n,NameKind.cell)else(n,k)).lookup x=some kd
 |[],_,h=>by cases h
 |(n,j)::r,x,h=>by
  rw[va1]
  simp only[vaz]at h
  by_cases hx:(x==n)=true
  .simp only[hx]at h
   cases h
   have:(kd==NameKind.free)=false:=by simpa using hk
   simp only[this,vc4,vah,vbe,vaz,hx]
  .have hx':(x==n)=false:=by simpa using hx
   simp only[hx']at h
   have ih:=za4 (env:=env) hk (l:=r) (x:=x) h
   by_cases hc':(j==NameKind.free&&env.scope.kind == .function&&env.kindOf n==some .cell)=true
   .simp only[hc',vbd,vaz,hx'];exact ih
   .have hcf:(j==NameKind.free&&env.scope.kind == .function&&env.kindOf n==some .cell)=false:=by simpa using hc'
    simp only[hcf,vah,vbe,vaz,hx'];exact ih
theorem zde(O:XOk X C T R F k){sc:Scope}{ix:List Nat}(h:zcv C sc ix=true):CompScope X (ownOf sc) (zau sc) ix sc/\(ownOf sc++zau sc).Nodup:=by
 unfold zcv at h
 simp only[vaa,vax,vbr]at h
 obtain⟨⟨⟨⟨⟨⟨⟨h1,h2⟩,h3⟩,h4⟩,h5⟩,h6⟩,h7⟩,h8⟩:=h
 refine⟨⟨h1,h2,h3,h4,λy hy e=>O.cf _ (h5 y hy e),λq x e=>?_,h6⟩,h8⟩
 have hk:q< (zau sc).length:=(van.mp e).1
 have:=h7 q (veb.mpr hk)
 rw[e]at this
 cases z:ix[q]? with
 |none=>rw[z]at this;cases this
 |some j=>
  rw[z]at this
  simp only[vaa,vax]at this
  exact⟨j,rfl,by rw[O.hN];exact this.1,this.2⟩
theorem zdf(O:XOk X C T R F k){sc:Scope}{ix:List Nat}(h:zcv C sc ix=true)(D:Addr)(s₀:Shared)(H₀:Hp)(ex:List Addr):XOk (X.comp (ownOf sc++zau sc) sc D s₀ H₀ ex) (inC sc) T R F k:=by
 obtain⟨S,nd⟩:=zde O h
 refine⟨rfl,nd,λx hx=>?_,λx hx=>?_,λx hx=>?_,λx hx=>?_,O.calm,O.room,rfl,S.kind,O.mgs,O.mgn,O.fns,O.rs,O.wd⟩
 .have hx:visK (sc.names.lookup x)=true:=hx
  cases z:sc.names.lookup x with
  |none=>rw[z]at hx;cases hx
  |some kd=>
   cases kd with
   | «local»=>exact .inl (za4 (by decide) z)
   |cell=>exact .inr (.inl (za4 (by decide) z))
   |free=>
    have:=zbr (env:=X.env) O.kfn z
    by_cases hc:X.env.kindOf x=some .cell
    .rw[if_pos hc]at this;exact .inr (.inl this)
    .rw[if_neg hc]at this;exact .inr (.inr this)
   |globalExplicit=>rw[z]at hx;cases hx
   |globalImplicit=>rw[z]at hx;cases hx
 .have hx:locK false (sc.names.lookup x)=true:=hx
  cases z:sc.names.lookup x with
  |none=>rw[z]at hx;cases hx
  |some kd=>
   cases kd with
   | «local»=>exact⟨.inl (za4 (by decide) z),.inr (za4 (by decide) z)⟩
   |cell=>rw[z]at hx;cases hx
   |free=>rw[z]at hx;cases hx
   |globalExplicit=>rw[z]at hx;cases hx
   |globalImplicit=>rw[z]at hx;cases hx
 .exact za4 (by decide) hx
 .have hx:sc.names.lookup x=some .cell\/sc.names.lookup x=some .free:=hx
  rcases hx with z|z
  .exact .inl (za4 (by decide) z)
  .have:=zbr (env:=X.env) O.kfn z
   by_cases hc:X.env.kindOf x=some .cell
   .rw[if_pos hc]at this;exact .inl this
   .rw[if_neg hc]at this;exact .inr this
end
theorem map_some{α β:Type}{o:Option α}{f:α->β}{b:β}(h:o.map f=some b):∃a,o=some a/\b=f a:=by
 cases o with
 |none=>cases h
 |some a=>cases h;exact⟨a,rfl,rfl⟩
structure Snd(X:Cx)(C:CC)(T:List Str)(F:Nat->Option Fn)(k n:Nat):Prop where
 e:∀e c,cE X.K T n C e=some c->SE X e (ev (run F k) c)/\zat e=true
 t:∀e c,cT X.K T n C e=some c->ST X e (ev (run F k) c)
 w:∀e kd c tg,cW X.K T n C e=some (kd,c)->okW kd tg=true->PI X tg e (lftI X.K kd (ev (run F k) c))/\∀x,foldedSetIterable e X.env x=pure x
section
variable{X:Cx}{C:CC}{T:List Str}{R:RX}{F:Nat->Option Fn}{k n:Nat}
theorem snd_t(O:XOk X C T R F k)(ih:Snd X C T F k n)(e:Expr)(c:E)(h:cT X.K T (n+1) C e=some c):ST X e (ev (run F k) c):=by
 unfold cT at h
 split at h
 .split at h
  .split at h
   .rename_i hs
    split at h
    .rename_i h1 h2 h3
     cases h
     exact zuo O.u65 h1 hs (ih.e _ _ h2).1 (ih.e _ _ h3).1
    .cases h
   .cases h
  .split at h
   .rename_i hs
    split at h
    .rename_i h1 h2 h3 h4 h5
     cases h
     exact zuq O.u65 h1 h2 hs (ih.e _ _ h3).1 (ih.e _ _ h4).1 (ih.e _ _ h5).1
    .cases h
   .cases h
  .cases h
 .split at h
  .obtain⟨a,h1,rfl⟩:=map_some h
   exact zur (ih.t _ _ h1)
  .cases h
 .split at h
  .exact((zjb ih.t).1 h).pt
  .exact((zjb ih.t).2 h).pt
 .obtain⟨a,h1,rfl⟩:=map_some h
  exact zlw (ih.e _ _ h1).1 λ_=>rfl
 .obtain⟨a,h1,rfl⟩:=map_some h
  exact zlw (ih.e _ _ h1).1 λ_=>rfl
 .obtain⟨a,h1,rfl⟩:=map_some h
  exact zlw (ih.e _ _ h1).1 λ_=>rfl
 .cases h
theorem noSet{e:Expr}(h:∀a b c,e≠.Set a b c){env:Env}:∀x,foldedSetIterable e env x=pure x:=by
 intro x
 cases e<;>first|rfl|exact absurd rfl (h _ _ _)
theorem snd_w(O:XOk X C T R F k)(ih:Snd X C T F k n)(e:Expr)(kd:Kd)(c:E)(tg:Expr)(h:cW X.K T (n+1) C e=some (kd,c))(hw:okW kd tg=true):PI X tg e (lftI X.K kd (ev (run F k) c))/\∀x,foldedSetIterable e X.env x=pure x:=by
 unfold cW at h
 split at h
 .rename_i f p args pos
  refine⟨?_,λx=>rfl⟩
  split at h
  .rename_i hf
   have hf:f = "range":=by simpa using hf
   subst hf
   split at h
   .rename_i ha
    obtain⟨g1,g2⟩:=zev O ha
    split at h
    .rename_i a
     obtain⟨x,h1,h2⟩:=map_some h
     cases h2
     obtain⟨h3,h4⟩:=ih.e _ _ h1
     exact zrz (zlt h3 zpx (zae h4)) h4 g1 g2
    .cases h
   .cases h
  .split at h
   .rename_i hf
    have hf:f = "enumerate":=by simpa using hf
    subst hf
    split at h
    .rename_i ha
     obtain⟨g1,g2⟩:=zev O ha
     split at h
     .rename_i a
      obtain⟨x,h1,h2⟩:=map_some h
      cases h2
      obtain⟨h3,h4⟩:=ih.e _ _ h1
      cases tg<;>first|exact zvc h3 h4 g1 g2|cases hw
     .cases h
    .cases h
   .obtain⟨x,h1,h2⟩:=map_some h
    cases h2
    exact zp3 (ih.e _ _ h1).1
 .cases h
 .rename_i hns
  obtain⟨x,h1,h2⟩:=map_some h
  cases h2
  exact⟨zp3 (ih.e _ _ h1).1,noSet (by first|exact hns|(intro a b c z;exact hns a b c z))⟩
end
section
variable{X:Cx}{C:CC}{T:List Str}{R:RX}{F:Nat->Option Fn}{k n:Nat}
theorem zoz(O:XOk X C T R F k){x:Str}{p:Pos}{c:E}(h:cE X.K T (n+1) C (.Name x p)=some c):SE X (.Name x p) (ev (run F k) c):=by
 simp only[cE]at h
 split at h
 .rename_i hn
  obtain⟨n1,n2,n3⟩:=za2 hn
  split at h
  .rename_i hv
   obtain⟨i,h1,rfl⟩:=map_some h
   exact zuf (by rw[O.hN];exact zb8 h1) (O.vis x hv) n1 n2
  .split at h
   .rename_i hg
    split at h
    .rename_i v hv
     obtain⟨w,h1,rfl⟩:=map_some h
     obtain⟨y,h2,h3⟩:=zqe 8 v w h1
     exact zg7 (zkn (O.gl x (by simpa using hg)) (O.mgs x v hv) h2 n1) h3
    .cases h
   .cases h
 .cases h
theorem zo0(O:XOk X C T R F k)(ih:Snd X C T F k n){f:Str}{p pos:Pos}{args:List Expr}{c:E}(h:cE X.K T (n+1) C (.Call (.Name f p) args [] pos)=some c):SE X (.Call (.Name f p) args [] pos) (ev (run F k) c):=by
 simp only[cE]at h
 split at h
 .rename_i hn
  rw[vaa]at hn
  have hg:=O.gl f (by simpa using hn.2)
  split at h
  .rename_i hm
   have hm:=O.mgn f hm
   split at h
   .rename_i hf
    have hf:f = "isinstance":=by simpa using hf
    subst hf
    split at h
    .rename_i a t pt
     split at h
     .rename_i ty x h1 h2
      split at h
      .rename_i hc
       cases h
       rw[vaa]at hc
       obtain⟨g1,g2⟩:=zev O hc.2
       obtain⟨h3,h4⟩:=ih.e _ _ h2
       obtain⟨n1,n2,n3⟩:=za2 hc.1
       exact zu5 ty h3 h4 hg hm g1 g2 (zsf h1) n3 n1
      .cases h
     .cases h
    .cases h
   .split at h
    .rename_i b e es hb
     obtain⟨a,h1,rfl⟩:=map_some h
     obtain⟨h2,h3⟩:=cL_ok ih.e h1
     exact bi_ok hb hg hm hn.1 O.calm h2 h3
    .cases h
  .rename_i v hv
   split at h
   .rename_i i hi
    obtain⟨fa,fd,ps,fn,q1,q2,q3,q4,q5,q6,q7⟩:=O.fns i f (zb8 hi) (zv0 hn.1)
    have q1:=zbt q1
    split at h
    .rename_i hlv
     rw[vaa]at hlv
     obtain⟨a,h1,rfl⟩:=map_some h
     obtain⟨h2,h3⟩:=cL_ok ih.e h1
     have hl:∀ws h w h',run F k i ws h=.ok w h'->ws.length=ps.length:=λws h w h' e=>by rw[zcb q5 e,q6]
     have hev:ev (run F k) (.call i (padE a))=gArg (ev (run F k) a) (λws h=>run F k i (ws++[.non]) h):=by
      funext ρ h
      simp only[ev,zv1 (zmo h1)]
      show Res.bind (Res.bind (ev (run F k) a ρ h) _) _=Res.bind (ev (run F k) a ρ h) _
      cases ev (run F k) a ρ h with
      |no=>rfl
      |ex _ _=>rfl
      |ok y h2=>cases y<;>rfl
     rw[hev]
     cases args with
     |nil=>cases hlv.2
     |cons e es=>exact zor q2 O.room hg (O.mgs f _ q1) q3 (q7 (zke hlv.1)) h2 h3 (za2 hn.1).1 hl
    obtain⟨a,h1,rfl⟩:=map_some h
    obtain⟨h2,h3⟩:=cL_ok ih.e h1
    have hl:∀ws h w h',run F k i ws h=.ok w h'->ws.length=ps.length:=λws h w h' e=>by rw[zcb q5 e,q6]
    cases args with
    |nil=>
     simp only[cL]at h1
     cases h1
     exact zoq q2 O.room hg (O.mgs f _ q1) q3 q4 (za2 hn.1).1 hl
    |cons e es=>exact zrx q2 O.room hg (O.mgs f _ q1) q3 q4 h2 h3 (za2 hn.1).1 hl
   .cases h
  .cases h
 .cases h
theorem zo1(O:XOk X C T R F k)(ih:Snd X C T F k n){o:Expr}{m:Str}{ap pos:Pos}{args:List Expr}{c:E}(h:cE X.K T (n+1) C (.Call (.Attribute o m ap) args [] pos)=some c):SE X (.Call (.Attribute o m ap) args [] pos) (ev (run F k) c):=by
 simp only[cE]at h
 split at h
 .rename_i hn
  rw[vaa]at hn
  split at h
  .rename_i x a hx
   split at h
   .rename_i hm
    have hm:m = "append":=by simpa using hm
    subst hm
    obtain⟨y,h1,rfl⟩:=map_some h
    obtain⟨h2,h3⟩:=ih.e _ _ h1
    exact zly (ih.e _ _ hx).1 h2 hn.1 h3 hn.2
   .cases h
  .rename_i x hx
   split at h
   .rename_i hm
    have hm:m = "reverse":=by simpa using hm
    subst hm
    cases h
    exact zj9 (ih.e _ _ hx).1 hn.1 hn.2
   .cases h
  .cases h
 .cases h
theorem zmq{ow fr:List Str}{sc:Scope}{ifs:List Expr}{c:E}(O:∀D s₀ H₀ ex,Snd (X.comp (ow++fr) sc D s₀ H₀ ex) (inC sc) T F k n)
 (h:(match ifs with|[]=>some (E.cst (.bl true))|[c]=>cT X.K T n (inC sc) c|_=>none)=some c) (D:Addr) (s₀:Shared) (H₀:Hp) (ex:List Addr):PTs (X.comp (ow++fr) sc D s₀ H₀ ex) ifs (lftT X.K (ev (run F k) c)):=by
 split at h
 .cases h
  exact λpins s σ H Q I z9=>z9.el λρ h m b h' f r e q=>by
   cases e
   exact zrf pins s σ H Q I (q H m .refl r)
 .exact zrg ((O D s₀ H₀ ex).t _ _ h)
 .cases h
theorem zqg(O:XOk X C T R F k)(ih:Snd X C T F k n)(ihc:∀{sc:Scope} {ix:List Nat},zcv C sc ix=true->∀D s₀ H₀ ex,Snd (X.comp (ownOf sc++zau sc) sc D s₀ H₀ ex) (inC sc) T F k n)
 {elt tg iter:Expr} {ifs:List Expr} {sc:Scope} {pos:Pos} {c:E} (h:cE X.K T (n+1) C (.ListComp elt [⟨tg,iter,ifs,0⟩] sc pos)=some c) :
 ∃kd a t ix cc ce,c=.lc kd a t (ownOf sc).length ix cc ce/\CompScope X (ownOf sc) (zau sc) ix sc/\PI X tg iter (lftI X.K kd (ev (run F k) a))/\(∀D s₀ H₀ ex,PG (X.comp (ownOf sc++zau sc) sc D s₀ H₀ ex) tg (lftG X.K t))/\
  (∀D s₀ H₀ ex,PTs (X.comp (ownOf sc++zau sc) sc D s₀ H₀ ex) ifs (lftT X.K (ev (run F k) cc)))/\(∀D s₀ H₀ ex,PE (X.comp (ownOf sc++zau sc) sc D s₀ H₀ ex) elt (lft X.K (ev (run F k) ce)))/\∀x,foldedSetIterable iter X.env x=pure x:=by
 simp only[cE]at h
 split at h
 .rename_i ix hix
  split at h
  .rename_i hc
   split at h
   .rename_i kd a t cc ce h1 h2 h3 h4
    split at h
    case isFalse=>cases h
    rename_i hw
    cases h
    obtain⟨w1,w2⟩:=ih.w _ _ _ tg h1 hw
    exact⟨kd,a,t,ix,cc,ce,rfl,(zde O hc).1,w1,λD s₀ H₀ ex=>tg_ok (zdf O hc D s₀ H₀ ex) h2,zmq (ihc hc) h3,λD s₀ H₀ ex=>((ihc hc D s₀ H₀ ex).e _ _ h4).1,w2⟩
   .cases h
  .cases h
 .cases h
theorem zmr(O:XOk X C T R F k)(ih:Snd X C T F k n)(ihc:∀{sc:Scope} {ix:List Nat},zcv C sc ix=true->∀D s₀ H₀ ex,Snd (X.comp (ownOf sc++zau sc) sc D s₀ H₀ ex) (inC sc) T F k n)
 {elt tg iter tg2 iter2:Expr} {ifs ifs2:List Expr} {sc:Scope} {pos:Pos} {c:E} (h:cE X.K T (n+1) C (.ListComp elt [⟨tg,iter,ifs,0⟩,⟨tg2,iter2,ifs2,0⟩] sc pos)=some c) :
 ∃kd a t ix cc kd2 a2 t2 cc2 ce,c=.lc2 kd a t (ownOf sc).length ix cc kd2 a2 t2 cc2 ce/\CompScope X (ownOf sc) (zau sc) ix sc/\PI X tg iter (lftI X.K kd (ev (run F k) a))/\(∀D s₀ H₀ ex,PG (X.comp (ownOf sc++zau sc) sc D s₀ H₀ ex) tg (lftG X.K t))/\
  (∀D s₀ H₀ ex,PTs (X.comp (ownOf sc++zau sc) sc D s₀ H₀ ex) ifs (lftT X.K (ev (run F k) cc)))/\
  (∀D s₀ H₀ ex,PI (X.comp (ownOf sc++zau sc) sc D s₀ H₀ ex) tg2 iter2 (lftI X.K kd2 (ev (run F k) a2)))/\(∀D s₀ H₀ ex,PG (X.comp (ownOf sc++zau sc) sc D s₀ H₀ ex) tg2 (lftG X.K t2))/\
  (∀D s₀ H₀ ex,PTs (X.comp (ownOf sc++zau sc) sc D s₀ H₀ ex) ifs2 (lftT X.K (ev (run F k) cc2)))/\(∀D s₀ H₀ ex,PE (X.comp (ownOf sc++zau sc) sc D s₀ H₀ ex) elt (lft X.K (ev (run F k) ce)))/\
  (∀x,foldedSetIterable iter X.env x=pure x)/\∀D s₀ H₀ ex x,foldedSetIterable iter2 (X.comp (ownOf sc++zau sc) sc D s₀ H₀ ex).env x=pure x:=by
 simp only[cE]at h
 split at h
 .rename_i ix hix
  split at h
  .rename_i hc
   split at h
   .rename_i kd a t cc ce h1 h2 h3 h4
    split at h
    case isFalse=>cases h
    rename_i hw
    split at h
    .rename_i kd2 a2 t2 cc2 h5 h6 h7
     split at h
     case isFalse=>cases h
     rename_i hw2
     cases h
     obtain⟨w1,w2⟩:=ih.w _ _ _ tg h1 hw
     exact⟨kd,a,t,ix,cc,kd2,a2,t2,cc2,ce,rfl,(zde O hc).1,w1,λD s₀ H₀ ex=>tg_ok (zdf O hc D s₀ H₀ ex) h2,zmq (ihc hc) h3,λD s₀ H₀ ex=>((ihc hc D s₀ H₀ ex).w _ _ _ tg2 h5 hw2).1,λD s₀ H₀ ex=>tg_ok (zdf O hc D s₀ H₀ ex) h6,zmq (ihc hc) h7,
      λD s₀ H₀ ex=>((ihc hc D s₀ H₀ ex).e _ _ h4).1,w2,λD s₀ H₀ ex=>((ihc hc D s₀ H₀ ex).w _ _ _ tg2 h5 hw2).2⟩
    .cases h
   .cases h
  .cases h
 .cases h
theorem snd_e(O:XOk X C T R F k)(ih:Snd X C T F k n)(ihc:∀{sc:Scope} {ix:List Nat},zcv C sc ix=true->∀D s₀ H₀ ex,Snd (X.comp (ownOf sc++zau sc) sc D s₀ H₀ ex) (inC sc) T F k n)
 (e:Expr) (c:E) (h:cE X.K T (n+1) C e=some c):SE X e (ev (run F k) c)/\zat e=true:=by
 have h0:=h
 unfold cE at h
 split at h
 .exact⟨zoz O h0,rfl⟩
 .refine⟨?_,rfl⟩
  split at h
  .cases h;exact zug
  .cases h;exact se_bl
  .cases h;exact zuh
  .cases h;exact zui
  .cases h
 .obtain⟨a,h1,rfl⟩:=map_some h
  exact⟨zuj (cL_ok ih.e h1).1,rfl⟩
 .obtain⟨a,h1,rfl⟩:=map_some h
  exact⟨zuk (cL_ok ih.e h1).1,rfl⟩
 .refine⟨?_,rfl⟩
  rename_i ks vs pos
  split at h
  .rename_i hc
   simp only[vaa]at hc
   obtain⟨a,h1,rfl⟩:=map_some h
   cases ks with
   |nil=>
    cases vs with
    |nil=>simp only[cPs]at h1;cases h1;exact zrw
    |cons _ _=>cases h1
   |cons q ks=>exact zu7 O.u2 (zqf ih.e h1) hc.2 (vb6 hc.1.2) (by simp) (va2 hc.1.1)
  .cases h
 .refine⟨?_,rfl⟩
  split at h
  .rename_i h1 h2 h3
   cases h
   exact se_op (op_ok h1) (zul _) (ih.e _ _ h2).1 (ih.e _ _ h3).1
  .cases h
 .split at h
  .obtain⟨a,h1,rfl⟩:=map_some h
   exact⟨zus (ih.e _ _ h1).1,rfl⟩
  .obtain⟨a,h1,rfl⟩:=map_some h
   exact⟨zuw (ih.e _ _ h1).1,rfl⟩
  .cases h
 .split at h
  .exact⟨(cB_ok ih.e).1 h,rfl⟩
  .exact⟨(cB_ok ih.e).2 h,rfl⟩
 .split at h
  .refine⟨?_,rfl⟩
   split at h
   .rename_i hs
    split at h
    .rename_i h1 h2 h3
     cases h
     exact zun O.u65 h1 hs (ih.e _ _ h2).1 (ih.e _ _ h3).1
    .cases h
   .cases h
  .refine⟨?_,rfl⟩
   split at h
   .rename_i hs
    split at h
    .rename_i h1 h2 h3 h4 h5
     cases h
     exact zup O.u65 h1 h2 hs (ih.e _ _ h3).1 (ih.e _ _ h4).1 (ih.e _ _ h5).1
    .cases h
   .cases h
  .cases h
 .refine⟨?_,rfl⟩
  split at h
  .rename_i h1 h2 h3
   cases h
   exact zuv (ih.t _ _ h1) (ih.e _ _ h2).1 (ih.e _ _ h3).1
  .cases h
 .split at h
  .split at h
   .refine⟨?_,rfl⟩
    split at h
    .rename_i h1 h2 h3
     cases h
     exact zuy (ih.e _ _ h1).1 (cO_ok ih.e h2) (cO_ok ih.e h3)
    .cases h
   .cases h
  .refine⟨?_,rfl⟩
   split at h
   .rename_i hs
    split at h
    .rename_i h1 h2
     cases h
     exact zux O.u2 (ih.e _ _ h1).1 (ih.e _ _ h2).1 (zfh hs)
    .cases h
   .cases h
 .split at h
  .split at h
   .exact⟨zo0 O ih h0,rfl⟩
   .exact⟨zo1 O ih h0,rfl⟩
   .cases h
  .cases h
 .split at h
  .refine⟨?_,rfl⟩
   obtain⟨kd,a,t,ix,cc,ce,rfl,S,w1,w2,w3,w4,w5⟩:=zqg O ih ihc h0
   exact se_lc S O.calm w1 w2 w3 w4 w5
  .refine⟨?_,rfl⟩
   obtain⟨kd,a,t,ix,cc,kd2,a2,t2,cc2,ce,rfl,S,w1,w2,w3,v1,v2,v3,w4,w5,v5⟩:=zmr O ih ihc h0
   exact zvm S O.calm w1 w2 w3 v1 v2 v3 w4 w5 v5
  .cases h
 .cases h
end
theorem zb9{T:List Str}{R:RX}{F:Nat->Option Fn}{k:Nat}:∀(n:Nat) {X:Cx} {C:CC},XOk X C T R F k->Snd X C T F k n
 |0,_,_,_=>⟨(λe c h=>nomatch h),(λe c h=>nomatch h),(λe kd c tg h _=>nomatch h)⟩
 |n+1,X,C,O=>by
  have ih:=zb9 n O
  have ihc:∀{sc:Scope}{ix:List Nat},zcv C sc ix=true->∀D s₀ H₀ ex,Snd (X.comp (ownOf sc++zau sc) sc D s₀ H₀ ex) (inC sc) T F k n:=λhc D s₀ H₀ ex=>zb9 n (zdf O hc D s₀ H₀ ex)
  exact⟨snd_e O ih ihc,snd_t O ih,snd_w O ih⟩
section
variable{X:Cx}{C:CC}{T:List Str}{R:RX}{F:Nat->Option Fn}{k d:Nat}
theorem zcq{f:Stmt->Option S}{cl:Call}(ih:∀st c,f st=some c->SS X st (exs cl c)):∀{sts:List Stmt} {c:S},cSs f sts=some c->SSs X sts (exs cl c)
 |[],_,h=>by cases h;exact zl5
 |s::r,c,h=>by
  unfold cSs at h
  split at h
  .rename_i a b ha hb
   cases h
   exact zi5 (ih s a ha) (zcq ih hb)
  .cases h
theorem zv3{K:PySem.W.Frag}{T:List Str}{n:Nat}{C:CC}{elt:Expr}{gs:List Comprehension}{sc:Scope}{lp:Pos}{c:E}(h:cE K T (n+1) C (.ListComp elt gs sc lp)=some c):(∃tg iter ifs,gs=[⟨tg,iter,ifs,0⟩])\/∃tg iter ifs tg2 iter2 ifs2,gs=[⟨tg,iter,ifs,0⟩,⟨tg2,iter2,ifs2,0⟩]:=by
 simp only[cE]at h
 split at h
 .exact .inl ⟨_,_,_,rfl⟩
 .exact .inr ⟨_,_,_,_,_,_,rfl⟩
 .cases h
theorem zsg(O:XOk X C T R F k){x:Str}{p pos:Pos}{e:Expr}{i:Nat}{c:E}(hi:nmIx C (.Name x p)=some i)(h:cE X.K T d C e=some c):SS X (.Assign [.Name x p] e pos) (exs (run F k) (.set i c)):=by
 obtain⟨x',p',ex,h1,h2,h3⟩:=nm_ok O hi
 cases ex
 have nd:X.N.Nodup:=O.hN▸O.nd
 have Sd:=zb9 (T:=T) (F:=F) (k:=k) d O
 by_cases hc:zfe e=true
 .exact zp7 nd h1 h2 h3 (Sd.e _ _ h).1 (zf6 hc)
 .cases d with
  |zero=>cases h
  |succ n=>
   cases e with
   |ListComp elt gs sc lp=>
    have sw:∃b:Bool,swapsWith (.ListComp elt gs sc lp) (some (.Name x p)) pos.line X.env=pure b:=⟨_,rfl⟩
    obtain⟨b,hb⟩:=sw
    cases b with
    |false=>exact zp7 nd h1 h2 h3 (Sd.e _ _ h).1 hb
    |true=>
     rcases zv3 h with⟨tg,iter,ifs,rfl⟩|⟨tg,iter,ifs,tg2,iter2,ifs2,rfl⟩
     .obtain⟨kd,a,t,ix,cc,ce,rfl,S,w1,w2,w3,w4,w5⟩:=zqg O (zb9 n O) (λhc D s₀ H₀ ex=>zb9 n (zdf O hc D s₀ H₀ ex)) h
      exact zot nd h1 h2 h3 S O.calm w1 w2 w3 w4 hb w5
     .obtain⟨kd,a,t,ix,cc,kd2,a2,t2,cc2,ce,rfl,S,w1,w2,w3,v1,v2,v3,w4,w5,v5⟩:=zmr O (zb9 n O) (λhc D s₀ H₀ ex=>zb9 n (zdf O hc D s₀ H₀ ex)) h
      exact zl8 nd h1 h2 h3 S O.calm w1 w2 w3 v1 v2 v3 w4 hb w5 v5
   |SetComp _ _ _ _=>unfold cE at h;cases h
   |DictComp _ _ _ _ _=>unfold cE at h;cases h
   |_=>exact absurd rfl hc
structure XTop(X:Cx)(C:CC):Prop where
 stk:X.stack=X.env::X.outer
 fr:X.env.frame=some X.env.locals
 fn:∀x,X.fn x=true
 lc:∀x,C.names.lookup x=some .local->X.env.kindOf x=some .local/\Loc X.env.scope x/\Vis X.env.scope x
theorem zsh(O:XOk X C T R F k)(tp:XTop X C){f xb nm:Str}{e hb:Expr}{es:List Expr}{p cpos epos t2 hpos pos rp:Pos}{c:S}(h:cTry X.K T R d C f (e::es) xb nm hb=some c) :
 SS X (.Try [.Expr (.Call (.Name f p) (e::es) [] cpos) epos] [.ExceptHandler (some (.Name xb t2)) (some nm) [.Return (some hb) rp] hpos] [] [] pos) (exs (run F k) c):=by
 unfold cTry at h
 split at h
 case isFalse=>cases h
 rename_i hc
 simp only[vaa,vcc]at hc
 obtain⟨⟨⟨⟨⟨⟨c1,c2⟩,c4⟩,c5⟩,c6⟩,c7⟩,c8⟩:=hc
 split at h
 case h_2=>cases h
 rename_i j D i o a hj hD hi ho ha
 split at h
 case isFalse=>cases h
 rename_i hs
 cases h
 obtain⟨fa,fd,ps,fn,q1,q2,q3,q4,q5,q6⟩:=O.rs j f (zb8 hj)
 have Sd:=zb9 (T:=T) (F:=F) (k:=k) d O
 obtain⟨h2,h3⟩:=cL_ok Sd.e ha
 obtain⟨l1,l2,l3⟩:=tp.lc nm c7
 refine zvz (tb:=R.tb) tp.stk tp.fr q2 O.room (λx=>O.room.h) (O.gl f c2) (O.mgs f _ (zbt q1)) q3 q4 (λws h w h' e=>by rw[zcb q5 e,q6]) (by
  have e:X.nox=X:=by
   have:=O.xe
   obtain⟨⟩:=X
   cases this
   rfl
  rw[e]
  exact h2) h3 (O.gl xb c5) (O.mgs xb _ hD) (O.hN▸O.nd) (by rw[O.hN];exact zb8 hi) l1 l2 l3 (tp.fn nm) ho O.wd (O.gl _ c8) (λC z hm=>?_) (za2 c1).1 (za2 c4).1 (za2 c6).1 (za2 c6).2.1
 exact(vbr.mp hs) _ hm
theorem zo2(O:XOk X C T R F k)(tp:XTop X C){xb nm:Str}{c hb:Expr}{f g:Str}{e e2:Expr}{es es2:List Expr}{p cp ep p2 cp2 ep2 ip t2 hpos pos rp:Pos}{a b:S}{zc:E}(hz:cT X.K T d C c=some zc)(h1:cTry X.K T R d C f (e::es) xb nm hb=some a)(h2:cTry X.K T R d C g (e2::es2) xb nm hb=some b) :
 SS X (.Try [.If c [.Expr (.Call (.Name f p) (e::es) [] cp) ep] [.Expr (.Call (.Name g p2) (e2::es2) [] cp2) ep2] ip] [.ExceptHandler (some (.Name xb t2)) (some nm) [.Return (some hb) rp] hpos] [] [] pos) (exs (run F k) (.ite zc a b)):=by
 unfold cTry at h1 h2
 split at h1
 case isFalse=>cases h1
 rename_i hc
 split at h2
 case isFalse=>cases h2
 rename_i hc2
 simp only[vaa,vcc]at hc hc2
 obtain⟨⟨⟨⟨⟨⟨c1,c2⟩,c4⟩,c5⟩,c6⟩,c7⟩,c8⟩:=hc
 obtain⟨⟨⟨⟨⟨⟨d1,d2⟩,_⟩,_⟩,_⟩,_⟩,_⟩:=hc2
 split at h1
 case h_2=>cases h1
 rename_i j D i o aa hj hD hi ho ha
 split at h2
 case h_2=>cases h2
 rename_i j2 D2 i2 o2 ab hj2 hD2 hi2 ho2 hb2
 rw[hD]at hD2
 cases hD2
 rw[ho]at ho2
 cases ho2
 by_cases hs:(R.tb.all λc=>subE X.K c.1 D)=true
 case neg=>rw[if_neg hs]at h1;cases h1
 rw[if_pos hs]at h1 h2
 cases h1
 cases h2
 obtain⟨fa,fd,ps,fn,q1,q2,q3,q4,q5,q6⟩:=O.rs j f (zb8 hj)
 obtain⟨fb,gd,qs,gn,u1,u2,u3,u4,u5,u6⟩:=O.rs j2 g (zb8 hj2)
 have Sd:=zb9 (T:=T) (F:=F) (k:=k) d O
 have e9:X.nox=X:=by
  have:=O.xe
  obtain⟨⟩:=X
  cases this
  rfl
 obtain⟨h3,h4⟩:=cL_ok Sd.e ha
 obtain⟨h5,h6⟩:=cL_ok Sd.e hb2
 obtain⟨l1,l2,l3⟩:=tp.lc nm c7
 refine zsd (tb:=R.tb) tp.stk tp.fr (by rw[e9];exact Sd.t _ _ hz) q2 O.room (λx=>O.room.h) (O.gl f c2) (O.mgs f _ (zbt q1)) q3 q4 u2 (O.gl g d2) (O.mgs g _ (zbt u1)) u3 u4 (λws h w h' e=>by rw[zcb q5 e,q6]) (λws h w h' e=>by rw[zcb u5 e,u6]) (by rw[e9];exact h3) h4 (by rw[e9];exact h5) h6 (O.gl xb c5) (O.mgs xb _ hD) (O.hN▸O.nd) (by rw[O.hN];exact zb8 hi) l1 l2 l3 (tp.fn nm) ho O.wd (O.gl _ c8) (λC z hm=>?_) (za2 c1).1 (za2 d1).1 (za2 c4).1 (za2 c6).1 (za2 c6).2.1
 exact(vbr.mp hs) _ hm
theorem zgd{K:PySem.W.Frag}{C:CC}{q:TryQ}{c:S}(h:cTryQ K T R d C q=some c):∃e es,q.c.args=e::es/\cTry K T R d C q.c.f (e::es) q.xb.1 q.nm q.hb=some c:=by
 unfold cTryQ at h
 split at h
 .cases h
 .rename_i hne
  cases ha:q.c.args with
  |nil=>rw[ha]at hne;exact absurd rfl hne
  |cons e es=>rw[ha]at h;exact⟨e,es,rfl,h⟩
theorem zo3(O:XOk X C T R F k)(tp:XTop X C){b:List Stmt}{hs:List ExceptHandler}{pos:Pos}{c:S}(h:cTryS X.K T R d C b hs=some c):SS X (.Try b hs [] [] pos) (exs (run F k) c):=by
 unfold cTryS at h
 split at h
 .rename_i q hq
  obtain⟨rfl,rfl⟩:=zgc hq
  obtain⟨e,es,ha,h1⟩:=zgd h
  rw[ha]
  exact zsh O tp h1
 .split at h
  case h_2=>cases h
  rename_i q hq
  obtain⟨s,g1,g2⟩:=bindS hq
  rw[za8 g1,zse g2]
  split at h
  case h_2=>cases h
  rename_i q1 q2 z k1 k2 hz
  split at h
  case h_2=>cases h
  rename_i a b ha hb
  cases h
  obtain⟨b1,rfl⟩:=zgc k1
  obtain⟨b2,hh⟩:=zgc k2
  obtain⟨e,es,w1,w2⟩:=zgd ha
  obtain⟨e2,es2,u1,u2⟩:=zgd hb
  simp only[List.cons.injEq,ExceptHandler.ExceptHandler.injEq,Option.some.injEq,Expr.Name.injEq,Stmt.Return.injEq,and_true]at hh
  obtain⟨⟨x1,_⟩,x2,⟨x3,_⟩,_⟩:=hh
  rw[<-x1,<-x2,<-x3]at u2
  rw[w1]at b1
  rw[u1]at b2
  rw[(List.cons.inj b1).1,(List.cons.inj b2).1]
  exact zo2 O tp hz w2 u2
theorem snd_s(O:XOk X C T R F k)(tp:XTop X C):∀(n:Nat) (st:Stmt) (c:S),cS X.K T R d n C st=some c->SS X st (exs (run F k) c)
 |0,_,_,h=>by cases h
 |n+1,st,c,h=>by
  have nd:X.N.Nodup:=O.hN▸O.nd
  have Sd:=zb9 (T:=T) (F:=F) (k:=k) d O
  have ih:=snd_s O tp n
  have hp:PassesOwn (model X.prog X.w) X.A X.env X.xe:=by rw[O.xe];exact PassesOwn.never
  unfold cS at h
  split at h
  .cases h;exact zr1
  .cases h;exact zvj
  .cases h;exact zvk
  .cases h;exact ss_no
  .split at h
   .cases h;exact zr2
   .obtain⟨a,h1,rfl⟩:=map_some h
    exact zvl (Sd.e _ _ h1).1
  .split at h
   .rename_i hc
    obtain⟨a,h1,rfl⟩:=map_some h
    exact zl6 (Sd.e _ _ h1).1 hc
   .cases h
  .split at h
   .split at h
    .split at h
     .rename_i i a h1 h2
      cases h
      exact zsg O h1 h2
     .cases h
    .split at h
     .rename_i ht
      split at h
      .rename_i h1 h2
       cases h
       exact zvn O.calm nd (zmp O h1) (Sd.e _ _ h2).1 ht
      .cases h
     .cases h
    .split at h
     .rename_i hs
      split at h
      .rename_i h1 h2 h3
       cases h
       exact zvo O.u2 (Sd.e _ _ h1).1 (Sd.e _ _ h2).1 (Sd.e _ _ h3).1 hs
      .cases h
     .cases h
    .cases h
   .cases h
  .split at h
   .split at h
    .rename_i h1 h2 h3
     cases h
     obtain⟨x',p',ex,a1,a2,a3⟩:=nm_ok O h1
     cases ex
     exact zvr h2 nd a1 a2 a3 (Sd.e _ _ h3).1
    .cases h
   .cases h
  .split at h
   .rename_i h1 h2 h3
    cases h
    exact zp8 (Sd.t _ _ h1) (zcq ih h2) (zcq ih h3)
   .cases h
  .rename_i tg it b el pos
   split at h
   .split at h
    .rename_i h1 h2 h3
     split at h
     case isFalse=>cases h
     rename_i hw
     cases h
     obtain⟨w1,w2⟩:=Sd.w _ _ _ tg h1 hw
     exact zp9 hp O.calm w1 (tg_ok O h2) (zcq ih h3) w2
    .cases h
   .cases h
  .split at h
   .split at h
    .rename_i h1 h2
     cases h
     exact zvt hp (Sd.t _ _ h1) (zcq ih h2)
    .cases h
   .cases h
  .split at h
   .exact zo3 O tp h
   .cases h
  .cases h
end
noncomputable def zew:FuncBody->Option (List Stmt)
 |.stmts b=>some b
 |_=>none
theorem zkf{d:Data}(h:zgb d=true):∃n,d=.seq #[.none] n:=by
 cases d with
 |seq xs n=>
  obtain⟨l⟩:=xs
  unfold zgb at h
  simp only[]at h
  split at h
  .rename_i v
   cases v<;>first|exact⟨n,rfl⟩|cases h
  .cases h
 |_=>cases h
theorem zo4{K:PySem.W.Frag}{v:Value}(h:noneD K v=true):∃t o n,v=.ref t/\K.lookup t=some o/\o.data=.seq #[.none] n:=by
 cases v with
 |ref t=>
  have h:(match K.lookup t with|some o=>zgb o.data|none=>false)=true:=h
  cases e:K.lookup t with
  |none=>rw[e]at h;cases h
  |some o=>
   rw[e]at h
   obtain⟨n,q⟩:=zkf h
   exact⟨t,o,n,rfl,e,q⟩
 |_=>cases h
noncomputable def za5(ps:List Str)(sc:Scope):List Str:=ps++(sc.names.filter λy=>(y.2 == .local||y.2 == .cell) && !(ps.contains y.1)).map (·.1)
noncomputable def zdg(N ps:List Str)(sc:Scope):Bool:=
 decide (sc.kind=.function) && !sc.isCoroutine && !sc.isGenerator&&decide N.Nodup&&decide (N.take ps.length=ps)&&ps.all (λx=>decide (sc.names.lookup x=some .local\/sc.names.lookup x=some .cell))&&sc.names.all (λy=>decide (y.2≠.free))&&decide ps.Nodup
theorem zdh{N ps:List Str}{sc:Scope}(h:zdg N ps sc=true):FnScope N ps sc/\ps.Nodup:=by
 unfold zdg at h
 simp only[vaa,vax,vbr,vdu]at h
 obtain⟨⟨⟨⟨⟨⟨⟨h1,h2⟩,h3⟩,h4⟩,h5⟩,h6⟩,h7⟩,h8⟩:=h
 exact⟨⟨h1,h2,h3,h4,h5,h6,h7⟩,h8⟩
noncomputable def nmOf(x:Str):Str:=(metOf x).getD x
noncomputable def cFg(K:PySem.W.Frag)(g:CC->List Stmt->Option S)(x:Str):Option Fn:=match fnAt K x with
 |some (f,o,fd)=>(match za9 fd.params,zew fd.body with
  |some args,some body=>if fd.name==nmOf x&&fd.qualname==x&&Nat.beq fd.globals mainGlobals&&fd.closure.isEmpty&& (isNone fd.defaults||noneD K fd.defaults && !args.isEmpty)&&Nat.beq fd.builtins builtinsNs&&PySem.W.codeIn K fd.code x&&PySem.W.keepIn K (.ref f) &&
   zdg (za5 (args.map (·.arg)) fd.scope) (args.map (·.arg)) fd.scope then
   (g ⟨za5 (args.map (·.arg)) fd.scope,fd.scope.names,true⟩ body).map λb=>⟨(args.map (·.arg)).length,(za5 (args.map (·.arg)) fd.scope).length,b⟩
   else none
  |_,_=>none)
 |none=>none
theorem zic{fd:FuncData}{x:Str}{args:List Arg}{body:List Stmt}(c1:(fd.name==nmOf x)=true)(c2:(fd.qualname==x)=true)(c3:Nat.beq fd.globals mainGlobals=true)(c4:fd.closure.isEmpty=true)(c6:Nat.beq fd.builtins builtinsNs=true)(ha:za9 fd.params=some args)(hb:zew fd.body=some body) :
 ∃dx,fd=PySem.W.fnOf (nmOf x) x ⟨[],args,none,[],[],none,dx⟩ body fd.scope fd.defaults fd.kwdefaults fd.doc fd.pyModule fd.annotations fd.code fd.closureTuple:=by
 obtain⟨nm,qn,pr,bd,sc,gl,cl,df,kd,dc,pm,an,cdv,ct,bu⟩:=fd
 have e1:nm=nmOf x:=by simpa using c1
 have e2:qn=x:=by simpa using c2
 have e3:gl=mainGlobals:=vb6 c3
 have e4:cl=[]:=by simpa using c4
 have e6:bu=builtinsNs:=vb6 c6
 have e7:bd=.stmts body:=by
  cases bd with
  |stmts b'=>cases hb;rfl
  |expr _=>cases hb
 obtain⟨dx,e8⟩:∃dx,pr=⟨[],args,none,[],[],none,dx⟩:=by
  unfold za9 at ha
  split at ha
  .cases ha;rename_i z;exact⟨_,z⟩
  .cases ha
 exact⟨dx,by rw[e1,e2,e3,e4,e6,e7,e8]⟩
theorem zge{K:PySem.W.Frag}{x:Str}{fd:FuncData}{args:List Arg}{body:List Stmt}{dx:List Expr}{sc:Scope}{df kd dc pm:Value}{an:Option Addr}{cdv ct:Value}{b:Bool}(e:fd=PySem.W.fnOf (nmOf x) x ⟨[],args,none,[],[],none,dx⟩ body sc df kd dc pm an cdv ct)(nd:(args.map (·.arg)).Nodup)
 (hb:b=noneD K df) (c5:(isNone df||noneD K df && !args.isEmpty)=true):Binds K fd (args.map (·.arg)) []/\(b=true->Binds K fd (args.map (·.arg)) [.none])/\(b=false->∀us:List Value,us.length=(args.map (·.arg)).length->bindArgs fd ⟨us,[]⟩=pure ((args.map (·.arg)).zip us)):=by
 subst e hb
 rw[vcu,vaa]at c5
 rcases c5 with c5|⟨c5,c0⟩
 .have e5:df=.none:=by cases df<;>first|rfl|cases c5
  subst e5
  exact⟨.all λus hl=>zff hl nd,(λz=>nomatch z),λ_ us hl=>zff hl nd⟩
 .obtain⟨t,o,n,rfl,hk,hd⟩:=zo4 c5
  rw[c5]
  obtain⟨qs,z,hqz⟩:∃qs z,args.map (·.arg)=qs++[z]:=by
   rcases List.eq_nil_or_concat (args.map (·.arg))with q|⟨l,b,q⟩
   .rw[List.map_eq_nil_iff.mp q]at c0;cases c0
   .exact⟨l,b,by rw[q,List.concat_eq_append]⟩
  have nd':=nd
  rw[hqz]at nd'
  refine⟨λs us hK hl=>?_,λ_ s us hK hl=>?_,λz=>nomatch z⟩
  .rw[va5]at hl ⊢
   rw[hqz]at hl ⊢
   exact zkc hqz nd' (hK _ _ hk) hd hl
  .rw[hqz]at hl ⊢
   exact zkd hqz nd' (hK _ _ hk) hd (by rw[vak,vak]at hl;simpa using hl)
theorem zhe{K:PySem.W.Frag}{x:Str}{f:Addr}{o:Obj}{fd:FuncData}(h:fnAt K x=some (f,o,fd)):refAt K x=some f/\∃oc od sl,K.lookup f=some ⟨oc,od,.func fd,sl⟩:=by
 unfold fnAt at h
 split at h
 .rename_i f' hn
  split at h
  .rename_i o' ho
   split at h
   .rename_i fd' hd
    cases h
    refine⟨hn,o.cls,o.dict,o.slots,?_⟩
    rw[<-hd];exact ho
   .cases h
  .cases h
 .cases h
theorem zv4{K:PySem.W.Frag}{g:CC->List Stmt->Option S}{x:Str}{fn:Fn}:∀(f:Addr) (o:Obj) (fd:FuncData) (args:List Arg) (body:List Stmt) (b:S),fnAt K x=some (f,o,fd)->za9 fd.params=some args->zew fd.body=some body->(fd.name==nmOf x&&fd.qualname==x&&Nat.beq fd.globals mainGlobals&&fd.closure.isEmpty&& (isNone fd.defaults||noneD K fd.defaults && !args.isEmpty)&&Nat.beq fd.builtins builtinsNs&&PySem.W.codeIn K fd.code x&&PySem.W.keepIn K (.ref f) &&
 zdg (za5 (args.map (·.arg)) fd.scope) (args.map (·.arg)) fd.scope)=true->g ⟨za5 (args.map (·.arg)) fd.scope,fd.scope.names,true⟩ body=some b->fn=⟨(args.map (·.arg)).length,(za5 (args.map (·.arg)) fd.scope).length,b⟩->∃f fd st ps N,refAt K x=some f/\FunD K (nmOf x) x st f fd/\FnScope N ps (zam st)/\fn.n=N.length/\fn.ps=ps.length/\(Binds K fd ps []/\(hasD K x=true->Binds K fd ps [.none])/\(hasD K x=false->∀us:List Value,us.length=ps.length->bindArgs fd ⟨us,[]⟩=pure (ps.zip us)))/\
 g ⟨N,(zam st).names,true⟩ (zc4 st)=some fn.body/\∃o' fd' args,fnAt K x=some (f,o',fd')/\za9 fd'.params=some args/\ps=args.map (·.arg):=by
 intro f o fd args body b hf ha hb hc h1 e
 rw[vaa,vaa,vaa,vaa,vaa,vaa,vaa,vaa]at hc
 obtain⟨⟨⟨⟨⟨⟨⟨⟨c1,c2⟩,c3⟩,c4⟩,c5⟩,c6⟩,c7⟩,c8⟩,c9⟩:=hc
 obtain⟨S,nd⟩:=zdh c9
 obtain⟨hn,oc,od,sl,lk⟩:=zhe hf
 obtain⟨dx,ef⟩:=zic c1 c2 c3 c4 c6 ha hb
 have hh:hasD K x=noneD K fd.defaults:=by unfold hasD;rw[hf]
 exact⟨f,fd,.FunctionDef (nmOf x) ⟨[],args,none,[],[],none,dx⟩ body [] none [] fd.scope none (nmOf x) ⟨0,0,0,0⟩,args.map (·.arg),za5 (args.map (·.arg)) fd.scope,hn,⟨⟨oc,od,_,_,_,_,_,fd.code,_,sl,ef,lk,c7⟩,c8⟩,S,by rw[e],by rw[e],zge ef nd hh c5,by rw[e];exact h1,o,fd,args,hf,ha,rfl⟩
theorem cF_ok{K:PySem.W.Frag}{g:CC->List Stmt->Option S}{x:Str}{fn:Fn}(h:cFg K g x=some fn):∃f fd st ps N,refAt K x=some f/\FunD K (nmOf x) x st f fd/\FnScope N ps (zam st)/\fn.n=N.length/\fn.ps=ps.length/\(Binds K fd ps []/\(hasD K x=true->Binds K fd ps [.none])/\(hasD K x=false->∀us:List Value,us.length=ps.length->bindArgs fd ⟨us,[]⟩=pure (ps.zip us)))/\
 g ⟨N,(zam st).names,true⟩ (zc4 st)=some fn.body/\∃o' fd' args,fnAt K x=some (f,o',fd')/\za9 fd'.params=some args/\ps=args.map (·.arg):=by
 unfold cFg at h
 split at h
 .rename_i f o fd hf
  split at h
  .rename_i args body ha hb
   split at h
   .rename_i hc
    obtain⟨b,h1,e⟩:=map_some h
    exact zv4 f o fd args body b hf ha hb hc h1 e
   .cases h
  .cases h
 .cases h
theorem zgf{α β:Type}{f:α->Option β}:∀{l:List α} {r:List β},mapO f l=some r->∀(i:Nat) (a:α),l[i]?=some a->∃b,r[i]?=some b/\f a=some b
 |[],_,_,i,a,e=>by simp at e
 |x::l,r,h,i,a,e=>by
  unfold mapO at h
  split at h
  .rename_i b hb
   split at h
   .rename_i bs hbs
    cases h
    cases i with
    |zero=>simp at e;subst e;exact⟨b,rfl,hb⟩
    |succ i=>
     obtain⟨c,h1,h2⟩:=zgf hbs i a (by simpa using e)
     exact⟨c,by simpa using h1,h2⟩
   .cases h
  .cases h
inductive MV where
 |exc|bls (bs:List Bool)|sts (xs:List Str)|bl (b:Bool)|int (i:Int)|str (x:Str)
noncomputable def MRep(C:Addr)(H:Hp)(v:V):MV->Prop
 |.exc=>∃a,v=.ref a/\Err C a H
 |.bls bs=>∃l,v=.ref l/\H l=some (.lst (bs.map .bl))
 |.sts xs=>∃l,v=.ref l/\H l=some (.lst (xs.map .str))
 |.bl b=>v=.bl b
 |.int i=>v=.int i
 |.str x=>v=.str x
theorem MRep.mono{C:Addr}{H H':Hp}{v:V}{m:MV}(h:MRep C H v m)(k:Hx H H'):MRep C H' v m:=by
 cases m with
 |exc=>obtain⟨a,e,q⟩:=h;exact⟨a,e,q.mono k⟩
 |bls bs=>obtain⟨a,e,q⟩:=h;exact⟨a,e,k _ _ q⟩
 |sts bs=>obtain⟨a,e,q⟩:=h;exact⟨a,e,k _ _ q⟩
 |bl b=>exact h
 |int i=>exact h
 |str x=>exact h
noncomputable def MReps(C:Addr)(H:Hp):List V->List MV->Prop
 |[],[]=>True
 |v::vs,m::ms=>MRep C H v m/\MReps C H vs ms
 |_,_=>False
noncomputable def EnvR(C:Addr)(H:Hp)(σ:L2.St)(ρ:List (Option MV)):Prop:=∀(i:Nat) (m:MV),ρ[i]?=some (some m)->∃v,σ[i]?=some (some v)/\MRep C H v m
theorem EnvR.mono{C:Addr}{H H':Hp}{σ:L2.St}{ρ:List (Option MV)}(h:EnvR C H σ ρ)(k:Hx H H'):EnvR C H' σ ρ:=λi m e=>let⟨v,a,b⟩:=h i m e;⟨v,a,b.mono k⟩
noncomputable def tM(C:Addr)(ρ:List (Option MV))(m:MV):TE:=λσ H Q=>EnvR C H σ ρ/\∀v H',Hx H H'->MRep C H' v m->Q v H'
noncomputable def tMs(C:Addr)(ρ:List (Option MV))(ms:List MV):TA:=λσ H Q=>EnvR C H σ ρ/\∀vs H',Hx H H'->MReps C H' vs ms->Q vs H'
noncomputable def tMT(C:Addr)(ρ:List (Option MV))(b:Bool):TT:=λσ H Q=>EnvR C H σ ρ/\∀H',Hx H H'->Q b H'
section
variable{X:Cx}{C:Addr}{ρ:List (Option MV)}{a b e:Expr}{es:List Expr}{pos:Pos}
theorem m_var{i:Nat}{x:Str}{m:MV}(hN:X.N[i]?=some x)(hv:Vis X.env.scope x)(hd:(x==("__debug__" : Str))=false)(hcd:(x==("__classdict__" : Str))=false)(hi:ρ[i]?=some (some m)):PE X (.Name x pos) (tM C ρ m):=
 (zio hN hv hd hcd).imp λσ H Q ⟨en,k⟩=>let⟨v,e,r⟩:=en i m hi;⟨v,e,k v H .refl r⟩
theorem zv5:PA X [] (tMs C ρ []):=zcn.imp λσ H Q ⟨_,k⟩=>k [] H .refl trivial
theorem zsi{m:MV}{ms:List MV}(ha:PE X e (tM C ρ m))(hr:PA X es (tMs C ρ ms))(hs:zat e=true):PA X (e::es) (tMs C ρ (m::ms)):=
 (zbg ha hr (zae hs)).imp λσ H Q ⟨en,k⟩=>⟨en,λv H1 k1 r1=>⟨en.mono k1,λvs H2 k2 r2=>k (v::vs) H2 (k1.trans k2) ⟨r1.mono k2,r2⟩⟩⟩
theorem zjc{H:Hp}:∀{vs:List V} {bs:List Bool},MReps C H vs (bs.map .bl)->vs=bs.map .bl
 |[],[],_=>rfl
 |v::vs,b::bs,h=>by rw[va1,zjc (vs:=vs) (bs:=bs) h.2,show v=.bl b from h.1]
 |[],_::_,h=>h.elim
 |_::_,[],h=>h.elim
theorem zhf{H:Hp}:∀{vs:List V} {bs:List Str},MReps C H vs (bs.map .str)->vs=bs.map .str
 |[],[],_=>rfl
 |v::vs,b::bs,h=>by rw[va1,zhf (vs:=vs) (bs:=bs) h.2,show v=.str b from h.1]
 |[],_::_,h=>h.elim
 |_::_,[],h=>h.elim
theorem m_bls{bs:List Bool}(ha:PA X es (tMs C ρ (bs.map .bl)))(hz:bs.length<=sizeLine):PE X (.List es pos) (tM C ρ (.bls bs)):=
 (zk5 ha).imp λσ H Q ⟨en,k⟩=>⟨en,λvs H1 k1 r=>by
   have e:=zjc r
   subst e
   exact⟨by rw[vai];exact hz,λp hp=>k _ _ (k1.trans (.new hp)) ⟨p,rfl,zag⟩⟩⟩
theorem m_sts{bs:List Str}(ha:PA X es (tMs C ρ (bs.map .str)))(hz:bs.length<=sizeLine):PE X (.List es pos) (tM C ρ (.sts bs)):=
 (zk5 ha).imp λσ H Q ⟨en,k⟩=>⟨en,λvs H1 k1 r=>by
   have e:=zhf r
   subst e
   exact⟨by rw[vai];exact hz,λp hp=>k _ _ (k1.trans (.new hp)) ⟨p,rfl,zag⟩⟩⟩
theorem m_cat{x y:List Bool}(ha:PE X a (tM C ρ (.bls x)))(hb:PE X b (tM C ρ (.bls y)))(hz:x.length+y.length<=sizeLine):PE X (.BinOp a .Add b pos) (tM C ρ (.bls (x++y))):=
 (pe_op zlb ha hb).imp λσ H Q ⟨en,k⟩=>⟨en,λv H1 k1 ⟨l,e1,q1⟩=>⟨en.mono k1,λu H2 k2 ⟨l2,e2,q2⟩=>⟨l,l2,_,_,e1,e2,k2 _ _ q1,q2,by rw[vai,vai];exact hz,λp hp=>k _ _ ((k1.trans k2).trans (.new hp)) ⟨p,rfl,by rw[zag,vd9]⟩⟩⟩⟩
theorem zv6{x y:List Str}(ha:PE X a (tM C ρ (.sts x)))(hb:PE X b (tM C ρ (.sts y)))(hz:x.length+y.length<=sizeLine):PE X (.BinOp a .Add b pos) (tM C ρ (.sts (x++y))):=
 (pe_op zlb ha hb).imp λσ H Q ⟨en,k⟩=>⟨en,λv H1 k1 ⟨l,e1,q1⟩=>⟨en.mono k1,λu H2 k2 ⟨l2,e2,q2⟩=>⟨l,l2,_,_,e1,e2,k2 _ _ q1,q2,by rw[vai,vai];exact hz,λp hp=>k _ _ ((k1.trans k2).trans (.new hp)) ⟨p,rfl,by rw[zag,vd9]⟩⟩⟩⟩
theorem m_isE{t:Str}{p p2:Pos}{c:Value}{cv:V}{r:Bool}(hc:tyVal cv=some c)(hT:PE X (.Name t p2) (tC cv))(ha:PE X a (tM C ρ .exc))(hs:zat a=true)(hg:Gl X "isinstance")(hm:X.mg "isinstance" = none)(kk:XL.ExcI X.K C)(e:PySem.W.kitOne X.K (.ref C) c=some r) :
 PE X (.Call (.Name "isinstance" p) [a,.Name t p2] [] pos) (tM C ρ (.bl r)):=
 (zft (zov hc) hg hm PyProof.Rows.boot_isinstance (zbg ha (zbg hT zcn) (zae hs)) (by decide) (by decide) (zae hs) rfl).imp λσ H Q ⟨en,k⟩=>⟨en,λv H1 k1 ⟨x,e1,q1⟩=>⟨x,C,r,by rw[e1],q1,kk,e,k _ H1 k1 rfl⟩⟩
theorem zms{K:PySem.W.Frag}{M:Addr->Prop}{H:Hp}:∀bs:List Bool,Rps K M H (bs.map .bl) (bs.map .bool)
 |[]=>.nil
 |b::r=>.cons (.bl b) (zms r)
theorem zex:∀bs:List Bool,(bs.map PyData.bool).all SeqAt.shaped=true
 |[]=>rfl
 |_::r=>by rw[va1,vbn,zex r];rfl
noncomputable def eqT1(e:PyData):Bool:=PyData.eqv e (.bool true)
theorem m_cnt{o:Expr}{ap:Pos}{bs:List Bool}(hu:X.A.in1.units+64<cLine)(ho:PE X o (tM C ρ (.bls bs)))(ha:PE X a (tM C ρ (.bl true)))(hs:zat a=true)(hb:attributeBase o "count" X.env (eval o X.env)=eval o X.env)(hl:(ap.endLine==pos.line)=true) :
 PE X (.Call (.Attribute o "count" ap) [a] [] pos) (tM C ρ (.int ((bs.map PyData.bool).countP eqT1:Nat))):=
 (pe_bm (X:=X) vc1 PySem.F.slot_list_count PySem.F.type_list_count (zlr hu) ho (zbg ha zcn (zae hs)) hb (by rw[zae hs];rfl) hl (zae hs) rfl).imp λσ H Q ⟨en,k⟩=>
   ⟨en,λv H1 k1 ⟨l,e1,q1⟩=>⟨by subst e1;exact .inl ⟨rfl,_,SqL.of q1⟩,en.mono k1,λu H2 k2 r2=>⟨l,_,u,_,.bool true,e1,rfl,SqL.of (k2 _ _ q1),zms bs,by rw[show u=.bl true from r2];exact .bl true,zex bs,rfl,k _ H2 (k1.trans k2) rfl⟩⟩⟩
theorem m_ind{o:Expr}{ap:Pos}{bs:List Bool}{j:Nat}(hu:X.A.in1.units+64<cLine)(ho:PE X o (tM C ρ (.bls bs)))(ha:PE X a (tM C ρ (.bl true)))(hs:zat a=true)(hb:attributeBase o "index" X.env (eval o X.env)=eval o X.env)(hl:(ap.endLine==pos.line)=true)
 (hj:(bs.map PyData.bool).findIdx? eqT1=some j) (hz:(j:Int)<2 ^ 63-1):PE X (.Call (.Attribute o "index" ap) [a] [] pos) (tM C ρ (.int (j:Nat))):=by
 obtain⟨hlt,h1,h2⟩:=List.findIdx?_eq_some_iff_getElem.mp hj
 refine(pe_bm (X:=X) vc1 PySem.F.slot_list_index PySem.F.type_list_index (zmh hu) ho (zbg ha zcn (zae hs)) hb (by rw[zae hs];rfl) hl (zae hs) rfl).imp λσ H Q ⟨en,k⟩=>
  ⟨en,λv H1 k1 ⟨l,e1,q1⟩=>⟨by subst e1;exact .inl ⟨rfl,_,SqL.of q1⟩,en.mono k1,λu H2 k2 r2=>⟨l,_,u,_,.bool true,j,_,e1,rfl,SqL.of (k2 _ _ q1),zms bs,by rw[show u=.bl true from r2];exact .bl true,zex bs,rfl,vay hlt,h1,λm e hm q=>?_,hz,k _ H2 (k1.trans k2) rfl⟩⟩⟩
 have:=h2 m hm
 obtain⟨hq,rfl⟩:=van.mp q
 simpa[eqT1]using this
theorem zsj{α β:Type}{f:α->β}{xs:List α}{i:Int}{v:α}(h:atI xs i=some v):atI (xs.map f) i=some (f v):=by
 unfold atI at h ⊢
 rw[vai]
 cases e:ixN xs.length i with
 |none=>rw[e]at h;cases h
 |some j=>
  rw[e]at h
  show(xs.map f)[j]?=_
  rw[vb3,show xs[j]?=some v from h];rfl
theorem m_sub{xs:List Str}{i:Int}{z:Str}(ha:PE X a (tM C ρ (.sts xs)))(hb:PE X b (tM C ρ (.int i)))(hs:zfv b)(hi:atI xs i=some z):PE X (.Subscript a b pos) (tM C ρ (.str z)):=
 (pe_ix zla ha hb hs).imp λσ H Q ⟨en,k⟩=>⟨en,λv H1 k1 ⟨l,e1,q1⟩=>⟨en.mono k1,λu H2 k2 r2=>⟨l,_,i,.str z,e1,r2,SqL.of (k2 _ _ q1),zsj hi,k _ H2 (k1.trans k2) rfl⟩⟩⟩
theorem zv7{r:Bool}(ha:PT X a (tMT C ρ r)):PT X (.UnaryOp .Not a pos) (tMT C ρ (!r)):=λpins s σ H Q I ⟨en,k⟩=>zkp ha pins s σ H Q I ⟨en,λH1 k1=>k H1 k1⟩
theorem zv8{r:Bool}(ha:PE X a (tM C ρ (.bl r)))(he:∀whole,isTrue a X.env whole=(do let v <-whole;standAt a.pos;holding [v] (truthy v))):PT X a (tMT C ρ r):=λpins s σ H Q I ⟨en,k⟩=>
 zpj ha he pins s σ H Q I ⟨en,λv H1 k1 e=>⟨r,e,k H1 k1⟩⟩
theorem mt_ne{i j:Int}(ha:PE X a (tM C ρ (.int i)))(hb:PE X b (tM C ρ (.int j)))(hm:behindInMarks .NotEq b=false):PT X (.Compare a [.NotEq] [b] pos) (tMT C ρ (!decide (V.int i=V.int j))):=λpins s σ H Q I ⟨en,k⟩=>
 zk0 op_ne ha hb hm pins s σ H Q I ⟨en,λv H1 k1 e1=>⟨en.mono k1,λu H2 k2 e2=>by
  have e1:v=.int i:=e1
  have e2:u=.int j:=e2
  subst e1 e2
  exact⟨rfl,_,rfl,k H2 (k1.trans k2)⟩⟩⟩
theorem mw_or{rest:List Expr}{r r':Bool}(ha:PT X a (tMT C ρ r))(hb:PW X (.BoolOp .Or (b::rest) pos) (tMT C ρ r')):PW X (.BoolOp .Or (a::b::rest) pos) (tMT C ρ (r||r')):=λwh pins s σ H Q I ⟨en,k⟩=>
 pw_or ha hb wh pins s σ H Q I ⟨en,λH1 k1=>by
  cases r with
  |true=>rw[if_pos rfl];exact k H1 k1
  |false=>rw[if_neg va0];exact⟨en.mono k1,λH2 k2=>k H2 (k1.trans k2)⟩⟩
theorem zv9{r:Bool}(ha:PT X a (tMT C ρ r)):PW X (.BoolOp .Or [a] pos) (tMT C ρ r):=zpk ha
noncomputable def tMB(C:Addr)(ρ:List (Option MV))(m:MV):TS:=λD σ H=>EnvR C H σ ρ/\∀v H',Hx H H'->MRep C H' v m->D.rt v H'
theorem _root_.L2.PSs.imp'{st:List Stmt}{t t':TS}(h:PSs X st t)(k:∀D σ H,t' D σ H->t D σ H):PSs X st t':=λpins s σ H D I q=>h pins s σ H D I (k D σ H q)
theorem zwa{m:MV}(he:PE X e (tM C ρ m)):PSs X [.Return (some e) pos] (tMB C ρ m):=(zfr (zgr he)).imp' λD σ H q=>q
theorem EnvR.set{H:Hp}{σ:L2.St}{i:Nat}{v:V}{m:MV}(en:EnvR C H σ ρ)(hl:i<σ.length)(hi:i<ρ.length)(r:MRep C H v m):EnvR C H (σ.set i (some v)) (ρ.set i (some m)):=λj m' e=>by
 by_cases h:j=i
 .subst h
  rw[vbg hi]at e
  cases e
  exact⟨v,vbg hl,r⟩
 .rw[vb8 (vcq h)]at e ⊢
  exact en j m' e
end
section
variable{X:Cx}{C:Addr}{ρ:List (Option MV)}{e c:Expr}{pos p:Pos}{rest a:List Stmt}{m m':MV}
theorem zwb{i:Nat}{x:Str}(hN:X.N.Nodup)(hi:X.N[i]?=some x)(hx:Loc X.env.scope x)(he:PE X e (tM C ρ m))(hf:X.fn x=true\/X.env.scope.names.lookup x=some .local)(hr:i<ρ.length)
 (hs:swapsWith e (some (.Name x p)) pos.line X.env=pure false) (h:PSs X rest (tMB C (ρ.set i (some m)) m')):PSs X (.Assign [.Name x p] e pos::rest) (tMB C ρ m'):=λpins s σ H D I ⟨en,k⟩=>
 zcs (zpm hN hi hx he hs hf) h pins s σ H D I ⟨en,λv H1 k1 r1=>⟨(en.mono k1).set (by rw[I.len];exact(van.mp hi).1) hr r1,λw H2 k2 r2=>k w H2 (k1.trans k2) r2⟩⟩
theorem zqh{l:List Stmt}:PSs X l (λ_ _ _=>False):=λ_ _ _ _ _ _ h=>h.elim
theorem zwc(hc:PT X c (tMT C ρ false))(h:PSs X rest (tMB C ρ m)):PSs X (.If c a [] pos::rest) (tMB C ρ m):=
 (zcs (ps_if hc (zqh (l:=a)) zhw) h).imp' λD σ H ⟨en,k⟩=>⟨en,λH1 k1=>L2.iteF ⟨en.mono k1,λv H2 k2 r=>k v H2 (k1.trans k2) r⟩⟩
theorem zwd(hc:PT X c (tMT C ρ true))(h:PSs X a (tMB C ρ m)):PSs X (.If c a [] pos::rest) (tMB C ρ m):=
 (zcs (ps_if hc h zhw) (zqh (l:=rest))).imp' λD σ H ⟨en,k⟩=>⟨en,λH1 k1=>L2.iteT ⟨en.mono k1,λv H2 k2 r=>k v H2 (k1.trans k2) r⟩⟩
end
noncomputable def bools:List MV->Option (List Bool)
 |[]=>some []
 |.bl b::r=>(bools r).map (b :: ·)
 |_=>none
noncomputable def texts:List MV->Option (List Str)
 |[]=>some []
 |.str b::r=>(texts r).map (b :: ·)
 |_=>none
theorem zhg:∀{ms:List MV} {bs:List Bool},bools ms=some bs->ms=bs.map .bl
 |[],_,e=>by cases e;rfl
 |.bl b::r,_,e=>by
  simp only[bools]at e
  cases q:bools r with
  |none=>rw[q]at e;cases e
  |some l=>rw[q]at e;cases e;rw[zhg q];rfl
 |.exc::_,_,e=>by cases e
 |.bls _::_,_,e=>by cases e
 |.sts _::_,_,e=>by cases e
 |.int _::_,_,e=>by cases e
 |.str _::_,_,e=>by cases e
theorem zhh:∀{ms:List MV} {bs:List Str},texts ms=some bs->ms=bs.map .str
 |[],_,e=>by cases e;rfl
 |.str b::r,_,e=>by
  simp only[texts]at e
  cases q:texts r with
  |none=>rw[q]at e;cases e
  |some l=>rw[q]at e;cases e;rw[zhh q];rfl
 |.exc::_,_,e=>by cases e
 |.bls _::_,_,e=>by cases e
 |.sts _::_,_,e=>by cases e
 |.int _::_,_,e=>by cases e
 |.bl _::_,_,e=>by cases e
noncomputable def mList(ms:List MV):Option MV:=if Nat.ble ms.length 1000 then(match bools ms with
 |some bs=>some (.bls bs)
 |none=>(texts ms).map .sts)else none
noncomputable def mAdd:MV->MV->Option MV
 |.bls x,.bls y=>if Nat.ble (x.length+y.length) 1000 then some (.bls (x++y))else none
 |.sts x,.sts y=>if Nat.ble (x.length+y.length) 1000 then some (.sts (x++y))else none
 |_,_=>none
noncomputable def clsN(K:PySem.W.Frag)(c:CC)(t:Str):Option (Value×V):=if okN t&&c.names.lookup t==some .globalImplicit then(match PySem.W.nsIn K mainGlobals t with
 |some (some (.ref D))=>some (.ref D,.ref D)
 |some none=>if t==("ValueError" : Str)then some (.type "ValueError",.ty "ValueError")else none
 |_=>none)else none
noncomputable def mMeth(mth:Str):MV->MV->Option MV
 |.bls bs,.bl true=>if mth==("count" : Str)then some (.int ((bs.map PyData.bool).countP eqT1:Nat))else if mth==("index" : Str)then(match(bs.map PyData.bool).findIdx? eqT1 with
  |some j=>if Nat.ble j 1000 then some (.int (j:Nat))else none
  |none=>none)else none
 |_,_=>none
noncomputable def baseE:Expr->Bool
 |.Name .. |.Call (.Name ..) (_::_) _ _=>true
 |_=>false
theorem zjd{o:Expr}{m:Str}{env:Env}(h:baseE o=true):attributeBase o m env (eval o env)=eval o env:=by
 unfold baseE at h
 split at h
 .rfl
 .rfl
 .cases h
structure XH(X:Cx)(c:CC):Prop where
 hN:X.N=c.N
 nd:c.N.Nodup
 vis:∀x,visK (c.names.lookup x)=true->Vis X.env.scope x
 loc:∀x,locK c.fnAll (c.names.lookup x)=true->Loc X.env.scope x/\(X.fn x=true\/X.env.scope.names.lookup x=some .local)
 gl:∀x,c.names.lookup x=some .globalImplicit->Gl X x
 mgs:∀x v,PySem.W.nsIn X.K mainGlobals x=some (some v)->X.mg x=some v
 mgn:∀x,PySem.W.nsIn X.K mainGlobals x=some none->X.mg x=none
 un:X.A.units+70<cLine
noncomputable def mE(K:PySem.W.Frag)(C:Addr)(kb:Option (List Bool))(c:CC):Nat->List (Option MV)->Expr->Option MV
 |0,_,_=>none
 |n+1,ρ,e=>match e with
  |.Name x _=>if okN x&&visK (c.names.lookup x)then(match zbu c.N x 0 with
   |some i=>(ρ[i]?).join
   |none=>none)else none
  |.Constant k _ _=>(match k with
   |.bool b=>some (.bl b)
   |.int i=>some (.int i)
   |.str x=>some (.str x)
   |_=>none)
  |.List es _=>(mapO (mE K C kb c n ρ) es).bind mList
  |.BinOp a o b _=>(match o with
   |.Add=>(match mE K C kb c n ρ a,mE K C kb c n ρ b with
    |some x,some y=>mAdd x y
    |_,_=>none)
   |_=>none)
  |.Call fn args kw pos=>(match kw with
   |[]=>(match fn with
    |.Name f _=>(match args with
    |[a]=>if f==("_law_kinds" : Str)&&c.names.lookup f==some .globalImplicit then(match mE K C kb c n ρ a with
     |some .exc=>kb.map .bls
     |_=>none)else none
    |[a,b]=>(match nmE b with
     |some t=>if f==("isinstance" : Str)&&zeu K c f then(match mE K C kb c n ρ a,clsN K c t.1 with
      |some .exc,some v=>(PySem.W.kitOne K (.ref C) v.1).map .bl
      |_,_=>none)else none
     |none=>none)
    |_=>none)
    |.Attribute o m ap=>(match oneOf args with
    |some a=>if baseE o&& (ap.endLine==pos.line)then(match mE K C kb c n ρ o,mE K C kb c n ρ a with
     |some x,some y=>mMeth m x y
     |_,_=>none)else none
    |none=>none)
    |_=>none)
   |_=>none)
  |.Subscript a b _=>if zdb b then(match mE K C kb c n ρ a,mE K C kb c n ρ b with
   |some (.sts xs),some (.int i)=>(atI xs i).map .str
   |_,_=>none)else none
  |_=>none
noncomputable def spK(C:Addr)(kb:Option (List Bool)):List V->Hp->VK->Prop:=λvs H Q=>∃a bs,vs=[.ref a]/\Err C a H/\kb=some bs/\∀v H',Hx H H'->MRep C H' v (.bls bs)->Q v H'
structure XK1(X:Cx)(C:Addr)(kb:Option (List Bool))(k:Nat):Prop where
 ex:XL.ExcI X.K C
 kinds:kb.isSome=true->∃f fd ps,X.mg "_law_kinds" = some (.ref f)/\FnOkH X.prog X.w X.K X.mg X.base k f fd ps (spK C kb)/\PySem.W.keepIn X.K (.ref f)=true/\Binds X.K fd ps []/\RoomH k X.A
section
variable{X:Cx}{C:Addr}{kb:Option (List Bool)}{c:CC}{k:Nat}
theorem zgg{n:Nat}(h:Nat.ble n 1000=true):n<=sizeLine:=vc8 (zeh (va2 h))
theorem ms_ok{n:Nat}{ρ:List (Option MV)}(ih:∀(e:Expr) (m:MV),mE X.K C kb c n ρ e=some m->PE X e (tM C ρ m)/\zat e=true):∀{es:List Expr} {ms:List MV},mapO (mE X.K C kb c n ρ) es=some ms->PA X es (tMs C ρ ms)
 |[],_,h=>by cases h;exact zv5
 |e::es,ms,h=>by
  unfold mapO at h
  split at h
  .rename_i b hb
   split at h
   .rename_i bs hbs
    cases h
    obtain⟨h1,h2⟩:=ih e b hb
    exact zsi h1 (ms_ok ih hbs) h2
   .cases h
  .cases h
theorem zsk(O:XH X c){t:Str}{v:Value×V}{p:Pos}(h:clsN X.K c t=some v):tyVal v.2=some v.1/\PE X (.Name t p) (tC v.2):=by
 unfold clsN at h
 split at h
 .rename_i hc
  rw[vaa]at hc
  obtain⟨n1,n2,n3⟩:=za2 hc.1
  have hg:Gl X t:=O.gl t (by simpa using hc.2)
  split at h
  .rename_i D hD
   cases h
   exact⟨rfl,zkn hg (O.mgs t _ hD) rfl n1⟩
  .rename_i hD
   split at h
   .rename_i ht
    cases h
    have ht:t = "ValueError":=by simpa using ht
    subst ht
    exact⟨rfl,zko hg (O.mgn _ hD) (u:=.type "ValueError") (by first|rfl|decide +kernel) rfl n3 n1⟩
   .cases h
  .cases h
 .cases h
theorem mE_ok(O:XH X c)(K1:XK1 X C kb k):∀(n:Nat) (ρ:List (Option MV)) (e:Expr) (m:MV),mE X.K C kb c n ρ e=some m->PE X e (tM C ρ m)/\zat e=true
 |0,_,_,_,h=>by cases h
 |n+1,ρ,e,m,h=>by
  have ih:=mE_ok O K1 n ρ
  have hu:X.A.in1.units+64<cLine:=by have:=O.un;show X.A.units+1+64<_;omega
  unfold mE at h
  split at h
  .rename_i x p
   split at h
   .rename_i hc
    rw[vaa]at hc
    obtain⟨n1,n2,n3⟩:=za2 hc.1
    split at h
    .rename_i i hi
     cases q:ρ[i]? with
     |none=>rw[q]at h;cases h
     |some o=>
      rw[q]at h
      have h:o=some m:=h
      subst h
      exact⟨m_var (by rw[O.hN];exact zb8 hi) (O.vis x hc.2) n1 n2 q,rfl⟩
    .cases h
   .cases h
  .refine⟨?_,rfl⟩
   split at h<;>cases h
   .exact pe_bl.imp λσ H Q ⟨_,k⟩=>k _ H .refl rfl
   .exact zpi.imp λσ H Q ⟨_,k⟩=>k _ H .refl rfl
   .exact zkm.imp λσ H Q ⟨_,k⟩=>k _ H .refl rfl
  .refine⟨?_,rfl⟩
   rename_i es p
   cases q:mapO (mE X.K C kb c n ρ) es with
   |none=>rw[q]at h;cases h
   |some ms=>
    rw[q]at h
    have h:mList ms=some m:=h
    have ha:=ms_ok ih q
    unfold mList at h
    split at h
    .rename_i hz
     split at h
     .rename_i bs hb
      cases h
      have:=zhg hb
      subst this
      exact m_bls ha (by have:=zgg hz;rwa [vai]at this)
     .cases q2:texts ms with
      |none=>rw[q2]at h;cases h
      |some xs=>
       rw[q2]at h
       cases h
       have:=zhh q2
       subst this
       exact m_sts ha (by have:=zgg hz;rwa [vai]at this)
    .cases h
  .split at h
   .refine⟨?_,rfl⟩
    split at h
    .rename_i x y hx hy
     unfold mAdd at h
     split at h
     .split at h
      .rename_i hz;cases h;exact m_cat (ih _ _ hx).1 (ih _ _ hy).1 (zgg hz)
      .cases h
     .split at h
      .rename_i hz;cases h;exact zv6 (ih _ _ hx).1 (ih _ _ hy).1 (zgg hz)
      .cases h
     .cases h
    .cases h
   .cases h
  .rename_i fn args kw pos
   split at h
   .split at h
    .refine⟨?_,rfl⟩
     rename_i f p
     split at h
     .rename_i a
      split at h
      .rename_i hc
       rw[vaa]at hc
       have hf:f = "_law_kinds":=by simpa using hc.1
       subst hf
       split at h
       .rename_i hx
        obtain⟨h1,h2⟩:=ih _ _ hx
        cases hkb:kb with
        |none=>rw[hkb]at h;cases h
        |some bs=>
         rw[hkb]at h
         cases h
         obtain⟨fa,fd,ps,g1,g2,g3,g4,g5⟩:=K1.kinds (by rw[hkb];rfl)
         refine(zi8 g2 g5 (O.gl _ (by simpa using hc.2)) g1 g3 g4 (zbg h1 zcn (zae h2)) (by decide +kernel) (zae h2) rfl).imp λσ H Q ⟨en,k⟩=>⟨en,λv H1 k1 ⟨x,e1,q1⟩=>⟨x,bs,by rw[e1],q1,hkb,λw H2 k2 r2=>k w H2 (k1.trans k2) r2⟩⟩
       .cases h
      .cases h
     .rename_i a b
      split at h
      case h_2=>cases h
      rename_i t ht
      rw[zfg ht]
      split at h
      .rename_i hc
       rw[vaa]at hc
       have hf:f = "isinstance":=by simpa using hc.1
       subst hf
       have hab:=hc.2
       unfold zeu at hab
       rw[vaa]at hab
       split at h
       .rename_i v hx hv
        obtain⟨h1,h2⟩:=ih _ _ hx
        obtain⟨c1,c2⟩:=zsk (p:=t.2) O hv
        cases q:PySem.W.kitOne X.K (.ref C) v.1 with
        |none=>rw[q]at h;cases h
        |some b=>
         rw[q]at h
         cases h
         refine m_isE c1 c2 h1 h2 (O.gl _ (by simpa using hab.1)) (O.mgn _ ?_) K1.ex q
         have h3:=hab.2
         split at h3
         .assumption
         .cases h3
       .cases h
      .cases h
     .cases h
    .refine⟨?_,rfl⟩
     rename_i o mth ap
     split at h
     case h_2=>cases h
     rename_i a ha
     rw[za8 ha]
     split at h
     .rename_i hc
      rw[vaa]at hc
      split at h
      .rename_i x y hx hy
       obtain⟨h1,_⟩:=ih _ _ hx
       obtain⟨h2,h3⟩:=ih _ _ hy
       unfold mMeth at h
       split at h
       .split at h
        .rename_i hm
         have hm:mth = "count":=by simpa using hm
         subst hm
         cases h
         exact m_cnt hu h1 h2 h3 (zjd hc.1) hc.2
        .split at h
         .rename_i hm
          have hm:mth = "index":=by simpa using hm
          subst hm
          split at h
          .rename_i j hj
           split at h
           .rename_i hz
            cases h
            exact m_ind hu h1 h2 h3 (zjd hc.1) hc.2 hj (by have:=va2 hz;omega)
           .cases h
          .cases h
         .cases h
       .cases h
      .cases h
     .cases h
    .cases h
   .cases h
  .refine⟨?_,rfl⟩
   split at h
   .rename_i hb
    split at h
    .rename_i xs i hx hy
     cases q:atI xs i with
     |none=>rw[q]at h;cases h
     |some z=>
      rw[q]at h
      cases h
      exact m_sub (ih _ _ hx).1 (ih _ _ hy).1 (zfh hb) q
    .cases h
   .cases h
  .cases h
end
noncomputable def orAll:List Bool->Bool
 |[]=>false
 |b::r=>b||orAll r
noncomputable def zqi:Expr->Bool
 |.Constant (.int _) _ _=>true
 |_=>false
noncomputable def mT(K:PySem.W.Frag)(C:Addr)(kb:Option (List Bool))(c:CC):Nat->List (Option MV)->Expr->Option Bool
 |0,_,_=>none
 |n+1,ρ,e=>match e with
  |.UnaryOp o a _=>(match o with
   |.Not=>(mT K C kb c n ρ a).map (!·)
   |_=>none)
  |.Compare a Os bs _=>(match Os,bs with
   |[O],[b]=>(match O with
   |.NotEq=>if zqi b then(match mE K C kb c n ρ a,mE K C kb c n ρ b with
    |some (.int i),some (.int j)=>some (!decide (V.int i=V.int j))
    |_,_=>none)else none
   |_=>none)
   |_,_=>none)
  |.Call f as ks p=>(match mE K C kb c n ρ (.Call f as ks p)with
   |some (.bl b)=>some b
   |_=>none)
  |.BoolOp o es _=>(match o with
   |.Or=>if es.isEmpty then none else(mapO (mT K C kb c n ρ) es).map orAll
   |.And=>none)
  |_=>none
section
variable{X:Cx}{C:Addr}{kb:Option (List Bool)}{c:CC}{k:Nat}
theorem zmt{n:Nat}{ρ:List (Option MV)}{pos:Pos}(ih:∀(e:Expr) (b:Bool),mT X.K C kb c n ρ e=some b->PT X e (tMT C ρ b)):∀{es:List Expr} {bs:List Bool},mapO (mT X.K C kb c n ρ) es=some bs->es≠[]->PW X (.BoolOp .Or es pos) (tMT C ρ (orAll bs))
 |[],_,_,h=>absurd rfl h
 |e::es,bs,h,_=>by
  unfold mapO at h
  split at h
  .rename_i b hb
   split at h
   .rename_i bs' hbs
    cases h
    cases es with
    |nil=>
     cases hbs
     rw[orAll,orAll,Bool.or_false]
     exact zv9 (ih e b hb)
    |cons e2 es=>exact mw_or (ih e b hb) (zmt ih hbs (by simp))
   .cases h
  .cases h
theorem mT_ok(O:XH X c)(K1:XK1 X C kb k):∀(n:Nat) (ρ:List (Option MV)) (e:Expr) (b:Bool),mT X.K C kb c n ρ e=some b->PT X e (tMT C ρ b)
 |0,_,_,_,h=>by cases h
 |n+1,ρ,e,b,h=>by
  have ih:=mT_ok O K1 n ρ
  have ihE:=mE_ok O K1 n ρ
  unfold mT at h
  split at h
  .split at h
   .obtain⟨r,h1,rfl⟩:=map_some h
    exact zv7 (ih _ _ h1)
   .cases h
  .split at h
   .split at h
    .split at h
     .rename_i hb
      split at h
      .rename_i i j hx hy
       cases h
       refine mt_ne (ihE _ _ hx).1 (ihE _ _ hy).1 ?_
       unfold zqi at hb
       split at hb
       .rfl
       .cases hb
      .cases h
     .cases h
    .cases h
   .cases h
  .split at h
   .rename_i r hx
    cases h
    exact zv8 (ihE _ _ hx).1 λ_=>rfl
   .cases h
  .split at h
   .split at h
    .cases h
    .rename_i hne
     obtain⟨bs,h1,rfl⟩:=map_some h
     exact(zmt ih h1 (by simpa using hne)).pt
   .cases h
  .cases h
end
noncomputable def mB(K:PySem.W.Frag)(C:Addr)(kb:Option (List Bool))(c:CC):Nat->List (Option MV)->List Stmt->Option MV
 |0,_,_=>none
 |n+1,ρ,st=>match st with
  |[]=>none
  |s::rest=>(match s with
   |.Return r _=>(match r,rest with
    |some e,[]=>mE K C kb c n ρ e
    |_,_=>none)
   |.Assign l e _=>(match l with
   |[t]=>(match t with
   |.Name x p=>if zfe e then(match nmIx c (.Name x p),mE K C kb c n ρ e with
    |some i,some m=>if Nat.blt i ρ.length then mB K C kb c n (ρ.set i (some m)) rest else none
    |_,_=>none)else none
   |_=>none)
   |_=>none)
   |.If t a el _=>(match el with
   |[]=>(match mT K C kb c n ρ t with
    |some true=>mB K C kb c n ρ a
    |some false=>mB K C kb c n ρ rest
    |none=>none)
   |_=>none)
   |_=>none)
section
variable{X:Cx}{C:Addr}{kb:Option (List Bool)}{c:CC}{k:Nat}
theorem mB_ok(O:XH X c)(K1:XK1 X C kb k):∀(n:Nat) (ρ:List (Option MV)) (st:List Stmt) (m:MV),mB X.K C kb c n ρ st=some m->PSs X st (tMB C ρ m)
 |0,_,_,_,h=>by cases h
 |n+1,ρ,st,m,h=>by
  unfold mB at h
  split at h
  .cases h
  .split at h
   .split at h
    .exact zwa (mE_ok O K1 n ρ _ _ h).1
    .cases h
   .split at h
    .split at h
     .split at h
      .rename_i hc
       split at h
       .rename_i i m' hi he
        split at h
        .rename_i hl
         simp only[nmIx]at hi
         split at hi
         .rename_i hcc
          rw[vaa]at hcc
          obtain⟨l1,l2⟩:=O.loc _ hcc.2
          exact zwb (by rw[O.hN];exact O.nd) (by rw[O.hN];exact zb8 hi) l1 (mE_ok O K1 n ρ _ _ he).1 l2 (zax.mp hl) (zf6 hc) (mB_ok O K1 n _ _ _ h)
         .cases hi
        .cases h
       .cases h
      .cases h
     .cases h
    .cases h
   .split at h
    .split at h
     .rename_i ht
      exact zwd (mT_ok O K1 n ρ _ _ ht) (mB_ok O K1 n _ _ _ h)
     .rename_i ht
      exact zwc (mT_ok O K1 n ρ _ _ ht) (mB_ok O K1 n _ _ _ h)
     .cases h
    .cases h
   .cases h
end
noncomputable def spM(C:Addr)(m:MV):List V->Hp->VK->Prop:=λvs H Q=>∃a,vs=[.ref a]/\Err C a H/\∀v H',Hx H H'->MRep C H' v m->Q v H'
noncomputable def cH(K:PySem.W.Frag)(C:Addr)(kb:Option (List Bool))(n:Nat)(x:Str):Option MV:=match fnAt K x with
 |some (f,o,fd)=>(match za9 fd.params,zew fd.body with
  |some args,some body=>if(fd.name==nmOf x&&fd.qualname==x&&Nat.beq fd.globals mainGlobals&&fd.closure.isEmpty&& (isNone fd.defaults||noneD K fd.defaults && !args.isEmpty)&&Nat.beq fd.builtins builtinsNs&&PySem.W.codeIn K fd.code x&&PySem.W.keepIn K (.ref f) &&
   zdg (za5 (args.map (·.arg)) fd.scope) (args.map (·.arg)) fd.scope)&&Nat.beq args.length 1 then
   mB K C kb ⟨za5 (args.map (·.arg)) fd.scope,fd.scope.names,true⟩ n (some .exc::List.replicate ((za5 (args.map (·.arg)) fd.scope).length-1) none) body
   else none
  |_,_=>none)
 |none=>none
theorem xh_ok{P:Program}{w:World}{K:PySem.W.Frag}{mg:Str->Option Value}{base:Heap}{k:Nat}(KX:K.In base)(G:base.Ns mainGlobals mg){x:Str}{sc:Scope}{f:Addr}{N ps:List Str}(S:FnScope N ps sc)
 (cdv:Value) (A:Around) (outer:List Env) (s:Shared) (H:Hp) (hr:RoomH k (A.deeper (envOfC x sc s.heap.objs.size f cdv))):XH (cxH P w K mg base N x sc f cdv A outer s H) ⟨N,sc.names,true⟩:=by
 refine⟨rfl,S.nd,λy hy=>?_,λy hy=>?_,λy hy=>hy,λy v hv=>vd3 KX G hv,λy hv=>PySem.W.mg_none_of KX G hv,?_⟩
 .have hy:visK (sc.names.lookup y)=true:=hy
  cases z:sc.names.lookup y with
  |none=>rw[z]at hy;cases hy
  |some kd=>cases kd<;>first|exact .inl z|exact .inr (.inl z)|exact .inr (.inr z)|(rw[z]at hy;cases hy)
 .have hy:locK true (sc.names.lookup y)=true:=hy
  cases z:sc.names.lookup y with
  |none=>rw[z]at hy;cases hy
  |some kd=>cases kd<;>first|exact⟨.inl z,.inl rfl⟩|exact⟨.inr z,.inl rfl⟩|(rw[z]at hy;cases hy)
 .have:=hr.un
  show(A.deeper (envOfC x sc s.heap.objs.size f cdv)).units+70<cLine
  omega
theorem cH_ok{P:Program}{w:World}{K:PySem.W.Frag}{mg:Str->Option Value}{base:Heap}{C:Addr}{kb:Option (List Bool)}{n k:Nat}{x:Str}{m:MV}(KX:K.In base)(G:base.Ns mainGlobals mg)(h:cH K C kb n x=some m)(ex:XL.ExcI K C)
 (hk:kb.isSome=true->∃f fd ps,mg "_law_kinds" = some (.ref f)/\FnOkH P w K mg base k f fd ps (spK C kb)/\PySem.W.keepIn K (.ref f)=true/\Binds K fd ps []) :
 ∃f fd ps,refAt K x=some f/\FnOkH P w K mg base (k+1) f fd ps (spM C m)/\PySem.W.keepIn K (.ref f)=true/\Binds K fd ps []:=by
 unfold cH at h
 split at h
 .rename_i f o fd hf
  split at h
  .rename_i args body ha hb
   split at h
   .rename_i hc
    rw[vaa]at hc
    obtain⟨hc,h1⟩:=hc
    rw[vaa,vaa,vaa,vaa,vaa,vaa,vaa,vaa]at hc
    obtain⟨⟨⟨⟨⟨⟨⟨⟨c1,c2⟩,c3⟩,c4⟩,c5⟩,c6⟩,c7⟩,c8⟩,c9⟩:=hc
    obtain⟨S,nd⟩:=zdh c9
    obtain⟨hn,oc,od,sl,lk⟩:=zhe hf
    obtain⟨dx,ef⟩:=zic c1 c2 c3 c4 c6 ha hb
    have hl:(args.map (·.arg)).length=1:=by rw[vai];exact vb6 h1
    have lk':=lk
    rw[ef]at lk'
    refine⟨f,fd,args.map (·.arg),hn,?_,c8,(zge ef nd rfl c5).1⟩
    rw[ef]
    refine fnH (K:=K) (N:=za5 (args.map (·.arg)) fd.scope) lk' c7 S (λvs H Q ⟨a,e,_⟩=>by rw[e,hl];rfl) λA outer s H vs Q hr hq0=>?_
    obtain⟨a,e,q1,q2⟩:=hq0
    have O:=xh_ok (P:=P) (w:=w) (mg:=mg) (base:=base) KX G (x:=x) (f:=f) S fd.code A outer s H hr
    have K1:XK1 (cxH P w K mg base (za5 (args.map (·.arg)) fd.scope) x fd.scope f fd.code A outer s H) C kb k:=⟨ex,λz=>let⟨g,gd,qs,a1,a2,a3,a4⟩:=hk z;⟨g,gd,qs,a1,a2,a3,a4,hr⟩⟩
    refine⟨_,mB_ok O K1 n _ body m h,?_,q2⟩
    subst e
    intro i mv hi
    cases i with
    |zero=>
     cases hi
     exact⟨.ref a,by unfold L2.start;rfl,a,rfl,q1⟩
    |succ i=>
     rw[vb7,vcy]at hi
     split at hi<;>cases hi
   .cases h
  .cases h
 .cases h
noncomputable def varIx(C:CC):Expr->Option Nat
 |.Name x _=>if okN x&&visK (C.names.lookup x)then zbu C.N x 0 else none
 |_=>none
theorem zdv{X:Cx}{c:CC}(O:XH X c){x:Str}{p:Pos}{i:Nat}(h:varIx c (.Name x p)=some i):PE X (.Name x p) (tVar i):=by
 unfold varIx at h
 simp only at h
 split at h
 .rename_i hc
  rw[vaa]at hc
  exact zio (by rw[O.hN];exact zb8 h) (O.vis _ hc.2) (za2 hc.1).1 (za2 hc.1).2.1
 .cases h
structure AsgQ where
 a:Str×Pos
 f:Str
 fp:Pos
 b:Str×Pos
 p:Pos
noncomputable def attE:Expr->Option (Expr×Str×Pos)
 |.Attribute o f p=>some (o,f,p)
 |_=>none
theorem zsl{e:Expr}{q:Expr×Str×Pos}(h:attE e=some q):e=.Attribute q.1 q.2.1 q.2.2:=by
 unfold attE at h
 split at h
 .cases h;rfl
 .cases h
noncomputable def asgOf:Stmt->Option AsgQ
 |.Assign ts e p=>(match(oneOf ts).bind attE,nmE e with
  |some t,some b=>(nmE t.1).map λa=>⟨a,t.2.1,t.2.2,b,p⟩
  |_,_=>none)
 |_=>none
theorem zje{s:Stmt}{q:AsgQ}(h:asgOf s=some q):s=.Assign [.Attribute (.Name q.a.1 q.a.2) q.f q.fp] (.Name q.b.1 q.b.2) q.p:=by
 unfold asgOf at h
 split at h
 .split at h
  .rename_i t b h1 h2
   obtain⟨a,h3,rfl⟩:=mapS h
   obtain⟨z,h4,h5⟩:=bindS h1
   rw[za8 h4,zsl h5,zfg h3,zfg h2]
  .cases h
 .cases h
noncomputable def iniB(K:PySem.W.Frag)(D:Addr)(C:CC):List Stmt->Bool
 |[s,t]=>(match asgOf s,asgOf t with
  |some x,some y=>varIx C (.Name x.a.1 x.a.2)==some 0&&varIx C (.Name x.b.1 x.b.2)==some 1&&varIx C (.Name y.a.1 y.a.2)==some 0&&varIx C (.Name y.b.1 y.b.2)==some 2&&zeq K D x.f&&zeq K D y.f
  |_,_=>false)
 |_=>false
noncomputable def isBn(o:Option (Option Value))(s:String):Bool:=match o with
 |some (some (.builtin b))=>b==s
 |_=>false
theorem zmu{o:Option (Option Value)}{s:String}(h:isBn o s=true):o=some (some (.builtin s)):=by
 unfold isBn at h
 split at h
 .rename_i b;rw[show b=s by simpa using h]
 .cases h
noncomputable def excKB(K:PySem.W.Frag)(C:Addr):Bool:=(PySem.W.clsIn K C).any (λcd=>XL.onlyVE cd.mro)&&isBn (PySem.W.findIn K (.ref C) "__getattribute__") "BaseException.__getattribute__" && zeq K C "__getattr__" && isBn (PySem.W.findIn K (.ref C) "__setattr__") "object.__setattr__" && PySem.W.hasDictIn K C
theorem zo5{K:PySem.W.Frag}{C:Addr}(h:excKB K C=true):XL.ExcK K C:=by
 unfold excKB at h
 simp only[vaa]at h
 obtain⟨⟨⟨⟨h1,h2⟩,h3⟩,h4⟩,h5⟩:=h
 exact⟨h1,zmu h2,zdc h3,zmu h4,h5⟩
noncomputable abbrev iniX:Str:="Fault.__init__"
noncomputable def iniFd(K:PySem.W.Frag)(D f:Addr)(fd:FuncData):Bool:=match za9 fd.params,zew fd.body with
 |some args,some body=>(fd.name==nmOf iniX&&fd.qualname==iniX&&Nat.beq fd.globals mainGlobals&&fd.closure.isEmpty&& (isNone fd.defaults||noneD K fd.defaults && !args.isEmpty)&&Nat.beq fd.builtins builtinsNs&&PySem.W.codeIn K fd.code iniX&&PySem.W.keepIn K (.ref f) &&
  zdg (za5 (args.map (·.arg)) fd.scope) (args.map (·.arg)) fd.scope)&& (Nat.beq args.length 3&&iniB K D ⟨za5 (args.map (·.arg)) fd.scope,fd.scope.names,true⟩ body)
 |_,_=>false
noncomputable def iniAt(K:PySem.W.Frag)(D:Addr):Option Addr:=match PySem.W.findIn K (.ref D) "__init__"with
 |some (some (.ref f))=>(match K.lookup f with
  |some o=>(match o.data with
   |.func fd=>if iniFd K D f fd&&XL.excCls K D&&PySem.W.isFn K (.ref f)&&PySem.W.keepIn K (.ref D)&&excKB K D then some f else none
   |_=>none)
  |none=>none)
 |_=>none
noncomputable abbrev Ini(P:Program)(w:World)(K:PySem.W.Frag)(mg:Str->Option Value)(base:Heap)(D f:Addr):Prop:=∃fd ps,MkI K D f/\FnOkH P w K mg base 1 f fd ps (spI D)/\Binds K fd ps []
theorem zo6{X:Cx}{c:CC}{D:Addr}{body:List Stmt}{a:Addr}{x y:V}{H:Hp}{Q:VK}{r:L2.St}(O:XH X c)(ex:XL.ExcK X.K D)(h:iniB X.K D c body=true)(ha:H a=some (excH D none a))
 (k:∀dx fs H',H dx=none->H' a=some (excH D (some dx) a)->H' dx=some (xdH fs dx)->(∀b o,b≠a->H b=some o->H' b=some o)->Q .non H') :
 ∃t,PSs X body t/\t {nx:=λ_ H'=>Q .non H',rt:=Q} (some (.ref a)::some x::some y::r) H:=by
 unfold iniB at h
 split at h
 case h_2=>cases h
 split at h
 .rename_i q1 q2
  rw[zje q1,zje q2]
  simp only[vaa,vcc]at h
  obtain⟨⟨⟨⟨⟨h1,h2⟩,h3⟩,h4⟩,h5⟩,h6⟩:=h
  refine⟨_,zcs (zlk (zdv O h1) (zdv O h2) rfl) (zfr (zlk (zdv O h3) (zdv O h4) rfl)),?_⟩
  refine⟨x,rfl,_,rfl,a,D,rfl,ex,zdc h5,.inl ⟨ha,λdx hdx=>?_⟩⟩
  have hne:dx≠a:=λz=>by rw[z,ha]at hdx;cases hdx
  refine⟨y,rfl,_,rfl,a,D,rfl,ex,zdc h6,.inr ⟨dx,_,zag,(by rw[zaf hne,zag]),(by show 1<1000;decide),?_⟩⟩
  refine k dx _ _ hdx (by rw[zaf (vcq hne),zag]) zag λb o hb e=>?_
  have hbd:b≠dx:=zaj e hdx
  rw[zaf hbd,zaf hb,zaf hbd]
  exact e
 .cases h
theorem zwe{P:Program}{w:World}{K:PySem.W.Frag}{mg:Str->Option Value}{base:Heap}{D f:Addr}(KX:K.In base)(G:base.Ns mainGlobals mg)(h:iniAt K D=some f):Ini P w K mg base D f:=by
 unfold iniAt at h
 split at h
 case h_2=>cases h
 rename_i g hi
 split at h
 case h_2=>cases h
 rename_i o ho
 split at h
 case h_2=>cases h
 rename_i fd hd
 split at h
 case isFalse=>cases h
 rename_i hc
 cases h
 simp only[vaa]at hc
 obtain⟨⟨⟨⟨hq,h1⟩,h2⟩,h3⟩,h4⟩:=hc
 unfold iniFd at hq
 split at hq
 case h_2=>cases hq
 rename_i args body ha hb
 rw[vaa]at hq
 rw[vaa (Nat.beq _ _)]at hq
 obtain⟨hc,hl,hB⟩:=hq
 rw[vaa,vaa,vaa,vaa,vaa,vaa,vaa,vaa]at hc
 obtain⟨⟨⟨⟨⟨⟨⟨⟨c1,c2⟩,c3⟩,c4⟩,c5⟩,c6⟩,c7⟩,c8⟩,c9⟩:=hc
 obtain⟨S,nd⟩:=zdh c9
 obtain⟨dx,ef⟩:=zic c1 c2 c3 c4 c6 ha hb
 have hl:(args.map (·.arg)).length=3:=by rw[vai];exact vb6 hl
 have lk':K.lookup f=some ⟨o.cls,o.dict,.func fd,o.slots⟩:=by rw[<-hd];exact ho
 rw[ef]at lk'
 refine⟨fd,args.map (·.arg),⟨h1,hi,h2,h3⟩,?_,(zge ef nd rfl c5).1⟩
 rw[ef]
 refine fnH (K:=K) (N:=za5 (args.map (·.arg)) fd.scope) lk' c7 S (λvs H Q ⟨a,x,y,e,_⟩=>by rw[e,hl];rfl) λA outer s H vs Q hr hq0=>?_
 obtain⟨a,x,y,e,q1,q2⟩:=hq0
 have O:=xh_ok (P:=P) (w:=w) (mg:=mg) (base:=base) KX G (x:=iniX) (f:=f) S fd.code A outer s H hr
 subst e
 exact zo6 O (zo5 h4) hB q1 q2
noncomputable def mkEB(K:PySem.W.Frag)(D:Addr):Bool:=XL.excCls K D&& (match PySem.W.findIn K (.ref D) "__init__"with
 |some (some (.builtin b))=>b == "ValueError.__init__"
 |_=>false)&&PySem.W.keepIn K (.ref D)
theorem zsm{K:PySem.W.Frag}{D:Addr}(h:mkEB K D=true):MkE K D:=by
 unfold mkEB at h
 rw[vaa,vaa]at h
 obtain⟨⟨h1,h2⟩,h3⟩:=h
 refine⟨h1,?_,h3⟩
 split at h2
 .rename_i b e
  rw[e,show b = "ValueError.__init__" by simpa using h2]
 .cases h2
noncomputable def excAt(K:PySem.W.Frag)(C:CC)(x:Str):Option Addr:=if okN x&&C.names.lookup x==some .globalImplicit then(match PySem.W.nsIn K mainGlobals x with
 |some (some (.ref D))=>if mkEB K D then some D else none
 |_=>none)else none
noncomputable def fltAt(K:PySem.W.Frag)(C:CC)(x:Str):Option (Addr×Addr):=if okN x&&C.names.lookup x==some .globalImplicit then(match PySem.W.nsIn K mainGlobals x with
 |some (some (.ref D))=>(iniAt K D).map λf=>(D,f)
 |_=>none)else none
noncomputable def telAt(R:RX)(C:CC)(x:Str):Option Nat:=if okN x&&C.names.lookup x==some .globalImplicit then zbu R.tel x 0 else none
noncomputable def telOf(R:RX)(C:CC)(e:Expr):Option (CallQ×Nat):=match zes e with
 |some q=>if q.args.isEmpty then none else(telAt R C q.f).map λj=>(q,j)
 |none=>none
theorem zjf{R:RX}{C:CC}{e:Expr}{q:CallQ×Nat}(h:telOf R C e=some q):telAt R C q.1.f=some q.2/\∃a as,q.1.args=a::as/\e=.Call (.Name q.1.f q.1.p) (a::as) [] q.1.cp:=by
 unfold telOf at h
 split at h
 .rename_i c hc
  split at h
  .cases h
  .rename_i hne
   obtain⟨j,h1,rfl⟩:=mapS h
   have g:=zcc hc
   cases ha:c.args with
   |nil=>rw[ha]at hne;exact absurd rfl hne
   |cons a as=>rw[ha]at g;exact⟨h1,a,as,rfl,g⟩
 .cases h
noncomputable def notE':Expr->Option (Expr×Pos)
 |.UnaryOp o e p=>(match o with
  |.Not=>some (e,p)
  |_=>none)
 |_=>none
theorem zo7{e:Expr}{q:Expr×Pos}(h:notE' e=some q):e=.UnaryOp .Not q.1 q.2:=by
 unfold notE' at h
 split at h
 .split at h
  .cases h;rfl
  .cases h
 .cases h
noncomputable def zmv(K:PySem.W.Frag)(T:List Str)(d:Nat)(C:CC)(q:CallQ):Option S:=match q.args with
 |[]=>(excAt K C q.f).map λD=>.ret (.cst (.int (D:Nat)))
 |[e1,e2]=>(match fltAt K C q.f,cE K T d C e1,cE K T d C e2 with
  |some Df,some a,some b=>some (.seq (.expr (.cons a (.cons b .nil))) (.ret (.cst (.int (Df.1:Nat)))))
  |_,_,_=>none)
 |_=>none
noncomputable def cX(K:PySem.W.Frag)(T:List Str)(R:RX)(d:Nat):Nat->CC->Stmt->Option S
 |0,_,_=>none
 |n+1,C,s=>match s with
  |.Raise x none _=>(match x.bind zes with
   |some q=>zmv K T d C q
   |none=>none)
  |.Return (some e) _=>(cE K T d C e).map λa=>.ret (.tup (.cons a .nil))
  |.If c a b _=>(match cSs (cX K T R d n C) a,cSs (cX K T R d n C) b with
   |some x,some y=>(match(notE' c).bind λq=>telOf R C q.1 with
    |some q=>(cL (cE K T d C) q.1.args).map λz=>.tel (R.at_+q.2) z true x y
    |none=>(cT K T d C c).map λz=>.ite z x y)
   |_,_=>none)
  |.Expr e _=>(match telOf R C e with
   |some q=>(cL (cE K T d C) q.1.args).map λa=>.tel (R.at_+q.2) a false .skip .skip
   |none=>if zfe e then(cE K T d C e).map .expr else none)
  |.For tg it b [] _=>(match cW K T d C it,cTg C tg,cSs (cX K T R d n C) b with
   |some (kd,a),some t,some x=>if okW kd tg then some (.for kd a t x)else none
   |_,_,_=>none)
  |s=>(match cS K T R d (n+1) C s with
   |some c=>if noRet c then some c else none
   |none=>none)
theorem zo8{cl:Call}{a:E}:exs cl (.ret (.tup (.cons a .nil)))=λρ h=>(ev cl a ρ h).bind λw h=>.ok (.rt (.tup [w])) h:=by
 funext ρ h
 simp only[exs,ev]
 cases ev cl a ρ h<;>rfl
theorem zsn{cl:Call}{a b:E}{D:Nat}:exs cl (.seq (.expr (.cons a (.cons b .nil))) (.ret (.cst (.int D))))=λρ h=>(ev cl (.cons a (.cons b .nil)) ρ h).bind λy h=>match y with|.tup [_,_]=>.ok (.rt (.int D)) h|_=>.no:=by
 funext ρ h
 simp only[exs,ev]
 cases ev cl a ρ h with
 |ok x h1=>
  simp only[Res.bind]
  cases ev cl b ρ h1<;>rfl
 |_=>rfl
section
variable{X:Cx}{E:XK}{C:CC}{T:List Str}{R:RX}{F:Nat->Option Fn}{k d:Nat}
theorem zb0{f:Stmt->Option S}{cl:Call}(ih:∀st c,f st=some c->SX X E st (exs cl c)):∀{sts:List Stmt} {c:S},cSs f sts=some c->SXs X E sts (exs cl c)
 |[],_,h=>by cases h;exact zl5
 |s::r,c,h=>by
  unfold cSs at h
  split at h
  .rename_i a b ha hb
   cases h
   exact zi5 (ih s a ha) (zb0 ih hb)
  .cases h
theorem zmw(O:XOk X.nox C T R F k){x:Str}{j:Nat}(h:telAt R C x=some j):∃g fd ps,FnOk X.prog X.w X.K X.mg X.base (CX1 X.prog X.w) k g fd ps (spX X.K ps.length (run F k (R.at_+j)))/\Gl X x/\X.mg x=some (.ref g)/\PySem.W.keepIn X.K (.ref g)=true/\Binds X.K fd ps []/\(∀ws h w h',run F k (R.at_+j) ws h=.ok w h'->ws.length=ps.length)/\(x==("__debug__" : Str))=false:=by
 unfold telAt at h
 split at h
 .rename_i hc
  simp only[vaa,vcc]at hc
  obtain⟨c1,c2⟩:=hc
  obtain⟨g,fd,ps,fn,q1,q2,q3,q4,q5,q6⟩:=O.rs j x (zb8 h)
  exact⟨g,fd,ps,q2,O.gl x c2,O.mgs x _ (zbt q1),q3,q4,λws h w h' e=>by rw[zcb q5 e,q6],(za2 c1).1⟩
 .cases h
theorem zmx(O:XOk X.nox C T R F k)(fl:Fly X E)(hi:∀D f,iniAt X.K D=some f->Ini X.prog X.w X.K X.mg X.base D f){q:CallQ}{pos:Pos}{c:S}(h:zmv X.K T d C q=some c):SX X E (.Raise (some (.Call (.Name q.f q.p) q.args [] q.cp)) none pos) (exs (run F k) c):=by
 have Sd:=zb9 (T:=T) (F:=F) (k:=k) d O
 unfold zmv at h
 split at h
 .rename_i hq
  rw[hq]
  obtain⟨D,h1,rfl⟩:=map_some h
  unfold excAt at h1
  split at h1
  .rename_i hc
   rw[vaa,vcc]at hc
   split at h1
   .rename_i D' hD
    split at h1
    .rename_i hm
     cases h1
     exact zow fl (zsm hm) O.calm (O.gl q.f hc.2) (O.mgs q.f _ hD) (za2 hc.1).1
    .cases h1
   .cases h1
  .cases h1
 .rename_i e1 e2 hq
  rw[hq]
  split at h
  case h_2=>cases h
  rename_i Df a b hf ha hb
  cases h
  obtain⟨D,f⟩:=Df
  unfold fltAt at hf
  split at hf
  case isFalse=>cases hf
  rename_i hc
  rw[vaa,vcc]at hc
  split at hf
  case h_2=>cases hf
  rename_i D' hD
  obtain⟨f',h1,h2⟩:=map_some hf
  cases h2
  obtain⟨fd,ps,M,G,hbd⟩:=hi _ _ h1
  obtain⟨g1,g2⟩:=cL_ok (es:=[e1,e2]) (c:=.cons a (.cons b .nil)) Sd.e (by simp only[cL,ha,hb])
  rw[zsn]
  exact zmi fl M G (Room.h2 (k:=k) O.room) hbd O.calm (O.gl q.f hc.2) (O.mgs q.f _ hD) (za2 hc.1).1 g1 g2
 .cases h
theorem snd_x(O:XOk X.nox C T R F k)(tp:XTop X.nox C)(fl:Fly X E)(hi:∀D f,iniAt X.K D=some f->Ini X.prog X.w X.K X.mg X.base D f):∀(n:Nat) (st:Stmt) (c:S),cX X.K T R d n C st=some c->SX X E st (exs (run F k) c)
 |0,_,_,h=>by cases h
 |n+1,st,c,h=>by
  have Sd:=zb9 (T:=T) (F:=F) (k:=k) d O
  have ih:=snd_x O tp fl hi n
  unfold cX at h
  split at h
  .split at h
   .rename_i q hq
    obtain⟨e,h1,h2⟩:=bindS hq
    rw[h1,zcc h2]
    exact zmx O fl hi h
   .cases h
  .obtain⟨a,h1,rfl⟩:=map_some h
   rw[zo8]
   exact zvw (Sd.e _ _ h1).1
  .split at h
   case h_2=>cases h
   rename_i x y h2 h3
   split at h
   .rename_i q hq
    obtain⟨z,h4,rfl⟩:=map_some h
    obtain⟨e,h5,h6⟩:=bindS hq
    obtain⟨hj,a,as,ha,he⟩:=zjf h6
    rw[zo7 h5,he]
    rw[ha]at h4
    obtain⟨g,fd,ps,q1,q2,q3,q4,q5,q6,q7⟩:=zmw O hj
    obtain⟨g1,g2⟩:=cL_ok Sd.e h4
    exact zr7 fl q1 O.room q2 q3 q4 q5 q6 g1 g2 q7 (zb0 ih h2) (zb0 ih h3)
   .obtain⟨z,h4,rfl⟩:=map_some h
    exact zp8 (PT.nox (Sd.t _ _ h4)) (zb0 ih h2) (zb0 ih h3)
  .split at h
   .rename_i q hq
    obtain⟨z,h4,rfl⟩:=map_some h
    obtain⟨hj,a,as,ha,he⟩:=zjf hq
    rw[he]
    rw[ha]at h4
    obtain⟨g,fd,ps,q1,q2,q3,q4,q5,q6,q7⟩:=zmw O hj
    obtain⟨g1,g2⟩:=cL_ok Sd.e h4
    exact zr6 fl q1 O.room q2 q3 q4 q5 q6 g1 g2 q7
   .split at h
    .rename_i hn
     obtain⟨a,h1,rfl⟩:=map_some h
     exact zi9 (zl6 (Sd.e _ _ h1).1 hn) rfl
    .cases h
  .rename_i tg it b pos
   split at h
   .rename_i h1 h2 h3
    split at h
    case isFalse=>cases h
    rename_i hw
    cases h
    obtain⟨w1,w2⟩:=Sd.w _ _ _ tg h1 hw
    exact zp9 fl.own O.calm (PI.nox w1) (PG.nox (tg_ok O h2)) (zb0 ih h3) w2
   .cases h
  .split at h
   .rename_i c' hc
    split at h
    .rename_i hn
     cases h
     exact zi9 (snd_s O tp (n+1) _ _ hc) hn
    .cases h
   .cases h
end
noncomputable abbrev gS(K:PySem.W.Frag)(T:List Str)(R:RX)(d n:Nat):CC->List Stmt->Option S:=λC b=>cSs (cS K T R d n C) b
noncomputable abbrev gX(K:PySem.W.Frag)(T:List Str)(R:RX)(d n:Nat):CC->List Stmt->Option S:=λC b=>(cSs (cX K T R d n C) b).map λb=>.seq b (.ret (.cst (.tup [.non])))
noncomputable def cF0(K:PySem.W.Frag)(T:List Str)(R:RX)(d n:Nat)(x:Str):Option Fn:=if x==("" : Str)then some ⟨0,0,.no⟩else cFg K (gS K T R d n) x
theorem zmy{K:PySem.W.Frag}{T:List Str}{R:RX}{d n:Nat}{x:Str}{fn:Fn}(h:cF0 K T R d n x=some fn)(hx:x≠""):cFg K (gS K T R d n) x=some fn:=by
 unfold cF0 at h
 rw[if_neg (by simpa using hx)]at h
 exact h
noncomputable def cProg(K:PySem.W.Frag)(T:List Str)(R:RX)(d n:Nat):Option (List Fn):=match mapO (cF0 K T R d n) T,mapO (cFg K (gX K T R d n)) R.tel with
 |some a,some b=>if Nat.beq R.at_ T.length then some (a++b)else none
 |_,_=>none
theorem zjg{α β:Type}{f:α->Option β}:∀{l:List α} {r:List β},mapO f l=some r->r.length=l.length
 |[],_,h=>by cases h;rfl
 |x::l,r,h=>by
  unfold mapO at h
  split at h
  .split at h
   .rename_i bs hbs
    cases h
    rw[vam,vam,zjg hbs]
   .cases h
  .cases h
section
variable{K:PySem.W.Frag}{T:List Str}{R:RX}{d n:Nat}{Fs:List Fn}
theorem zcw(hP:cProg K T R d n=some Fs):(∀(i:Nat) (x:Str),T[i]?=some x->∃fn,Fs[i]?=some fn/\cF0 K T R d n x=some fn)/\∀(j:Nat) (x:Str),R.tel[j]?=some x->∃fn,Fs[R.at_+j]?=some fn/\cFg K (gX K T R d n) x=some fn:=by
 unfold cProg at hP
 split at hP
 .rename_i a b ha hb
  split at hP
  .rename_i hz
   cases hP
   have hl:=zjg ha
   have hz:R.at_=T.length:=vb6 hz
   refine⟨λi x e=>?_,λj x e=>?_⟩
   .obtain⟨fn,h1,h2⟩:=zgf ha i x e
    exact⟨fn,by rw[vb1 (van.mp h1).1];exact h1,h2⟩
   .obtain⟨fn,h1,h2⟩:=zgf hb j x e
    exact⟨fn,by rw[vbm (by omega),hz,hl,Nat.add_sub_cancel_left];exact h1,h2⟩
  .cases hP
 .cases hP
end
theorem gX_ok{K:PySem.W.Frag}{T:List Str}{R:RX}{d n:Nat}{C:CC}{b:List Stmt}{s:S}(h:gX K T R d n C b=some s):∃c,cSs (cX K T R d n C) b=some c/\s=.seq c (.ret (.cst (.tup [.non]))):=by
 obtain⟨c,h1,h2⟩:=map_some h
 exact⟨c,h1,h2⟩
noncomputable def Wd(P:Program)(w:World)(K:PySem.W.Frag)(mg:Str->Option Value)(base:Heap)(C:Nat)(z:Str):Prop:=∃f fd ps,mg "_law_word" = some (.ref f)/\FnOkH P w K mg base 2 f fd ps (spWd C z)/\PySem.W.keepIn K (.ref f)=true/\Binds K fd ps []
noncomputable def wordB(K:PySem.W.Frag)(C:Nat)(z:Str):Bool:=match cH K C none 60 "_law_kinds"with
 |some (.bls bs)=>(match cH K C (some bs) 60 "_law_word"with
  |some (.str y)=>y==z
  |_=>false)
 |_=>false
theorem _root_.L2.FnOkH.imp{P:Program}{w:World}{K:PySem.W.Frag}{mg:Str->Option Value}{base:Heap}{k:Nat}{f:Addr}{fd:FuncData}{ps:List Str}{sp sp':List V->Hp->VK->Prop}(F:FnOkH P w K mg base k f fd ps sp)(h:∀vs H Q,sp' vs H Q->sp vs H Q):FnOkH P w K mg base k f fd ps sp':=
 ⟨λvs H Q q=>F.len _ _ _ (h _ _ _ q),λA o s H args us vs Q hr e hb r q=>F.run A o s H args us vs Q hr e hb r (h _ _ _ q)⟩
theorem wd_ok{P:Program}{w:World}{K:PySem.W.Frag}{mg:Str->Option Value}{base:Heap}{C:Nat}{z:Str}(KX:K.In base)(G:base.Ns mainGlobals mg)(h:wordB K C z=true)(ex:XL.ExcI K C):Wd P w K mg base C z:=by
 unfold wordB at h
 split at h
 .rename_i bs h1
  split at h
  .rename_i y h2
   have hy:y=z:=by simpa using h
   subst hy
   obtain⟨f1,fd1,ps1,a1,a2,a3,a4⟩:=cH_ok (P:=P) (w:=w) (k:=0) KX G h1 ex (λz=>nomatch z)
   have a2:FnOkH P w K mg base 1 f1 fd1 ps1 (spK C (some bs)):=a2.imp λvs H Q hq0=>by obtain⟨a,bs',q1,q2,q3,q4⟩:=hq0;cases q3;exact⟨a,q1,q2,q4⟩
   obtain⟨f2,fd2,ps2,b1,b2,b3,b4⟩:=cH_ok (P:=P) (w:=w) (k:=1) KX G h2 ex (λ_=>⟨f1,fd1,ps1,vd3 KX G (zbt a1),a2,a3,a4⟩)
   exact⟨f2,fd2,ps2,vd3 KX G (zbt b1),b2.imp λvs H Q ⟨a,q1,q2,q3⟩=>⟨a,q1,q2,λv H' k r=>by rw[show v=.str y from r];exact q3 H' k⟩,b3,b4⟩
  .cases h
 .cases h
noncomputable abbrev AF(P:Program)(w:World)(K:PySem.W.Frag)(mg:Str->Option Value)(base:Heap)(T:List Str)(Fs:List Fn)(k:Nat):Prop:=∀(i:Nat) (x:Str),T[i]?=some x->x≠""->∃f fd ps fn,refAt K x=some f/\FnOk P w K mg base CX0 k f fd ps (spV K ps.length (run (λi=>Fs[i]?) k i))/\PySem.W.keepIn K (.ref f)=true/\Binds K fd ps []/\Fs[i]?=some fn/\fn.ps=ps.length/\(hasD K x=true->Binds K fd ps [.none])
noncomputable abbrev AR(P:Program)(w:World)(K:PySem.W.Frag)(mg:Str->Option Value)(base:Heap)(R:RX)(Fs:List Fn)(k:Nat):Prop:=∀(j:Nat) (x:Str),R.tel[j]?=some x->∃f fd ps fn,refAt K x=some f/\FnOk P w K mg base (CX1 P w) k f fd ps (spX K ps.length (run (λi=>Fs[i]?) k (R.at_+j)))/\PySem.W.keepIn K (.ref f)=true/\Binds K fd ps []/\Fs[R.at_+j]?=some fn/\fn.ps=ps.length
section
variable{P:Program}{w:World}{K:PySem.W.Frag}{mg:Str->Option Value}{base:Heap}{T:List Str}{R:RX}{Fs:List Fn}{k d n:Nat}
theorem zid(KX:K.In base)(G:base.Ns mainGlobals mg){x:Str}{st:Stmt}{f:Addr}{N ps:List Str}(S:FnScope N ps (zam st))(H0:AF P w K mg base T Fs k)(HR:AR P w K mg base R Fs k)(HW:∀C z,(C,z)∈R.tb->Wd P w K mg base C z)
 (cdv:Value) (A:Around) (outer:List Env) (s:Shared) (H:Hp) (E:XK) (hr:Room k (A.deeper (envOfC x (zam st) s.heap.objs.size f cdv))):XOk (cxOf CX0 P w K mg base N x (zam st) f cdv A outer s H E).nox ⟨N,(zam st).names,true⟩ T R (λi=>Fs[i]?) k:=by
 refine⟨rfl,S.nd,λy hy=>?_,λy hy=>?_,λy hy=>hy,λy hy=>hy,rfl,hr,rfl,S.kind,λy v hv=>vd3 KX G hv,λy hv=>PySem.W.mg_none_of KX G hv,H0,HR,HW⟩
 .have hy:visK ((zam st).names.lookup y)=true:=hy
  cases z:(zam st).names.lookup y with
  |none=>rw[z]at hy;cases hy
  |some kd=>cases kd<;>first|exact .inl z|exact .inr (.inl z)|exact .inr (.inr z)|(rw[z]at hy;cases hy)
 .have hy:locK true ((zam st).names.lookup y)=true:=hy
  cases z:(zam st).names.lookup y with
  |none=>rw[z]at hy;cases hy
  |some kd=>cases kd<;>first|exact⟨.inl z,.inl rfl⟩|exact⟨.inr z,.inl rfl⟩|(rw[z]at hy;cases hy)
theorem zmz{CX:CXT}{x:Str}{st:Stmt}{f:Addr}{N:List Str}(cdv:Value)(A:Around)(outer:List Env)(s:Shared)(H:Hp)(E:XK):XTop (cxOf CX P w K mg base N x (zam st) f cdv A outer s H E).nox ⟨N,(zam st).names,true⟩:=
 ⟨rfl,rfl,λ_=>rfl,λy hy=>⟨hy,.inl hy,.inl hy⟩⟩
theorem zm0(hP:cProg K T R d n=some Fs)(KX:K.In base)(G:base.Ns mainGlobals mg)(HW:∀C z,(C,z)∈R.tb->Wd P w K mg base C z)(k:Nat):∀(j:Nat),j<=k->AF P w K mg base T Fs j/\AR P w K mg base R Fs j:=by
 induction k with
 |zero=>
  intro j hj
  have:j=0:=Nat.le_zero.mp hj
  subst this
  refine⟨λi x e hx=>?_,λi x e=>?_⟩
  .obtain⟨fn,h1,h2⟩:=(zcw hP).1 i x e
   obtain⟨f,fd,st,ps,N,a1,a2,a3,a4,a5,a6,a7,_⟩:=cF_ok (zmy h2 hx)
   exact⟨f,fd,ps,fn,a1,zmd,a2.kp,a6.1,h1,a5,a6.2.1⟩
  .obtain⟨fn,h1,h2⟩:=(zcw hP).2 i x e
   obtain⟨f,fd,st,ps,N,a1,a2,a3,a4,a5,a6,a7,_⟩:=cF_ok h2
   exact⟨f,fd,ps,fn,a1,zox,a2.kp,a6.1,h1,a5⟩
 |succ k ih=>
  intro j hj
  by_cases hjk:j<=k
  .exact ih j hjk
  .have:j=k+1:=by omega
   subst this
   refine⟨λi x e hx=>?_,λi x e=>?_⟩
   .obtain⟨fn,h1,h2⟩:=(zcw hP).1 i x e
    obtain⟨f,fd,st,ps,N,a1,a2,a3,a4,a5,a6,a7,_⟩:=cF_ok (zmy h2 hx)
    exact⟨f,fd,ps,fn,a1,zqb (F:=λi=>Fs[i]?) h1 a2 a3 a4 a5 λcdv A outer s H E hr=>zcq (snd_s (zid KX G a3 (ih k (vac _)).1 (ih k (vac _)).2 HW cdv A outer s H E hr) (zmz cdv A outer s H E) n) a7,a2.kp,a6.1,h1,a5,a6.2.1⟩
   .obtain⟨fn,h1,h2⟩:=(zcw hP).2 i x e
    obtain⟨f,fd,st,ps,N,a1,a2,a3,a4,a5,a6,a7,_⟩:=cF_ok h2
    obtain⟨c,b1,b2⟩:=gX_ok a7
    exact⟨f,fd,ps,fn,a1,zsa (F:=λi=>Fs[i]?) h1 a2 a3 a4 a5 b2 λcdv A outer s H E hr=>zb0 (snd_x (X:=cxOf (CX1 P w) P w K mg base N x (zam st) f cdv A outer s H E) (zid KX G a3 (ih k (vac _)).1 (ih k (vac _)).2 HW cdv A outer s H E hr) (zmz cdv A outer s H E) ⟨λe s' z=>zr5 rfl rfl rfl z,PassesOwn.leaving⟩ (λD f h=>zwe KX G h) n) b1,a2.kp,a6.1,h1,a5⟩
end
noncomputable def zcx:Res W->Bool
 |.ok (.bl true) _=>true
 |_=>false
noncomputable def says(K:PySem.W.Frag)(T:List Str)(R:RX)(d n k i:Nat)(ns:List Int):Bool:=match cProg K T R d n with
 |some Fs=>zcx (run (λi=>Fs[i]?) k i [.fz (ns.map .int)] ⟨0,0,[]⟩)
 |none=>false
theorem zie{r:Res W}(h:zcx r=true):∃h',r=.ok (.bl true) h':=by
 cases r with
 |no=>cases h
 |ex _ _=>cases h
 |ok w h'=>cases w<;>first|(rename_i b;cases b<;>first|exact⟨h',rfl⟩|cases h)|cases h
theorem zfi{K:PySem.W.Frag}{m:Nat->Addr}{n:Nat}{H:Hp}:∀(ns:List Int),VReps K m n H (ns.map V.int) (ns.map W.int)
 |[]=>.nil
 |i::r=>.cons (.int i) (zfi r)
theorem zm1{K:PySem.W.Frag}{T:List Str}{R:RX}{d n k i:Nat}{ns:List Int}(h:says K T R d n k i ns=true):∃Fs h',cProg K T R d n=some Fs/\run (λi=>Fs[i]?) k i [.fz (ns.map .int)] ⟨0,0,[]⟩=.ok (.bl true) h':=by
 unfold says at h
 split at h
 .rename_i Fs hF
  obtain⟨h',e⟩:=zie h
  exact⟨Fs,h',hF,e⟩
 .cases h
theorem zso{K:PySem.W.Frag}{T:List Str}{R:RX}{d n k i:Nat}{ns:List Int}{Fs:List Fn}(hP:cProg K T R d n=some Fs)(h:zcx (run (λi=>Fs[i]?) k i [.fz (ns.map .int)] ⟨0,0,[]⟩)=true):says K T R d n k i ns=true:=by
 unfold says
 rw[hP]
 exact h
noncomputable def lawOk(K:PySem.W.Frag)(x:Str):Bool:=match fnAt K x with
 |some (_,_,fd)=>(match za9 fd.params with
  |some [a]=>a.arg==("_law_script" : Str) && !(noneD K fd.defaults)
  |_=>false)
 |none=>false
theorem zo9{l:PySem.W.OpenLaw}{q:Program}{loose:List Str}{XP:(Str->Option Value)->Heap->Prop}{YP:World->Heap->Prop}{dr:DefRec}{K:Params->PySem.W.Frag}(T:List Str)(R:RX)(d n k i:Nat)(hn:l.most=some 63)(hdf:dr.params.defaults=[])(hr:Room k callerA)
 (hY:∀(w:World)(h:Heap),YP w h->(K w.params).In h) (hT:T[i]?=some dr.name) (hne:dr.name≠"") (hS:∀(w:World)(ns:List Int),ns.length<=63->says (K w.params) T R d n k i ns=true) (hL:∀w:World,lawOk (K w.params) dr.name=true) (hW:∀w:World,∀C z,(C,z)∈R.tb->wordB (K w.params) C z=true/\XL.ExcI (K w.params) C) :
 PySem.W.WalkO q loose XP YP l.row.toRowW dr [] (λf vs=>PySem.call f vs):=by
 have any:∀w:World,∃Fs,cProg (K w.params) T R d n=some Fs:=λw=>let⟨Fs,_,h,_⟩:=zm1 (hS w [] (va9 _));⟨Fs,h⟩
 refine L2.zrd (n:=63) (k:=k) (x:="_law_script") (CX:=λ_=>CX0) (sp:=λw=>spV (K w.params) 1 (run (λj=>(Classical.choose (any w))[j]?) k i)) hn (by decide) hdf hr hY ?_ ?_ λ_ _ _ _ _ z=>z
 .intro w mg fa h KX G hmg
  have hP:=Classical.choose_spec (any w)
  obtain⟨fn',h1,h2⟩:=(zcw hP).1 i _ hT
  obtain⟨f',fd',st,ps',N,a1,a2,a3,a4,a5,a6,a7,o',fd'',args,a8,a9,a10⟩:=cF_ok (zmy h2 hne)
  have hps:ps'=[("_law_script" : Str)]:=by
   have hl:=hL w
   unfold lawOk at hl
   rw[a8]at hl
   simp only[a9]at hl
   cases args with
   |nil=>cases hl
   |cons z zs=>
    cases zs with
    |nil=>
     rw[vaa]at hl
     have hl:z.arg = "_law_script":=by simpa using hl.1
     rw[a10,va1,hl];rfl
    |cons _ _=>cases hl
  have hnd:hasD (K w.params) dr.name=false:=by
   have hl:=hL w
   unfold lawOk at hl
   rw[a8]at hl
   unfold hasD
   rw[a8]
   simp only[a9]at hl
   split at hl
   .rw[vaa]at hl
    simpa using hl.2
   .cases hl
  have e:=vd3 KX G (zbt a1)
  rw[hmg]at e
  cases e
  subst hps
  refine⟨fd',λs u=>.of_eq (a6.2.2 hnd [u] rfl),λbase KB GB=>?_⟩
  have HW:∀C z,(C,z)∈R.tb->Wd l.prog w (K w.params) mg base C z:=λC z hm=>wd_ok KB GB (hW w C z hm).1 (hW w C z hm).2
  cases k with
  |zero=>exact zmd
  |succ k=>exact zqb (F:=λj=>(Classical.choose (any w))[j]?) h1 a2 a3 a4 a5 λcdv A outer s H E hr=>zcq (snd_s (zid KB GB a3 (zm0 hP KB GB HW k k (vac _)).1 (zm0 hP KB GB HW k k (vac _)).2 HW cdv A outer s H E hr) (zmz cdv A outer s H E) n) a7
 .intro w H a ns hl hO hQ
  obtain⟨Fs,h',e1,e2⟩:=zm1 (hS w ns hl)
  have hP:=Classical.choose_spec (any w)
  rw[hP]at e1
  cases e1
  refine⟨rfl,⟨0,0,[]⟩,λ_=>0,_,_,h',⟨λi hi=>absurd hi (Nat.not_lt_zero _),λi j hi=>absurd hi (Nat.not_lt_zero _),rfl⟩,.cons (.fz ?_ (zfi ns)) .nil,e2,λv H' m' _ _ q=>by cases q;rfl⟩
  rcases hQ with(q|⟨o,q⟩)|q
  .rcases hO a with z|⟨o,xs,z⟩
   .rw[z]at q;cases q
   .rw[z]at q;cases q
  .exact .inl ⟨o,q⟩
  .exact .inr q
noncomputable def fn0:Fn:=⟨1,1,(.seq (.ret (.and (.isi .int (.var 0)) (.not (.isi .bool (.var 0))))) .skip)⟩
noncomputable def fn1:Fn:=⟨3,3,(.seq (.ret (.and (.call 0 (.cons (.var 0) .nil)) (.chn .le .le (.var 1) (.var 0) (.var 2)))) .skip)⟩
noncomputable def fn2:Fn:=⟨2,2,(.seq (.ite (.cmp .eq (.bi .len (.cons (.var 0) .nil)) (.cst (.int (0)))) (.seq (.ret (.op .add (.op .mul (.cst (.int (7))) (.var 1)) (.cst (.int (3))))) .skip) .skip) (.seq (.ret (.bi .abs (.cons (.idx (.var 0) (.op .mod (.var 1) (.bi .len (.cons (.var 0) .nil)))) .nil))) .skip))⟩
noncomputable def zdo:E:=(.cmp .ge (.bi .abs (.cons (.var 0) .nil)) (.op .pow (.cst (.int (10))) (.cst (.int (18)))))
noncomputable def zdp:E:=(.bi .abs (.cons (.var 0) .nil))
noncomputable def fn3:Fn:=⟨1,1,(.seq (.ret (.lst (.cons (.var 0) (.cons (.lc .seq (.var 0) (.one 0) 1 [] zdo zdp) (.cons (.cst (.int (0))) (.cons (.cst (.int (0))) .nil)))))) .skip)⟩
noncomputable def fn4:Fn:=⟨3,4,(.seq (.set 3 (.op .mod (.op .pow (.op .add (.op .mul (.op .add (.op .mod (.call 2 (.cons (.var 0) (.cons (.var 1) .nil))) (.cst (.int (1000003)))) (.cst (.int (5)))) (.op .add (.var 1) (.cst (.int (2))))) (.op .mul (.cst (.int (7919))) (.var 1))) (.cst (.int (5)))) (.cst (.int (2147483647))))) (.seq (.ret (.op .mod (.op .fdiv (.var 3) (.cst (.int (13)))) (.var 2))) .skip))⟩
noncomputable def zhi:E:=(.cmp .lt (.idx (.var 0) (.cst (.int (2)))) (.bi .len (.cons (.idx (.var 0) (.cst (.int (1)))) .nil)))
noncomputable def zey:S:=(.seq (.set 2 (.idx (.idx (.var 0) (.cst (.int (1)))) (.idx (.var 0) (.cst (.int (2)))))) (.seq (.ite (.cmp .gt (.var 2) (.cst (.int (0)))) (.seq (.put (.idx (.var 0) (.cst (.int (1)))) (.idx (.var 0) (.cst (.int (2)))) (.op .fdiv (.var 2) (.var 1))) (.seq (.ret (.op .mod (.var 2) (.var 1))) .skip)) .skip) (.seq (.put (.var 0) (.cst (.int (2))) (.op .add (.idx (.var 0) (.cst (.int (2)))) (.cst (.int (1))))) .skip)))
noncomputable def fn5:Fn:=⟨2,3,(.seq (.whl zhi zey) (.seq (.put (.var 0) (.cst (.int (3))) (.op .add (.idx (.var 0) (.cst (.int (3)))) (.cst (.int (1))))) (.seq (.ret (.call 4 (.cons (.idx (.var 0) (.cst (.int (0)))) (.cons (.idx (.var 0) (.cst (.int (3)))) (.cons (.var 1) .nil))))) .skip)))⟩
noncomputable def fn6:Fn:=⟨3,3,(.seq (.ret (.and (.isi .tuple (.var 0)) (.chn .le .le (.var 1) (.bi .len (.cons (.var 0) .nil)) (.var 2)))) .skip)⟩
noncomputable def zjh:S:=(.seq (.ite (.not (.tru (.call 1 (.cons (.var 5) (.cons (.var 3) (.cons (.var 4) .nil)))))) (.seq (.ret (.cst (.bl false))) .skip) .skip) .skip)
noncomputable def fn7:Fn:=⟨5,6,(.seq (.ite (.not (.tru (.call 6 (.cons (.var 0) (.cons (.var 1) (.cons (.var 2) .nil)))))) (.seq (.ret (.cst (.bl false))) .skip) .skip) (.seq (.«for» .seq (.var 0) (.one 5) zjh) (.seq (.ret (.cst (.bl true))) .skip)))⟩
noncomputable def zji:S:=(.seq (.ite (.not (.tru (.call 11 (.cons (.var 3) (.cons (.var 2) .nil))))) (.seq (.ret (.cst (.bl false))) .skip) .skip) .skip)
noncomputable def fn8:Fn:=⟨3,4,(.seq (.ite (.not (.tru (.call 6 (.cons (.var 0) (.cons (.var 1) (.cons (.var 1) .nil)))))) (.seq (.ret (.cst (.bl false))) .skip) .skip) (.seq (.«for» .seq (.var 0) (.one 3) zji) (.seq (.ret (.cst (.bl true))) .skip)))⟩
noncomputable def zjj:S:=(.seq (.ite (.not (.tru (.call 6 (.cons (.var 2) (.cons (.var 1) (.cons (.var 1) .nil)))))) (.seq (.ret (.cst (.bl false))) .skip) .skip) .skip)
noncomputable def fn9:Fn:=⟨2,3,(.seq (.ite (.not (.tru (.call 6 (.cons (.var 0) (.cons (.cst (.int (0))) (.cons (.cst (.int (60))) .nil)))))) (.seq (.ret (.cst (.bl false))) .skip) .skip) (.seq (.«for» .seq (.var 0) (.one 2) zjj) (.seq (.ret (.cst (.bl true))) .skip)))⟩
noncomputable def fn10:Fn:=⟨1,6,(.seq (.ite (.not (.tru (.call 6 (.cons (.var 0) (.cons (.cst (.int (5))) (.cons (.cst (.int (5))) .nil)))))) (.seq (.ret (.cst (.bl false))) .skip) .skip) (.seq (.unp [1,2,3,4,5] (.var 0)) (.seq (.ite (.or (.not (.tru (.call 1 (.cons (.var 1) (.cons (.cst (.int (1))) (.cons (.cst (.int (40))) .nil)))))) (.not (.tru (.call 1 (.cons (.var 2) (.cons (.cst (.int (0))) (.cons (.cst (.int (8))) .nil))))))) (.seq (.ret (.cst (.bl false))) .skip) .skip) (.seq (.ite (.not (.tru (.call 7 (.cons (.var 4) (.cons (.cst (.int (1))) (.cons (.cst (.int (4))) (.cons (.cst (.int (0))) (.cons (.op .sub (.var 1) (.cst (.int (1)))) .nil)))))))) (.seq (.ret (.cst (.bl false))) .skip) .skip) (.seq (.ret (.and (.call 9 (.cons (.var 3) (.cons (.var 1) .nil))) (.call 8 (.cons (.var 5) (.cons (.var 1) (.cons (.bi .len (.cons (.var 4) .nil)) .nil)))))) .skip)))))⟩
noncomputable def fn11:Fn:=⟨2,4,(.seq (.ite (.not (.tru (.call 6 (.cons (.var 0) (.cons (.cst (.int (2))) (.cons (.cst (.int (2))) .nil)))))) (.seq (.ret (.cst (.bl false))) .skip) .skip) (.seq (.unp [2,3] (.var 0)) (.seq (.ret (.and (.call 1 (.cons (.var 2) (.cons (.cst (.int (0))) (.cons (.cst (.int (99))) .nil)))) (.call 12 (.cons (.var 3) (.cons (.var 1) .nil))))) .skip)))⟩
noncomputable def fn12:Fn:=⟨2,2,(.seq (.ret (.or (.cmp .isn (.var 0) (.cst .non)) (.call 1 (.cons (.var 0) (.cons (.cst (.int (0))) (.cons (.op .sub (.var 1) (.cst (.int (1)))) .nil)))))) .skip)⟩
noncomputable def fn13:Fn:=⟨2,4,(.seq (.ite (.not (.tru (.call 6 (.cons (.var 0) (.cons (.cst (.int (2))) (.cons (.cst (.int (2))) .nil)))))) (.seq (.ret (.cst (.bl false))) .skip) .skip) (.seq (.unp [2,3] (.var 0)) (.seq (.ret (.and (.call 1 (.cons (.var 2) (.cons (.cst (.int (0))) (.cons (.op .sub (.var 1) (.cst (.int (1)))) .nil)))) (.call 1 (.cons (.var 3) (.cons (.cst (.int (0))) (.cons (.cst (.int (1))) .nil)))))) .skip)))⟩
noncomputable def zgh:S:=(.seq (.ite (.not (.tru (.call 15 (.cons (.var 7) (.cons (.var 6) (.cons (.var 1) (.cons (.var 2) .nil))))))) (.seq .no .skip) .skip) .skip)
noncomputable def zgi:S:=(.seq (.«for» .enm (.var 5) (.many [6,7]) zgh) .skip)
noncomputable def fn14:Fn:=⟨1,8,(.seq (.ite (.not (.tru (.call 10 (.cons (.var 0) .nil)))) (.seq .no .skip) .skip) (.seq (.unp [1,2,3] (.slc (.var 0) false (.cst .non) true (.cst (.int (3))))) (.seq (.«for» .enm (.var 3) (.many [4,5]) zgi) .skip)))⟩
noncomputable def fn15:Fn:=⟨4,4,(.seq (.ite (.or (.cmp .eq (.var 0) (.cst (.str (PySem.Str.ofString "x")))) (.tru (.call 13 (.cons (.var 0) (.cons (.var 3) .nil))))) (.seq (.ret (.chn .lt .lt (.cst (.int (0))) (.var 1) (.op .sub (.var 2) (.cst (.int (1)))))) .skip) .skip) (.seq (.ite (.cmp .eq (.var 0) (.cst (.str (PySem.Str.ofString "<")))) (.seq (.ret (.cmp .gt (.var 1) (.cst (.int (0))))) .skip) .skip) (.seq (.ite (.cmp .eq (.var 0) (.cst (.str (PySem.Str.ofString ">")))) (.seq (.ret (.cmp .lt (.var 1) (.op .sub (.var 2) (.cst (.int (1)))))) .skip) .skip) (.seq (.ret (.or (.cmp .eq (.var 0) (.cst (.str (PySem.Str.ofString ".")))) (.cmp .eq (.var 0) (.cst (.str (PySem.Str.ofString "s")))))) .skip))))⟩
noncomputable def fn21:Fn:=⟨4,6,(.seq (.set 4 (.call 5 (.cons (.var 0) (.cons (.cst (.int (10))) .nil)))) (.seq (.set 5 (.idx (.lst (.cons (.cst (.str (PySem.Str.ofString "."))) (.cons (.cst (.str (PySem.Str.ofString "<"))) (.cons (.cst (.str (PySem.Str.ofString ">"))) (.cons (.cst (.str (PySem.Str.ofString "x"))) (.cons (.cst (.str (PySem.Str.ofString "."))) (.cons (.cst (.str (PySem.Str.ofString "."))) .nil))))))) (.bi .min (.cons (.var 4) (.cons (.cst (.int (5))) .nil))))) (.seq (.ite (.and (.cmp .gt (.var 4) (.cst (.int (4)))) (.cmp .gt (.var 3) (.cst (.int (0))))) (.seq (.set 5 (.tup (.cons (.call 5 (.cons (.var 0) (.cons (.var 3) .nil))) (.cons (.call 5 (.cons (.var 0) (.cons (.cst (.int (2))) .nil))) .nil)))) .skip) .skip) (.seq (.ite (.and (.cmp .eq (.var 4) (.cst (.int (4)))) (.cmp .eq (.call 5 (.cons (.var 0) (.cons (.cst (.int (4))) .nil))) (.cst (.int (0))))) (.seq (.ret (.cst (.str (PySem.Str.ofString "s")))) .skip) .skip) (.seq (.ite (.or (.and (.cmp .eq (.var 1) (.cst (.int (0)))) (.cmp .nin (.var 5) (.tup (.cons (.cst (.str (PySem.Str.ofString "."))) (.cons (.cst (.str (PySem.Str.ofString ">"))) .nil))))) (.and (.cmp .eq (.var 1) (.op .sub (.var 2) (.cst (.int (1))))) (.cmp .nin (.var 5) (.tup (.cons (.cst (.str (PySem.Str.ofString "."))) (.cons (.cst (.str (PySem.Str.ofString "<"))) .nil)))))) (.seq (.ret (.idx (.lst (.cons (.cst (.str (PySem.Str.ofString ">"))) (.cons (.cst (.str (PySem.Str.ofString "<"))) (.cons (.cst (.str (PySem.Str.ofString "."))) .nil)))) (.bi .min (.cons (.op .add (.bi .int (.cons (.cmp .gt (.var 1) (.cst (.int (0)))) .nil)) (.op .mul (.cst (.int (2))) (.bi .int (.cons (.cmp .eq (.var 2) (.cst (.int (1)))) .nil)))) (.cons (.cst (.int (2))) .nil))))) .skip) .skip) (.seq (.ret (.var 5)) .skip))))))⟩
noncomputable def fn23:Fn:=⟨2,4,(.seq (.set 2 (.idx (.lst (.cons (.call 5 (.cons (.var 0) (.cons (.cst (.int (3))) .nil))) (.cons (.call 5 (.cons (.var 0) (.cons (.cst (.int (100))) .nil))) .nil))) (.bi .int (.cons (.cmp .eq (.call 5 (.cons (.var 0) (.cons (.cst (.int (4))) .nil))) (.cst (.int (0)))) .nil)))) (.seq (.set 3 (.call 5 (.cons (.var 0) (.cons (.var 1) .nil)))) (.seq (.ite (.cmp .eq (.call 5 (.cons (.var 0) (.cons (.cst (.int (8))) .nil))) (.cst (.int (0)))) (.seq (.ret (.tup (.cons (.var 2) (.cons (.cst .non) .nil)))) .skip) .skip) (.seq (.ret (.tup (.cons (.var 2) (.cons (.var 3) .nil)))) .skip))))⟩
noncomputable def zgj:E:=(.call 21 (.cons (.var 1) (.cons (.var 0) (.cons (.var 3) (.cons (.var 2) .nil)))))
noncomputable def fn25:Fn:=⟨3,3,(.seq (.ret (.bi .tuple (.cons (.lc .rng1 (.cons (.var 1) .nil) (.one 0) 1 [0,2,1] (.cst (.bl true)) zgj) .nil))) .skip)⟩
noncomputable def zm2:E:=(.call 25 (.cons (.var 1) (.cons (.var 3) (.cons (.var 2) .nil))))
noncomputable def zm3:E:=(.call 5 (.cons (.var 1) (.cons (.var 2) .nil)))
noncomputable def zm4:E:=(.call 23 (.cons (.var 1) (.cons (.bi .len (.cons (.var 2) .nil)) .nil)))
noncomputable def fn26:Fn:=⟨4,9,(.seq (.set 4 (.op .add (.cst (.int (1))) (.call 5 (.cons (.var 0) (.cons (.var 1) .nil))))) (.seq (.set 5 (.call 5 (.cons (.var 0) (.cons (.op .add (.var 3) (.cst (.int (1)))) .nil)))) (.seq (.set 6 (.lc .rng1 (.cons (.call 5 (.cons (.var 0) (.cons (.op .add (.var 2) (.cst (.int (1)))) .nil))) .nil) (.one 0) 1 [0,5,4] (.cst (.bl true)) zm2)) (.seq (.set 7 (.bi .tuple (.cons (.lc .rng1 (.cons (.op .add (.cst (.int (1))) (.call 5 (.cons (.var 0) (.cons (.cst (.int (4))) .nil)))) .nil) (.one 0) 1 [0,4] (.cst (.bl true)) zm3) .nil))) (.seq (.set 8 (.bi .tuple (.cons (.lc .rng1 (.cons (.var 4) .nil) (.one 0) 1 [0,7] (.cst (.bl true)) zm4) .nil))) (.seq (.ret (.tup (.cons (.var 4) (.cons (.var 5) (.cons (.bi .tuple (.cons (.var 6) .nil)) (.cons (.var 7) (.cons (.var 8) .nil))))))) .skip))))))⟩
noncomputable def fin(h:VH)(r:Res Fl):Res W:=r.bind λfl h'=>match fl with
 |.nx _=>leave h .non h'
 |.rt w=>leave h w h'
 |_=>.no
theorem zan{F:Nat->Option Fn}{k f:Nat}{fn:Fn}{ws:List W}{h:VH}(hF:F f=some fn)(hl:ws.length=fn.ps) :
 run F (k+1) f ws h=fin h (exs (run F k) fn.body (ws.map some++List.replicate (fn.n-fn.ps) none) ⟨h.n,h.n,h.os⟩):=by
 simp only[run,hF]
 rw[if_pos (by rw[hl];exact Nat.beq_refl _)]
 rfl
theorem zfj{h:VH}{w:W}{h':VH}(h1:h.n<=h'.lo)(h2:W.lt h.n w=true):leave h w h'=.ok w h:=by
 unfold leave
 rw[if_pos (by rw[vaa];exact⟨Nat.ble_eq.mpr h1,h2⟩)]
theorem zak{h h':VH}{w:W}(h1:h.n<=h'.lo)(h2:W.lt h.n w=true):fin h (.ok (.rt w) h')=.ok w h:=zfj h1 h2
theorem zwf{h h':VH}{ρ:En}(h1:h.n<=h'.lo):fin h (.ok (.nx ρ) h')=.ok .non h:=zfj h1 (by simp only[W.lt])
@[simp] theorem bindok {α β:Type} {a:α} {h:VH} {f:α->VH->Res β}:(Res.ok a h).bind f=f a h:=rfl
@[simp] theorem bindno {α β:Type} {f:α->VH->Res β}:(Res.no:Res α).bind f=.no:=rfl
@[simp] theorem ofsome {α:Type} {a:α} {h:VH}:Res.of (some a) h=.ok a h:=rfl
@[simp] theorem ofnone {α:Type} {h:VH}:Res.of (none:Option α) h=.no:=rfl
@[simp] theorem lt_non {n:Nat}:W.lt n .non=true:=by simp only[W.lt]
@[simp] theorem lt_bl {n:Nat} {b:Bool}:W.lt n (.bl b)=true:=by simp only[W.lt]
@[simp] theorem lt_int {n:Nat} {b:Int}:W.lt n (.int b)=true:=by simp only[W.lt]
@[simp] theorem lt_str {n:Nat} {b:Str}:W.lt n (.str b)=true:=by simp only[W.lt]
@[simp] theorem lt_tup {n:Nat} {b:List W}:W.lt n (.tup b)=W.lts n b:=by simp only[W.lt]
@[simp] theorem lts_nil {n:Nat}:W.lts n []=true:=by simp only[W.lts]
@[simp] theorem lts_cons {n:Nat} {b:W} {r:List W}:W.lts n (b::r)=(W.lt n b&&W.lts n r):=by simp only[W.lts]
@[simp] theorem ty_int_int:((Ty.int==Ty.int):Bool)=true:=rfl
@[simp] theorem ty_int_bool:((Ty.int==Ty.bool):Bool)=false:=rfl
@[simp] theorem ty_int_tuple:((Ty.int==Ty.tuple):Bool)=false:=rfl
@[simp] theorem ty_int_list:((Ty.int==Ty.list):Bool)=false:=rfl
@[simp] theorem ty_int_str:((Ty.int==Ty.str):Bool)=false:=rfl
@[simp] theorem ty_int_dict:((Ty.int==Ty.dict):Bool)=false:=rfl
@[simp] theorem ty_bool_int:((Ty.bool==Ty.int):Bool)=false:=rfl
@[simp] theorem ty_bool_bool:((Ty.bool==Ty.bool):Bool)=true:=rfl
@[simp] theorem ty_bool_tuple:((Ty.bool==Ty.tuple):Bool)=false:=rfl
@[simp] theorem ty_bool_list:((Ty.bool==Ty.list):Bool)=false:=rfl
@[simp] theorem ty_bool_str:((Ty.bool==Ty.str):Bool)=false:=rfl
@[simp] theorem ty_bool_dict:((Ty.bool==Ty.dict):Bool)=false:=rfl
@[simp] theorem ty_tuple_int:((Ty.tuple==Ty.int):Bool)=false:=rfl
@[simp] theorem ty_tuple_bool:((Ty.tuple==Ty.bool):Bool)=false:=rfl
@[simp] theorem ty_tuple_tuple:((Ty.tuple==Ty.tuple):Bool)=true:=rfl
@[simp] theorem ty_tuple_list:((Ty.tuple==Ty.list):Bool)=false:=rfl
@[simp] theorem ty_tuple_str:((Ty.tuple==Ty.str):Bool)=false:=rfl
@[simp] theorem ty_tuple_dict:((Ty.tuple==Ty.dict):Bool)=false:=rfl
@[simp] theorem ty_list_int:((Ty.list==Ty.int):Bool)=false:=rfl
@[simp] theorem ty_list_bool:((Ty.list==Ty.bool):Bool)=false:=rfl
@[simp] theorem ty_list_tuple:((Ty.list==Ty.tuple):Bool)=false:=rfl
@[simp] theorem ty_list_list:((Ty.list==Ty.list):Bool)=true:=rfl
@[simp] theorem ty_list_str:((Ty.list==Ty.str):Bool)=false:=rfl
@[simp] theorem ty_list_dict:((Ty.list==Ty.dict):Bool)=false:=rfl
@[simp] theorem ty_str_int:((Ty.str==Ty.int):Bool)=false:=rfl
@[simp] theorem ty_str_bool:((Ty.str==Ty.bool):Bool)=false:=rfl
@[simp] theorem ty_str_tuple:((Ty.str==Ty.tuple):Bool)=false:=rfl
@[simp] theorem ty_str_list:((Ty.str==Ty.list):Bool)=false:=rfl
@[simp] theorem ty_str_str:((Ty.str==Ty.str):Bool)=true:=rfl
@[simp] theorem ty_str_dict:((Ty.str==Ty.dict):Bool)=false:=rfl
@[simp] theorem ty_dict_int:((Ty.dict==Ty.int):Bool)=false:=rfl
@[simp] theorem ty_dict_bool:((Ty.dict==Ty.bool):Bool)=false:=rfl
@[simp] theorem ty_dict_tuple:((Ty.dict==Ty.tuple):Bool)=false:=rfl
@[simp] theorem ty_dict_list:((Ty.dict==Ty.list):Bool)=false:=rfl
@[simp] theorem ty_dict_str:((Ty.dict==Ty.str):Bool)=false:=rfl
@[simp] theorem ty_dict_dict:((Ty.dict==Ty.dict):Bool)=true:=rfl
@[simp] theorem isi_non {t:Ty} {h:VH}:tyIs t h .non=some false:=rfl
@[simp] theorem isi_bl {t:Ty} {h:VH} {b:Bool}:tyIs t h (.bl b)=some (t == .int||t == .bool):=rfl
@[simp] theorem isi_int {t:Ty} {h:VH} {i:Int}:tyIs t h (.int i)=some (t == .int):=rfl
@[simp] theorem isi_str {t:Ty} {h:VH} {x:Str}:tyIs t h (.str x)=some (t == .str):=rfl
@[simp] theorem isi_tup {t:Ty} {h:VH} {x:List W}:tyIs t h (.tup x)=some (t == .tuple):=rfl
@[simp] theorem get_lo {h:VH} {l i:Nat}:VH.get ⟨h.n,l,h.os⟩ i=h.get i:=by unfold VH.get;rfl
@[simp] theorem tru_bl {h:VH} {b:Bool}:truW h (.bl b)=some b:=rfl
noncomputable def forL(tg:W->VH->En->Option En)(b:FS):List W->En->VH->Res Fl
 |[],ρ,h=>.ok (.nx ρ) h
 |w::r,ρ,h=>match tg w h ρ with
  |none=>.no
  |some ρ=>(b ρ h).bind λfl h=>match fl with
   |.nx ρ=>forL tg b r ρ h
   |.ct ρ=>forL tg b r ρ h
   |.bk ρ=>.ok (.nx ρ) h
   |.rt w=>.ok (.rt w) h
noncomputable def lcL(tg:W->VH->En->Option En)(c e:FE):List W->En->VH->Res (List W)
 |[],_,h=>.ok [] h
 |w::r,ρ,h=>match tg w h ρ with
  |none=>.no
  |some ρ=>(c ρ h).bind λb h=>match b with
   |.bl true=>(e ρ h).bind λy h=>(lcL tg c e r ρ h).bind λys h=>.ok (y::ys) h
   |.bl false=>lcL tg c e r ρ h
   |_=>.no
theorem bind_assoc{α β γ:Type}{r:Res α}{f:α->VH->Res β}{g:β->VH->Res γ}:(r.bind f).bind g=r.bind λa h=>(f a h).bind g:=by cases r<;>rfl
theorem zcy{nx:Nat->VH->Option (Option W)}{tg:W->VH->En->Option En}{b:FS}{ws:List W}(hx:∀i h,nx i h=some ws[i]?):∀(fu i:Nat) (ρ:En) (h:VH),i<=ws.length->ws.length<fu+i->forG nx tg b fu i ρ h=forL tg b (ws.drop i) ρ h
 |0,i,ρ,h,hi,hl=>by omega
 |fu+1,i,ρ,h,hi,hl=>by
  simp only[forG,hx]
  cases q:ws[i]? with
  |none=>
   rw[vcl (vbc.mp q)]
   rfl
  |some w=>
   obtain⟨hi,e⟩:=van.mp q
   rw[vcg hi,e]
   simp only[forL]
   cases tg w h ρ with
   |none=>rfl
   |some ρ'=>
    simp only
    congr 1
    funext fl h1
    cases fl<;>simp only[zcy hx fu (i+1) _ _ hi (by omega)]
theorem zdw{nx:Nat->VH->Option (Option W)}{tg:W->VH->En->Option En}{c e:FE}{ws:List W}(hx:∀i h,nx i h=some ws[i]?):∀(fu i:Nat) (ρ:En) (h:VH) (acc:List W),i<=ws.length->ws.length<fu+i->
 lcG nx tg c e fu i ρ h acc=(lcL tg c e (ws.drop i) ρ h).bind λys h=>.ok (acc.reverse++ys) h
 |0,i,ρ,h,acc,hi,hl=>by omega
 |fu+1,i,ρ,h,acc,hi,hl=>by
  simp only[lcG,hx]
  cases q:ws[i]? with
  |none=>
   rw[vcl (vbc.mp q)]
   simp[lcL]
  |some w=>
   obtain⟨hi,ee⟩:=van.mp q
   rw[vcg hi,ee]
   simp only[lcL]
   cases tg w h ρ with
   |none=>rfl
   |some ρ'=>
    simp only[bind_assoc]
    congr 1
    funext bv h1
    cases bv<;>try rfl
    rename_i bb
    cases bb with
    |true=>
     simp only[bind_assoc]
     congr 1
     funext y h2
     rw[zdw hx fu (i+1) _ _ _ hi (by omega)]
     congr 1
     funext ys h3
     simp
    |false=>simp only[zdw hx fu (i+1) _ _ _ hi (by omega)]
theorem zgk{ws:List W}{tg:W->VH->En->Option En}{b:FS}{ρ:En}{h:VH}(hl:ws.length<1000000):forG (nxt .seq (.tup ws)) tg b fuel 0 ρ h=forL tg b ws ρ h:=by
 have:=zcy (nx:=nxt .seq (.tup ws)) (tg:=tg) (b:=b) (ws:=ws) (λi h=>rfl) fuel 0 ρ h (va9 _) (by simpa[fuel]using hl)
 simpa using this
noncomputable def enumW:Nat->List W->List W
 |_,[]=>[]
 |i,w::r=>.tup [.int i,w]::enumW (i+1) r
theorem zhj:∀(ws:List W) (i j:Nat),(enumW j ws)[i]?=(ws[i]?).map λw=>.tup [.int ((j+i:Nat):Int),w]
 |[],i,j=>by simp[enumW]
 |w::r,0,j=>by simp[enumW]
 |w::r,i+1,j=>by
  simp only[enumW,vb7]
  rw[zhj r i (j+1)]
  congr 1
  funext w
  rw[show j+1+i=j+ (i+1) by omega]
theorem zhk:∀(ws:List W) (j:Nat),(enumW j ws).length=ws.length
 |[],_=>rfl
 |_::r,j=>by simp[enumW,zhk r]
theorem zdx{ws:List W}{tg:W->VH->En->Option En}{b:FS}{ρ:En}{h:VH}(hl:ws.length<1000000):forG (nxt .enm (.tup ws)) tg b fuel 0 ρ h=forL tg b (enumW 0 ws) ρ h:=by
 have:=zcy (nx:=nxt .enm (.tup ws)) (tg:=tg) (b:=b) (ws:=enumW 0 ws) (λi h=>by rw[zhj];simp[nxt,seqW]) fuel 0 ρ h (va9 _) (by simpa[fuel,zhk]using hl)
 simpa using this
noncomputable def zav(a:Int):Nat->List W
 |0=>[]
 |n+1=>.int a::zav (a+1) n
theorem zch:∀(n i:Nat) (a:Int),(zav a n)[i]?=if i<n then some (.int (a+i))else none
 |0,i,a=>by simp[zav]
 |n+1,0,a=>by simp[zav]
 |n+1,i+1,a=>by
  simp only[zav,vb7]
  rw[zch n i (a+1)]
  by_cases q:i<n
  .rw[if_pos q,if_pos (by omega)]
   congr 2
   push_cast
   omega
  .rw[if_neg q,if_neg (by omega)]
theorem zci:∀(n:Nat) (a:Int),(zav a n).length=n
 |0,_=>rfl
 |n+1,a=>by simp[zav,zci n]
theorem zm5{n:Nat}{tg:W->VH->En->Option En}{b:FS}{ρ:En}{h:VH}(hl:n<1000000):forG (nxt .rng1 (.tup [.int n])) tg b fuel 0 ρ h=forL tg b (zav 0 n) ρ h:=by
 have hf:fits (n:Int)=true:=by simp[fits];omega
 have:=zcy (nx:=nxt .rng1 (.tup [.int n])) (tg:=tg) (b:=b) (ws:=zav 0 n) (λi h=>by rw[zch];simp[nxt,hf]) fuel 0 ρ h (va9 _) (by simpa[fuel,zci]using hl)
 simpa using this
theorem zwg{n:Nat}{tg:W->VH->En->Option En}{c e:FE}{ρ:En}{h:VH}(hl:n<1000000):lcG (nxt .rng1 (.tup [.int n])) tg c e fuel 0 ρ h []=lcL tg c e (zav 0 n) ρ h:=by
 have hf:fits (n:Int)=true:=by simp[fits];omega
 have:=zdw (nx:=nxt .rng1 (.tup [.int n])) (tg:=tg) (c:=c) (e:=e) (ws:=zav 0 n) (λi h=>by rw[zch];simp[nxt,hf]) fuel 0 ρ h [] (va9 _) (by simpa[fuel,zci]using hl)
 rw[this]
 simp only[vdf,List.reverse_nil,vcj]
 cases lcL tg c e (zav 0 n) ρ h<;>rfl
noncomputable def isInt:W->Bool
 |.int _=>true
 |_=>false
noncomputable def Kn(h:VH)(w:W):Prop:=tyIs .int h w≠none
theorem kn_lo{h:VH}{l:Nat}{w:W}:Kn ⟨h.n,l,h.os⟩ w↔Kn h w:=by
 unfold Kn
 cases w<;>simp[tyIs]
structure CoreA(F:Nat->Option Fn):Prop where
 f0:F 0=some fn0
 f1:F 1=some fn1
 f6:F 6=some fn6
 f7:F 7=some fn7
section
variable{F:Nat->Option Fn}(C:CoreA F)
include C
theorem zpa{k:Nat}{h:VH}{w:W}(hw:Kn h w):run F (k+1) 0 [w] h=.ok (.bl (isInt w)) h:=by
 rw[zan C.f0 rfl]
 cases w<;>try(simp[fn0,exs,ev,isInt,zak];done)
 .exact absurd rfl hw
 .rename_i i
  unfold Kn at hw
  simp only[tyIs]at hw
  cases g:h.get i with
  |none=>rw[g]at hw;exact absurd rfl hw
  |some o=>cases o<;>first|(simp[fn0,exs,ev,isInt,zak,tyIs,g];done)|(simp[g]at hw)
noncomputable def within(w:W)(lo hi:Int):Bool:=match w with
 |.int i=>decide (lo<=i)&&decide (i<=hi)
 |_=>false
theorem zao{k:Nat}{h:VH}{w:W}{lo hi:Int}(hw:Kn h w):run F (k+2) 1 [w,.int lo,.int hi] h=.ok (.bl (within w lo hi)) h:=by
 rw[zan C.f1 rfl]
 have e:=zpa C (k:=k) (h:=⟨h.n,h.n,h.os⟩) (w:=w) (kn_lo.mpr hw)
 cases w<;>simp[fn1,exs,ev,e,isInt,within,zak,cmpW,cmpI]
 rename_i i
 by_cases h1:lo<=i<;>simp[h1,zak]
noncomputable def zar(w:W)(lo hi:Int):Bool:=match w with
 |.tup ws=>decide (lo<=ws.length)&&decide ((ws.length:Int)<=hi)
 |_=>false
theorem zap{k:Nat}{h:VH}{w:W}{lo hi:Int}(hw:Kn h w):run F (k+1) 6 [w,.int lo,.int hi] h=.ok (.bl (zar w lo hi)) h:=by
 rw[zan C.f6 rfl]
 cases w<;>try(simp[fn6,exs,ev,zar,zak];done)
 .rename_i ws
  simp[fn6,exs,ev,zar,zak,cmpW,cmpI,biW,lenW,seqW]
  by_cases h1:lo<=ws.length<;>simp[h1,zak]
 .exact absurd rfl hw
 .rename_i i
  unfold Kn at hw
  simp only[tyIs]at hw
  cases g:h.get i with
  |none=>rw[g]at hw;exact absurd rfl hw
  |some o=>cases o<;>first|(simp[fn6,exs,ev,zar,zak,tyIs,g];done)|(simp[g]at hw)
theorem loop7{k:Nat}{h:VH}{t a b:W}{lo hi:Int}:∀(ws:List W) (x:Option W),(∀w∈ws,Kn h w)->∃y,forL (tgW (.one 5)) (exs (run F (k+2)) zjh) ws [some t,some a,some b,some (.int lo),some (.int hi),x] h =
 if ws.all (within · lo hi)then .ok (.nx [some t,some a,some b,some (.int lo),some (.int hi),y]) h else .ok (.rt (.bl false)) h
 |[],x,_=>⟨x,by simp[forL]⟩
 |w::r,x,hk=>by
  obtain⟨y,e⟩:=loop7 (t:=t) (a:=a) (b:=b) (k:=k) (lo:=lo) (hi:=hi) r (some w) λz hz=>hk z (vao _ hz)
  refine⟨y,?_⟩
  have e1:=zao C (k:=k) (lo:=lo) (hi:=hi) (hk w vaw)
  have eb:exs (run F (k+2)) zjh [some t,some a,some b,some (.int lo),some (.int hi),some w] h=if within w lo hi then .ok (.nx [some t,some a,some b,some (.int lo),some (.int hi),some w]) h else .ok (.rt (.bl false)) h:=by
   cases q:within w lo hi<;>simp[zjh,exs,ev,e1,q]
  simp only[forL,tgW,List.set,eb]
  cases q:within w lo hi<;>simp[q,e]
noncomputable def zay(w:W)(a b lo hi:Int):Bool:=match w with
 |.tup ws=>zar w a b&&ws.all (within · lo hi)
 |_=>false
theorem zbw{k:Nat}{h:VH}{w:W}{a b lo hi:Int}(hw:Kn h w)(hp:∀ws,w=.tup ws->ws.length<1000000/\∀x∈ws,Kn h x):run F (k+3) 7 [w,.int a,.int b,.int lo,.int hi] h=.ok (.bl (zay w a b lo hi)) h:=by
 rw[zan C.f7 rfl]
 have e1:=zap C (k:=k+1) (h:=⟨h.n,h.n,h.os⟩) (w:=w) (lo:=a) (hi:=b) (kn_lo.mpr hw)
 cases q:zar w a b with
 |false=>
  have:zay w a b lo hi=false:=by cases w<;>simp[zay,q]
  simp[fn7,exs,ev,e1,q,this,zak]
 |true=>
  cases w<;>try(simp[zar]at q;done)
  rename_i ws
  obtain⟨hl,hk⟩:=hp ws rfl
  obtain⟨y,e2⟩:=loop7 C (k:=k) (h:=⟨h.n,h.n,h.os⟩) (t:=.tup ws) (a:=.int a) (b:=.int b) (lo:=lo) (hi:=hi) ws none λx hx=>kn_lo.mpr (hk x hx)
  have e3:zay (.tup ws) a b lo hi=ws.all (within · lo hi):=by simp[zay,q]
  rw[e3]
  cases q2:ws.all (within · lo hi)with
  |true=>simp[fn7,exs,ev,e1,q,zgk hl,e2,q2,zak]
  |false=>simp[fn7,exs,ev,e1,q,zgk hl,e2,q2,zak]
end
noncomputable def zbb:Nat->W->Bool
 |0,_=>false
 |n+1,w=>match w with
  |.non=>true
  |.bl _=>true
  |.int _=>true
  |.str x=>PyData.strOk x
  |.tup ws=>ws.all (zbb n)
  |_=>false
theorem zjk{f:W->Option PyData}{p:W->Bool}{n:Nat}(h:∀w,p w=true->∃d,f w=some d/\d.canLay0=true/\d.depth<=n):∀ws:List W,ws.all p=true->∃ds,mapO f ws=some ds/\PyData.canLayAll0 ds=true/\PyData.depthAll ds<=n
 |[],_=>⟨[],rfl,rfl,va9 _⟩
 |w::r,e=>by
  rw[vbn,vaa]at e
  obtain⟨d,h1,h2,h3⟩:=h w e.1
  obtain⟨ds,h4,h5,h6⟩:=zjk h r e.2
  refine⟨d::ds,by simp[mapO,h1,h4],?_,?_⟩
  .show(d.canLay0&&PyData.canLayAll0 ds)=true
   rw[h2,h5];rfl
  .show max d.depth (PyData.depthAll ds)<=n
   omega
theorem zcz(h:VH):∀(n:Nat) (w:W),zbb n w=true->∃d,toD h n w=some d/\d.canLay0=true/\d.depth<=n
 |0,_,e=>by cases e
 |n+1,w,e=>by
  cases w<;>simp only[zbb]at e<;>try(cases e;done)
  .exact⟨.none,rfl,rfl,va9 _⟩
  .exact⟨.bool _,rfl,rfl,va9 _⟩
  .exact⟨.int _,rfl,rfl,va9 _⟩
  .exact⟨.str _,rfl,e,va9 _⟩
  .obtain⟨ds,h1,h2,h3⟩:=zjk (zcz h n) _ e
   exact⟨.tuple ds,by simp[toD,h1],h2,by show PyData.depthAll ds+1<=n+1;omega⟩
mutual
theorem zjl:∀d:PyData,d.canLay0=true->PyData.eqv d d=true
 |.none,_=>rfl
 |.bool b,_=>by simp[PyData.eqv]
 |.int i,_=>by simp[PyData.eqv]
 |.str x,_=>by simp[PyData.eqv]
 |.list xs,h=>by
  simp only[PyData.eqv]
  exact zb1 xs h
 |.tuple xs,h=>by
  simp only[PyData.eqv]
  exact zb1 xs h
 |.dict _,h=>by cases h
theorem zb1:∀ds:List PyData,PyData.canLayAll0 ds=true->PyData.eqvAll ds ds=true
 |[],_=>rfl
 |d::ds,h=>by
  have h:(d.canLay0&&PyData.canLayAll0 ds)=true:=h
  rw[vaa]at h
  simp only[PyData.eqvAll,zjl d h.1,zb1 ds h.2,vef]
end
theorem zpb{h:VH}{w:W}(p:zbb 24 w=true):eqW h w w=some true:=by
 obtain⟨d,h1,h2,h3⟩:=zcz h 24 w p
 have hs:SeqAt.shaped d=true:=by
  unfold SeqAt.shaped
  rw[h2,vd4,vax];omega
 unfold eqW
 rw[h1]
 simp[hs,zjl d h2]
noncomputable def isS(w:W)(x:Str):Bool:=match w with
 |.str y=>y==x
 |_=>false
theorem zdi{h:VH}{w:W}{x:Str}(p:zbb 24 w=true)(hx:PyData.strOk x=true):eqW h w (.str x)=some (isS w x):=by
 obtain⟨d,h1,h2,h3⟩:=zcz h 24 w p
 have hs:SeqAt.shaped d=true:=by
  unfold SeqAt.shaped
  rw[h2,vd4,vax];omega
 have hs2:SeqAt.shaped (.str x)=true:=by
  unfold SeqAt.shaped
  show(PyData.strOk x&&_)=true
  rw[hx];rfl
 unfold eqW
 rw[h1]
 have h4:toD h 24 (.str x)=some (.str x):=rfl
 rw[h4]
 simp only[hs,hs2,vef,vbd]
 cases w<;>simp only[toD]at h1<;>try(cases h1;done)
 .cases h1;simp[isS,PyData.eqv]
 .cases h1;simp[isS,PyData.eqv]
 .cases h1;simp[isS,PyData.eqv]
 .cases h1;simp[isS,PyData.eqv]
 .obtain⟨ds,h5,h6⟩:=vck.mp h1
  subst h6
  simp[isS,PyData.eqv]
 .simp[zbb]at p
 .simp[zbb]at p
theorem zm6{n:Nat}{ws:List W}:zbb (n+1) (.tup ws)=ws.all (zbb n):=rfl
theorem zgl{h:VH}{n:Nat}{w:W}(p:zbb n w=true):Kn h w:=by
 unfold Kn
 cases n with
 |zero=>cases p
 |succ n=>cases w<;>simp[zbb,tyIs]at p ⊢
structure CoreB(F:Nat->Option Fn):Prop extends CoreA F where
 f8:F 8=some fn8
 f9:F 9=some fn9
 f10:F 10=some fn10
 f11:F 11=some fn11
 f12:F 12=some fn12
 f13:F 13=some fn13
 f14:F 14=some fn14
 f15:F 15=some fn15
theorem zm7:isNon .non=true:=rfl
noncomputable def fon(w:W)(n:Int):Bool:=isNon w||within w 0 (n-1)
noncomputable def door(w:W)(n:Int):Bool:=match w with
 |.tup [a,b]=>within a 0 99&&fon b n
 |_=>false
noncomputable def zcd(w:W)(g:Int):Bool:=match w with
 |.tup [a,b]=>within a 0 (g-1)&&within b 0 1
 |_=>false
noncomputable def zal(w:W)(c wd g:Int):Bool:=
 if isS w "x" || zcd w g then decide (0<c)&&decide (c<wd-1)else if isS w "<"then decide (0<c)else if isS w ">"then decide (c<wd-1)else isS w "." || isS w "s"
section
variable{F:Nat->Option Fn}(C:CoreB F)
include C
theorem zbx{k:Nat}{h:VH}{w:W}{n:Int}(hw:Kn h w):run F (k+3) 12 [w,.int n] h=.ok (.bl (fon w n)) h:=by
 rw[zan C.f12 rfl]
 have e:=zao C.toCoreA (k:=k) (h:=⟨h.n,h.n,h.os⟩) (w:=w) (lo:=0) (hi:=n-1) (kn_lo.mpr hw)
 cases q:isNon w<;>simp[fn12,exs,ev,e,cmpW,zm7,q,fon,zak,opW,opI]
theorem zsp{k:Nat}{h:VH}{w:W}{n:Int}(hw:Kn h w)(hp:∀a b,w=.tup [a,b]->Kn h a/\Kn h b):run F (k+4) 11 [w,.int n] h=.ok (.bl (door w n)) h:=by
 rw[zan C.f11 rfl]
 have e1:=zap C.toCoreA (k:=k+2) (h:=⟨h.n,h.n,h.os⟩) (w:=w) (lo:=2) (hi:=2) (kn_lo.mpr hw)
 cases q:zar w 2 2 with
 |false=>
  have:door w n=false:=by
   cases w<;>simp[door]
   rename_i ws
   rcases ws with _|⟨a,_|⟨b,_|_⟩⟩<;>simp[zar]at q ⊢
  simp[fn11,exs,ev,e1,q,this,zak]
 |true=>
  cases w<;>try(simp[zar]at q;done)
  rename_i ws
  have hl:ws.length=2:=by simp[zar]at q;omega
  rcases ws with _|⟨a,_|⟨b,_|_⟩⟩<;>simp at hl
  obtain⟨ka,kb⟩:=hp a b rfl
  have e2:=zao C.toCoreA (k:=k+1) (h:=⟨h.n,h.n,h.os⟩) (w:=a) (lo:=0) (hi:=99) (kn_lo.mpr ka)
  have e3:=zbx C (k:=k) (h:=⟨h.n,h.n,h.os⟩) (w:=b) (n:=n) (kn_lo.mpr kb)
  cases q2:within a 0 99<;>simp[fn11,exs,ev,e1,q,e2,e3,q2,door,zak,tgW,seqW,zbs]
theorem zm8{k:Nat}{h:VH}{w:W}{n:Int}(hw:Kn h w)(hp:∀a b,w=.tup [a,b]->Kn h a/\Kn h b):run F (k+3) 13 [w,.int n] h=.ok (.bl (zcd w n)) h:=by
 rw[zan C.f13 rfl]
 have e1:=zap C.toCoreA (k:=k+1) (h:=⟨h.n,h.n,h.os⟩) (w:=w) (lo:=2) (hi:=2) (kn_lo.mpr hw)
 cases q:zar w 2 2 with
 |false=>
  have:zcd w n=false:=by
   cases w<;>simp[zcd]
   rename_i ws
   rcases ws with _|⟨a,_|⟨b,_|_⟩⟩<;>simp[zar]at q ⊢
  simp[fn13,exs,ev,e1,q,this,zak]
 |true=>
  cases w<;>try(simp[zar]at q;done)
  rename_i ws
  have hl:ws.length=2:=by simp[zar]at q;omega
  rcases ws with _|⟨a,_|⟨b,_|_⟩⟩<;>simp at hl
  obtain⟨ka,kb⟩:=hp a b rfl
  have e2:=zao C.toCoreA (k:=k) (h:=⟨h.n,h.n,h.os⟩) (w:=a) (lo:=0) (hi:=n-1) (kn_lo.mpr ka)
  have e3:=zao C.toCoreA (k:=k) (h:=⟨h.n,h.n,h.os⟩) (w:=b) (lo:=0) (hi:=1) (kn_lo.mpr kb)
  cases q2:within a 0 (n-1)<;>simp[fn13,exs,ev,e1,q,e2,e3,q2,zcd,zak,tgW,seqW,zbs,opW,opI]
theorem zhl{k:Nat}{h:VH}{w:W}{c wd g:Int}(p:zbb 24 w=true):run F (k+4) 15 [w,.int c,.int wd,.int g] h=.ok (.bl (zal w c wd g)) h:=by
 rw[zan C.f15 rfl]
 have hp:∀a b,w=.tup [a,b]->Kn ⟨h.n,h.n,h.os⟩ a/\Kn ⟨h.n,h.n,h.os⟩ b:=λa b e=>by
  subst e
  have p:zbb (23+1) (.tup [a,b])=true:=p
  rw[zm6,vbn,vbn,vaa,vaa]at p
  exact⟨zgl p.1,zgl p.2.1⟩
 have e1:=zm8 C (k:=k) (h:=⟨h.n,h.n,h.os⟩) (w:=w) (n:=g) (zgl p) hp
 have sx:=zdi (h:=⟨h.n,h.n,h.os⟩) (x:=Str.ofString "x") p (by decide +kernel)
 have sl:=zdi (h:=⟨h.n,h.n,h.os⟩) (x:=Str.ofString "<") p (by decide +kernel)
 have sg:=zdi (h:=⟨h.n,h.n,h.os⟩) (x:=Str.ofString ">") p (by decide +kernel)
 have sd:=zdi (h:=⟨h.n,h.n,h.os⟩) (x:=Str.ofString ".") p (by decide +kernel)
 have ss:=zdi (h:=⟨h.n,h.n,h.os⟩) (x:=Str.ofString "s") p (by decide +kernel)
 unfold zal
 cases q1:isS w (Str.ofString "x")<;>cases q2:zcd w g<;>cases q3:isS w (Str.ofString "<")<;>cases q4:isS w (Str.ofString ">")<;>cases q5:isS w (Str.ofString ".")<;>by_cases h1:0<c<;>
  simp[fn15,exs,ev,cmpW,cmpI,sx,sl,sg,sd,ss,e1,opW,opI,q1,q2,q3,q4,q5,h1,zak]
theorem zcp{k:Nat}{h:VH}{t a:W}{n:Int}:∀(ws:List W) (x:Option W),(∀w∈ws,Kn h w/\∀a b,w=.tup [a,b]->Kn h a/\Kn h b)->∃y,forL (tgW (.one 3)) (exs (run F (k+4)) zji) ws [some t,some a,some (.int n),x] h =
 if ws.all (door · n)then .ok (.nx [some t,some a,some (.int n),y]) h else .ok (.rt (.bl false)) h
 |[],x,_=>⟨x,by simp[forL]⟩
 |w::r,x,hk=>by
  obtain⟨y,e⟩:=zcp (t:=t) (a:=a) (k:=k) (n:=n) r (some w) λz hz=>hk z (vao _ hz)
  refine⟨y,?_⟩
  obtain⟨k1,k2⟩:=hk w vaw
  have e1:=zsp C (k:=k) (n:=n) k1 k2
  have eb:exs (run F (k+4)) zji [some t,some a,some (.int n),some w] h=if door w n then .ok (.nx [some t,some a,some (.int n),some w]) h else .ok (.rt (.bl false)) h:=by
   cases q:door w n<;>simp[zji,exs,ev,e1,q]
  simp only[forL,tgW,List.set,eb]
  cases q:door w n<;>simp[q,e]
theorem zm9{k:Nat}{h:VH}{ws:List W}{wd n:Int}(hl:ws.length=wd)(hz:ws.length<1000000)(hd:∀w∈ws,door w n=true):run F (k+5) 8 [.tup ws,.int wd,.int n] h=.ok (.bl true) h:=by
 rw[zan C.f8 rfl]
 have e1:=zap C.toCoreA (k:=k+3) (h:=⟨h.n,h.n,h.os⟩) (w:=.tup ws) (lo:=wd) (hi:=wd) (by unfold Kn;simp)
 have q:zar (.tup ws) wd wd=true:=by simp[zar,hl]
 have kn:∀w∈ws,Kn ⟨h.n,h.n,h.os⟩ w/\∀a b,w=.tup [a,b]->Kn ⟨h.n,h.n,h.os⟩ a/\Kn ⟨h.n,h.n,h.os⟩ b:=λw hw=>by
  have:=hd w hw
  cases w<;>simp only[door]at this<;>try(cases this;done)
  rename_i us
  refine⟨by unfold Kn;simp,λa b e=>?_⟩
  cases e
  simp only[vaa]at this
  obtain⟨h1,h2⟩:=this
  refine⟨?_,?_⟩
  .cases a<;>simp[within]at h1
   unfold Kn;simp
  .unfold fon at h2
   cases b<;>simp[within,isNon]at h2
   .unfold Kn;simp
   .unfold Kn;simp
 obtain⟨y,e2⟩:=zcp C (k:=k) (h:=⟨h.n,h.n,h.os⟩) (t:=.tup ws) (a:=.int wd) (n:=n) ws none kn
 have ha:ws.all (door · n)=true:=vbr.mpr hd
 simp[fn8,exs,ev,e1,q,zgk hz,e2,ha,zak]
theorem zc0{k:Nat}{h:VH}{t:W}{wd:Int}:∀(ws:List W) (x:Option W),(∀w∈ws,∃us,w=.tup us/\us.length=wd)->∃y,forL (tgW (.one 2)) (exs (run F (k+1)) zjj) ws [some t,some (.int wd),x] h=.ok (.nx [some t,some (.int wd),y]) h
 |[],x,_=>⟨x,by simp[forL]⟩
 |w::r,x,hk=>by
  obtain⟨y,e⟩:=zc0 (h:=h) (t:=t) (k:=k) (wd:=wd) r (some w) λz hz=>hk z (vao _ hz)
  refine⟨y,?_⟩
  obtain⟨us,rfl,hl⟩:=hk w vaw
  have e1:=zap C.toCoreA (k:=k) (h:=h) (w:=.tup us) (lo:=wd) (hi:=wd) (by unfold Kn;simp)
  have q:zar (.tup us) wd wd=true:=by simp[zar,hl]
  have eb:exs (run F (k+1)) zjj [some t,some (.int wd),some (.tup us)] h=.ok (.nx [some t,some (.int wd),some (.tup us)]) h:=by
   simp[zjj,exs,ev,e1,q]
  simp only[forL,tgW,List.set,eb,bindok,e]
theorem zpc{k:Nat}{h:VH}{ws:List W}{wd:Int}(hl:ws.length<=60)(hd:∀w∈ws,∃us,w=.tup us/\us.length=wd):run F (k+2) 9 [.tup ws,.int wd] h=.ok (.bl true) h:=by
 rw[zan C.f9 rfl]
 have e1:=zap C.toCoreA (k:=k) (h:=⟨h.n,h.n,h.os⟩) (w:=.tup ws) (lo:=0) (hi:=60) (by unfold Kn;simp)
 have q:zar (.tup ws) 0 60=true:=by simp[zar];omega
 obtain⟨y,e2⟩:=zc0 C (k:=k) (h:=⟨h.n,h.n,h.os⟩) (t:=.tup ws) (wd:=wd) ws none hd
 simp[fn9,exs,ev,e1,q,zgk (show ws.length<1000000 by omega),e2,zak]
end
structure Bd where
 wd:Int
 gr:Int
 rows:List (List W)
 fd:List W
 dr:List W
noncomputable def Bd.w(B:Bd):W:=.tup [.int B.wd,.int B.gr,.tup (B.rows.map .tup),.tup B.fd,.tup B.dr]
noncomputable def rowOk(wd g:Int):Int->List W->Prop
 |_,[]=>True
 |c,w::r=>zal w c wd g=true/\rowOk wd g (c+1) r
structure Bd.Ok(B:Bd):Prop where
 w1:1<=B.wd
 w2:B.wd<=40
 g1:0<=B.gr
 g2:B.gr<=8
 r1:B.rows.length<=60
 r2:∀r∈B.rows,(r.length:Int)=B.wd/\rowOk B.wd B.gr 0 r
 f1:1<=B.fd.length
 f2:B.fd.length<=4
 f3:∀f∈B.fd,within f 0 (B.wd-1)=true
 d1:(B.dr.length:Int)=B.wd
 d2:∀d∈B.dr,door d B.fd.length=true
structure Bd.Ok0(B:Bd):Prop where
 w1:1<=B.wd
 w2:B.wd<=40
 g1:0<=B.gr
 g2:B.gr<=8
 r1:B.rows.length<=60
 r2:∀r∈B.rows,(r.length:Int)=B.wd
 f1:1<=B.fd.length
 f2:B.fd.length<=4
 f3:∀f∈B.fd,within f 0 (B.wd-1)=true
 d1:(B.dr.length:Int)=B.wd
 d2:∀d∈B.dr,door d B.fd.length=true
theorem Bd.Ok.ok0{B:Bd}(b:B.Ok):B.Ok0:=⟨b.w1,b.w2,b.g1,b.g2,b.r1,λr hr=>(b.r2 r hr).1,b.f1,b.f2,b.f3,b.d1,b.d2⟩
theorem zhm{w:W}{g:Int}(h:zcd w g=true)(n:Nat):zbb (n+2) w=true:=by
 cases w<;>simp only[zcd]at h<;>try(cases h;done)
 rename_i us
 rcases us with _|⟨a,_|⟨b,_|_⟩⟩<;>simp at h
 obtain⟨h1,h2⟩:=h
 cases a<;>simp[within]at h1
 cases b<;>simp[within]at h2
 rfl
theorem zwh{w:W}{x:Str}(h:isS w x=true):w=.str x:=by
 cases w<;>simp[isS]at h
 rw[h]
theorem ze0{w:W}{c wd g:Int}(h:zal w c wd g=true)(n:Nat):zbb (n+2) w=true:=by
 have st:∀x:Str,PyData.strOk x=true->isS w x=true->zbb (n+2) w=true:=λx hx e=>by rw[zwh e];exact hx
 unfold zal at h
 split at h
 .rename_i q
  rw[vcu]at q
  rcases q with q|q
  .exact st _ (by decide +kernel) q
  .exact zhm q n
 .split at h
  .rename_i q;exact st _ (by decide +kernel) q
  .split at h
   .rename_i q;exact st _ (by decide +kernel) q
   .rw[vcu]at h
    rcases h with q|q
    .exact st _ (by decide +kernel) q
    .exact st _ (by decide +kernel) q
section
variable{F:Nat->Option Fn}(C:CoreB F)
include C
theorem zhn{k:Nat}{h:VH}{B:Bd}(b:B.Ok0):run F (k+6) 10 [B.w] h=.ok (.bl true) h:=by
 rw[zan C.f10 rfl]
 have e1:=zap C.toCoreA (k:=k+4) (h:=⟨h.n,h.n,h.os⟩) (w:=B.w) (lo:=5) (hi:=5) (by unfold Kn Bd.w;simp)
 have q1:zar B.w 5 5=true:=by simp[zar,Bd.w]
 have e2:=zao C.toCoreA (k:=k+3) (h:=⟨h.n,h.n,h.os⟩) (w:=.int B.wd) (lo:=1) (hi:=40) (by unfold Kn;simp)
 have q2:within (.int B.wd) 1 40=true:=by simp[within,b.w1,b.w2]
 have e3:=zao C.toCoreA (k:=k+3) (h:=⟨h.n,h.n,h.os⟩) (w:=.int B.gr) (lo:=0) (hi:=8) (by unfold Kn;simp)
 have q3:within (.int B.gr) 0 8=true:=by simp[within,b.g1,b.g2]
 have kf:∀x∈B.fd,Kn ⟨h.n,h.n,h.os⟩ x:=λx hx=>by
  have:=b.f3 x hx
  cases x<;>simp[within]at this
  unfold Kn;simp
 have hf:=b.f2
 have e4:=zbw C.toCoreA (k:=k+2) (h:=⟨h.n,h.n,h.os⟩) (w:=.tup B.fd) (a:=1) (b:=4) (lo:=0) (hi:=B.wd-1) (by unfold Kn;simp) (λws e=>by cases e;exact⟨by omega,kf⟩)
 have q4:zay (.tup B.fd) 1 4 0 (B.wd-1)=true:=by
  have h1:=b.f1
  simp only[zay,zar,vaa,vax]
  exact⟨⟨by omega,by omega⟩,vbr.mpr b.f3⟩
 have e5:=zpc C (k:=k+3) (h:=⟨h.n,h.n,h.os⟩) (ws:=B.rows.map .tup) (wd:=B.wd) (by rw[vai];exact b.r1) (λw hw=>by
  obtain⟨r,hr,e⟩:=vco.mp hw
  exact⟨r,e.symm,b.r2 r hr⟩)
 have hd:=b.d1
 have h40:=b.w2
 have e6:=zm9 C (k:=k) (h:=⟨h.n,h.n,h.os⟩) (ws:=B.dr) (wd:=B.wd) (n:=B.fd.length) hd (by omega) b.d2
 unfold Bd.w at e1 q1 ⊢
 simp[fn10,exs,ev,e1,q1,e2,q2,e3,q3,e4,q4,e5,e6,zak,tgW,seqW,zbs,opW,opI,biW,lenW]
theorem zpd{k:Nat}{h:VH}{B:Bd}(b:B.Ok):run F (k+6) 10 [B.w] h=.ok (.bl true) h:=zhn C b.ok0
theorem zna{k:Nat}{h:VH}{t rs pl:W}{wd g r0:Int}:∀(ws:List W) (c:Int) (j:Nat) (x y:Option W),c=j->rowOk wd g c ws->∃x' y',forL (tgW (.many [6,7])) (exs (run F (k+4)) zgh) (enumW j ws) [some t,some (.int wd),some (.int g),some rs,some (.int r0),some pl,x,y] h =
 .ok (.nx [some t,some (.int wd),some (.int g),some rs,some (.int r0),some pl,x',y']) h
 |[],c,j,x,y,_,_=>⟨x,y,by simp[forL,enumW]⟩
 |w::r,c,j,x,y,hc,ho=>by
  obtain⟨h1,h2⟩:=ho
  obtain⟨x',y',e⟩:=zna (h:=h) (t:=t) (rs:=rs) (pl:=pl) (k:=k) (wd:=wd) (g:=g) (r0:=r0) r (c+1) (j+1) (some (.int j)) (some w) (by rw[hc];push_cast;rfl) h2
  refine⟨x',y',?_⟩
  have e1:=zhl C (k:=k) (h:=h) (c:=j) (wd:=wd) (g:=g) (ze0 h1 22)
  rw[<-hc,h1]at e1
  have eb:exs (run F (k+4)) zgh [some t,some (.int wd),some (.int g),some rs,some (.int r0),some pl,some (.int j),some w] h=.ok (.nx [some t,some (.int wd),some (.int g),some rs,some (.int r0),some pl,some (.int j),some w]) h:=by
   rw[hc]at e1
   simp[zgh,exs,ev,e1]
  simp only[forL,enumW,tgW,seqW,zbs,List.set,eb,bindok,e]
theorem zjm{k:Nat}{h:VH}{t rs:W}{wd g:Int}:∀(ws:List (List W)) (j:Nat) (x y z u:Option W),(∀r∈ws,(r.length:Int)<1000000/\rowOk wd g 0 r)->∃x' y' z' u',forL (tgW (.many [4,5])) (exs (run F (k+4)) zgi) (enumW j (ws.map .tup)) [some t,some (.int wd),some (.int g),some rs,x,y,z,u] h =
 .ok (.nx [some t,some (.int wd),some (.int g),some rs,x',y',z',u']) h
 |[],j,x,y,z,u,_=>⟨x,y,z,u,by simp[forL,enumW]⟩
 |w::r,j,x,y,z,u,ho=>by
  obtain⟨h1,h2⟩:=ho w vaw
  obtain⟨z1,u1,e1⟩:=zna C (k:=k) (h:=h) (t:=t) (rs:=rs) (pl:=.tup w) (wd:=wd) (g:=g) (r0:=j) w 0 0 z u rfl h2
  obtain⟨x',y',z',u',e⟩:=zjm (h:=h) (t:=t) (rs:=rs) (k:=k) (wd:=wd) (g:=g) r (j+1) (some (.int j)) (some (.tup w)) z1 u1 λq hq=>ho q (vao _ hq)
  refine⟨x',y',z',u',?_⟩
  have eb:exs (run F (k+4)) zgi [some t,some (.int wd),some (.int g),some rs,some (.int j),some (.tup w),z,u] h=.ok (.nx [some t,some (.int wd),some (.int g),some rs,some (.int j),some (.tup w),z1,u1]) h:=by
   simp[zgi,exs,ev,zdx (show w.length<1000000 by omega),e1]
  simp only[forL,va1,enumW,tgW,seqW,zbs,List.set,eb,bindok,e]
theorem zc1{k:Nat}{h:VH}{B:Bd}(b:B.Ok):run F (k+7) 14 [B.w] h=.ok .non h:=by
 rw[zan C.f14 rfl]
 have e1:=zpd C (k:=k) (h:=⟨h.n,h.n,h.os⟩) b
 have h40:=b.w2
 have h60:=b.r1
 obtain⟨x',y',z',u',e2⟩:=zjm C (k:=k+2) (h:=⟨h.n,h.n,h.os⟩) (t:=B.w) (rs:=.tup (B.rows.map .tup)) (wd:=B.wd) (g:=B.gr) B.rows 0 none none none none λr hr=>⟨by have:=(b.r2 r hr).1;omega,(b.r2 r hr).2⟩
 unfold Bd.w at e1 e2 ⊢
 simp[fn14,exs,ev,e1,zwf,tgW,seqW,zbs,partW,cutW,HT.sIx,zdx (show(B.rows.map W.tup).length<1000000 by rw[vai];omega),e2]
end
structure CoreD(F:Nat->Option Fn):Prop where
 f2:F 2=some fn2
 f3:F 3=some fn3
 f4:F 4=some fn4
 f5:F 5=some fn5
theorem zaz{h:VH}{i j:Int}:eqW h (.int i) (.int j)=some (decide (i=j)):=by
 unfold eqW
 simp only[toD]
 show some (i==j)=_
 by_cases q:i=j<;>simp[q]
theorem zdy{i:Int}(h1:-(2 ^ 63)<=i)(h2:i<2 ^ 63):zby i=true:=by
 unfold zby
 simp only[vaa,vax]
 omega
theorem za0{h:VH}{i:Nat}{o o0:VO}(g:h.get i=some o0):(h.set i o).get i=some o:=by
 have hi:=zaq g
 unfold VH.get at g
 rw[if_pos (zax.mpr hi)]at g
 have hl:=(van.mp g).1
 unfold VH.get VH.set
 simp only[if_pos (zax.mpr hi)]
 rw[vbg hl]
theorem zah{h:VH}{i j:Nat}{o o0:VO}(g:h.get i=some o0)(hj:j≠i):(h.set i o).get j=h.get j:=zc8 (zaq g) hj
structure Dk(h:VH)(d c:Nat)(b:Nat):Prop where
 ne:d≠c
 st:∃(ns cells:List Int) (p q:Int),h.get d=some (.lst [.fz (ns.map .int),.ref c,.int p,.int q])/\h.get c=some (.lst (cells.map .int))/\(∀x∈cells,(0:Int)<=x)/\0<=p/\0<=q/\q<=b/\cells.length<=63
theorem Dk.mono{h:VH}{d c b b':Nat}(D:Dk h d c b)(hb:b<=b'):Dk h d c b':=by
 obtain⟨ne,ns,cells,p,q,a1,a2,a3,a4,a5,a6,a7⟩:=D
 exact⟨ne,ns,cells,p,q,a1,a2,a3,a4,a5,by omega,a7⟩
structure Keep(h h':VH)(d c:Nat):Prop where
 le:h.n<=h'.n
 get:∀i o,i≠d->i≠c->h.get i=some o->h'.get i=some o
theorem Keep.refl{h:VH}{d c:Nat}:Keep h h d c:=⟨vac _,λ_ _ _ _ e=>e⟩
theorem Keep.trans{h h1 h2:VH}{d c:Nat}(a:Keep h h1 d c)(b:Keep h1 h2 d c):Keep h h2 d c:=⟨vap a.le b.le,λi o h1 h2 e=>b.get i o h1 h2 (a.get i o h1 h2 e)⟩
theorem zdj(i:Int):(if i<0 then -i else i)=(i.natAbs:Int):=by
 split<;>omega
section
variable{F:Nat->Option Fn}(C:CoreD F)
include C
theorem cell{k:Nat}{h:VH}{ns:List Int}{j:Int}(hj:0<=j):∃r,run F (k+1) 2 [.fz (ns.map .int),.int j] h=.ok (.int r) h/\0<=r:=by
 rw[zan C.f2 rfl]
 cases ns with
 |nil=>
  refine⟨7*j+3,?_,by omega⟩
  simp[fn2,exs,ev,biW,lenW,seqW,cmpW,zaz,opW,opI,zdy,zak]
 |cons n0 ns0=>
  have hl:(0:Int)< ((n0::ns0).length:Int):=by simp only[vam];omega
  have hm1:=vea j (show((n0::ns0).length:Int)≠0 by omega)
  have hm2:=vds j hl
  obtain⟨m,hm⟩:=vbo hm1
  have hml:m< (n0::ns0).length:=by omega
  have ha:atI (List.map W.int (n0::ns0)) (j % ((n0::ns0).length:Int))=some (.int ((n0::ns0)[m])):=by
   rw[hm]
   exact zfu (by rw[vb3,vay hml];rfl)
  have hb:¬(((ns0.length:Int)+1)=0):=by omega
  have hp:(0:Int)< (ns0.length:Int)+1:=by omega
  refine⟨(((n0::ns0)[m]).natAbs:Int),?_,by omega⟩
  simp only[vam,Int.natCast_add,Int.cast_ofNat_Int,va1]at ha
  simp[fn2,exs,ev,biW,lenW,seqW,cmpW,zaz,opW,opI,zak,idxW,absW,hb,hp,ha,zdj]
theorem mixed{k:Nat}{h:VH}{ns:List Int}{j m:Int}(hj:0<=j)(hj2:j<=1000000000)(hm:0<m):∃r,run F (k+2) 4 [.fz (ns.map .int),.int j,.int m] h=.ok (.int r) h/\0<=r/\r<m:=by
 rw[zan C.f4 rfl]
 obtain⟨c,e1,hc⟩:=cell C (k:=k) (h:=⟨h.n,h.n,h.os⟩) (ns:=ns) hj
 have h1:=vea c (show(1000003:Int)≠0 by decide)
 have h2:=vds c (show(0:Int)<1000003 by decide)
 generalize hx:c % 1000003=x at h1 h2
 have s1:zby (x+5)=true:=zdy (by omega) (by omega)
 have s2:zby 7919=true:=zdy (by decide) (by decide)
 have hb:(x+5)* (j+2)<=1000008*1000000002:=Int.mul_le_mul (by omega) (by omega) (by omega) (by omega)
 have hb0:0<=(x+5)* (j+2):=Int.mul_nonneg (by omega) (by omega)
 generalize hy:(x+5)* (j+2)=y at hb hb0
 have hn:(y+7919*j).natAbs<2 ^ 64:=by omega
 refine⟨(y+7919*j) ^ 5 % 2147483647/13 % m,?_,vea _ (by omega),vds _ hm⟩
 have hn':(y+7919*j).natAbs<18446744073709551616:=by omega
 simp[fn4,exs,ev,e1,opW,opI,hx,s1,s2,hy,hn',hm,zak]
theorem zho{k:Nat}{d c:Nat}{m q:Int}{ns:List Int}(hdc:d≠c)(hm:0<m)(hm2:m<1073741824):∀(n f:Nat) (g:VH) (x:Option W) (cells:List Int) (p:Int),n<f->(cells.length:Int)-p<=n->0<=p->(∀y∈cells,(0:Int)<=y)->
 g.get d=some (.lst [.fz (ns.map .int),.ref c,.int p,.int q])->g.get c=some (.lst (cells.map .int))->
 ∃(g':VH) (cells':List Int) (p':Int),0<=p'/\(∀y∈cells',(0:Int)<=y)/\cells'.length=cells.length/\g'.get d=some (.lst [.fz (ns.map .int),.ref c,.int p',.int q])/\g'.get c=some (.lst (cells'.map .int))/\g'.n=g.n/\(∀i,i≠d->i≠c->g'.get i=g.get i)/\
  ((∃r,whlG (ev (run F (k+2)) zhi) (exs (run F (k+2)) zey) f [some (.ref d),some (.int m),x] g=.ok (.rt (.int r)) g'/\0<=r/\r<m)\/∃y,whlG (ev (run F (k+2)) zhi) (exs (run F (k+2)) zey) f [some (.ref d),some (.int m),x] g=.ok (.nx [some (.ref d),some (.int m),y]) g')
 |n,0,g,x,cells,p,hf,_,_,_,_,_=>by omega
 |n,f+1,g,x,cells,p,hf,hn,hp,hnn,gd,gc=>by
  have ec:ev (run F (k+2)) zhi [some (.ref d),some (.int m),x] g=.ok (.bl (decide (p<cells.length))) g:=by
   simp[zhi,ev,idxW,gd,atI,ixN,biW,lenW,seqW,gc,cmpW,cmpI]
  by_cases hlt:p<cells.length
  .obtain⟨pn,rfl⟩:=vbo hp
   have hpl:pn<cells.length:=by omega
   have hat:atI (cells.map W.int) (pn:Int)=some (.int cells[pn]):=zfu (by rw[vb3,vay hpl];rfl)
   by_cases hpos:0<cells[pn]
   .refine⟨g.set c (.lst ((cells.set pn (cells[pn]/m)).map .int)),cells.set pn (cells[pn]/m),pn,hp,?_,by simp,?_,za0 gc,rfl,λi _ hi=>zah gc hi,.inl ⟨cells[pn] % m,?_,vea _ (by omega),vds _ hm⟩⟩
    .intro y hy
     rcases List.mem_or_eq_of_mem_set hy with hy|rfl
     .exact hnn y hy
     .exact Int.ediv_nonneg (by omega) (by omega)
    .rw[zah gc hdc];exact gd
    .have hix:ixN (cells.map W.int).length (pn:Int)=some pn:=by
      unfold ixN
      rw[if_pos (by omega),if_pos (by rw[vai];omega)];simp
     have eb:exs (run F (k+2)) zey [some (.ref d),some (.int m),x] g=.ok (.rt (.int (cells[pn] % m))) (g.set c (.lst ((cells.set pn (cells[pn]/m)).map .int))):=by
      have h2:atI [W.fz (ns.map .int),.ref c,.int pn,.int q] 2=some (.int pn):=rfl
      have h1:atI [W.fz (ns.map .int),.ref c,.int pn,.int q] 1=some (.ref c):=rfl
      simp[zey,exs,ev,idxW,gd,h1,h2,gc,hat,cmpW,cmpI,hpos,opW,opI,hm,hm2]at hix ⊢
      simp[hix,hm,List.map_set]
     simp[whlG,ec,hlt,eb]
   .have gs:(g.set d (.lst [.fz (ns.map .int),.ref c,.int ((pn:Int)+1),.int q])).get c=some (.lst (cells.map .int)):=by rw[zah gd (vcq hdc)];exact gc
    cases n with
    |zero=>omega
    |succ n=>
     obtain⟨g',cells',p',a1,a2,a3,a4,a5,a6,a7,a8⟩:=zho (k:=k) hdc hm hm2 n f (g.set d (.lst [.fz (ns.map .int),.ref c,.int ((pn:Int)+1),.int q])) (some (.int cells[pn])) cells (pn+1) (by omega) (by omega) (by omega) hnn (za0 gd) gs
     have eb:exs (run F (k+2)) zey [some (.ref d),some (.int m),x] g=.ok (.nx [some (.ref d),some (.int m),some (.int cells[pn])]) (g.set d (.lst [.fz (ns.map .int),.ref c,.int ((pn:Int)+1),.int q])):=by
      have h2:atI [W.fz (ns.map .int),.ref c,.int pn,.int q] 2=some (.int pn):=rfl
      have h1:atI [W.fz (ns.map .int),.ref c,.int pn,.int q] 1=some (.ref c):=rfl
      have h3:ixN 4 2=some 2:=rfl
      simp[zey,exs,ev,idxW,gd,h1,h2,h3,gc,hat,cmpW,cmpI,hpos,opW,opI]
     refine⟨g',cells',p',a1,a2,a3,a4,a5,a6,λi h1 h2=>by rw[a7 i h1 h2,zah gd h1],?_⟩
     rcases a8 with⟨r,e,h3⟩|⟨y,e⟩
     .exact .inl ⟨r,by simp[whlG,ec,hlt,eb,e],h3⟩
     .exact .inr ⟨y,by simp[whlG,ec,hlt,eb,e]⟩
  .exact⟨g,cells,p,hp,hnn,rfl,gd,gc,rfl,λ_ _ _=>rfl,.inr ⟨x,by simp[whlG,ec,hlt]⟩⟩
omit C in
theorem zhp{h h':VH}{w:W}(g:Grow ⟨h.n,h.n,h.os⟩ h'):∃h2,leave h w h'=.ok w h2/\h.n<=h2.n/\∀i,i<h.n->h2.get i=h'.get i:=by
 unfold leave
 split
 .rename_i q
  rw[vaa]at q
  have hlo:=va2 q.1
  exact⟨h,rfl,vac _,λi hi=>by
   rw[g.2.2 i hi (vae hi hlo)]
   exact get_lo.symm⟩
 .exact⟨_,rfl,g.1,λi hi=>get_lo⟩
theorem take{k:Nat}{h:VH}{d c b:Nat}{m:Int}(D:Dk h d c b)(hb:b<1000000000)(hm:0<m)(hm2:m<1073741824):∃r h',run F (k+3) 5 [.ref d,.int m] h=.ok (.int r) h'/\0<=r/\r<m/\Dk h' d c (b+1)/\Keep h h' d c:=by
 rw[zan C.f5 rfl]
 obtain⟨hne,ns,cells,p,q,gd,gc,hnn,hp,hq,hqb,hl⟩:=D
 have gd0:VH.get ⟨h.n,h.n,h.os⟩ d=some (.lst [.fz (ns.map .int),.ref c,.int p,.int q]):=by rw[get_lo];exact gd
 have gc0:VH.get ⟨h.n,h.n,h.os⟩ c=some (.lst (cells.map .int)):=by rw[get_lo];exact gc
 obtain⟨g',cells',p',a1,a2,a3,a4,a5,a6,a7,a8⟩:=zho C (k:=k) hne hm hm2 63 fuel ⟨h.n,h.n,h.os⟩ none cells p (by decide) (by omega) hp hnn gd0 gc0
 have key:∀(g2:VH)(r:Int)(cells2:List Int)(p2 q2:Int),exs (run F (k+2)) fn5.body [some (.ref d),some (.int m),none] ⟨h.n,h.n,h.os⟩=.ok (.rt (.int r)) g2->0<=r->r<m->0<=p2->0<=q2->q2<=b+1->cells2.length<=63->(∀y∈cells2,(0:Int)<=y)->
  g2.get d=some (.lst [.fz (ns.map .int),.ref c,.int p2,.int q2])->g2.get c=some (.lst (cells2.map .int))->(∀i,i<h.n->i≠d->i≠c->g2.get i=h.get i)->
  ∃r h',fin h (exs (run F (k+2)) fn5.body ([W.ref d,W.int m].map some++List.replicate (fn5.n-fn5.ps) none) ⟨h.n,h.n,h.os⟩)=.ok (.int r) h'/\0<=r/\r<m/\Dk h' d c (b+1)/\Keep h h' d c:=by
  intro g2 r cells2 p2 q2 e r1 r2 b1 b2 b3 b4 b5 b6 b7 b8
  obtain⟨h2,e2,hn2,hg2⟩:=zhp (w:=.int r) (zha (zhb F (k+2)) _ _ _ _ _ e)
  refine⟨r,h2,?_,r1,r2,⟨hne,ns,cells2,p2,q2,?_,?_,b5,b1,b2,by omega,b4⟩,⟨hn2,λi o h1 h3 e3=>?_⟩⟩
  .show fin h (exs (run F (k+2)) fn5.body [some (.ref d),some (.int m),none] ⟨h.n,h.n,h.os⟩)=_
   rw[e]
   exact e2
  .rw[hg2 d (zaq gd)];exact b6
  .rw[hg2 c (zaq gc)];exact b7
  .rw[hg2 i (zaq e3),b8 i (zaq e3) h1 h3];exact e3
 rcases a8 with⟨r,e,r1,r2⟩|⟨y,e⟩
 .refine key g' r cells' p' q ?_ r1 r2 a1 hq (by omega) (by omega) a2 a4 a5 λi hi h1 h2=>by rw[a7 i h1 h2,get_lo]
  simp[fn5,exs,e]
 .obtain⟨r,e2,r1,r2⟩:=mixed C (k:=k) (h:=g'.set d (.lst [.fz (ns.map .int),.ref c,.int p',.int (q+1)])) (ns:=ns) (j:=q+1) (m:=m) (by omega) (by omega) hm
  refine key (g'.set d (.lst [.fz (ns.map .int),.ref c,.int p',.int (q+1)])) r cells' p' (q+1) ?_ r1 r2 a1 (by omega) (by omega) (by omega) a2 (za0 a4) (by rw[zah a4 (vcq hne)];exact a5) λi hi h1 h2=>by rw[zah a4 h1,a7 i h1 h2,get_lo]
  have h3:atI [W.fz (ns.map .int),.ref c,.int p',.int q] 3=some (.int q):=rfl
  have h30:atI [W.fz (ns.map .int),.ref c,.int p',.int (q+1)] 3=some (.int (q+1)):=rfl
  have h00:atI [W.fz (ns.map .int),.ref c,.int p',.int (q+1)] 0=some (.fz (ns.map .int)):=rfl
  have h33:ixN 4 3=some 3:=rfl
  have hs:=za0 (o:=.lst [.fz (ns.map .int),.ref c,.int p',.int (q+1)]) a4
  simp[fn5,exs,e,ev,idxW,a4,h3,opW,opI,h33,hs,h30,h00,e2]
end
theorem zac{cl:Call}{a b:S}{ρ ρ':En}{h h':VH}(e:exs cl a ρ h=.ok (.nx ρ') h'):exs cl (.seq a b) ρ h=exs cl b ρ' h':=by
 simp only[exs,e,bindok]
theorem zab{cl:Call}{a b:S}{ρ:En}{w:W}{h h':VH}(e:exs cl a ρ h=.ok (.rt w) h'):exs cl (.seq a b) ρ h=.ok (.rt w) h':=by
 simp only[exs,e,bindok]
@[simp] theorem exs_skip {cl:Call} {ρ:En} {h:VH}:exs cl .skip ρ h=.ok (.nx ρ) h:=rfl
theorem Dk.new{h:VH}{d c b:Nat}{o:VO}(D:Dk h d c b):Dk (h.new o) d c b:=by
 obtain⟨ne,ns,cells,p,q,a1,a2,a3⟩:=D
 exact⟨ne,ns,cells,p,q,by rw[zad (zaq a1)];exact a1,by rw[zad (zaq a2)];exact a2,a3⟩
theorem Keep.new{h h':VH}{d c:Nat}{o:VO}(K:Keep h h' d c):Keep h (h'.new o) d c:=⟨vde K.le,λi o' h1 h2 e=>by
 have:=K.get i o' h1 h2 e
 rw[zad (zaq this)];exact this⟩
theorem Dk.lo{h:VH}{d c b l:Nat}(D:Dk h d c b):Dk ⟨h.n,l,h.os⟩ d c b:=by
 obtain⟨ne,ns,cells,p,q,a1,a2,a3⟩:=D
 exact⟨ne,ns,cells,p,q,by rw[get_lo];exact a1,by rw[get_lo];exact a2,a3⟩
theorem zcj{cl:Call}{h h':VH}{d c b:Nat}{w:W}{fl:Fl}{body:S}{ρ:En}{F:Nat->Option Fn}{k:Nat}(e:exs (run F k) body ρ ⟨h.n,h.n,h.os⟩=.ok (.rt w) h')(D0:Dk h d c 0\/∃b,Dk h d c b)(D:Dk h' d c b)(K:Keep ⟨h.n,h.n,h.os⟩ h' d c) :
 ∃h2,fin h (exs (run F k) body ρ ⟨h.n,h.n,h.os⟩)=.ok w h2/\Dk h2 d c b/\Keep h h2 d c:=by
 obtain⟨h2,e2,hn2,hg2⟩:=zhp (w:=w) (zha (zhb F k) _ _ _ _ _ e)
 have hd:d<h.n/\c<h.n:=by
  rcases D0 with⟨_,ns,cells,p,q,a1,a2,_⟩|⟨b,_,ns,cells,p,q,a1,a2,_⟩<;>exact⟨zaq a1,zaq a2⟩
 refine⟨h2,by rw[e];exact e2,?_,⟨hn2,λi o h1 h3 e3=>?_⟩⟩
 .obtain⟨ne,ns,cells,p,q,a1,a2,a3⟩:=D
  exact⟨ne,ns,cells,p,q,by rw[hg2 d hd.1];exact a1,by rw[hg2 c hd.2];exact a2,a3⟩
 .rw[hg2 i (zaq e3)]
  exact K.get i o h1 h3 (by rw[get_lo];exact e3)
theorem andB{cl:Call}{a b:E}{ρ:En}{h:VH}{x y:Bool}(ea:ev cl a ρ h=.ok (.bl x) h)(eb:ev cl b ρ h=.ok (.bl y) h):ev cl (.and a b) ρ h=.ok (.bl (x&&y)) h:=by
 rw[ev,ea,bindok]
 cases x
 .rfl
 .exact eb
theorem orB{cl:Call}{a b:E}{ρ:En}{h:VH}{x y:Bool}(ea:ev cl a ρ h=.ok (.bl x) h)(eb:ev cl b ρ h=.ok (.bl y) h):ev cl (.or a b) ρ h=.ok (.bl (x||y)) h:=by
 rw[ev,ea,bindok]
 cases x
 .exact eb
 .rfl
structure CoreP(F:Nat->Option Fn):Prop extends CoreD F where
 f21:F 21=some fn21
 f23:F 23=some fn23
 f25:F 25=some fn25
noncomputable abbrev sDot:Str:=Str.ofString "."
noncomputable abbrev sLt:Str:=Str.ofString "<"
noncomputable abbrev sGt:Str:=Str.ofString ">"
noncomputable abbrev sX:Str:=Str.ofString "x"
noncomputable abbrev sS:Str:=Str.ofString "s"
theorem znb{c wd g:Int}:zal (.str sDot) c wd g=true:=rfl
theorem may_s{c wd g:Int}:zal (.str sS) c wd g=true:=rfl
theorem zqj{c wd g:Int}(h:0<c):zal (.str sLt) c wd g=true:=by
 have:zal (.str sLt) c wd g=decide (0<c):=rfl
 rw[this];simpa using h
theorem zqk{c wd g:Int}(h:c<wd-1):zal (.str sGt) c wd g=true:=by
 have:zal (.str sGt) c wd g=decide (c<wd-1):=rfl
 rw[this];simpa using h
theorem may_x{c wd g:Int}(h:0<c)(h2:c<wd-1):zal (.str sX) c wd g=true:=by
 have:zal (.str sX) c wd g=(decide (0<c)&&decide (c<wd-1)):=rfl
 rw[this];simp[h,h2]
theorem zwi{c wd g a b:Int}(a0:0<=a)(a1:a<g)(b0:0<=b)(b1:b<2)(h:0<c)(h2:c<wd-1):zal (.tup [.int a,.int b]) c wd g=true:=by
 have h3:zcd (.tup [.int a,.int b]) g=true:=by
  simp only[zcd,within,vaa,vax]
  omega
 unfold zal
 rw[h3,Bool.or_true,if_pos rfl]
 simp[h,h2]
inductive Raw(g:Int):W->Prop
 |dot:Raw g (.str sDot)
 |lt:Raw g (.str sLt)
 |gt:Raw g (.str sGt)
 |x:Raw g (.str sX)
 |rk {a b:Int}:0<=a->a<g->0<=b->b<2->Raw g (.tup [.int a,.int b])
theorem zba{h:VH}{x y z:Str}(hx:PyData.strOk x=true)(hy:PyData.strOk y=true)(hz:PyData.strOk z=true):inW h (.str x) (.tup [.str y,.str z])=some (y==x||z==x):=by
 have sx:SeqAt.shaped (.str x)=true:=by unfold SeqAt.shaped;show(PyData.strOk x&&_)=true;rw[hx];rfl
 have sy:SeqAt.shaped (.str y)=true:=by unfold SeqAt.shaped;show(PyData.strOk y&&_)=true;rw[hy];rfl
 have sz:SeqAt.shaped (.str z)=true:=by unfold SeqAt.shaped;show(PyData.strOk z&&_)=true;rw[hz];rfl
 simp[inW,seqW,toD,mapO,sx,sy,sz,anyEq,PyData.eqv]
theorem zgm{h:VH}{a b:Int}{y z:Str}(hy:PyData.strOk y=true)(hz:PyData.strOk z=true):inW h (.tup [.int a,.int b]) (.tup [.str y,.str z])=some false:=by
 have sy:SeqAt.shaped (.str y)=true:=by unfold SeqAt.shaped;show(PyData.strOk y&&_)=true;rw[hy];rfl
 have sz:SeqAt.shaped (.str z)=true:=by unfold SeqAt.shaped;show(PyData.strOk z&&_)=true;rw[hz];rfl
 have st:SeqAt.shaped (.tuple [.int a,.int b])=true:=rfl
 simp[inW,seqW,toD,mapO,sy,sz,st,anyEq,PyData.eqv]
noncomputable def pCond:E:=(.or (.and (.cmp .eq (.var 1) (.cst (.int (0)))) (.cmp .nin (.var 5) (.tup (.cons (.cst (.str sDot)) (.cons (.cst (.str sGt)) .nil))))) (.and (.cmp .eq (.var 1) (.op .sub (.var 2) (.cst (.int (1))))) (.cmp .nin (.var 5) (.tup (.cons (.cst (.str sDot)) (.cons (.cst (.str sLt)) .nil))))))
noncomputable def pIdx:E:=(.idx (.lst (.cons (.cst (.str sGt)) (.cons (.cst (.str sLt)) (.cons (.cst (.str sDot)) .nil)))) (.bi .min (.cons (.op .add (.bi .int (.cons (.cmp .gt (.var 1) (.cst (.int (0)))) .nil)) (.op .mul (.cst (.int (2))) (.bi .int (.cons (.cmp .eq (.var 2) (.cst (.int (1)))) .nil)))) (.cons (.cst (.int (2))) .nil))))
noncomputable def pTail:S:=(.seq (.ite pCond (.seq (.ret pIdx) .skip) .skip) (.seq (.ret (.var 5)) .skip))
section
variable{F:Nat->Option Fn}(C:CoreP F)
include C
theorem piece{k:Nat}{h:VH}{d c b:Nat}{co wd g:Int}(D:Dk h d c b)(hb:b+5<1000000000)(h0:0<=co)(h1:co<wd)(g0:0<=g)(g1:g<=8) :
 ∃w h',run F (k+4) 21 [.ref d,.int co,.int wd,.int g] h=.ok w h'/\zal w co wd g=true/\Dk h' d c (b+5)/\Keep h h' d c:=by
 rw[zan C.f21 rfl]
 have D0:Dk ⟨h.n,h.n,h.os⟩ d c b:=D.lo
 have tail:∀(w5:W)(lot:Int)(h3:VH),Raw g w5->∃w h4,exs (run F (k+3)) pTail
  [some (.ref d),some (.int co),some (.int wd),some (.int g),some (.int lot),some w5] h3=.ok (.rt w) h4/\zal w co wd g=true/\(h4=h3\/∃o,h4=h3.new o):=by
  intro w5 lot h3 R
  have two:zby 2=true:=zdy (by decide) (by decide)
  have i0:atI [W.str sGt,.str sLt,.str sDot] 0=some (.str sGt):=rfl
  have i1:atI [W.str sGt,.str sLt,.str sDot] 1=some (.str sLt):=rfl
  have i2:atI [W.str sGt,.str sLt,.str sDot] 2=some (.str sDot):=rfl
  have eC:∀(b1 b2:Bool),inW h3 w5 (.tup [.str sDot,.str sGt])=some b1->inW h3 w5 (.tup [.str sDot,.str sLt])=some b2->ev (run F (k+3)) pCond [some (.ref d),some (.int co),some (.int wd),some (.int g),some (.int lot),some w5] h3=.ok (.bl ((decide (co=0) && !b1)|| (decide (co=wd-1) && !b2))) h3:=by
   intro b1 b2 n1 n2
   refine orB (andB ?_ ?_) (andB ?_ ?_)
   .simp only[ev,vd1,vb7,vc0,ofsome,bindok,cmpW,zaz,vbb]
   .simp[ev,cmpW,n1]
   .simp only[ev,vd1,vb7,vc0,ofsome,bindok,cmpW,zaz,vbb,opW,opI]
   .simp[ev,cmpW,n2]
  have fin1:∀(b1 b2:Bool),inW h3 w5 (.tup [.str sDot,.str sGt])=some b1->inW h3 w5 (.tup [.str sDot,.str sLt])=some b2->(co≠0\/b1=true)->(co≠wd-1\/b2=true)->zal w5 co wd g=true->∃w h4,exs (run F (k+3)) pTail
   [some (.ref d),some (.int co),some (.int wd),some (.int g),some (.int lot),some w5] h3=.ok (.rt w) h4/\zal w co wd g=true/\(h4=h3\/∃o,h4=h3.new o):=by
   intro b1 b2 n1 n2 o1 o2 hm
   refine⟨w5,h3,?_,hm,.inl rfl⟩
   have cond:=eC b1 b2 n1 n2
   rw[show((decide (co=0) && !b1)|| (decide (co=wd-1) && !b2))=false by rcases o1 with z|z<;>rcases o2 with z'|z'<;>simp[z,z']]at cond
   unfold pTail
   rw[exs,exs,cond,bindok]
   simp[exs,ev]
  have fin2:∀(b1 b2:Bool),inW h3 w5 (.tup [.str sDot,.str sGt])=some b1->inW h3 w5 (.tup [.str sDot,.str sLt])=some b2->((co=0/\b1=false)\/(co=wd-1/\b2=false))->∃w h4,exs (run F (k+3)) pTail
   [some (.ref d),some (.int co),some (.int wd),some (.int g),some (.int lot),some w5] h3=.ok (.rt w) h4/\zal w co wd g=true/\(h4=h3\/∃o,h4=h3.new o):=by
   intro b1 b2 n1 n2 o
   have cond:ev (run F (k+3)) pCond [some (.ref d),some (.int co),some (.int wd),some (.int g),some (.int lot),some w5] h3=.ok (.bl true) h3:=by
    rw[eC b1 b2 n1 n2,show((decide (co=0) && !b1)|| (decide (co=wd-1) && !b2))=true by rcases o with⟨z,z'⟩|⟨z,z'⟩<;>simp[z,z']]
   have r1:∀(x:Str)(j:Int),(if(2:Int)< (if 0<co then 1 else 0)+2* (if wd=1 then 1 else 0)then 2 else(if 0<co then 1 else 0)+2* (if wd=1 then 1 else 0))=j->atI [W.str sGt,.str sLt,.str sDot] j=some (.str x)->ev (run F (k+3)) pIdx [some (.ref d),some (.int co),some (.int wd),some (.int g),some (.int lot),some w5] h3=.ok (.str x) (h3.new (.lst [W.str sGt,.str sLt,.str sDot])):=by
    intro x j hj ha
    have hg:=zai (h:=h3) (o:=.lst [W.str sGt,.str sLt,.str sDot])
    by_cases c0:0<co<;>by_cases c1:wd=1<;>simp[c0,c1]at hj<;>subst hj<;>simp[pIdx,ev,cmpW,cmpI,zaz,opW,opI,two,biW,intW,minW,idxW,hg,ha,c0,c1]
   have fin:∀x:Str,ev (run F (k+3)) pIdx [some (.ref d),some (.int co),some (.int wd),some (.int g),some (.int lot),some w5] h3=.ok (.str x) (h3.new (.lst [W.str sGt,.str sLt,.str sDot]))->zal (.str x) co wd g=true->
    ∃w h4,exs (run F (k+3)) pTail [some (.ref d),some (.int co),some (.int wd),some (.int g),some (.int lot),some w5] h3=.ok (.rt w) h4/\zal w co wd g=true/\(h4=h3\/∃o,h4=h3.new o):=
    λx e hm=>⟨.str x,h3.new (.lst [W.str sGt,.str sLt,.str sDot]),by simp only[pTail,exs,cond,bindok,e],hm,.inr ⟨_,rfl⟩⟩
   by_cases w1:wd=1
   .exact fin sDot (r1 sDot 2 (by rw[if_neg (by omega:¬0<co)];simp[w1]) i2) znb
   .by_cases c0:co=0
    .exact fin sGt (r1 sGt 0 (by rw[if_neg (by omega:¬0<co)];simp[w1]) i0) (zqk (by omega))
    .exact fin sLt (r1 sLt 1 (by rw[if_pos (by omega:0<co)];simp[w1]) i1) (zqj (by omega))
  have d1:(sDot==sLt)=false:=by decide +kernel
  have d2:(sGt==sLt)=false:=by decide +kernel
  have d3:(sDot==sGt)=false:=by decide +kernel
  have d4:(sLt==sGt)=false:=by decide +kernel
  have d5:(sDot==sX)=false:=by decide +kernel
  have d6:(sGt==sX)=false:=by decide +kernel
  have d7:(sLt==sX)=false:=by decide +kernel
  have k1:PyData.strOk sDot=true:=by decide +kernel
  have k2:PyData.strOk sLt=true:=by decide +kernel
  have k3:PyData.strOk sGt=true:=by decide +kernel
  have k4:PyData.strOk sX=true:=by decide +kernel
  cases R with
  |dot=>exact fin1 true true (by rw[zba k1 k1 k3];simp) (by rw[zba k1 k1 k2];simp) (.inr rfl) (.inr rfl) znb
  |lt=>
   by_cases c0:co=0
   .exact fin2 false true (by rw[zba k2 k1 k3,d1,d2];rfl) (by rw[zba k2 k1 k2];simp) (.inl ⟨c0,rfl⟩)
   .exact fin1 false true (by rw[zba k2 k1 k3,d1,d2];rfl) (by rw[zba k2 k1 k2];simp) (.inl c0) (.inr rfl) (zqj (by omega))
  |gt=>
   by_cases c0:co=wd-1
   .exact fin2 true false (by rw[zba k3 k1 k3];simp) (by rw[zba k3 k1 k2,d3,d4];rfl) (.inr ⟨c0,rfl⟩)
   .exact fin1 true false (by rw[zba k3 k1 k3];simp) (by rw[zba k3 k1 k2,d3,d4];rfl) (.inr rfl) (.inl c0) (zqk (by omega))
  |x=>
   by_cases c0:co=0\/co=wd-1
   .exact fin2 false false (by rw[zba k4 k1 k3,d5,d6];rfl) (by rw[zba k4 k1 k2,d5,d7];rfl) (c0.elim (λz=>.inl ⟨z,rfl⟩) λz=>.inr ⟨z,rfl⟩)
   .exact fin1 false false (by rw[zba k4 k1 k3,d5,d6];rfl) (by rw[zba k4 k1 k2,d5,d7];rfl) (.inl (by omega)) (.inl (by omega)) (may_x (by omega) (by omega))
  |rk a0 a1 b0 b1=>
   by_cases c0:co=0\/co=wd-1
   .exact fin2 false false (zgm k1 k3) (zgm k1 k2) (c0.elim (λz=>.inl ⟨z,rfl⟩) λz=>.inr ⟨z,rfl⟩)
   .exact fin1 false false (zgm k1 k3) (zgm k1 k2) (.inl (by omega)) (.inl (by omega)) (zwi a0 a1 b0 b1 (by omega) (by omega))
 obtain⟨lot,h1',e1,l0,l1,D1,K1⟩:=take C.toCoreD (k:=k) (m:=10) D0 (by omega) (by decide) (by decide)
 have done:∀(w5:W)(h3:VH),Raw g w5->Dk h3 d c (b+5)->Keep ⟨h.n,h.n,h.os⟩ h3 d c->exs (run F (k+3)) fn21.body [some (.ref d),some (.int co),some (.int wd),some (.int g),none,none] ⟨h.n,h.n,h.os⟩=exs (run F (k+3)) pTail [some (.ref d),some (.int co),some (.int wd),some (.int g),some (.int lot),some w5] h3->
  ∃w h',fin h (exs (run F (k+3)) fn21.body [some (.ref d),some (.int co),some (.int wd),some (.int g),none,none] ⟨h.n,h.n,h.os⟩)=.ok w h'/\zal w co wd g=true/\Dk h' d c (b+5)/\Keep h h' d c:=by
  intro w5 h3 R D3 K3 e
  obtain⟨w,h4,e4,hm,hh⟩:=tail w5 lot h3 R
  have D4:Dk h4 d c (b+5)/\Keep ⟨h.n,h.n,h.os⟩ h4 d c:=by
   rcases hh with rfl|⟨o,rfl⟩
   .exact⟨D3,K3⟩
   .exact⟨D3.new,K3.new⟩
  obtain⟨h5,e5,D5,K5⟩:=zcj (cl:=run F (k+3)) (fl:=.nx []) (e.trans e4) (.inr ⟨b,D⟩) D4.1 D4.2
  exact⟨w,h5,e5,hm,D5,K5⟩
 have hg1:=zai (h:=h1') (o:=.lst [W.str sDot,.str sLt,.str sGt,.str sX,.str sDot,.str sDot])
 have two:∀(x:Str)(j:Int),(if(5:Int)<lot then 5 else lot)=j->atI [W.str sDot,.str sLt,.str sGt,.str sX,.str sDot,.str sDot] j=some (.str x)->∀rest:S,exs (run F (k+3)) (.seq (.set 4 (.call 5 (.cons (.var 0) (.cons (.cst (.int (10))) .nil)))) (.seq (.set 5 (.idx (.lst (.cons (.cst (.str sDot)) (.cons (.cst (.str sLt)) (.cons (.cst (.str sGt)) (.cons (.cst (.str sX)) (.cons (.cst (.str sDot)) (.cons (.cst (.str sDot)) .nil))))))) (.bi .min (.cons (.var 4) (.cons (.cst (.int (5))) .nil))))) rest)) [some (.ref d),some (.int co),some (.int wd),some (.int g),none,none] ⟨h.n,h.n,h.os⟩ =
  exs (run F (k+3)) rest [some (.ref d),some (.int co),some (.int wd),some (.int g),some (.int lot),some (.str x)] (h1'.new (.lst [W.str sDot,.str sLt,.str sGt,.str sX,.str sDot,.str sDot])):=by
  intro x j hj ha rest
  refine(zac (ρ':=[some (.ref d),some (.int co),some (.int wd),some (.int g),some (.int lot),none]) (h':=h1') (by simp[exs,ev,e1])).trans ?_
  refine zac ?_
  by_cases q:(5:Int)<lot
  .rw[if_pos q]at hj
   subst hj
   simp[exs,ev,biW,minW,q,idxW,hg1,ha]
  .rw[if_neg q]at hj
   subst hj
   simp[exs,ev,biW,minW,q,idxW,hg1,ha]
 have low:∀(x:Str),lot<=3->atI [W.str sDot,.str sLt,.str sGt,.str sX,.str sDot,.str sDot] lot=some (.str x)->Raw g (.str x)->_:=λx hl ha R=>done (.str x) (h1'.new (.lst [W.str sDot,.str sLt,.str sGt,.str sX,.str sDot,.str sDot])) R (D1.new.mono (by omega)) K1.new (by
  refine(two x lot (if_neg (by omega)) ha _).trans ?_
  have n1:¬(4<lot):=by omega
  have n2:¬(lot=4):=by omega
  refine(zac (ρ':=[some (.ref d),some (.int co),some (.int wd),some (.int g),some (.int lot),some (.str x)]) (h':=h1'.new (.lst [W.str sDot,.str sLt,.str sGt,.str sX,.str sDot,.str sDot])) (by simp[exs,ev,cmpW,cmpI,n1])).trans ?_
  refine(zac (ρ':=[some (.ref d),some (.int co),some (.int wd),some (.int g),some (.int lot),some (.str x)]) (h':=h1'.new (.lst [W.str sDot,.str sLt,.str sGt,.str sX,.str sDot,.str sDot])) (by simp[exs,ev,cmpW,zaz,n2])).trans ?_
  rfl)
 by_cases l4:lot<=3
 .have:lot=0\/lot=1\/lot=2\/lot=3:=by omega
  rcases this with z|z|z|z
  .exact low sDot l4 (by rw[z];rfl) .dot
  .exact low sLt l4 (by rw[z];rfl) .lt
  .exact low sGt l4 (by rw[z];rfl) .gt
  .exact low sX l4 (by rw[z];rfl) .x
 .by_cases l5:lot=4
  ·-- a blind place,or nothing
   obtain⟨r4,h4,e4,_,_,D4,K4⟩:=take C.toCoreD (k:=k) (m:=4) (D1.new (o:=.lst [W.str sDot,.str sLt,.str sGt,.str sX,.str sDot,.str sDot])) (by omega) (by decide) (by decide)
   have n1:¬(4<lot):=by omega
   have s3:∀rest:S,exs (run F (k+3)) (.seq (.ite (.and (.cmp .gt (.var 4) (.cst (.int (4)))) (.cmp .gt (.var 3) (.cst (.int (0))))) (.seq (.set 5 (.tup (.cons (.call 5 (.cons (.var 0) (.cons (.var 3) .nil))) (.cons (.call 5 (.cons (.var 0) (.cons (.cst (.int (2))) .nil))) .nil)))) .skip) .skip) rest) [some (.ref d),some (.int co),some (.int wd),some (.int g),some (.int lot),some (.str sDot)] (h1'.new (.lst [W.str sDot,.str sLt,.str sGt,.str sX,.str sDot,.str sDot]))=exs (run F (k+3)) rest [some (.ref d),some (.int co),some (.int wd),some (.int g),some (.int lot),some (.str sDot)] (h1'.new (.lst [W.str sDot,.str sLt,.str sGt,.str sX,.str sDot,.str sDot])):=λrest=>zac (by simp[exs,ev,cmpW,cmpI,n1])
   by_cases r0:r4=0
   .obtain⟨h5,e5,D5,K5⟩:=zcj (cl:=run F (k+3)) (fl:=.nx []) (w:=.str sS) (body:=fn21.body) (ρ:=[some (.ref d),some (.int co),some (.int wd),some (.int g),none,none]) (F:=F) (k:=k+3) (h:=h) (h':=h4) (b:=b+5) ((two sDot 4 (by rw[l5];rfl) rfl _).trans ((s3 _).trans (zab (by simp[exs,ev,cmpW,zaz,l5,e4,r0])))) (.inr ⟨b,D⟩) (D4.mono (by omega)) (K1.new.trans K4)
    exact⟨_,h5,e5,may_s,D5,K5⟩
   .exact done (.str sDot) h4 .dot (D4.mono (by omega)) (K1.new.trans K4) ((two sDot 4 (by rw[l5];rfl) rfl _).trans ((s3 _).trans (zac (by simp[exs,ev,cmpW,zaz,l5,e4,r0]))))
  ·-- a zcd,if there are groups
   have n1:4<lot:=by omega
   have n2:¬(lot=4):=by omega
   have ha:∃j:Int,(if(5:Int)<lot then 5 else lot)=j/\atI [W.str sDot,.str sLt,.str sGt,.str sX,.str sDot,.str sDot] j=some (.str sDot):=⟨5,by split<;>omega,rfl⟩
   obtain⟨j,hj,ha⟩:=ha
   by_cases hg:0<g
   .obtain⟨ra,h4,e4,a0,a1,D4,K4⟩:=take C.toCoreD (k:=k) (m:=g) (D1.new (o:=.lst [W.str sDot,.str sLt,.str sGt,.str sX,.str sDot,.str sDot])) (by omega) hg (by omega)
    obtain⟨rb,h5,e5,b0,b1,D5,K5⟩:=take C.toCoreD (k:=k) (m:=2) D4 (by omega) (by decide) (by decide)
    exact done (.tup [.int ra,.int rb]) h5 (.rk a0 a1 b0 b1) (D5.mono (by omega)) ((K1.new.trans K4).trans K5) ((two sDot j hj ha _).trans ((zac (ρ':=[some (.ref d),some (.int co),some (.int wd),some (.int g),some (.int lot),some (.tup [.int ra,.int rb])]) (h':=h5) (by simp[exs,ev,cmpW,cmpI,n1,hg,e4,e5])).trans (zac (by simp[exs,ev,cmpW,zaz,n2]))))
   .exact done (.str sDot) (h1'.new (.lst [W.str sDot,.str sLt,.str sGt,.str sX,.str sDot,.str sDot])) .dot (D1.new.mono (by omega)) K1.new ((two sDot j hj ha _).trans ((zac (ρ':=[some (.ref d),some (.int co),some (.int wd),some (.int g),some (.int lot),some (.str sDot)]) (h':=h1'.new (.lst [W.str sDot,.str sLt,.str sGt,.str sX,.str sDot,.str sDot])) (by simp[exs,ev,cmpW,cmpI,n1,hg])).trans (zac (by simp[exs,ev,cmpW,zaz,n2]))))
end
noncomputable def allF(P:Int->W->Prop):Int->List W->Prop
 |_,[]=>True
 |a,w::r=>P a w/\allF P (a+1) r
theorem zc2{P:W->Prop}:∀{ws:List W} {a:Int},allF (λ_ w=>P w) a ws->∀w∈ws,P w
 |[],_,_,w,h=>by cases h
 |x::r,a,⟨h1,h2⟩,w,h=>by
  rcases vat.mp h with rfl|h
  .exact h1
  .exact zc2 h2 w h
theorem zdk{cl:Call}{P:Int->W->Prop}{e:E}{tl:En}{d c m lim:Nat}(hs:∀(i:Int) (h:VH) (b:Nat),0<=i->i<lim->Dk h d c b->b+m<1000000000->∃w h',ev cl e (some (.int i)::tl) h=.ok w h'/\P i w/\Dk h' d c (b+m)/\Keep h h' d c) :
 ∀(n:Nat)(a:Int)(x:Option W)(h:VH)(b:Nat),0<=a->a+n<=lim->Dk h d c b->b+m*n<1000000000->
  ∃ws h',lcL (tgW (.one 0)) (λ_ h=>.ok (.bl true) h) (ev cl e) (zav a n) (x::tl) h=.ok ws h'/\allF P a ws/\ws.length=n/\Dk h' d c (b+m*n)/\Keep h h' d c
 |0,a,x,h,b,_,_,D,_=>⟨[],h,rfl,trivial,rfl,by simpa using D,.refl⟩
 |n+1,a,x,h,b,ha,hl,D,hb=>by
  have e1:m* (n+1)=m*n+m:=Nat.mul_succ m n
  obtain⟨w,h1,e2,p1,D1,K1⟩:=hs a h b ha (by omega) D (by omega)
  obtain⟨ws,h2,e3,p2,l2,D2,K2⟩:=zdk hs n (a+1) (some (.int a)) h1 (b+m) (by omega) (by omega) D1 (by omega)
  refine⟨w::ws,h2,?_,⟨p1,p2⟩,by rw[vam,l2],D2.mono (by omega),K1.trans K2⟩
  simp only[zav,lcL,tgW,List.set,ev,bindok,e2,e3]
theorem zb2{n:Nat}(h:n<=1000000):Nat.ble n big=true:=Nat.ble_eq.mpr (vap h (by decide))
theorem zql{cl:Call}{a:E}{ρ:En}{h h1 h2:VH}{n ow:Nat}{ix:List Nat}{e:E}{ys:List W}(ea:ev cl a ρ h=.ok (.tup [.int n]) h1)(hn:n<1000000)(el:lcL (tgW (.one 0)) (λ_ h=>.ok (.bl true) h) (ev cl e) (zav 0 n) (inner ow ix ρ) h1=.ok ys h2)(hy:ys.length<=1000000) :
 ev cl (.lc .rng1 a (.one 0) ow ix (.cst (.bl true)) e) ρ h=.ok (.ref h2.n) (h2.new (.lst ys)):=by
 have l:=zwg (n:=n) (tg:=tgW (.one 0)) (c:=λ_ h=>.ok (.bl true) h) (e:=ev cl e) (ρ:=inner ow ix ρ) (h:=h1) hn
 rw[el]at l
 have q:ev cl (.lc .rng1 a (.one 0) ow ix (.cst (.bl true)) e) ρ h=(ev cl a ρ h).bind λx h=>(lcG (nxt .rng1 x) (tgW (.one 0)) (ev cl (.cst (.bl true))) (ev cl e) fuel 0 (inner ow ix ρ) h []).bind λys h=>if Nat.ble ys.length big then .ok (.ref h.n) (h.new (.lst ys))else .no:=by rw[ev]
 rw[q,ea,bindok]
 show(lcG (nxt .rng1 (.tup [.int n])) (tgW (.one 0)) (λ_ h=>.ok (.bl true) h) (ev cl e) fuel 0 (inner ow ix ρ) h1 []).bind _=_
 rw[l,bindok,if_pos (zb2 hy)]
theorem zqm{cl:Call}{x:E}{ρ:En}{h h1:VH}{i:Nat}{ys:List W}(e:ev cl x ρ h=.ok (.ref i) h1)(g:h1.get i=some (.lst ys)):ev cl (.bi .tuple (.cons x .nil)) ρ h=.ok (.tup ys) h1:=by
 simp only[ev,e,bindok,biW,ze9,seqW,g,vbb,ofsome]
theorem zjn{cl:Call}{a:E}{ρ:En}{h h1 h2:VH}{n ow:Nat}{ix:List Nat}{e:E}{ys:List W}(ea:ev cl a ρ h=.ok (.tup [.int n]) h1)(hn:n<1000000)(el:lcL (tgW (.one 0)) (λ_ h=>.ok (.bl true) h) (ev cl e) (zav 0 n) (inner ow ix ρ) h1=.ok ys h2)(hy:ys.length<=1000000) :
 ev cl (.bi .tuple (.cons (.lc .rng1 a (.one 0) ow ix (.cst (.bl true)) e) .nil)) ρ h=.ok (.tup ys) (h2.new (.lst ys)):=zqm (zql ea hn el hy) zai
theorem zfk{wd g:Int}:∀{ws:List W} {c:Int},allF (λi w=>zal w i wd g=true) c ws->rowOk wd g c ws
 |[],_,_=>trivial
 |_::_,_,⟨h1,h2⟩=>⟨h1,zfk h2⟩
section
variable{F:Nat->Option Fn}(C:CoreP F)
include C
theorem row{k:Nat}{h:VH}{d c b:Nat}{wd:Nat}{g:Int}(D:Dk h d c b)(hb:b+200<1000000000)(h1:wd<=40)(g0:0<=g)(g1:g<=8) :
 ∃ws h',run F (k+5) 25 [.ref d,.int wd,.int g] h=.ok (.tup ws) h'/\ws.length=wd/\rowOk wd g 0 ws/\Dk h' d c (b+200)/\Keep h h' d c:=by
 rw[zan C.f25 rfl]
 have D0:Dk ⟨h.n,h.n,h.os⟩ d c b:=D.lo
 obtain⟨ws,h2,e2,p2,l2,D2,K2⟩:=zdk (cl:=run F (k+4)) (P:=λi w=>zal w i wd g=true) (e:=zgj) (tl:=[some (.ref d),some (.int g),some (.int wd)]) (m:=5) (lim:=wd) (λi h b h0 hl D hb=>by
  obtain⟨w,h',e,a1,a2,a3⟩:=piece C (k:=k) (co:=i) (wd:=wd) (g:=g) D hb h0 hl g0 g1
  exact⟨w,h',by simp[zgj,ev,e],a1,a2,a3⟩) wd 0 none ⟨h.n,h.n,h.os⟩ b (by omega) (by omega) D0 (by omega)
 have e3:=zjn (cl:=run F (k+4)) (a:=.cons (.var 1) .nil) (ρ:=[some (.ref d),some (.int wd),some (.int g)]) (h:=⟨h.n,h.n,h.os⟩) (ow:=1) (ix:=[0,2,1]) (e:=zgj) (by simp[ev]) (by omega) e2 (by omega)
 obtain⟨h5,e5,D5,K5⟩:=zcj (cl:=run F (k+4)) (fl:=.nx []) (w:=.tup ws) (body:=fn25.body) (ρ:=[some (.ref d),some (.int wd),some (.int g)]) (F:=F) (k:=k+4) (h:=h) (h':=h2.new (.lst ws)) (by simp only[fn25,exs,e3,bindok]) (.inr ⟨b,D⟩) (D2.new.mono (show _<=b+200 by omega)) K2.new
 exact⟨ws,h5,e5,l2,zfk p2,D5,K5⟩
theorem zkg{k:Nat}{h:VH}{d c b:Nat}{nf:Int}(D:Dk h d c b)(hb:b+5<1000000000)(n0:1<=nf)(n1:nf<=4) :
 ∃w h',run F (k+4) 23 [.ref d,.int nf] h=.ok w h'/\door w nf=true/\Dk h' d c (b+5)/\Keep h h' d c:=by
 rw[zan C.f23 rfl]
 have D0:Dk ⟨h.n,h.n,h.os⟩ d c b:=D.lo
 obtain⟨r1,h1,e1,a1,b1,D1,K1⟩:=take C.toCoreD (k:=k) (m:=3) D0 (by omega) (by decide) (by decide)
 obtain⟨r2,h2,e2,a2,b2,D2,K2⟩:=take C.toCoreD (k:=k) (m:=100) D1 (by omega) (by decide) (by decide)
 have hg:=zai (h:=h2) (o:=.lst [.int r1,.int r2])
 obtain⟨r3,h3,e3,a3,b3,D3,K3⟩:=take C.toCoreD (k:=k) (m:=4) (D2.new (o:=.lst [.int r1,.int r2])) (by omega) (by decide) (by decide)
 obtain⟨r4,h4,e4,a4,b4,D4,K4⟩:=take C.toCoreD (k:=k) (m:=nf) D3 (by omega) (by omega) (by omega)
 obtain⟨r5,h5,e5,a5,b5,D5,K5⟩:=take C.toCoreD (k:=k) (m:=8) D4 (by omega) (by decide) (by decide)
 obtain⟨_,ns,cells,p,q,gd,gc,_⟩:=D2
 have hg3:h3.get h2.n=some (.lst [.int r1,.int r2]):=K3.get _ _ (vca (zaq gd)) (vca (zaq gc)) hg
 have KK:Keep ⟨h.n,h.n,h.os⟩ h5 d c:=((((K1.trans K2).new (o:=.lst [.int r1,.int r2])).trans K3).trans K4).trans K5
 have nm:∃x:Int,0<=x/\x<=99/\exs (run F (k+3)) (.set 2 (.idx (.lst (.cons (.call 5 (.cons (.var 0) (.cons (.cst (.int (3))) .nil))) (.cons (.call 5 (.cons (.var 0) (.cons (.cst (.int (100))) .nil))) .nil))) (.bi .int (.cons (.cmp .eq (.call 5 (.cons (.var 0) (.cons (.cst (.int (4))) .nil))) (.cst (.int (0)))) .nil)))) [some (.ref d),some (.int nf),none,none] ⟨h.n,h.n,h.os⟩=.ok (.nx [some (.ref d),some (.int nf),some (.int x),none]) h3:=by
  have i0:atI [W.int r1,.int r2] 0=some (.int r1):=rfl
  have i1:atI [W.int r1,.int r2] 1=some (.int r2):=rfl
  by_cases z:r3=0
  .exact⟨r2,a2,by omega,by simp[exs,ev,e1,e2,e3,cmpW,zaz,z,biW,intW,idxW,hg3,i1]⟩
  .exact⟨r1,a1,by omega,by simp[exs,ev,e1,e2,e3,cmpW,zaz,z,biW,intW,idxW,hg3,i0]⟩
 obtain⟨x,x0,x1,ex⟩:=nm
 have e6:exs (run F (k+3)) (.set 3 (.call 5 (.cons (.var 0) (.cons (.var 1) .nil)))) [some (.ref d),some (.int nf),some (.int x),none] h3=.ok (.nx [some (.ref d),some (.int nf),some (.int x),some (.int r4)]) h4:=by simp[exs,ev,e4]
 have hd:∀w:W,w=.tup [.int x,.non]\/w=.tup [.int x,.int r4]->door w nf=true:=by
  intro w hw
  rcases hw with rfl|rfl
  .simp[door,within,fon,isNon,x0,x1]
  .simp only[door,within,fon,isNon,vaa,vax,Bool.false_or]
   omega
 have body:∃w,exs (run F (k+3)) fn23.body [some (.ref d),some (.int nf),none,none] ⟨h.n,h.n,h.os⟩=.ok (.rt w) h5/\door w nf=true:=by
  by_cases z:r5=0
  .exact⟨.tup [.int x,.non],(zac ex).trans ((zac e6).trans (by simp[exs,ev,e5,cmpW,zaz,z])),hd _ (.inl rfl)⟩
  .exact⟨.tup [.int x,.int r4],(zac ex).trans ((zac e6).trans (by simp[exs,ev,e5,cmpW,zaz,z])),hd _ (.inr rfl)⟩
 obtain⟨w,eb,hw⟩:=body
 obtain⟨h6,e7,D6,K6⟩:=zcj (cl:=run F (k+3)) (fl:=.nx []) eb (.inr ⟨b,D⟩) (D5.mono (show _<=b+5 by omega)) KK
 exact⟨w,h6,e7,hw,D6,K6⟩
theorem zsq{k:Nat}{d c wd n b:Nat}{g:Int}{h:VH}{x:Option W}(D:Dk h d c b)(hb:b+200*n<1000000000)(h1:wd<=40)(g0:0<=g)(g1:g<=8) :
 ∃(rs:List (List W)) (h':VH),lcL (tgW (.one 0)) (λ_ h=>.ok (.bl true) h) (ev (run F (k+5)) (.call 25 (.cons (.var 1) (.cons (.var 3) (.cons (.var 2) .nil))))) (zav 0 n) [x,some (.ref d),some (.int g),some (.int wd)] h=.ok (rs.map .tup) h'/\rs.length=n/\(∀r∈rs,(r.length:Int)=wd/\rowOk wd g 0 r)/\Dk h' d c (b+200*n)/\Keep h h' d c:=by
 obtain⟨ws,h',e,p,l,D',K'⟩:=zdk (cl:=run F (k+5)) (P:=λ_ w=>∃r,w=.tup r/\(r.length:Int)=wd/\rowOk wd g 0 r) (e:=.call 25 (.cons (.var 1) (.cons (.var 3) (.cons (.var 2) .nil)))) (tl:=[some (.ref d),some (.int g),some (.int wd)]) (m:=200) (lim:=n) (λi h b _ _ D hb=>by
  obtain⟨ws,h',e,a1,a2,a3,a4⟩:=row C (k:=k) (wd:=wd) (g:=g) D hb h1 g0 g1
  exact⟨.tup ws,h',by simp[ev,e],⟨ws,rfl,by omega,a2⟩,a3,a4⟩) n 0 x h b (by omega) (by omega) D hb
 replace p:=zc2 p
 have hr:∃rs:List (List W),ws=rs.map .tup/\∀r∈rs,(r.length:Int)=wd/\rowOk wd g 0 r:=by
  clear e l
  induction ws with
  |nil=>exact⟨[],rfl,λr hr=>by cases hr⟩
  |cons w ws ih=>
   obtain⟨rs,e1,e2⟩:=ih λw hw=>p w (vao _ hw)
   obtain⟨r,e3,e4⟩:=p w vaw
   refine⟨r::rs,by rw[e3,e1];rfl,λq hq=>?_⟩
   rcases vat.mp hq with rfl|hq
   .exact e4
   .exact e2 q hq
 obtain⟨rs,rfl,hrs⟩:=hr
 exact⟨rs,h',e,by rw[<-l,vai],hrs,D',K'⟩
theorem zkh{k:Nat}{d c wd n b:Nat}{h:VH}{x:Option W}(D:Dk h d c b)(hb:b+1*n<1000000000)(h0:1<=wd)(h1:wd<=40) :
 ∃(fs:List W) (h':VH),lcL (tgW (.one 0)) (λ_ h=>.ok (.bl true) h) (ev (run F (k+3)) (.call 5 (.cons (.var 1) (.cons (.var 2) .nil)))) (zav 0 n) [x,some (.ref d),some (.int wd)] h=.ok fs h'/\fs.length=n/\(∀f∈fs,within f 0 ((wd:Int)-1)=true)/\Dk h' d c (b+1*n)/\Keep h h' d c:=by
 obtain⟨ws,h',e,p,l,D',K'⟩:=zdk (cl:=run F (k+3)) (P:=λ_ w=>within w 0 ((wd:Int)-1)=true) (e:=.call 5 (.cons (.var 1) (.cons (.var 2) .nil))) (tl:=[some (.ref d),some (.int wd)]) (m:=1) (lim:=n) (λi h b _ _ D hb=>by
  obtain⟨r,h',e,a1,a2,a3,a4⟩:=take C.toCoreD (k:=k) (m:=wd) D (by omega) (by omega) (by omega)
  exact⟨.int r,h',by simp[ev,e],by simp only[within,vaa,vax];omega,a3,a4⟩) n 0 x h b (by omega) (by omega) D hb
 exact⟨ws,h',e,l,zc2 p,D',K'⟩
theorem zpe{k:Nat}{d c n b:Nat}{h:VH}{x:Option W}{fs:List W}(D:Dk h d c b)(hb:b+5*n<1000000000)(h0:1<=fs.length)(h1:fs.length<=4) :
 ∃(ds:List W) (h':VH),lcL (tgW (.one 0)) (λ_ h=>.ok (.bl true) h) (ev (run F (k+4)) (.call 23 (.cons (.var 1) (.cons (.bi .len (.cons (.var 2) .nil)) .nil)))) (zav 0 n) [x,some (.ref d),some (.tup fs)] h=.ok ds h'/\ds.length=n/\(∀w∈ds,door w fs.length=true)/\Dk h' d c (b+5*n)/\Keep h h' d c:=by
 obtain⟨ws,h',e,p,l,D',K'⟩:=zdk (cl:=run F (k+4)) (P:=λ_ w=>door w fs.length=true) (e:=.call 23 (.cons (.var 1) (.cons (.bi .len (.cons (.var 2) .nil)) .nil))) (tl:=[some (.ref d),some (.tup fs)]) (m:=5) (lim:=n) (λi h b _ _ D hb=>by
  obtain⟨w,h',e,a1,a2,a3⟩:=zkg C (k:=k) (nf:=fs.length) D hb (by omega) (by omega)
  exact⟨w,h',by simp[ev,e,biW,lenW,seqW],a1,a2,a3⟩) n 0 x h b (by omega) (by omega) D hb
 exact⟨ws,h',e,l,zc2 p,D',K'⟩
end
structure CoreQ(F:Nat->Option Fn):Prop extends CoreP F where
 f26:F 26=some fn26
theorem lb{b n k:Nat}(hb:b+n<1000000000)(h:k<=n):b+k<1000000000:=by omega
theorem bd0{m:Int}(h:m<=60):m+1<1073741824:=by omega
theorem bd1{t m:Int}(a:0<=t)(b:t<m)(h:m<=40):∃n:Nat,1+t=n/\1<=n/\n<=40/\(n:Int)<=m:=⟨(1+t).toNat,by omega,by omega,by omega,by omega⟩
theorem bd3{b c n k m:Nat}(h:n<=m):b+c+k*n<=b+ (c+k*m):=by
 rw[Nat.add_assoc]
 exact vdm (vdm (Nat.mul_le_mul_left k h) c) b
section
variable{F:Nat->Option Fn}(C:CoreQ F)
include C
theorem zif{k:Nat}{h:VH}{d c b:Nat}{mw mr mg:Int}(D:Dk h d c b)(hb:b+13000<1000000000)(w0:1<=mw)(w1:mw<=40)(r0:0<=mr)(r1:mr<=60)(g0:0<=mg)(g1:mg<=8) :
 ∃B h',run F (k+6) 26 [.ref d,.int mw,.int mr,.int mg] h=.ok (Bd.w B) h'/\B.Ok/\B.wd<=mw/\B.gr<=mg/\(B.rows.length:Int)<=mr/\Dk h' d c (b+13000)/\Keep h h' d c:=by
 rw[zan C.f26 rfl]
 have D0:Dk ⟨h.n,h.n,h.os⟩ d c b:=D.lo
 obtain⟨t1,h1,e1,a1,b1,D1,K1⟩:=take C.toCoreD (k:=k+2) (m:=mw) D0 (lb (k:=0) hb (by decide)) (Int.lt_of_lt_of_le (by decide) w0) (Int.lt_of_le_of_lt w1 (by decide))
 obtain⟨wd,hwd,wd1,wd2,wd3⟩:=bd1 a1 b1 w1
 obtain⟨gr,h2,e2,a2,b2,D2,K2⟩:=take C.toCoreD (k:=k+2) (m:=mg+1) D1 (lb (k:=1) hb (by decide)) (Int.lt_add_one_of_le g0) (bd0 (Int.le_trans g1 (by decide)))
 have b2:=Int.le_of_lt_add_one b2
 have g2:=Int.le_trans b2 g1
 obtain⟨t3,h3,e3,a3,b3,D3,K3⟩:=take C.toCoreD (k:=k+2) (m:=mr+1) D2 (lb (k:=2) hb (by decide)) (Int.lt_add_one_of_le r0) (bd0 r1)
 obtain⟨nr,hnr⟩:=vbo a3
 have nr1:(nr:Int)<=mr:=hnr▸Int.le_of_lt_add_one b3
 have nr2:nr<=60:=Int.ofNat_le.mp (Int.le_trans nr1 r1)
 obtain⟨rs,h4,e4,l4,p4,D4,K4⟩:=zsq C.toCoreP (k:=k) (n:=nr) (wd:=wd) (g:=gr) (x:=none) D3 (vbi (bd3 (c:=3) nr2) (lb hb (by decide))) wd2 a2 g2
 have D4:=D4.mono (bd3 (c:=3) nr2)
 have D4':=D4.new (o:=.lst (rs.map .tup))
 obtain⟨t5,h5,e5,a5,b5,D5,K5⟩:=take C.toCoreD (k:=k+2) (m:=4) D4' (lb hb (by decide)) (by decide) (by decide)
 obtain⟨nf,hnf,nf1,_,nf2⟩:=bd1 a5 b5 (by decide)
 have nf2:=Int.ofNat_le.mp nf2
 obtain⟨fs,h6,e6,l6,p6,D6,K6⟩:=zkh C.toCoreP (k:=k+2) (n:=nf) (wd:=wd) (x:=none) D5 (vbi (bd3 (c:=12004) nf2) (lb hb (by decide))) wd1 wd2
 have D6:=D6.mono (bd3 (c:=12004) nf2)
 have D6':=D6.new (o:=.lst fs)
 obtain⟨ds,h7,e7,l7,p7,D7,K7⟩:=zpe C.toCoreP (k:=k+1) (n:=wd) (fs:=fs) (x:=none) D6' (vbi (bd3 (c:=12008) wd2) (lb hb (by decide))) (l6▸nf1) (l6▸nf2)
 obtain⟨hne,ns,cells,p,q,gd,gc,_⟩:=D4
 have gl:(h7.new (.lst ds)).get h4.n=some (.lst (rs.map .tup)):=by
  have n1:h4.n≠d:=vca (zaq gd)
  have n2:h4.n≠c:=vca (zaq gc)
  have q1:=K5.get h4.n _ n1 n2 zai
  have q2:=K6.get h4.n _ n1 n2 q1
  have q3:(h6.new (.lst fs)).get h4.n=some (.lst (rs.map .tup)):=by rw[zad (zaq q2)];exact q2
  have q4:=K7.get h4.n _ n1 n2 q3
  rw[zad (zaq q4)];exact q4
 have s1:exs (run F (k+5)) (.set 4 (.op .add (.cst (.int (1))) (.call 5 (.cons (.var 0) (.cons (.var 1) .nil))))) [some (.ref d),some (.int mw),some (.int mr),some (.int mg),none,none,none,none,none] ⟨h.n,h.n,h.os⟩=.ok (.nx [some (.ref d),some (.int mw),some (.int mr),some (.int mg),some (.int wd),none,none,none,none]) h1:=by
  simp[exs,ev,e1,opW,opI,hwd]
 have s2:exs (run F (k+5)) (.set 5 (.call 5 (.cons (.var 0) (.cons (.op .add (.var 3) (.cst (.int (1)))) .nil)))) [some (.ref d),some (.int mw),some (.int mr),some (.int mg),some (.int wd),none,none,none,none] h1=.ok (.nx [some (.ref d),some (.int mw),some (.int mr),some (.int mg),some (.int wd),some (.int gr),none,none,none]) h2:=by
  simp[exs,ev,e2,opW,opI]
 have s3:=zql (cl:=run F (k+5)) (a:=.cons (.call 5 (.cons (.var 0) (.cons (.op .add (.var 2) (.cst (.int (1)))) .nil))) .nil) (ρ:=[some (.ref d),some (.int mw),some (.int mr),some (.int mg),some (.int wd),some (.int gr),none,none,none]) (h:=h2) (h1:=h3) (n:=nr) (ow:=1) (ix:=[0,5,4]) (by simp[ev,opW,opI,e3,hnr]) (vbi nr2 (by decide)) e4 (by rw[vai,l4];exact vap nr2 (by decide))
 have s4:=zjn (cl:=run F (k+5)) (a:=.cons (.op .add (.cst (.int (1))) (.call 5 (.cons (.var 0) (.cons (.cst (.int (4))) .nil)))) .nil) (ρ:=[some (.ref d),some (.int mw),some (.int mr),some (.int mg),some (.int wd),some (.int gr),some (.ref h4.n),none,none]) (h:=h4.new (.lst (rs.map .tup))) (h1:=h5) (n:=nf) (ow:=1) (ix:=[0,4]) (by simp[ev,opW,opI,e5,hnf]) (vbi nf2 (by decide)) e6 (by rw[l6];exact vap nf2 (by decide))
 have s5:=zjn (cl:=run F (k+5)) (a:=.cons (.var 4) .nil) (ρ:=[some (.ref d),some (.int mw),some (.int mr),some (.int mg),some (.int wd),some (.int gr),some (.ref h4.n),some (.tup fs),none]) (h:=h6.new (.lst fs)) (h1:=h6.new (.lst fs)) (n:=wd) (ow:=1) (ix:=[0,7]) (by simp[ev]) (vbi wd2 (by decide)) e7 (by rw[l7];exact vap wd2 (by decide))
 have body:exs (run F (k+5)) fn26.body [some (.ref d),some (.int mw),some (.int mr),some (.int mg),none,none,none,none,none] ⟨h.n,h.n,h.os⟩=.ok (.rt (Bd.w ⟨wd,gr,rs,fs,ds⟩)) (h7.new (.lst ds)):=by
  refine(zac s1).trans ((zac s2).trans ?_)
  refine(zac (ρ':=[some (.ref d),some (.int mw),some (.int mr),some (.int mg),some (.int wd),some (.int gr),some (.ref h4.n),none,none]) (h':=h4.new (.lst (rs.map .tup))) (by unfold zm2;simp only[exs,s3,bindok];rfl)).trans ?_
  refine(zac (ρ':=[some (.ref d),some (.int mw),some (.int mr),some (.int mg),some (.int wd),some (.int gr),some (.ref h4.n),some (.tup fs),none]) (h':=h6.new (.lst fs)) (by unfold zm3;simp only[exs,s4,bindok];rfl)).trans ?_
  refine(zac (ρ':=[some (.ref d),some (.int mw),some (.int mr),some (.int mg),some (.int wd),some (.int gr),some (.ref h4.n),some (.tup fs),some (.tup ds)]) (h':=h7.new (.lst ds)) (by unfold zm4;simp only[exs,s5,bindok];rfl)).trans ?_
  simp[exs,ev,biW,ze9,seqW,gl,Bd.w]
 have KK:Keep ⟨h.n,h.n,h.os⟩ (h7.new (.lst ds)) d c:=((((((K1.trans K2).trans K3).trans K4).new.trans K5).trans K6).new.trans K7).new
 obtain⟨h8,e8,D8,K8⟩:=zcj (cl:=run F (k+5)) (fl:=.nx []) body (.inr ⟨b,D⟩) (D7.new.mono (vap (bd3 (c:=12008) wd2) (vdm (show _<=13000 by decide) b))) KK
 refine⟨⟨wd,gr,rs,fs,ds⟩,h8,e8,⟨Int.ofNat_le.mpr wd1,Int.ofNat_le.mpr wd2,a2,g2,by show rs.length<=60;rw[l4];exact nr2,p4,by show 1<=fs.length;rw[l6];exact nf1,by show fs.length<=4;rw[l6];exact nf2,p6,vdn _ l7,p7⟩,wd3,b2,by show(rs.length:Int)<=mr;rw[l4];exact nr1,D8,K8⟩
end
theorem zsr{n:Nat}(h:n<=1000000):Nat.blt n big=true:=zax.mpr (vbi h (by decide))
theorem zwj{h:VH}{xs ys:List W}(hl:xs.length+ys.length<=1000000):opW .add (.tup xs) (.tup ys) h=.ok (.tup (xs++ys)) h:=by
 have:opT .add xs ys=some (xs++ys):=if_pos (zb2 hl)
 simp only[opW,this,vbb,ofsome]
theorem rep1{w:W}:∀n:Nat,(List.replicate n [w]).flatten=List.replicate n w
 |0=>rfl
 |n+1=>by rw[vbf,vcd,rep1 n,vbf];rfl
theorem zss{h:VH}{w:W}{n:Nat}(hn:n<=1000000):opW .mul (.tup [w]) (.int n) h=.ok (.tup (List.replicate n w)) h:=by
 have hf:fits (n:Int)=true:=by unfold fits;rw[vaa,vax,vax];omega
 have:repW .mul [w] n=some (List.replicate n w):=by
  unfold repW
  rw[if_pos (by
   rw[vaa]
   exact⟨hf,zb2 (by rw[vbh,Nat.one_mul,vdc];exact hn)⟩)]
  rw[vdc,rep1]
 simp only[opW,this,vbb,ofsome]
theorem zez{cl:Call}{i l:Nat}{x:E}{ρ:En}{h h1:VH}{w:W}{acc acc0:List W}(hρ:ρ[i]?=some (some (.ref l)))(g0:h.get l=some (.lst acc0))(e:ev cl x ρ h=.ok w h1)(g:h1.get l=some (.lst acc))(hl:acc.length<=1000000) :
 ev cl (.mt .append (.var i) (.cons x .nil)) ρ h=.ok .non (h1.set l (.lst (acc++[w]))):=by
 have hk:zdm .append h (.ref l)=true:=by simp only[zdm,g0]
 have hm:mtW .append (.ref l) [w] h1=.ok .non (h1.set l (.lst (acc++[w]))):=by
  simp only[mtW,g]
  rw[if_pos (zsr hl)]
 simp only[ev,hρ,vd1,ofsome,bindok,hk,vbd,e,hm]
noncomputable def Bits(ls:List Int):Prop:=∀x∈ls,x=0\/x=1
noncomputable def fn17:Fn:=⟨2,2,(.seq (.ret (.call 7 (.cons (.var 0) (.cons (.var 1) (.cons (.var 1) (.cons (.cst (.int (0))) (.cons (.cst (.int (1))) .nil))))))) .skip)⟩
noncomputable def zgn:E:=(.call 5 (.cons (.var 1) (.cons (.cst (.int (2))) .nil)))
noncomputable def fn20:Fn:=⟨2,2,(.seq (.ret (.bi .tuple (.cons (.lc .rng1 (.cons (.var 1) .nil) (.one 0) 1 [0] (.cst (.bl true)) zgn) .nil))) .skip)⟩
noncomputable def fn22:Fn:=⟨2,2,(.seq (.expr (.call 14 (.cons (.var 0) .nil))) (.seq (.ret (.call 17 (.cons (.var 1) (.cons (.idx (.var 0) (.cst (.int (1)))) .nil)))) .skip))⟩
noncomputable def fn27:Fn:=⟨2,4,(.seq (.expr (.call 14 (.cons (.var 0) .nil))) (.seq (.ite (.not (.tru (.call 6 (.cons (.var 1) (.cons (.cst (.int (2))) (.cons (.cst (.int (2))) .nil)))))) (.seq (.ret (.cst (.bl false))) .skip) .skip) (.seq (.unp [2,3] (.var 1)) (.seq (.ret (.and (.call 17 (.cons (.var 2) (.cons (.idx (.var 0) (.cst (.int (1)))) .nil))) (.call 12 (.cons (.var 3) (.cons (.bi .len (.cons (.idx (.var 0) (.cst (.int (3)))) .nil)) .nil))))) .skip))))⟩
noncomputable def zck:E:=(.tup (.cons (.cst (.int (0))) (.cons (.cst (.int (1))) .nil)))
noncomputable def zcl:E:=(.op .add (.var 0) (.tup (.cons (.var 1) .nil)))
noncomputable def zdz:S:=(.seq (.set 1 (.lc2 .seq (.var 1) (.one 0) 2 [] (.cst (.bl true)) .seq zck (.one 1) (.cst (.bl true)) zcl)) .skip)
noncomputable def fn190:Fn:=⟨1,3,(.seq (.ite (.not (.tru (.call 1 (.cons (.var 0) (.cons (.cst (.int (0))) (.cons (.cst (.int (8))) .nil)))))) (.seq .no .skip) .skip) (.seq (.set 1 (.lst (.cons (.tup .nil) .nil))) (.seq (.«for» .rng1 (.cons (.var 0) .nil) (.one 2) zdz) (.seq (.ret (.var 1)) .skip))))⟩
theorem eqS{h:VH}{x y:Str}(hx:PyData.strOk x=true)(hy:PyData.strOk y=true):eqW h (.str x) (.str y)=some (x==y):=by
 rw[zdi (x:=y) (by exact hx) hy];rfl
@[simp] theorem eq_X_X {h:VH}:eqW h (.str sX) (.str (PySem.Str.ofString "x"))=some true:=(eqS (by decide +kernel) (by decide +kernel)).trans (by decide +kernel)
@[simp] theorem eq_X_Lt {h:VH}:eqW h (.str sX) (.str (PySem.Str.ofString "<"))=some false:=(eqS (by decide +kernel) (by decide +kernel)).trans (by decide +kernel)
@[simp] theorem eq_X_Gt {h:VH}:eqW h (.str sX) (.str (PySem.Str.ofString ">"))=some false:=(eqS (by decide +kernel) (by decide +kernel)).trans (by decide +kernel)
@[simp] theorem eq_X_Dot {h:VH}:eqW h (.str sX) (.str (PySem.Str.ofString "."))=some false:=(eqS (by decide +kernel) (by decide +kernel)).trans (by decide +kernel)
@[simp] theorem eq_X_S {h:VH}:eqW h (.str sX) (.str (PySem.Str.ofString "s"))=some false:=(eqS (by decide +kernel) (by decide +kernel)).trans (by decide +kernel)
@[simp] theorem eq_Lt_X {h:VH}:eqW h (.str sLt) (.str (PySem.Str.ofString "x"))=some false:=(eqS (by decide +kernel) (by decide +kernel)).trans (by decide +kernel)
@[simp] theorem eq_Lt_Lt {h:VH}:eqW h (.str sLt) (.str (PySem.Str.ofString "<"))=some true:=(eqS (by decide +kernel) (by decide +kernel)).trans (by decide +kernel)
@[simp] theorem eq_Lt_Gt {h:VH}:eqW h (.str sLt) (.str (PySem.Str.ofString ">"))=some false:=(eqS (by decide +kernel) (by decide +kernel)).trans (by decide +kernel)
@[simp] theorem eq_Lt_Dot {h:VH}:eqW h (.str sLt) (.str (PySem.Str.ofString "."))=some false:=(eqS (by decide +kernel) (by decide +kernel)).trans (by decide +kernel)
@[simp] theorem eq_Lt_S {h:VH}:eqW h (.str sLt) (.str (PySem.Str.ofString "s"))=some false:=(eqS (by decide +kernel) (by decide +kernel)).trans (by decide +kernel)
@[simp] theorem eq_Gt_X {h:VH}:eqW h (.str sGt) (.str (PySem.Str.ofString "x"))=some false:=(eqS (by decide +kernel) (by decide +kernel)).trans (by decide +kernel)
@[simp] theorem eq_Gt_Lt {h:VH}:eqW h (.str sGt) (.str (PySem.Str.ofString "<"))=some false:=(eqS (by decide +kernel) (by decide +kernel)).trans (by decide +kernel)
@[simp] theorem eq_Gt_Gt {h:VH}:eqW h (.str sGt) (.str (PySem.Str.ofString ">"))=some true:=(eqS (by decide +kernel) (by decide +kernel)).trans (by decide +kernel)
@[simp] theorem eq_Gt_Dot {h:VH}:eqW h (.str sGt) (.str (PySem.Str.ofString "."))=some false:=(eqS (by decide +kernel) (by decide +kernel)).trans (by decide +kernel)
@[simp] theorem eq_Gt_S {h:VH}:eqW h (.str sGt) (.str (PySem.Str.ofString "s"))=some false:=(eqS (by decide +kernel) (by decide +kernel)).trans (by decide +kernel)
@[simp] theorem eq_Dot_X {h:VH}:eqW h (.str sDot) (.str (PySem.Str.ofString "x"))=some false:=(eqS (by decide +kernel) (by decide +kernel)).trans (by decide +kernel)
@[simp] theorem eq_Dot_Lt {h:VH}:eqW h (.str sDot) (.str (PySem.Str.ofString "<"))=some false:=(eqS (by decide +kernel) (by decide +kernel)).trans (by decide +kernel)
@[simp] theorem eq_Dot_Gt {h:VH}:eqW h (.str sDot) (.str (PySem.Str.ofString ">"))=some false:=(eqS (by decide +kernel) (by decide +kernel)).trans (by decide +kernel)
@[simp] theorem eq_Dot_Dot {h:VH}:eqW h (.str sDot) (.str (PySem.Str.ofString "."))=some true:=(eqS (by decide +kernel) (by decide +kernel)).trans (by decide +kernel)
@[simp] theorem eq_Dot_S {h:VH}:eqW h (.str sDot) (.str (PySem.Str.ofString "s"))=some false:=(eqS (by decide +kernel) (by decide +kernel)).trans (by decide +kernel)
@[simp] theorem eq_S_X {h:VH}:eqW h (.str sS) (.str (PySem.Str.ofString "x"))=some false:=(eqS (by decide +kernel) (by decide +kernel)).trans (by decide +kernel)
@[simp] theorem eq_S_Lt {h:VH}:eqW h (.str sS) (.str (PySem.Str.ofString "<"))=some false:=(eqS (by decide +kernel) (by decide +kernel)).trans (by decide +kernel)
@[simp] theorem eq_S_Gt {h:VH}:eqW h (.str sS) (.str (PySem.Str.ofString ">"))=some false:=(eqS (by decide +kernel) (by decide +kernel)).trans (by decide +kernel)
@[simp] theorem eq_S_Dot {h:VH}:eqW h (.str sS) (.str (PySem.Str.ofString "."))=some false:=(eqS (by decide +kernel) (by decide +kernel)).trans (by decide +kernel)
@[simp] theorem eq_S_S {h:VH}:eqW h (.str sS) (.str (PySem.Str.ofString "s"))=some true:=(eqS (by decide +kernel) (by decide +kernel)).trans (by decide +kernel)
theorem zfl{cl:Call}{a b:S}{ρ ρ':En}{h h':VH}(e:exs cl a ρ h=.ok (.bk ρ') h'):exs cl (.seq a b) ρ h=.ok (.bk ρ') h':=by
 simp only[exs,e,bindok]
noncomputable def iW(ls:List Int):W:=.tup (ls.map .int)
section
variable{F:Nat->Option Fn}(C:CoreD F)
include C
theorem zfm{k:Nat}:∀(ns:List Int) (x:Option W) (h:VH),∃cells:List Int,lcL (tgW (.one 0)) (ev (run F k) zdo) (ev (run F k) zdp) (ns.map .int) [x] h=.ok (cells.map .int) h/\(∀y∈cells,(0:Int)<=y)/\cells.length<=ns.length
 |[],x,h=>⟨[],rfl,(λy hy=>by cases hy),vac _⟩
 |n::ns,x,h=>by
  obtain⟨cells,e,h1,h2⟩:=zfm (k:=k) ns (some (.int n)) h
  have s10:((10:Int).natAbs<2 ^ 64):=by decide
  have ec:ev (run F k) zdo [some (.int n)] h=.ok (.bl (decide (1000000000000000000<=(n.natAbs:Int)))) h:=by
   simp[zdo,ev,biW,absW,opW,opI,cmpW,cmpI,zdj]
  have ee:ev (run F k) zdp [some (.int n)] h=.ok (.int (n.natAbs:Int)) h:=by
   simp[zdp,ev,biW,absW,zdj]
  by_cases q:1000000000000000000<=(n.natAbs:Int)
  .refine⟨(n.natAbs:Int)::cells,?_,λy hy=>?_,by rw[vam,vam];omega⟩
   .simp only[lcL,va1,tgW,List.set,ec,bindok,q,decide_true,ee,e]
   .rcases vat.mp hy with rfl|hy
    .omega
    .exact h1 y hy
  .refine⟨cells,?_,h1,by rw[vam];omega⟩
   simp only[lcL,va1,tgW,List.set,ec,bindok,q,decide_false,e]
theorem deck{k:Nat}{h:VH}{ns:List Int}(hl:ns.length<=63):∃h',run F (k+1) 3 [.fz (ns.map .int)] h=.ok (.ref (h.n+1)) h'/\Dk h' (h.n+1) h.n 0:=by
 rw[zan C.f3 rfl]
 obtain⟨cells,e,h1,h2⟩:=zfm C (k:=k) ns none ⟨h.n,h.n,h.os⟩
 have l:=zdw (nx:=nxt .seq (.fz (ns.map .int))) (tg:=tgW (.one 0)) (c:=ev (run F k) zdo) (e:=ev (run F k) zdp) (ws:=ns.map .int) (λi h=>rfl) fuel 0 [none] ⟨h.n,h.n,h.os⟩ [] (va9 _) (by rw[vai];unfold fuel;omega)
 rw[vdf,e]at l
 have l:lcG (nxt .seq (.fz (ns.map .int))) (tgW (.one 0)) (ev (run F k) zdo) (ev (run F k) zdp) fuel 0 [none] ⟨h.n,h.n,h.os⟩ []=.ok (cells.map .int) ⟨h.n,h.n,h.os⟩:=l
 have q:ev (run F k) (.lc .seq (.var 0) (.one 0) 1 [] zdo zdp) [some (.fz (ns.map .int))] ⟨h.n,h.n,h.os⟩=.ok (.ref h.n) (VH.new ⟨h.n,h.n,h.os⟩ (.lst (cells.map .int))):=by
  rw[ev]
  have:ev (run F k) (.var 0) [some (.fz (ns.map .int))] ⟨h.n,h.n,h.os⟩=.ok (.fz (ns.map .int)) ⟨h.n,h.n,h.os⟩:=rfl
  rw[this,bindok]
  show(lcG (nxt .seq (.fz (ns.map .int))) (tgW (.one 0)) (ev (run F k) zdo) (ev (run F k) zdp) fuel 0 [none] ⟨h.n,h.n,h.os⟩ []).bind _=_
  rw[l,bindok,if_pos (zb2 (by rw[vai];omega))]
 let h1':VH:=VH.new ⟨h.n,h.n,h.os⟩ (.lst (cells.map .int))
 let o:VO:=.lst [.fz (ns.map .int),.ref h.n,.int 0,.int 0]
 have eb:exs (run F k) fn3.body [some (.fz (ns.map .int))] ⟨h.n,h.n,h.os⟩=.ok (.rt (.ref (h.n+1))) (h1'.new o):=by
  simp only[fn3,exs,ev,bindok,ofsome,vc0,vd1]at q ⊢
  rw[q]
  rfl
 refine⟨⟨h.n+2,if Nat.ble h.lo h.n then h.lo else h.n,(h1'.new o).os⟩,?_,?_⟩
 .show fin h (exs (run F k) fn3.body [some (.fz (ns.map .int))] ⟨h.n,h.n,h.os⟩)=_
  rw[eb]
  show leave h (.ref (h.n+1)) (h1'.new o)=_
  unfold leave
  rw[if_neg (by
   rw[vaa]
   intro z
   have:=z.2
   simp only[W.lt]at this
   have:=zax.mp this
   omega)]
  rfl
 .refine⟨by omega,ns,cells,0,0,?_,?_,h1,by omega,by omega,by omega,by omega⟩
  .show VH.get ⟨(h1'.new o).n,_,(h1'.new o).os⟩ (h.n+1)=_
   rw[get_lo]
   exact zai (h:=h1')
  .show VH.get ⟨(h1'.new o).n,_,(h1'.new o).os⟩ h.n=_
   rw[get_lo,zad (h:=h1') (by show h.n<h.n+1;omega)]
   exact zai (h:=⟨h.n,h.n,h.os⟩)
end
theorem opE{cl:Call}{o:Op}{a b:E}{ρ:En}{h h1 h2:VH}{x y:W}{r:Res W}(ea:ev cl a ρ h=.ok x h1)(eb:ev cl b ρ h1=.ok y h2)(e:opW o x y h2=r):ev cl (.op o a b) ρ h=r:=by
 rw[ev,ea,bindok,eb,bindok,e]
theorem retE{cl:Call}{a:E}{ρ:En}{h h1:VH}{x:W}(ea:ev cl a ρ h=.ok x h1):exs cl (.ret a) ρ h=.ok (.rt x) h1:=by
 rw[exs,ea,bindok]
theorem setE{cl:Call}{i:Nat}{a:E}{ρ:En}{h h1:VH}{x:W}(ea:ev cl a ρ h=.ok x h1):exs cl (.set i a) ρ h=.ok (.nx (ρ.set i (some x))) h1:=by
 rw[exs,ea,bindok]
theorem varE{cl:Call}{i:Nat}{ρ:En}{h:VH}{x:W}(e:ρ[i]?=some (some x)):ev cl (.var i) ρ h=.ok x h:=by
 rw[ev,e];rfl
theorem idxE{cl:Call}{a b:E}{ρ:En}{h h1 h2:VH}{x y z:W}(ea:ev cl a ρ h=.ok x h1)(eb:ev cl b ρ h1=.ok y h2)(e:idxW h2 x y=some z):ev cl (.idx a b) ρ h=.ok z h2:=by
 rw[ev,ea,bindok,eb,bindok,e];rfl
theorem lenE{cl:Call}{a:E}{ρ:En}{h h1:VH}{x:W}{ws:List W}(ea:ev cl a ρ h=.ok x h1)(e:seqW h1 x=some ws):ev cl (.bi .len (.cons a .nil)) ρ h=.ok (.int ws.length) h1:=by
 rw[ev,ev,ea,bindok,ev,bindok]
 show lenW [x] h1=_
 simp only[lenW,e,ofsome]
theorem zbj{cl:Call}{ρ:En}{h h1 h':VH}{n:Nat}{a:E}{x w:W}(ea:ev cl a ρ h=.ok x h1)(e:cl n [x] h1=.ok w h'):ev cl (.call n (.cons a .nil)) ρ h=.ok w h':=by
 rw[ev,ev,ea,bindok,ev]
 exact e
theorem zbk{cl:Call}{ρ:En}{h h1 h2 h':VH}{n:Nat}{a b:E}{x y w:W}(ea:ev cl a ρ h=.ok x h1)(eb:ev cl b ρ h1=.ok y h2)(e:cl n [x,y] h2=.ok w h'):ev cl (.call n (.cons a (.cons b .nil))) ρ h=.ok w h':=by
 rw[ev,ev,ea,bindok,ev,eb,bindok,ev]
 exact e
theorem zc3{cl:Call}{ρ:En}{h h1 h2 h3 h':VH}{n:Nat}{a b c:E}{x y z w:W}(ea:ev cl a ρ h=.ok x h1)(eb:ev cl b ρ h1=.ok y h2)(ec:ev cl c ρ h2=.ok z h3)(e:cl n [x,y,z] h3=.ok w h'):ev cl (.call n (.cons a (.cons b (.cons c .nil)))) ρ h=.ok w h':=by
 rw[ev,ev,ea,bindok,ev,eb,bindok,ev,ec,bindok,ev]
 exact e
theorem zqn{cl:Call}{ρ:En}{h h1 h2 h3 h4 h':VH}{n:Nat}{a b c d:E}{x y z u w:W}(ea:ev cl a ρ h=.ok x h1)(eb:ev cl b ρ h1=.ok y h2)(ec:ev cl c ρ h2=.ok z h3)(ed:ev cl d ρ h3=.ok u h4)(e:cl n [x,y,z,u] h4=.ok w h'):ev cl (.call n (.cons a (.cons b (.cons c (.cons d .nil))))) ρ h=.ok w h':=by
 rw[ev,ev,ea,bindok,ev,eb,bindok,ev,ec,bindok,ev,ed,bindok,ev]
 exact e
theorem tup2E{cl:Call}{a b:E}{ρ:En}{h h1 h2:VH}{x y:W}(ea:ev cl a ρ h=.ok x h1)(eb:ev cl b ρ h1=.ok y h2):ev cl (.tup (.cons a (.cons b .nil))) ρ h=.ok (.tup [x,y]) h2:=by
 rw[ev,ev,ea,bindok,ev,eb,bindok,ev];rfl
theorem slcE{cl:Call}{a lo hi:E}{bl bh:Bool}{ρ:En}{h h1 h2 h3 h4:VH}{x l u w:W}{l' u':Option Int}(ea:ev cl a ρ h=.ok x h1)(el:ev cl lo ρ h1=.ok l h2)(eu:ev cl hi ρ h2=.ok u h3)(pl:partW bl l=some l')(pu:partW bh u=some u')(e:slcW x l' u' h3=.ok w h4):ev cl (.slc a bl lo bh hi) ρ h=.ok w h4:=by
 rw[ev,ea,bindok,el,bindok,eu,bindok,pl,pu]
 exact e
theorem zst{xs ys:List Int}{h:VH}(hl:xs.length+ys.length<=1000000):opW .add (iW xs) (iW ys) h=.ok (iW (xs++ys)) h:=by
 unfold iW
 rw[zwj (by rw[vai,vai];exact hl),vd9]
theorem iteF{cl:Call}{c:E}{a b:S}{ρ:En}{h h1:VH}(e:ev cl c ρ h=.ok (.bl false) h1):exs cl (.ite c a b) ρ h=exs cl b ρ h1:=by
 rw[exs,e];rfl
theorem iteT{cl:Call}{c:E}{a b:S}{ρ:En}{h h1:VH}(e:ev cl c ρ h=.ok (.bl true) h1):exs cl (.ite c a b) ρ h=exs cl a ρ h1:=by
 rw[exs,e];rfl
theorem truE{cl:Call}{a:E}{ρ:En}{h h1:VH}{b:Bool}(e:ev cl a ρ h=.ok (.bl b) h1):ev cl (.tru a) ρ h=.ok (.bl b) h1:=by
 rw[ev,e,bindok];rfl
theorem exprE{cl:Call}{a:E}{ρ:En}{h h1:VH}{x:W}(ea:ev cl a ρ h=.ok x h1):exs cl (.expr a) ρ h=.ok (.nx ρ) h1:=by
 rw[exs,ea,bindok]
theorem znc{P:Int->Prop}:∀{ws:List W},(∀w∈ws,∃x:Int,w=.int x/\P x)->∃xs:List Int,ws=xs.map .int/\∀x∈xs,P x
 |[],_=>⟨[],rfl,by simp⟩
 |w::r,h=>by
  obtain⟨x,rfl,hx⟩:=h w vaw
  obtain⟨xs,rfl,hs⟩:=znc λw hw=>h w (vao _ hw)
  refine⟨x::xs,rfl,λy hy=>?_⟩
  rcases vat.mp hy with rfl|hy
  .exact hx
  .exact hs y hy
section
variable{F:Nat->Option Fn}(C:CoreD F)
include C
theorem zig{k:Nat}{h:VH}{d c b g:Nat}(f20:F 20=some fn20)(D:Dk h d c b)(hb:b+10<1000000000)(hg:g<=8) :
 ∃ls h',run F (k+4) 20 [.ref d,.int g] h=.ok (iW ls) h'/\ls.length=g/\Bits ls/\Dk h' d c (b+10)/\Keep h h' d c:=by
 rw[zan f20 rfl]
 have D0:Dk ⟨h.n,h.n,h.os⟩ d c b:=D.lo
 obtain⟨ws,h2,e2,p2,l2,D2,K2⟩:=zdk (cl:=run F (k+3)) (P:=λ_ w=>∃x:Int,w=.int x/\(x=0\/x=1)) (e:=zgn) (tl:=[some (.ref d)]) (m:=1) (lim:=g) (λi h b h0 hl D hb=>by
  obtain⟨r,h',e,r0,r1,D',K'⟩:=take C (k:=k) (m:=2) D (by omega) (by decide) (by decide)
  exact⟨.int r,h',by simp[zgn,ev,e],⟨r,rfl,by omega⟩,D',K'⟩) g 0 none ⟨h.n,h.n,h.os⟩ b (by omega) (by omega) D0 (by omega)
 obtain⟨ls,rfl,hbits⟩:=znc (zc2 p2)
 have e3:=zjn (cl:=run F (k+3)) (a:=.cons (.var 1) .nil) (ρ:=[some (.ref d),some (.int g)]) (h:=⟨h.n,h.n,h.os⟩) (ow:=1) (ix:=[0]) (e:=zgn) (by simp[ev]) (by omega) e2 (by rw[l2];omega)
 obtain⟨h5,e5,D5,K5⟩:=zcj (cl:=run F (k+3)) (fl:=.nx []) (w:=iW ls) (body:=fn20.body) (ρ:=[some (.ref d),some (.int g)]) (F:=F) (k:=k+3) (h:=h) (h':=h2.new (.lst (ls.map .int))) (by simp only[fn20,exs,e3,bindok];rfl) (.inr ⟨b,D⟩) (D2.new.mono (show _<=b+10 by omega)) K2.new
 exact⟨ls,h5,e5,by rw[vai]at l2;exact l2,hbits,D5,K5⟩
end
theorem notT{cl:Call}{a:E}{ρ:En}{h h1:VH}{b:Bool}(ea:ev cl a ρ h=.ok (.bl b) h1):ev cl (.not (.tru a)) ρ h=.ok (.bl (!b)) h1:=by
 rw[ev,truE ea,bindok]
section
variable{cl:Call}{ρ:En}{h h1 h2 h3 h':VH}{a b r:E}
theorem consE{x:W}{xs:List W}(ea:ev cl a ρ h=.ok x h1)(er:ev cl r ρ h1=.ok (.tup xs) h2):ev cl (.cons a r) ρ h=.ok (.tup (x::xs)) h2:=by
 rw[ev,ea,bindok,er];rfl
theorem orT(ea:ev cl a ρ h=.ok (.bl true) h1):ev cl (.or a b) ρ h=.ok (.bl true) h1:=by rw[ev,ea,bindok]
theorem nilE:ev cl .nil ρ h=.ok (.tup []) h:=by rw[ev]
theorem cstE{w:W}:ev cl (.cst w) ρ h=.ok w h:=by rw[ev]
theorem lstE{ys:List W}(ea:ev cl a ρ h=.ok (.tup ys) h1)(hl:Nat.ble ys.length 1000=true):ev cl (.lst a) ρ h=.ok (.ref h1.n) (h1.new (.lst ys)):=by
 rw[ev,ea,bindok]
 show(if Nat.ble ys.length 1000=true then _ else _)=_
 rw[if_pos hl]
theorem tupE{ys:List W}(ea:ev cl a ρ h=.ok (.tup ys) h1)(hl:Nat.ble ys.length 1000=true):ev cl (.tup a) ρ h=.ok (.tup ys) h1:=by
 rw[ev,ea,bindok]
 show(if Nat.ble ys.length 1000=true then _ else _)=_
 rw[if_pos hl]
theorem listE{x:W}{ws:List W}(ea:ev cl a ρ h=.ok x h1)(e:seqW h1 x=some ws):ev cl (.bi .list (.cons a .nil)) ρ h=.ok (.ref h1.n) (h1.new (.lst ws)):=by
 rw[ev,consE ea nilE,bindok]
 show listW [x] h1=_
 simp only[listW,e]
theorem zwk{ys:List W}{n:Nat}{w:W}(ea:ev cl a ρ h=.ok (.tup ys) h1)(e:cl n ys h1=.ok w h'):ev cl (.call n a) ρ h=.ok w h':=by
 rw[ev,ea,bindok];exact e
variable{f:Nat}{ys:List W}{s t:S}{c:Bool}
theorem telX{i:Int}(ea:ev cl a ρ h=.ok (.tup ys) h1)(ec:cl f ys h1=.ok (.int i) h2):exs cl (.tel f a c s t) ρ h=.ok (.rt (.int i)) h2:=by
 rw[exs,ea,bindok]
 show(cl f ys h1).bind _=_
 rw[ec];rfl
end
noncomputable def tB_b0(ft:Int):S:=(.seq (.ite (.not (.tru (.call 15 (.cons (.var 7) (.cons (.var 6) (.cons (.var 1) (.cons (.var 2) .nil))))))) (.seq (.seq (.expr (.cons (.var 4) (.cons (.var 6) .nil))) (.ret (.cst (.int ft)))) .skip) .skip) .skip)
noncomputable def tB_b1(ft:Int):S:=(.seq (.«for» .enm (.var 5) (.many [6,7]) (tB_b0 ft)) .skip)
noncomputable def tB(nb ft:Int):Fn:=⟨1,8,(.seq (.seq (.ite (.not (.tru (.call 10 (.cons (.var 0) .nil)))) (.seq (.ret (.cst (.int nb))) .skip) .skip) (.seq (.unp [1,2,3] (.slc (.var 0) false (.cst .non) true (.cst (.int (3))))) (.seq (.«for» .enm (.var 3) (.many [4,5]) (tB_b1 ft)) .skip))) (.ret (.cst (.tup [.non]))))⟩
noncomputable def tI(a:Nat):Fn:=⟨2,2,(.seq (.seq (.tel a (.cons (.var 0) .nil) false .skip .skip) (.seq (.ret (.tup (.cons (.call 17 (.cons (.var 1) (.cons (.idx (.var 0) (.cst (.int (1)))) .nil))) .nil))) .skip)) (.ret (.cst (.tup [.non]))))⟩
noncomputable def LKn(h:VH)(l:W):Prop:=Kn h l/\∀ws,l=.tup ws->ws.length<1000000/\∀x∈ws,Kn h x
theorem LKn.lo{h:VH}{l:W}(k:LKn h l):LKn ⟨h.n,h.n,h.os⟩ l:=⟨kn_lo.mpr k.1,λws e=>⟨(k.2 ws e).1,λx hx=>kn_lo.mpr ((k.2 ws e).2 x hx)⟩⟩
section
variable{F:Nat->Option Fn}{a:Nat}{nb ft:Int}(B':CoreB F)(t0:F a=some (tB nb ft))
include B' t0
omit B' in
theorem zhq{k:Nat}{h:VH}{w:W}(e1:run F (k+6) 10 [w] ⟨h.n,h.n,h.os⟩=.ok (.bl false) ⟨h.n,h.n,h.os⟩):run F (k+7) a [w] h=.ok (.int nb) h:=by
 rw[zan t0 rfl]
 show fin h (exs (run F (k+6)) (tB nb ft).body [some w,none,none,none,none,none,none,none] ⟨h.n,h.n,h.os⟩)=_
 rw[show exs (run F (k+6)) (tB nb ft).body [some w,none,none,none,none,none,none,none] ⟨h.n,h.n,h.os⟩=.ok (.rt (.int nb)) ⟨h.n,h.n,h.os⟩from zab (zab ((iteT (notT (zbj (varE rfl) e1))).trans (zab (retE cstE))))]
 exact zak (vac _) lt_int
theorem zpf{k:Nat}{h:VH}{B:Bd}{fl:Fl}(b:B.Ok0)(e2:forL (tgW (.many [4,5])) (exs (run F (k+6)) (tB_b1 ft)) (enumW 0 (B.rows.map .tup)) [some B.w,some (.int B.wd),some (.int B.gr),some (.tup (B.rows.map .tup)),none,none,none,none] ⟨h.n,h.n,h.os⟩=.ok fl ⟨h.n,h.n,h.os⟩) :
 run F (k+7) a [B.w] h=fin h ((exs (run F (k+6)) .skip [] ⟨h.n,h.n,h.os⟩).bind λ_ h=>match fl with|.nx ρ=>.ok (.rt (.tup [.non])) h|fl=>.ok fl h):=by
 rw[zan t0 rfl]
 have e1:=zhn B' (k:=k) (h:=⟨h.n,h.n,h.os⟩) b
 have h60:=b.r1
 show fin h (exs (run F (k+6)) (tB nb ft).body [some B.w,none,none,none,none,none,none,none] ⟨h.n,h.n,h.os⟩)=_
 have ef:exs (run F (k+6)) (.«for» .enm (.var 3) (.many [4,5]) (tB_b1 ft)) [some B.w,some (.int B.wd),some (.int B.gr),some (.tup (B.rows.map .tup)),none,none,none,none] ⟨h.n,h.n,h.os⟩=.ok fl ⟨h.n,h.n,h.os⟩:=by
  rw[exs,varE (x:=.tup (B.rows.map .tup)) rfl,bindok,zdx (by rw[vai];omega)]
  exact e2
 have eu:exs (run F (k+6)) (.unp [1,2,3] (.slc (.var 0) false (.cst .non) true (.cst (.int (3))))) [some B.w,none,none,none,none,none,none,none] ⟨h.n,h.n,h.os⟩=.ok (.nx [some B.w,some (.int B.wd),some (.int B.gr),some (.tup (B.rows.map .tup)),none,none,none,none]) ⟨h.n,h.n,h.os⟩:=rfl
 unfold tB
 cases fl with
 |nx ρ=>
  rw[zac ((zac ((iteF (notT (zbj (varE rfl) e1))).trans rfl)).trans ((zac eu).trans ((zac ef).trans rfl)))]
  rfl
 |rt w=>
  rw[zab ((zac ((iteF (notT (zbj (varE rfl) e1))).trans rfl)).trans ((zac eu).trans (zab ef)))]
  rfl
 |bk ρ=>
  rw[zfl ((zac ((iteF (notT (zbj (varE rfl) e1))).trans rfl)).trans ((zac eu).trans (zfl ef)))]
  rfl
 |ct ρ=>
  have:∀{cl:Call}{a b:S}{ρ ρ':En}{h h':VH},exs cl a ρ h=.ok (.ct ρ') h'->exs cl (.seq a b) ρ h=.ok (.ct ρ') h':=λe=>by rw[exs,e];rfl
  rw[this ((zac ((iteF (notT (zbj (varE rfl) e1))).trans rfl)).trans ((zac eu).trans (this ef)))]
  rfl
theorem zhr{k:Nat}{h:VH}{B:Bd}{x:W}{r:List W}{rs:List (List W)}(b:B.Ok0)(hr:B.rows=(x::r)::rs)(hp:zbb 24 x=true)(hm:zal x 0 B.wd B.gr=false):run F (k+7) a [B.w] h=.ok (.int ft) h:=by
 have hl:=b.r2 (x::r) (by rw[hr];exact vaw)
 have h40:=b.w2
 have e1:=zhl B' (k:=k+2) (h:=⟨h.n,h.n,h.os⟩) (c:=(0:Nat)) (wd:=B.wd) (g:=B.gr) hp
 rw[show((0:Nat):Int)=0 from rfl,hm]at e1
 have e0:exs (run F (k+6)) (tB_b0 ft) [some B.w,some (.int B.wd),some (.int B.gr),some (.tup (B.rows.map .tup)),some (.int 0),some (.tup (x::r)),some (.int 0),some x] ⟨h.n,h.n,h.os⟩=.ok (.rt (.int ft)) ⟨h.n,h.n,h.os⟩:=
  zab ((iteT (notT (zqn (varE rfl) (varE rfl) (varE rfl) (varE rfl) e1))).trans (zab ((zac (exprE (consE (varE rfl) (consE (varE rfl) nilE)))).trans (retE cstE))))
 have e3:exs (run F (k+6)) (tB_b1 ft) [some B.w,some (.int B.wd),some (.int B.gr),some (.tup (B.rows.map .tup)),some (.int 0),some (.tup (x::r)),none,none] ⟨h.n,h.n,h.os⟩=.ok (.rt (.int ft)) ⟨h.n,h.n,h.os⟩:=by
  refine zab ?_
  rw[exs,varE (x:=.tup (x::r)) rfl,bindok,zdx (by omega)]
  simp only[forL,enumW,tgW,seqW,zbs,List.set]
  rw[show((0:Nat):Int)=0 from rfl,e0];rfl
 have e2:forL (tgW (.many [4,5])) (exs (run F (k+6)) (tB_b1 ft)) (enumW 0 (B.rows.map .tup)) [some B.w,some (.int B.wd),some (.int B.gr),some (.tup (B.rows.map .tup)),none,none,none,none] ⟨h.n,h.n,h.os⟩=.ok (.rt (.int ft)) ⟨h.n,h.n,h.os⟩:=by
  generalize hR:(.tup (B.rows.map .tup):W)=R at e3
  rw[hr,va1]
  simp only[forL,enumW,tgW,seqW,zbs,List.set]
  rw[show((0:Nat):Int)=0 from rfl,e3];rfl
 rw[zpf B' t0 b e2]
 exact zak (vac _) lt_int
end
section
variable{F:Nat->Option Fn}(B':CoreB F)
include B'
theorem znd{k:Nat}{h:VH}{w:W}(hk:Kn h w)(q:zar w 5 5=false):run F (k+6) 10 [w] h=.ok (.bl false) h:=by
 rw[zan B'.f10 rfl]
 have e1:=zap B'.toCoreA (k:=k+4) (h:=⟨h.n,h.n,h.os⟩) (w:=w) (lo:=5) (hi:=5) (kn_lo.mpr hk)
 rw[q]at e1
 show fin h (exs (run F (k+5)) fn10.body [some w,none,none,none,none,none] ⟨h.n,h.n,h.os⟩)=_
 rw[show exs (run F (k+5)) fn10.body [some w,none,none,none,none,none] ⟨h.n,h.n,h.os⟩=.ok (.rt (.bl false)) ⟨h.n,h.n,h.os⟩from zab ((iteT (notT (zc3 (varE rfl) cstE cstE e1))).trans (zab (retE cstE)))]
 exact zak (vac _) lt_bl
end
theorem Dk.ltn{h:VH}{d c b:Nat}(D:Dk h d c b):d<h.n/\c<h.n:=by
 obtain⟨ne,ns,cells,p,q,a1,a2,a3⟩:=D
 exact⟨zaq a1,zaq a2⟩
theorem Dk.gx{h h':VH}{d c b:Nat}(D:Dk h d c b)(g:∀i o,h.get i=some o->h'.get i=some o):Dk h' d c b:=by
 obtain⟨ne,ns,cells,p,q,a1,a2,a3⟩:=D
 exact⟨ne,ns,cells,p,q,g _ _ a1,g _ _ a2,a3⟩
theorem draw{F:Nat->Option Fn}(C:CoreD F){k:Nat}{h h1:VH}{ρ:En}{e:E}{ys:List W}{m:Int}{i d c b:Nat}(e0:ρ[i]?=some (some (.ref d)))(ea:ev (run F (k+3)) e ρ h=.ok (.tup ys) h1)(hl:(ys.length:Int)=m)(hm:0<m)(hm2:m<=1000)(D:Dk h1 d c b)(hb:b<1000000000) :
 ∃w h',ev (run F (k+3)) (.idx (.lst e) (.call 5 (.cons (.var i) (.cons (.cst (.int m)) .nil)))) ρ h=.ok w h'/\w∈ys/\Dk h' d c (b+1)/\Keep h1 h' d c:=by
 have l1:=D.ltn
 obtain⟨r,h',e1,a1,b1,D1,K1⟩:=take C (k:=k) (m:=m) (D.new (o:=.lst ys)) hb hm (by omega)
 obtain⟨j,rfl⟩:=vbo a1
 have hj:j<ys.length:=by omega
 have g:h'.get h1.n=some (.lst ys):=K1.get _ _ (by omega) (by omega) zai
 refine⟨ys[j],h',idxE (lstE ea (Nat.ble_eq.mpr (by omega))) (zbk (varE e0) cstE e1) ?_,vdj hj,D1,(Keep.refl.new).trans K1⟩
 simp only[idxW,g]
 exact zfu (vay hj)
theorem allE{cl:Call}{a:E}{ρ:En}{h h1:VH}{j:Nat}{n:Nat}(ea:ev cl a ρ h=.ok (.ref j) h1)(g:h1.get j=some (.lst (List.replicate n (.bl true)))):ev cl (.bi .all (.cons a .nil)) ρ h=.ok (.bl true) h1:=by
 have hm:mapO blW (List.replicate n (W.bl true))=some (List.replicate n true):=by
  clear g
  induction n with
  |zero=>rfl
  |succ n ih=>simp only[vbf,mapO,blW,ih]
 have ha:(List.replicate n true).all id=true:=by
  rw[vbr];intro x hx;exact(List.mem_replicate.mp hx).2
 rw[ev,consE ea nilE,bindok]
 show allW [.ref j] h1=_
 simp only[allW,g,hm,vbb,ha,ofsome]
theorem zih{ws:List W}{l u:Option Int}{w:W}(h:w∈cutW ws l u):w∈ws:=by
 unfold cutW at h
 exact List.mem_of_mem_drop (List.mem_of_mem_take h)
theorem zii{ws:List W}{l u:Option Int}:(cutW ws l u).length<=ws.length:=by
 unfold cutW
 rw[vdz,vdg]
 omega
theorem zwl{ws:List W}:cutW ws (some 1) none=ws.drop 1:=by
 show(ws.drop (HT.sIx ws.length 0 (some ((1:Nat):Int)))).take (HT.sIx ws.length ws.length none-HT.sIx ws.length 0 (some ((1:Nat):Int)))=_
 rw[HT.sIx_nat,HT.sIx_none]
 cases ws with
 |nil=>rfl
 |cons x r=>
  rw[show min 1 (x::r).length=1 by rw[vam];omega]
  exact List.take_of_length_le (by simp)
theorem addT{xs ys:List W}{h:VH}(hl:xs.length+ys.length<=1000000):opW .add (.tup xs) (.tup ys) h=.ok (.tup (xs++ys)) h:=by
 simp only[opW,opT,zb2 hl,vbd,vbb,ofsome]
theorem negE{cl:Call}{a:E}{ρ:En}{h h1:VH}{i:Int}(ea:ev cl a ρ h=.ok (.int i) h1):ev cl (.neg a) ρ h=.ok (.int (-i)) h1:=by
 rw[ev,ea];rfl
theorem zwm{ws:List W}{a lo hi:Int}(h:(ws.length:Int)≠a):zay (.tup ws) a a lo hi=false:=by
 unfold zay zar
 rw[Bool.and_eq_false_iff,Bool.and_eq_false_iff,decide_eq_false_iff_not,decide_eq_false_iff_not]
 exact .inl (by omega)
theorem Keep.set1{h h':VH}{d c n:Nat}{o o0:VO}(K:Keep h h' d c)(g:h'.get n=some o0)(hn:h.n<=n):Keep h (h'.set n o) d c:=⟨K.le,λi o' h1 h2 e=>by
 have:=zaq e
 rw[zah g (by omega)]
 exact K.get i o' h1 h2 e⟩
theorem zsu{h h':VH}{w:W}:∃h2,fin h (.ok (.rt w) h')=.ok w h2:=by
 show ∃h2,leave h w h'=.ok w h2
 unfold leave
 split
 .exact⟨_,rfl⟩
 .exact⟨_,rfl⟩
theorem powE{cl:Call}{ρ:En}{h:VH}{i j z:Int}(e:opI .pow i j=some z):ev cl (.op .pow (.cst (.int i)) (.cst (.int j))) ρ h=.ok (.int z) h:=
 opE cstE cstE (by simp only[opW,e,vbb,ofsome])
theorem addL{xs ys:List W}{h:VH}{i j:Nat}(gi:h.get i=some (.lst xs))(gj:h.get j=some (.lst ys))(hl:xs.length+ys.length<=1000000):opW .add (.ref i) (.ref j) h=.ok (.ref h.n) (h.new (.lst (xs++ys))):=by
 simp only[opW,gi,gj,opL,zb2 hl,vbd]
noncomputable def tS(a:Nat):Fn:=⟨2,4,(.seq (.seq (.tel a (.cons (.var 0) .nil) false .skip .skip) (.seq (.ite (.not (.tru (.call 6 (.cons (.var 1) (.cons (.cst (.int (2))) (.cons (.cst (.int (2))) .nil)))))) (.seq (.ret (.tup (.cons (.cst (.bl false)) .nil))) .skip) .skip) (.seq (.unp [2,3] (.var 1)) (.seq (.ret (.tup (.cons (.and (.call 17 (.cons (.var 2) (.cons (.idx (.var 0) (.cst (.int (1)))) .nil))) (.call 12 (.cons (.var 3) (.cons (.bi .len (.cons (.idx (.var 0) (.cst (.int (3)))) .nil)) .nil)))) .nil))) .skip)))) (.ret (.cst (.tup [.non]))))⟩
noncomputable def isSt(B:Bd)(s:W):Bool:=match s with
 |.tup [l,f]=>zay l B.gr B.gr 0 1&&fon f B.fd.length
 |_=>false
noncomputable def SKn(h:VH)(s:W):Prop:=Kn h s/\∀l f,s=.tup [l,f]->LKn h l/\Kn h f
theorem SKn.lo{h:VH}{s:W}(k:SKn h s):SKn ⟨h.n,h.n,h.os⟩ s:=⟨kn_lo.mpr k.1,λl f e=>⟨(k.2 l f e).1.lo,kn_lo.mpr (k.2 l f e).2⟩⟩
theorem zne:∃m,fuel=m+1000:=⟨999000,rfl⟩
theorem zqo{nx:Nat->VH->Option (Option W)}{e:FE}{h:VH}{ws:List W}{x:W}{tl:En}{f:W->W}(hx:∀i,nx i h=some ws[i]?)(he:∀w∈ws,e (some x::some w::tl) h=.ok (f w) h) :
 ∀(fu i:Nat)(b:Option W)(acc:List W),i<=ws.length->ws.length<fu+i->∃b',lcI nx (tgW (.one 1)) (λ_ h=>.ok (.bl true) h) e fu i (some x::b::tl) h acc=.ok (some x::b'::tl,((ws.drop i).map f).reverse++acc) h
 |0,i,b,acc,hi,hl=>by omega
 |fu+1,i,b,acc,hi,hl=>by
  cases q:ws[i]? with
  |none=>
   rw[vcl (vbc.mp q)]
   exact⟨b,by simp only[lcI,hx,q];rfl⟩
  |some w=>
   obtain⟨hi,ee⟩:=van.mp q
   obtain⟨b',ih⟩:=zqo hx he fu (i+1) (some w) (f w::acc) hi (by omega)
   refine⟨b',?_⟩
   simp only[lcI,hx,q,tgW,List.set_cons_succ,vdt,bindok,he w (vb9 q),ih]
   rw[vcg hi,ee]
   simp
theorem zqp{nx:Nat->VH->Option (Option W)}{inn:En->VH->List W->Res (En×List W)}{h:VH}{ws:List W}{tl:En}{g:W->List W}(hx:∀i,nx i h=some ws[i]?)
 (hi:∀x∈ws,∀(b:Option W)(acc:List W),∃b',inn (some x::b::tl) h acc=.ok (some x::b'::tl,(g x).reverse++acc) h) :
 ∀(fu i:Nat)(a b:Option W)(acc:List W),i<=ws.length->ws.length<fu+i->lcO nx (tgW (.one 0)) (λ_ h=>.ok (.bl true) h) inn fu i (a::b::tl) h acc=.ok (acc.reverse++(ws.drop i).flatMap g) h
 |0,i,a,b,acc,hi,hl=>by omega
 |fu+1,i,a,b,acc,hi',hl=>by
  cases q:ws[i]? with
  |none=>
   rw[vcl (vbc.mp q)]
   simp only[lcO,hx,q];simp
  |some w=>
   obtain⟨hil,ee⟩:=van.mp q
   obtain⟨b',e1⟩:=hi w (vb9 q) b acc
   simp only[lcO,hx,q,tgW,vdt,bindok,e1]
   rw[zqp hx hi fu (i+1) (some w) b' ((g w).reverse++acc) hil (by omega),vcg hil,ee]
   simp
theorem zfn{nx:Nat->VH->Option (Option W)}{c e:FE}{h:VH}{ws:List W}{tl:En}{p:W->Bool}{f:W->W}(hx:∀i,nx i h=some ws[i]?)(hc:∀w∈ws,c (some w::tl) h=.ok (.bl (p w)) h)(he:∀w∈ws,e (some w::tl) h=.ok (f w) h) :
 ∀(fu i:Nat)(a:Option W)(acc:List W),i<=ws.length->ws.length<fu+i->lcG nx (tgW (.one 0)) c e fu i (a::tl) h acc=.ok (acc.reverse++((ws.drop i).filter p).map f) h
 |0,i,a,acc,hi,hl=>by omega
 |fu+1,i,a,acc,hi,hl=>by
  cases q:ws[i]? with
  |none=>
   rw[vcl (vbc.mp q)]
   simp only[lcG,hx,q];simp
  |some w=>
   obtain⟨hi,ee⟩:=van.mp q
   have hm:=vb9 q
   simp only[lcG,hx,q,tgW,vdt,hc w hm,bindok]
   rw[vcg hi,ee]
   cases z:p w with
   |true=>
    simp only[he w hm,bindok]
    rw[zfn hx hc he fu (i+1) (some w) (f w::acc) hi (by omega)]
    simp[z]
   |false=>
    rw[zfn hx hc he fu (i+1) (some w) acc hi (by omega)]
    simp[z]
noncomputable def allL:Nat->List (List Int)
 |0=>[[]]
 |n+1=>(allL n).flatMap λl=>[l++[0],l++[1]]
theorem zd0:∀n,(allL n).length=2 ^ n
 |0=>rfl
 |n+1=>by
  simp only[allL,List.length_flatMap,vam,vdq]
  rw[Nat.pow_succ,<-zd0 n]
  induction allL n with
  |nil=>rfl
  |cons x r ih=>simp only[va1,List.sum_cons,ih,vam];omega
theorem zij:∀n,∀l∈allL n,l.length=n/\Bits l
 |0,l,h=>by
  simp only[allL,va8]at h
  subst h
  exact⟨rfl,by intro x hx;cases hx⟩
 |n+1,l,h=>by
  simp only[allL,List.mem_flatMap]at h
  obtain⟨m,hm,h⟩:=h
  obtain⟨h1,h2⟩:=zij n m hm
  simp only[vat,vbj,vdk]at h
  rcases h with rfl|rfl
  .refine⟨by simp[h1],λx hx=>?_⟩
   rcases vbq.mp hx with hx|hx
   .exact h2 x hx
   .simp only[va8]at hx;exact .inl hx
  .refine⟨by simp[h1],λx hx=>?_⟩
   rcases vbq.mp hx with hx|hx
   .exact h2 x hx
   .simp only[va8]at hx;exact .inr hx
theorem zfo{h:VH}{i:Nat}{ws:List W}(g:h.get i=some (.lst ws))(j:Nat):nxt .seq (.ref i) j h=some ws[j]?:=by
 simp only[nxt,seqW,g,vbb]
theorem pow8{g:Nat}(h:g<=8):2 ^ g<=256:=vap (Nat.pow_le_pow_right (by decide) h) (by decide)
section
variable{F:Nat->Option Fn}
theorem zsv{l:List Int}{x:Int}{h:VH}(hl:l.length<=8):opW .add (iW l) (.tup [.int x]) h=.ok (iW (l++[x])) h:=by
 have:=zst (xs:=l) (ys:=[x]) (h:=h) (by simp;omega)
 exact this
theorem zsw{cl:Call}{h:VH}{g t j:Nat}(ht:t<8)(hj:h.get j=some (.lst ((allL t).map iW))) :
 exs cl zdz [some (.int g),some (.ref j),some (.int t)] h=.ok (.nx [some (.int g),some (.ref h.n),some (.int t)]) (h.new (.lst ((allL (t+1)).map iW))):=by
 have e1:lcO (nxt .seq (.ref j)) (tgW (.one 0)) (λ_ h=>.ok (.bl true) h) (λρ h acc=>(ev cl zck ρ h).bind λy h=>lcI (nxt .seq y) (tgW (.one 1)) (λ_ h=>.ok (.bl true) h) (ev cl zcl) fuel 0 ρ h acc) fuel 0 [none,none] h []=.ok ((allL (t+1)).map iW) h:=by
  have hl:((allL t).map iW).length<fuel+0:=by
   have:=pow8 (g:=t) (by omega)
   obtain⟨m,hm⟩:=zne
   rw[vai,zd0];omega
  have:=zqp (inn:=λρ h acc=>(ev cl zck ρ h).bind λy h=>lcI (nxt .seq y) (tgW (.one 1)) (λ_ h=>.ok (.bl true) h) (ev cl zcl) fuel 0 ρ h acc) (tl:=[]) (g:=λx=>match x with|.tup xs=>[.tup (xs++[.int 0]),.tup (xs++[.int 1])]|_=>[]) (zfo hj) (λx hx b acc=>by
   obtain⟨l,hl,rfl⟩:=vco.mp hx
   have hlen:=(zij t l hl).1
   have ea:ev cl zck (some (iW l)::b :: []) h=.ok (.tup [.int 0,.int 1]) h:=rfl
   obtain⟨b',e2⟩:=zqo (nx:=nxt .seq (.tup [.int 0,.int 1])) (e:=ev cl zcl) (h:=h) (ws:=[.int 0,.int 1]) (x:=iW l) (tl:=[]) (f:=λw=>.tup (l.map .int++[w])) (λi=>rfl) (λw hw=>by
    have:∃y:Int,w=.int y:=by
     simp only[vat,vbj,vdk]at hw
     rcases hw with rfl|rfl<;>exact⟨_,rfl⟩
    obtain⟨y,rfl⟩:=this
    show ev cl (.op .add (.var 0) (.tup (.cons (.var 1) .nil))) _ h=_
    refine opE (varE rfl) (h2:=h) (y:=.tup [.int y]) rfl ?_
    rw[zsv (by omega)]
    unfold iW
    rw[vd9];rfl) fuel 0 b acc (by simp) (by obtain⟨m,hm⟩:=zne;simp;omega)
   exact⟨b',by rw[ea,bindok,e2];rfl⟩) fuel 0 none none [] (by omega) hl
  rw[this]
  congr 1
  simp only[List.reverse_nil,vcj,vdf,allL,List.flatMap_map,List.map_flatMap]
  congr 1
  funext l
  simp[iW]
 have hz:((allL (t+1)).map iW).length<=1000000:=by
  have:=pow8 (g:=t+1) (by omega)
  rw[vai,zd0];omega
 have e2:ev cl (.lc2 .seq (.var 1) (.one 0) 2 [] (.cst (.bl true)) .seq zck (.one 1) (.cst (.bl true)) zcl) [some (.int g),some (.ref j),some (.int t)] h=.ok (.ref h.n) (h.new (.lst ((allL (t+1)).map iW))):=by
  rw[ev,varE (x:=.ref j) rfl,bindok]
  show(lcO (nxt .seq (.ref j)) (tgW (.one 0)) (λ_ h=>.ok (.bl true) h) (λρ h acc=>(ev cl zck ρ h).bind λy h=>lcI (nxt .seq y) (tgW (.one 1)) (λ_ h=>.ok (.bl true) h) (ev cl zcl) fuel 0 ρ h acc) fuel 0 [none,none] h []).bind _=_
  rw[e1,bindok,if_pos (zb2 hz)]
 unfold zdz
 rw[zac (setE e2)]
 rfl
end
noncomputable def fn148:Fn:=⟨3,3,(.seq (.ret (.and (.isi .int (.var 0)) (.and (.not (.isi .bool (.var 0))) (.and (.cmp .le (.var 1) (.var 0)) (.cmp .le (.var 0) (.var 2)))))) .skip)⟩
noncomputable def zbl:E:=(.call 701 (.cons (.var 0) (.cons (.var 1) .nil)))
noncomputable def zd1:Fn:=⟨1,3,(.seq (.set 1 (.call 190 (.cons (.var 0) .nil))) (.seq (.set 2 (.call 702 (.cons (.var 0) .nil))) (.seq (.ite (.or (.not (.tru (.isi .list (.var 1)))) (.cmp .ne (.var 1) (.var 2))) (.seq (.ret (.cst (.bl false))) .skip) .skip) (.seq (.ite (.not (.tru (.bi .all (.cons (.lc .seq (.var 1) (.one 0) 1 [0] (.cst (.bl true)) zbl) .nil)))) (.seq (.ret (.cst (.bl false))) .skip) .skip) (.seq (.expr (.mt .reverse (.var 1) .nil)) (.seq (.expr (.mt .append (.var 1) (.cons (.cst .non) .nil))) (.seq (.ret (.cmp .eq (.call 190 (.cons (.var 0) .nil)) (.var 2))) .skip)))))))⟩
noncomputable def zbm:E:=(.not (.tru (.call 148 (.cons (.var 0) (.cons (.cst (.int (0))) (.cons (.cst (.int (1))) .nil))))))
noncomputable def zb3:E:=(.var 0)
noncomputable def zb4:Fn:=⟨2,2,(.seq (.ite (.or (.not (.tru (.isi .tuple (.var 0)))) (.cmp .ne (.bi .len (.cons (.var 0) .nil)) (.var 1))) (.seq (.ret (.cst (.bl false))) .skip) .skip) (.seq (.ret (.cmp .eq (.lc .seq (.var 0) (.one 0) 1 [] zbm zb3) (.lst .nil))) .skip))⟩
noncomputable def za1:E:=(.op .band (.op .shr (.var 2) (.op .sub (.op .sub (.var 1) (.cst (.int (1)))) (.var 0))) (.cst (.int (1))))
noncomputable def zbc:S:=(.seq (.expr (.mt .append (.var 1) (.cons (.bi .tuple (.cons (.lc .rng1 (.cons (.var 0) .nil) (.one 0) 1 [0,2] (.cst (.bl true)) za1) .nil)) .nil))) .skip)
noncomputable def zd2:Fn:=⟨1,3,(.seq (.set 1 (.lst .nil)) (.seq (.«for» .rng1 (.cons (.op .shl (.cst (.int (1))) (.var 0)) .nil) (.one 2) zbc) (.seq (.ret (.var 1)) .skip)))⟩
noncomputable def zbv:Fn:=⟨3,3,(.seq (.ite (.or (.not (.tru (.isi .tuple (.var 0)))) (.or (.cmp .ne (.bi .len (.cons (.var 0) .nil)) (.cst (.int (2)))) (.not (.tru (.call 701 (.cons (.idx (.var 0) (.cst (.int (0)))) (.cons (.var 1) .nil))))))) (.seq (.ret (.cst (.bl false))) .skip) .skip) (.seq (.ret (.or (.cmp .isn (.idx (.var 0) (.cst (.int (1)))) (.cst .non)) (.call 148 (.cons (.idx (.var 0) (.cst (.int (1)))) (.cons (.cst (.int (0))) (.cons (.op .sub (.var 2) (.cst (.int (1)))) .nil)))))) .skip))⟩
noncomputable def zd3:Fn:=⟨1,2,(.seq (.tryc 711 (.cons (.var 0) .nil) [(.mk 37 (.bl false)),(.mk 56 (.bl false)),(.mk 116 (.bl true))]) (.seq (.ret (.cst (.bl false))) .skip))⟩
noncomputable def zbd:S:=(.seq (.expr (.mt .append (.var 7) (.cons (.tup (.cons (.var 8) (.cons (.idx (.var 6) (.call 5 (.cons (.var 0) (.cons (.cst (.int (9))) .nil)))) .nil))) .nil))) .skip)
noncomputable def zb5:E:=(.tup (.cons (.var 1) (.cons (.var 0) .nil)))
noncomputable def zd4:Fn:=⟨3,9,(.seq (.set 3 (.call 5 (.cons (.var 0) (.cons (.op .add (.bi .len (.cons (.var 1) .nil)) (.cst (.int (1)))) .nil)))) (.seq (.set 4 (.idx (.lst (.cons (.cst (.int (2))) (.cons (.neg (.cst (.int (1)))) (.cons (.cst (.bl true)) (.cons (.cst (.bl false)) (.cons (.cst .non) (.cons (.cst (.str (PySem.Str.ofString "0"))) (.cons (.tup (.cons (.cst (.int (0))) .nil)) (.cons (.lst (.cons (.cst (.int (0))) .nil)) .nil))))))))) (.call 5 (.cons (.var 0) (.cons (.cst (.int (8))) .nil))))) (.seq (.set 5 (.lst (.cons (.var 1) (.cons (.bi .list (.cons (.var 1) .nil)) (.cons (.op .add (.var 1) (.tup (.cons (.cst (.int (0))) .nil))) (.cons (.op .add (.slc (.var 1) false (.cst .non) true (.var 3)) (.slc (.var 1) true (.op .add (.var 3) (.cst (.int (1)))) false (.cst .non))) (.cons (.op .add (.op .add (.slc (.var 1) false (.cst .non) true (.var 3)) (.tup (.cons (.var 4) .nil))) (.slc (.var 1) true (.op .add (.var 3) (.cst (.int (1)))) false (.cst .non))) .nil))))))) (.seq (.set 5 (.op .add (.var 5) (.lst (.cons (.op .add (.op .add (.slc (.var 1) false (.cst .non) true (.var 3)) (.tup (.cons (.var 4) .nil))) (.slc (.var 1) true (.var 3) false (.cst .non))) (.cons (.cst .non) (.cons (.cst (.int (0))) (.cons (.cst (.str (PySem.Str.ofString ""))) (.cons (.cst (.str (PySem.Str.ofString "0"))) (.cons (.dsp .nil) (.cons (.lst .nil) (.cons (.tup .nil) (.cons (.cst (.bl true)) .nil)))))))))))) (.seq (.set 6 (.lst (.cons (.cst .non) (.cons (.cst (.int (0))) (.cons (.op .sub (.var 2) (.cst (.int (1)))) (.cons (.var 2) (.cons (.neg (.cst (.int (1)))) (.cons (.cst (.bl true)) (.cons (.cst (.bl false)) (.cons (.cst (.str (PySem.Str.ofString "0"))) (.cons (.tup (.cons (.cst (.int (0))) .nil)) .nil))))))))))) (.seq (.set 7 (.bi .list (.cons (.var 5) .nil))) (.seq (.«for» .seq (.slc (.var 5) false (.cst .non) true (.cst (.int (6)))) (.one 8) zbd) (.seq (.set 7 (.op .add (.var 7) (.lc .seq (.var 6) (.one 0) 1 [1] (.cst (.bl true)) zb5))) (.seq (.ret (.op .add (.var 7) (.lst (.cons (.tup (.cons (.var 1) .nil)) (.cons (.tup (.cons (.var 1) (.cons (.cst (.int (0))) (.cons (.cst (.int (0))) .nil)))) (.cons (.lst (.cons (.var 1) (.cons (.cst (.int (0))) .nil))) (.cons (.tup (.cons (.cst (.int (0))) (.cons (.var 1) .nil))) (.cons (.tup (.cons (.cst .non) (.cons (.cst .non) .nil))) .nil)))))))) .skip)))))))))⟩
noncomputable def zd5:Fn:=⟨2,3,(.seq (.ite (.cmp .eq (.var 1) (.cst (.int (0)))) (.tryc 709 (.cons (.var 0) (.cons (.tup .nil) .nil)) [(.mk 37 (.str (PySem.Str.ofString "board"))),(.mk 56 (.str (PySem.Str.ofString "fault"))),(.mk 116 (.str (PySem.Str.ofString "number")))]) (.tryc 710 (.cons (.var 0) (.cons (.tup (.cons (.tup .nil) (.cons (.cst (.int (0))) .nil))) .nil)) [(.mk 37 (.str (PySem.Str.ofString "board"))),(.mk 56 (.str (PySem.Str.ofString "fault"))),(.mk 116 (.str (PySem.Str.ofString "number")))])) (.seq (.ret (.cst (.str (PySem.Str.ofString "told")))) .skip))⟩
noncomputable def zcr:S:=(.seq (.ite (.or (.not (.tru (.isi .bool (.var 6)))) (.cmp .ne (.var 6) (.var 7))) (.seq (.ret (.cst (.bl false))) .skip) .skip) .skip)
noncomputable def zbn:S:=(.seq (.«for» .seq (.lst (.cons (.tup (.cons (.call 22 (.cons (.var 2) (.cons (.var 5) .nil))) (.cons (.call 701 (.cons (.var 5) (.cons (.var 3) .nil))) .nil))) (.cons (.tup (.cons (.call 27 (.cons (.var 2) (.cons (.var 5) .nil))) (.cons (.call 703 (.cons (.var 5) (.cons (.var 3) (.cons (.var 4) .nil)))) .nil))) .nil))) (.many [6,7]) zcr) .skip)
noncomputable def zbo:S:=(.seq (.ite (.or (.cmp .ne (.call 706 (.cons (.var 8) (.cons (.var 9) .nil))) (.cst (.str (PySem.Str.ofString "fault")))) (.cmp .ne (.call 706 (.cons (.bi .list (.cons (.var 2) .nil)) (.cons (.var 9) .nil))) (.cst (.str (PySem.Str.ofString "board"))))) (.seq (.ret (.cst (.bl false))) .skip) .skip) .skip)
noncomputable def zd6:Fn:=⟨1,11,(.seq (.set 1 (.call 3 (.cons (.var 0) .nil))) (.seq (.set 2 (.call 26 (.cons (.var 1) (.cons (.cst (.int (6))) (.cons (.cst (.int (4))) (.cons (.cst (.int (8))) .nil)))))) (.seq (.set 3 (.idx (.var 2) (.cst (.int (1))))) (.seq (.set 4 (.bi .len (.cons (.idx (.var 2) (.cst (.int (3)))) .nil))) (.seq (.«for» .seq (.call 705 (.cons (.var 1) (.cons (.call 20 (.cons (.var 1) (.cons (.var 3) .nil))) (.cons (.var 4) .nil)))) (.one 5) zbn) (.seq (.set 8 (.tup (.cons (.idx (.var 2) (.cst (.int (0)))) (.cons (.var 3) (.cons (.op .add (.tup (.cons (.op .mul (.tup (.cons (.cst .non) .nil)) (.idx (.var 2) (.cst (.int (0))))) .nil)) (.slc (.idx (.var 2) (.cst (.int (2)))) true (.cst (.int (1))) false (.cst .non))) (.cons (.idx (.var 2) (.cst (.int (3)))) (.cons (.idx (.var 2) (.cst (.int (4)))) .nil))))))) (.seq (.«for» .seq (.lst (.cons (.cst (.int (0))) (.cons (.cst (.int (1))) .nil))) (.one 9) zbo) (.seq (.set 10 (.idx (.lst (.cons (.neg (.cst (.int (1)))) (.cons (.cst (.int (9))) (.cons (.cst (.bl true)) (.cons (.cst .non) (.cons (.cst (.str (PySem.Str.ofString "3"))) (.cons (.tup (.cons (.cst (.int (3))) .nil)) (.cons (.lst .nil) (.cons (.op .pow (.cst (.int (10))) (.cst (.int (30)))) .nil))))))))) (.call 5 (.cons (.var 1) (.cons (.cst (.int (8))) .nil))))) (.seq (.ret (.and (.call 704 (.cons (.var 10) .nil)) (.and (.call 700 (.cons (.var 3) .nil)) (.call 700 (.cons (.call 5 (.cons (.var 1) (.cons (.cst (.int (9))) .nil))) .nil))))) .skip)))))))))⟩
noncomputable def zik:E:=(.tup (.cons (.cst (.int (0))) (.cons (.cst (.int (1))) .nil)))
noncomputable def zil:E:=(.op .add (.var 0) (.tup (.cons (.var 1) .nil)))
noncomputable def zim:S:=(.seq (.set 1 (.lc2 .seq (.var 1) (.one 0) 2 [] (.cst (.bl true)) .seq zik (.one 1) (.cst (.bl true)) zil)) .skip)
noncomputable def zd7:Fn:=⟨1,3,(.seq (.seq (.ite (.not (.tru (.call 1 (.cons (.var 0) (.cons (.cst (.int (0))) (.cons (.cst (.int (8))) .nil)))))) (.seq (.ret (.cst (.int (116)))) .skip) .skip) (.seq (.set 1 (.lst (.cons (.tup .nil) .nil))) (.seq (.«for» .rng1 (.cons (.var 0) .nil) (.one 2) zim) (.seq (.ret (.tup (.cons (.var 1) .nil))) .skip)))) (.ret (.cst (.tup [.non]))))⟩
structure C02(F:Nat->Option Fn):Prop where
 q:CoreQ F
 b:CoreB F
 f17:F 17=some fn17
 f20:F 20=some fn20
 f22:F 22=some fn22
 f27:F 27=some fn27
 f148:F 148=some fn148
 f190:F 190=some fn190
 f700:F 700=some zd1
 f701:F 701=some zb4
 f702:F 702=some zd2
 f703:F 703=some zbv
 f704:F 704=some zd3
 f705:F 705=some zd4
 f706:F 706=some zd5
 f707:F 707=some zd6
 t0:F 708=some (tB 37 56)
 t1:F 709=some (tI 708)
 t2:F 710=some (tS 708)
 t3:F 711=some zd7
noncomputable def Pl(w:W):Prop:=∀n,W.lt n w=true
structure Cf(h h':VH):Prop where
 le:h.n<=h'.n
 lo:∀b,b<=h.n->b<=h.lo->b<=h'.lo
 get:∀i o,h.get i=some o->h'.get i=some o
theorem Cf.refl{h:VH}:Cf h h:=⟨vac _,λ_ _ e=>e,λ_ _ e=>e⟩
theorem Cf.trans{h h1 h2:VH}(a:Cf h h1)(b:Cf h1 h2):Cf h h2:=⟨vap a.le b.le,λx h1 h2=>b.lo x (vap h1 a.le) (a.lo x h1 h2),λi o e=>b.get i o (a.get i o e)⟩
theorem Cf.new{h h':VH}{o:VO}(a:Cf h h'):Cf h (h'.new o):=⟨vde a.le,a.lo,λi o' e=>by
 have:=a.get i o' e
 rw[zad (zaq this)];exact this⟩
structure Up(b:Nat)(h h':VH):Prop where
 le:h.n<=h'.n
 lo:b<=h.lo->b<=h'.lo
 get:∀i o,i<b->h.get i=some o->h'.get i=some o
theorem Up.refl{b:Nat}{h:VH}:Up b h h:=⟨vac _,λe=>e,λ_ _ _ e=>e⟩
theorem Up.trans{b:Nat}{h h1 h2:VH}(a:Up b h h1)(c:Up b h1 h2):Up b h h2:=⟨vap a.le c.le,λx=>c.lo (a.lo x),λi o hi e=>c.get i o hi (a.get i o hi e)⟩
theorem Up.cf{b:Nat}{h h1 h2:VH}(a:Up b h h1)(c:Cf h1 h2)(hb:b<=h.n):Up b h h2:=⟨vap a.le c.le,λx=>c.lo b (vap hb a.le) (a.lo x),λi o hi e=>c.get i o (a.get i o hi e)⟩
theorem Cf.up{b:Nat}{h h1:VH}(c:Cf h h1)(hb:b<=h.n):Up b h h1:=Up.refl.cf c hb
theorem Up.set{b l:Nat}{h h':VH}{o o0:VO}(a:Up b h h')(g:h'.get l=some o0)(hl:b<=l):Up b h (h'.set l o):=by
 refine⟨a.le,λx=>?_,λi o' hi e=>by rw[zah g (by omega)];exact a.get i o' hi e⟩
 have:=a.lo x
 show b<=if Nat.blt l h'.lo then l else h'.lo
 split<;>omega
theorem zwn{h h':VH}{w:W}(u:Up h.n ⟨h.n,h.n,h.os⟩ h')(hw:Pl w):fin h (.ok (.rt w) h')=.ok w h:=zak (u.lo (vac _)) (hw _)
theorem znf{h h':VH}{i:Nat}(u:Up h.n ⟨h.n,h.n,h.os⟩ h')(hi:h.n<=i):∃h2,fin h (.ok (.rt (.ref i)) h')=.ok (.ref i) h2/\Cf h h2/\∀j,h2.get j=h'.get j:=by
 refine⟨⟨h'.n,if Nat.ble h.lo h'.lo then h.lo else h'.lo,h'.os⟩,?_,⟨u.le,λb hb hl=>?_,λi o e=>?_⟩,λj=>get_lo⟩
 .show leave h (.ref i) h'=_
  unfold leave
  rw[if_neg]
  rw[vaa]
  intro z
  have:=z.2
  simp only[W.lt]at this
  have:=zax.mp this
  omega
 .have:=u.lo (vac _)
  show b<=if Nat.ble h.lo h'.lo then h.lo else h'.lo
  split
  .exact hl
  .exact vap hb this
 .rw[get_lo]
  exact u.get i o (zaq e) (by rw[get_lo];exact e)
noncomputable def Dd(h:VH)(x:W):Prop:=∃d,toD h 23 x=some d/\d.canLay0=true/\d.depth<=23
theorem zng{h:VH}:∀ws:List W,(∀w∈ws,Dd h w)->∃ds,mapO (toD h 23) ws=some ds/\PyData.canLayAll0 ds=true/\PyData.depthAll ds<=23/\ds.length=ws.length
 |[],_=>⟨[],rfl,rfl,va9 _,rfl⟩
 |w::r,e=>by
  obtain⟨d,h1,h2,h3⟩:=e w (vaw ..)
  obtain⟨ds,h4,h5,h6,h7⟩:=zng r λz hz=>e z (vao _ hz)
  refine⟨d::ds,by simp[mapO,h1,h4],?_,?_,by simp[h7]⟩
  .show(d.canLay0&&PyData.canLayAll0 ds)=true
   rw[h2,h5];rfl
  .show max d.depth (PyData.depthAll ds)<=23
   omega
theorem zjo{h:VH}{n i:Nat}{ws:List W}(g:h.get i=some (.lst ws)):toD h (n+1) (.ref i)=(mapO (toD h n) ws).map .list:=by
 simp only[toD,g]
theorem zgo{h:VH}{i:Nat}{ws:List W}(g:h.get i=some (.lst ws))(hd:∀w∈ws,Dd h w):∃ds,toD h 24 (.ref i)=some (.list ds)/\SeqAt.shaped (.list ds)=true/\ds.length=ws.length/\mapO (toD h 23) ws=some ds/\PyData.canLayAll0 ds=true:=by
 obtain⟨ds,h1,h2,h3,h4⟩:=zng ws hd
 refine⟨ds,by rw[zjo (n:=23) g,h1];rfl,?_,h4,h1,h2⟩
 unfold SeqAt.shaped
 show(PyData.canLayAll0 ds&&decide (PyData.depthAll ds+1<=64))=true
 rw[h2,vd4,vax];omega
theorem zwo{h:VH}{i j:Nat}{ws:List W}(gi:h.get i=some (.lst ws))(gj:h.get j=some (.lst []))(hd:∀w∈ws,Dd h w):eqW h (.ref i) (.ref j)=some ws.isEmpty:=by
 obtain⟨ds,h1,h2,h3,_⟩:=zgo gi hd
 obtain⟨es,k1,k2,k3,_⟩:=zgo gj (λ_ z=>nomatch z)
 have:es=[]:=List.eq_nil_of_length_eq_zero k3
 subst this
 unfold eqW
 rw[h1,k1]
 simp only[h2,k2,vef,vbd,PyData.eqv]
 cases ds with
 |nil=>cases ws with
  |nil=>rfl
  |cons _ _=>simp at h3
 |cons _ _=>cases ws with
  |nil=>simp at h3
  |cons _ _=>rfl
theorem znh{h:VH}{i j:Nat}{ws:List W}(gi:h.get i=some (.lst ws))(gj:h.get j=some (.lst ws))(hd:∀w∈ws,Dd h w):eqW h (.ref i) (.ref j)=some true:=by
 obtain⟨ds,h1,h2,h3,h4,h5⟩:=zgo gi hd
 obtain⟨es,k1,k2,k3,k4,_⟩:=zgo gj hd
 rw[h4]at k4
 cases k4
 unfold eqW
 rw[h1,k1]
 simp only[h2,vef,vbd,PyData.eqv]
 rw[zb1 _ h5]
theorem zqq{h h':VH}(c:Cf h h'):∀(n:Nat) (w:W) (d:PyData),toD h n w=some d->toD h' n w=some d
 |0,_,_,e=>by cases e
 |n+1,w,d,e=>by
  have mp:∀(ws:List W)(ds:List PyData),mapO (toD h n) ws=some ds->mapO (toD h' n) ws=some ds:=by
   intro ws
   induction ws with
   |nil=>intro ds e;exact e
   |cons a r ih=>
    intro ds e
    simp only[mapO]at e ⊢
    cases q:toD h n a with
    |none=>rw[q]at e;cases e
    |some b=>
     rw[q]at e
     cases q2:mapO (toD h n) r with
     |none=>rw[q2]at e;cases e
     |some bs=>
      rw[q2]at e
      rw[zqq c n a b q,ih bs q2]
      exact e
  cases w with
  |tup ws=>
   simp only[toD]at e ⊢
   obtain⟨ds,h1,h2⟩:=vck.mp e
   rw[mp ws ds h1,<-h2];rfl
  |fz ws=>
   simp only[toD]at e ⊢
   obtain⟨ds,h1,h2⟩:=vck.mp e
   rw[mp ws ds h1,<-h2];rfl
  |ref i=>
   simp only[toD]at e ⊢
   cases g:h.get i with
   |none=>rw[g]at e;cases e
   |some o=>
    rw[c.get i o g]
    rw[g]at e
    cases o with
    |lst ws=>
     simp only at e ⊢
     obtain⟨ds,h1,h2⟩:=vck.mp e
     rw[mp ws ds h1,<-h2];rfl
    |_=>cases e
  |_=>exact e
theorem dd_up{h h':VH}{x:W}(c:Cf h h')(d:Dd h x):Dd h' x:=by
 obtain⟨y,a,b⟩:=d
 exact⟨y,zqq c _ _ _ a,b⟩
noncomputable def zhs:W->Bool
 |.tup _=>true
 |_=>false
theorem zgp{cl:Call}{a c e:E}{t:Tg}{ρ:En}{h h1 h2:VH}{x:W}{ow:Nat}{ix:List Nat}{ys:List W}(ea:ev cl a ρ h=.ok x h1)(el:lcG (nxt .seq x) (tgW t) (ev cl c) (ev cl e) fuel 0 (inner ow ix ρ) h1 []=.ok ys h2)(hy:ys.length<=1000000):ev cl (.lc .seq a t ow ix c e) ρ h=.ok (.ref h2.n) (h2.new (.lst ys)):=by
 rw[ev,ea,bindok,el,bindok,if_pos (zb2 hy)]
theorem zni{p:W->Bool}:∀ws:List W,(ws.filter λw=>!(p w)).isEmpty=ws.all p
 |[]=>rfl
 |w::r=>by
  rw[List.filter_cons,vbn]
  cases q:p w with
  |true=>exact zni r
  |false=>rfl
noncomputable def TK(h:VH)(w:W):Prop:=Kn h w/\∀ws,w=.tup ws->ws.length<1000/\∀x∈ws,Kn h x/\Dd h x
noncomputable def TH(h:VH)(w:W):Prop:=TK h w/\∀ws,w=.tup ws->∀x∈ws,TK h x
theorem dd_lo{h:VH}{l:Nat}{x:W}:Dd ⟨h.n,l,h.os⟩ x↔Dd h x:=by
 have e:∀n w,toD ⟨h.n,l,h.os⟩ n w=toD h n w:=by
  intro n
  induction n with
  |zero=>intro w;rfl
  |succ n ih=>
   intro w
   have:toD ⟨h.n,l,h.os⟩ n=toD h n:=funext ih
   cases w<;>simp only[toD,this,get_lo]
 unfold Dd
 rw[e]
theorem TK.lo{h:VH}{l:Nat}{w:W}(k:TK h w):TK ⟨h.n,l,h.os⟩ w:=⟨kn_lo.mpr k.1,λws e=>⟨(k.2 ws e).1,λx hx=>⟨kn_lo.mpr ((k.2 ws e).2 x hx).1,dd_lo.mpr ((k.2 ws e).2 x hx).2⟩⟩⟩
theorem TK.lkn{h:VH}{w:W}(k:TK h w):LKn h w:=⟨k.1,λws e=>⟨by have:=(k.2 ws e).1;omega,λx hx=>((k.2 ws e).2 x hx).1⟩⟩
theorem TH.skn{h:VH}{w:W}(k:TH h w):SKn h w:=⟨k.1.1,λl f e=>⟨(k.2 _ e l (by simp)).lkn,(k.2 _ e f (by simp)).1⟩⟩
section
variable{F:Nat->Option Fn}(C:C02 F)
include C
theorem zqr{k:Nat}{h:VH}{w:W}{lo hi:Int}(hw:Kn h w):run F (k+1) 148 [w,.int lo,.int hi] h=.ok (.bl (within w lo hi)) h:=by
 rw[zan C.f148 rfl]
 cases w<;>try(simp[fn148,exs,ev,within,zak];done)
 .rename_i i
  by_cases h1:lo<=i<;>simp[fn148,exs,ev,within,zak,cmpW,cmpI,h1]
 .exact absurd rfl hw
 .rename_i i
  unfold Kn at hw
  simp only[tyIs]at hw
  cases g:h.get i with
  |none=>rw[g]at hw;exact absurd rfl hw
  |some o=>cases o<;>first|(simp[fn148,exs,ev,within,zak,tyIs,g];done)|(simp[g]at hw)
omit C in
theorem isiT{cl:Call}{ρ:En}{h:VH}{w:W}{i:Nat}(e:ρ[i]?=some (some w))(hk:Kn h w):ev cl (.isi .tuple (.var i)) ρ h=.ok (.bl (zhs w)) h:=by
 rw[ev,varE e,bindok]
 unfold Kn at hk
 cases w<;>first|rfl|exact absurd rfl hk|skip
 rename_i i
 simp only[tyIs]at hk ⊢
 cases g:h.get i with
 |none=>rw[g]at hk;exact absurd rfl hk
 |some o=>cases o<;>first|rfl|(rw[g]at hk;exact absurd rfl hk)
theorem are02{k:Nat}{h:VH}{w:W}{g:Int}(hw:TK h w):run F (k+2) 701 [w,.int g] h=.ok (.bl (zay w g g 0 1)) h:=by
 rw[zan C.f701 rfl]
 show fin h (exs (run F (k+1)) zb4.body [some w,some (.int g)] ⟨h.n,h.n,h.os⟩)=_
 have e1:=isiT (cl:=run F (k+1)) (ρ:=[some w,some (.int g)]) (h:=⟨h.n,h.n,h.os⟩) (w:=w) (i:=0) rfl (kn_lo.mpr hw.1)
 have no:(∀ws,w≠.tup ws)->fin h (exs (run F (k+1)) zb4.body [some w,some (.int g)] ⟨h.n,h.n,h.os⟩)=.ok (.bl (zay w g g 0 1)) h:=by
  intro hn
  have z:zhs w=false:=by
   cases w<;>first|rfl|exact absurd rfl (hn _)
  have zw:zay w g g 0 1=false:=by
   cases w<;>first|rfl|exact absurd rfl (hn _)
  rw[z]at e1
  rw[show exs (run F (k+1)) zb4.body [some w,some (.int g)] ⟨h.n,h.n,h.os⟩=.ok (.rt (.bl false)) ⟨h.n,h.n,h.os⟩from zab ((iteT (orT (notT e1))).trans (zab (retE cstE))),zw]
  exact zak (vac _) lt_bl
 cases w<;>first|(refine no ?_;intro _ z;cases z;done)|skip
 rename_i ws
 obtain⟨hl,hx⟩:=hw.2 ws rfl
 have elen:ev (run F (k+1)) (.cmp .ne (.bi .len (.cons (.var 0) .nil)) (.var 1)) [some (.tup ws),some (.int g)] ⟨h.n,h.n,h.os⟩=.ok (.bl (!decide ((ws.length:Int)=g))) ⟨h.n,h.n,h.os⟩:=by
  rw[ev,lenE (varE rfl) rfl,bindok,varE rfl,bindok]
  simp only[cmpW,zaz,vbb];rfl
 by_cases hg:(ws.length:Int)=g
 .have ec:ev (run F (k+1)) (.or (.not (.tru (.isi .tuple (.var 0)))) (.cmp .ne (.bi .len (.cons (.var 0) .nil)) (.var 1))) [some (.tup ws),some (.int g)] ⟨h.n,h.n,h.os⟩=.ok (.bl false) ⟨h.n,h.n,h.os⟩:=by
   rw[decide_eq_true hg]at elen
   exact orB (notT e1) elen
  have el:lcG (nxt .seq (.tup ws)) (tgW (.one 0)) (ev (run F (k+1)) zbm) (ev (run F (k+1)) zb3) fuel 0 [none] ⟨h.n,h.n,h.os⟩ []=.ok (ws.filter λw=>!(within w 0 1)) ⟨h.n,h.n,h.os⟩:=by
   have:=zfn (nx:=nxt .seq (.tup ws)) (c:=ev (run F (k+1)) zbm) (e:=ev (run F (k+1)) zb3) (h:=⟨h.n,h.n,h.os⟩) (ws:=ws) (tl:=[]) (p:=λw=>!(within w 0 1)) (f:=λw=>w) (λi=>rfl) (λw hm=>by
    unfold zbm
    exact notT (zc3 (varE rfl) cstE cstE (zqr C (k:=k) (kn_lo.mpr (hx w hm).1)))) (λw hm=>varE rfl) fuel 0 none [] (va9 _) (by rw[show fuel=1000000 from rfl];omega)
   rw[this]
   simp
  have hf:∀w∈ws.filter (λw=>!(within w 0 1)),Dd h w:=λw hw=>(hx w (List.mem_filter.mp hw).1).2
  have ez:ev (run F (k+1)) (.cmp .eq (.lc .seq (.var 0) (.one 0) 1 [] zbm zb3) (.lst .nil)) [some (.tup ws),some (.int g)] ⟨h.n,h.n,h.os⟩=.ok (.bl (ws.filter λw=>!(within w 0 1)).isEmpty) ((VH.new ⟨h.n,h.n,h.os⟩ (.lst (ws.filter λw=>!(within w 0 1)))).new (.lst [])):=by
   rw[ev,zgp (varE rfl) el (vap (List.length_filter_le ..) (by omega)),bindok,lstE nilE rfl,bindok]
   simp only[cmpW]
   rw[zwo (ws:=ws.filter λw=>!(within w 0 1)) ((zad (show h.n<h.n+1 by omega)).trans zai) (zai (h:=VH.new ⟨h.n,h.n,h.os⟩ _)) (λw hw=>by
    obtain⟨d,d1,d2⟩:=hf w hw
    have cc:Cf ⟨h.n,h.n,h.os⟩ ((VH.new ⟨h.n,h.n,h.os⟩ (.lst (ws.filter λw=>!(within w 0 1)))).new (.lst [])):=Cf.refl.new.new
    exact dd_up cc (dd_lo.mpr ⟨d,d1,d2⟩))]
   rfl
  rw[show exs (run F (k+1)) zb4.body [some (.tup ws),some (.int g)] ⟨h.n,h.n,h.os⟩=.ok (.rt (.bl (ws.filter λw=>!(within w 0 1)).isEmpty)) _ from(zac ((iteF ec).trans rfl)).trans (zab (retE ez))]
  have zz:zay (.tup ws) g g 0 1=(ws.filter λw=>!(within w 0 1)).isEmpty:=by
   have ht:zar (.tup ws) g g=true:=by simp only[zar,vaa,vax];omega
   show(zar (.tup ws) g g&&ws.all (within · 0 1))=_
   rw[ht,vd4,zni]
  rw[zz]
  exact zak (vac _) lt_bl
 .rw[vbp hg]at elen
  have zw:zay (.tup ws) g g 0 1=false:=zwm hg
  rw[show exs (run F (k+1)) zb4.body [some (.tup ws),some (.int g)] ⟨h.n,h.n,h.os⟩=.ok (.rt (.bl false)) ⟨h.n,h.n,h.os⟩from zab ((iteT (orB (notT e1) elen)).trans (zab (retE cstE))),zw]
  exact zak (vac _) lt_bl
end
section
variable{cl:Call}{ρ:En}{h h1 h2:VH}{a:E}
theorem trycE{f:Nat}{ys:List W}{tb:List (Nat×W)}{i:Int}{w:W}(ea:ev cl a ρ h=.ok (.tup ys) h1)(ec:cl f ys h1=.ok (.int i) h2)(hz:tb.lookup i.toNat=some w):exs cl (.tryc f a tb) ρ h=.ok (.rt w) h2:=by
 rw[exs,ea,bindok]
 show(cl f ys h1).bind _=_
 rw[ec]
 show tryW tb ρ (.int i) h2=_
 unfold tryW
 simp only[hz]
theorem isnE{x:W}(ea:ev cl a ρ h=.ok x h1):ev cl (.cmp .isn a (.cst .non)) ρ h=.ok (.bl (isNon x)) h1:=by
 rw[ev,ea,bindok,cstE,bindok];rfl
end
theorem znj{ws:List W}(h:ws.length=2):∃l f,ws=[l,f]:=by
 rcases ws with _|⟨x,_|⟨y,_|_⟩⟩<;>simp at h
 exact⟨x,y,rfl⟩
section
variable{F:Nat->Option Fn}(C:C02 F)
include C
theorem st02{k:Nat}{h:VH}{B:Bd}{w:W}(hw:TH h w):run F (k+3) 703 [w,.int B.gr,.int B.fd.length] h=.ok (.bl (isSt B w)) h:=by
 rw[zan C.f703 rfl]
 show fin h (exs (run F (k+2)) zbv.body [some w,some (.int B.gr),some (.int B.fd.length)] ⟨h.n,h.n,h.os⟩)=_
 have e1:=isiT (cl:=run F (k+2)) (ρ:=[some w,some (.int B.gr),some (.int B.fd.length)]) (h:=⟨h.n,h.n,h.os⟩) (w:=w) (i:=0) rfl (kn_lo.mpr hw.1.1)
 have no:zhs w=false->fin h (exs (run F (k+2)) zbv.body [some w,some (.int B.gr),some (.int B.fd.length)] ⟨h.n,h.n,h.os⟩)=.ok (.bl (isSt B w)) h:=by
  intro z
  have zw:isSt B w=false:=by
   cases w<;>first|rfl|cases z
  rw[z]at e1
  rw[show exs (run F (k+2)) zbv.body [some w,some (.int B.gr),some (.int B.fd.length)] ⟨h.n,h.n,h.os⟩=.ok (.rt (.bl false)) ⟨h.n,h.n,h.os⟩from zab ((iteT (orT (notT e1))).trans (zab (retE cstE))),zw]
  exact zak (vac _) lt_bl
 cases w<;>first|exact no rfl|skip
 rename_i ws
 have elen:ev (run F (k+2)) (.cmp .ne (.bi .len (.cons (.var 0) .nil)) (.cst (.int 2))) [some (.tup ws),some (.int B.gr),some (.int B.fd.length)] ⟨h.n,h.n,h.os⟩=.ok (.bl (!decide ((ws.length:Int)=2))) ⟨h.n,h.n,h.os⟩:=by
  rw[ev,lenE (varE rfl) rfl,bindok,cstE,bindok]
  simp only[cmpW,zaz,vbb];rfl
 by_cases hg:ws.length=2
 .obtain⟨l,f,rfl⟩:=znj hg
  have kl:=hw.2 _ rfl l (by simp)
  have kf:=hw.2 _ rfl f (by simp)
  have e3:=are02 C (k:=k) (h:=⟨h.n,h.n,h.os⟩) (w:=l) (g:=B.gr) kl.lo
  have e4:=zqr C (k:=k+1) (h:=⟨h.n,h.n,h.os⟩) (w:=f) (lo:=0) (hi:=(B.fd.length:Int)-1) (kn_lo.mpr kf.1)
  have ec:ev (run F (k+2)) (.or (.not (.tru (.isi .tuple (.var 0)))) (.or (.cmp .ne (.bi .len (.cons (.var 0) .nil)) (.cst (.int 2))) (.not (.tru (.call 701 (.cons (.idx (.var 0) (.cst (.int 0))) (.cons (.var 1) .nil))))))) [some (.tup [l,f]),some (.int B.gr),some (.int B.fd.length)] ⟨h.n,h.n,h.os⟩=.ok (.bl (!(zay l B.gr B.gr 0 1))) ⟨h.n,h.n,h.os⟩:=
   orB (x:=false) (notT e1) (orB (x:=false) elen (notT (zbk (idxE (varE rfl) cstE rfl) (varE rfl) e3)))
  cases q:zay l B.gr B.gr 0 1 with
  |false=>
   rw[q]at ec
   rw[show exs (run F (k+2)) zbv.body [some (.tup [l,f]),some (.int B.gr),some (.int B.fd.length)] ⟨h.n,h.n,h.os⟩=.ok (.rt (.bl false)) ⟨h.n,h.n,h.os⟩from zab ((iteT ec).trans (zab (retE cstE))),
    show isSt B (.tup [l,f])=false by simp only[isSt,q,vc4]]
   exact zak (vac _) lt_bl
  |true=>
   rw[q]at ec
   have er:ev (run F (k+2)) (.or (.cmp .isn (.idx (.var 0) (.cst (.int (1)))) (.cst .non)) (.call 148 (.cons (.idx (.var 0) (.cst (.int (1)))) (.cons (.cst (.int (0))) (.cons (.op .sub (.var 2) (.cst (.int (1)))) .nil))))) [some (.tup [l,f]),some (.int B.gr),some (.int B.fd.length)] ⟨h.n,h.n,h.os⟩=.ok (.bl (isNon f||within f 0 ((B.fd.length:Int)-1))) ⟨h.n,h.n,h.os⟩:=
    orB (isnE (idxE (varE rfl) cstE rfl)) (zc3 (idxE (varE rfl) cstE rfl) cstE (opE (x:=.int B.fd.length) (y:=.int 1) (varE rfl) cstE rfl) e4)
   rw[show exs (run F (k+2)) zbv.body [some (.tup [l,f]),some (.int B.gr),some (.int B.fd.length)] ⟨h.n,h.n,h.os⟩=.ok (.rt (.bl (isNon f||within f 0 ((B.fd.length:Int)-1)))) ⟨h.n,h.n,h.os⟩from(zac ((iteF ec).trans rfl)).trans (zab (retE er)),
    show isSt B (.tup [l,f])=(isNon f||within f 0 ((B.fd.length:Int)-1)) by simp only[isSt,q,vd4,fon]]
   exact zak (vac _) lt_bl
 .have hg':¬(ws.length:Int)=2:=by omega
  rw[vbp hg']at elen
  have zw:isSt B (.tup ws)=false:=by
   unfold isSt
   split
   .rename_i q;cases q;exact absurd rfl hg
   .rfl
  rw[show exs (run F (k+2)) zbv.body [some (.tup ws),some (.int B.gr),some (.int B.fd.length)] ⟨h.n,h.n,h.os⟩=.ok (.rt (.bl false)) ⟨h.n,h.n,h.os⟩from zab ((iteT (orB (x:=false) (y:=true) (notT e1) (orT elen))).trans (zab (retE cstE))),zw]
  exact zak (vac _) lt_bl
theorem l17{k:Nat}{h:VH}{l:W}{g:Int}(hl:LKn h l):run F (k+7) 17 [l,.int g] h=.ok (.bl (zay l g g 0 1)) h:=by
 rw[zan C.f17 rfl]
 have e:=zbw C.b.toCoreA (k:=k+3) (h:=⟨h.n,h.n,h.os⟩) (w:=l) (a:=g) (b:=g) (lo:=0) (hi:=1) hl.lo.1 hl.lo.2
 show fin h (exs (run F (k+6)) fn17.body [some l,some (.int g)] ⟨h.n,h.n,h.os⟩)=_
 rw[show exs (run F (k+6)) fn17.body [some l,some (.int g)] ⟨h.n,h.n,h.os⟩=.ok (.rt (.bl (zay l g g 0 1))) ⟨h.n,h.n,h.os⟩from zab (retE (zwk (consE (varE rfl) (consE (varE rfl) (consE (varE rfl) (consE cstE (consE cstE nilE))))) e))]
 exact zak (vac _) lt_bl
theorem zsx{k:Nat}{h:VH}{B:Bd}{l:W}(b:B.Ok)(hl:LKn h l):run F (k+8) 22 [B.w,l] h=.ok (.bl (zay l B.gr B.gr 0 1)) h:=by
 rw[zan C.f22 rfl]
 have e1:=zc1 C.b (k:=k) (h:=⟨h.n,h.n,h.os⟩) b
 show fin h (exs (run F (k+7)) fn22.body [some B.w,some l] ⟨h.n,h.n,h.os⟩)=_
 rw[show exs (run F (k+7)) fn22.body [some B.w,some l] ⟨h.n,h.n,h.os⟩=.ok (.rt (.bl (zay l B.gr B.gr 0 1))) ⟨h.n,h.n,h.os⟩from
  (zac (exprE (zbj (varE rfl) e1))).trans (zab (retE (zbk (varE rfl) (idxE (varE rfl) cstE (show idxW _ B.w (.int 1)=some (.int B.gr)from rfl)) (l17 C hl.lo))))]
 exact zak (vac _) lt_bl
theorem zsy{k:Nat}{h:VH}{B:Bd}{s:W}(b:B.Ok)(hs:SKn h s):run F (k+8) 27 [B.w,s] h=.ok (.bl (isSt B s)) h:=by
 rw[zan C.f27 rfl]
 have e1:=zc1 C.b (k:=k) (h:=⟨h.n,h.n,h.os⟩) b
 have e2:=zap C.b.toCoreA (k:=k+6) (h:=⟨h.n,h.n,h.os⟩) (w:=s) (lo:=2) (hi:=2) hs.lo.1
 show fin h (exs (run F (k+7)) fn27.body [some B.w,some s,none,none] ⟨h.n,h.n,h.os⟩)=_
 cases q:zar s 2 2 with
 |false=>
  rw[q]at e2
  have z:isSt B s=false:=by
   unfold isSt
   split
   .simp[zar]at q
   .rfl
  rw[show exs (run F (k+7)) fn27.body [some B.w,some s,none,none] ⟨h.n,h.n,h.os⟩=.ok (.rt (.bl false)) ⟨h.n,h.n,h.os⟩from
   (zac (exprE (zbj (varE rfl) e1))).trans (zab ((iteT (notT (zc3 (varE rfl) cstE cstE e2))).trans (zab (retE cstE)))),z]
  exact zak (vac _) lt_bl
 |true=>
  rw[q]at e2
  obtain⟨l,f,rfl⟩:∃l f,s=.tup [l,f]:=by
   cases s<;>try(simp[zar]at q;done)
   rename_i ws
   obtain⟨l,f,rfl⟩:=znj (ws:=ws) (by simp[zar]at q;omega)
   exact⟨l,f,rfl⟩
  obtain⟨kl,kf⟩:=hs.2 l f rfl
  have e4:=zbx C.b (k:=k+4) (h:=⟨h.n,h.n,h.os⟩) (w:=f) (n:=B.fd.length) (kn_lo.mpr kf)
  rw[show exs (run F (k+7)) fn27.body [some B.w,some (.tup [l,f]),none,none] ⟨h.n,h.n,h.os⟩=.ok (.rt (.bl (isSt B (.tup [l,f])))) ⟨h.n,h.n,h.os⟩from
   (zac (exprE (zbj (varE rfl) e1))).trans ((zac ((iteF (notT (zc3 (varE rfl) cstE cstE e2))).trans rfl)).trans ((zac (ρ':=[some B.w,some (.tup [l,f]),some l,some f]) (h':=⟨h.n,h.n,h.os⟩) rfl).trans
     (zab (retE (andB (zbk (varE rfl) (idxE (varE rfl) cstE (show idxW _ B.w (.int 1)=some (.int B.gr)from rfl)) (l17 C kl.lo)) (zbk (varE rfl) (lenE (idxE (varE rfl) cstE (show idxW _ B.w (.int 3)=some (.tup B.fd)from rfl)) rfl) e4))))))]
  exact zak (vac _) lt_bl
theorem zsz{k:Nat}{h:VH}{w l:W}{i:Int}(e:run F (k+7) 708 [w] ⟨h.n,h.n,h.os⟩=.ok (.int i) ⟨h.n,h.n,h.os⟩):run F (k+8) 709 [w,l] h=.ok (.int i) h:=by
 rw[zan C.t1 rfl]
 show fin h (exs (run F (k+7)) (tI 708).body [some w,some l] ⟨h.n,h.n,h.os⟩)=_
 rw[show exs (run F (k+7)) (tI 708).body [some w,some l] ⟨h.n,h.n,h.os⟩=.ok (.rt (.int i)) ⟨h.n,h.n,h.os⟩from zab (zab (telX (consE (varE rfl) nilE) e))]
 exact zak (vac _) lt_int
theorem zs0{k:Nat}{h:VH}{w s:W}{i:Int}(e:run F (k+7) 708 [w] ⟨h.n,h.n,h.os⟩=.ok (.int i) ⟨h.n,h.n,h.os⟩):run F (k+8) 710 [w,s] h=.ok (.int i) h:=by
 rw[zan C.t2 rfl]
 show fin h (exs (run F (k+7)) (tS 708).body [some w,some s,none,none] ⟨h.n,h.n,h.os⟩)=_
 rw[show exs (run F (k+7)) (tS 708).body [some w,some s,none,none] ⟨h.n,h.n,h.os⟩=.ok (.rt (.int i)) ⟨h.n,h.n,h.os⟩from zab (zab (telX (consE (varE rfl) nilE) e))]
 exact zak (vac _) lt_int
theorem zqs{k:Nat}{h:VH}{w:W}{i z:Int}{x:Str}(e:run F (k+7) 708 [w] ⟨h.n,h.n,h.os⟩=.ok (.int i) ⟨h.n,h.n,h.os⟩)(hz:[(37,W.str (PySem.Str.ofString "board")),(56,.str (PySem.Str.ofString "fault")),(116,.str (PySem.Str.ofString "number"))].lookup i.toNat=some (.str x))(h01:z=0\/z=1) :
 run F (k+9) 706 [w,.int z] h=.ok (.str x) h:=by
 rw[zan C.f706 rfl]
 show fin h (exs (run F (k+8)) zd5.body [some w,some (.int z),none] ⟨h.n,h.n,h.os⟩)=_
 have ec:ev (run F (k+8)) (.cmp .eq (.var 1) (.cst (.int 0))) [some w,some (.int z),none] ⟨h.n,h.n,h.os⟩=.ok (.bl (decide (z=0))) ⟨h.n,h.n,h.os⟩:=by
  rw[ev,varE rfl,bindok,cstE,bindok]
  simp only[cmpW,zaz,vbb];rfl
 have eb:exs (run F (k+8)) zd5.body [some w,some (.int z),none] ⟨h.n,h.n,h.os⟩=.ok (.rt (.str x)) ⟨h.n,h.n,h.os⟩:=by
  refine zab ?_
  rcases h01 with rfl|rfl
  .exact(iteT ec).trans (trycE (consE (varE rfl) (consE (tupE nilE rfl) nilE)) (zsz C (k:=k) (h:=⟨h.n,h.n,h.os⟩) e) hz)
  .exact(iteF ec).trans (trycE (consE (varE rfl) (consE (tupE (consE (tupE nilE rfl) (consE cstE nilE)) rfl) nilE)) (zs0 C (k:=k) (h:=⟨h.n,h.n,h.os⟩) e) hz)
 rw[eb]
 exact zak (vac _) lt_str
theorem zs1{k:Nat}{h:VH}{x:W}(hx:Kn h x)(hn:within x 0 8=false):run F (k+4) 704 [x] h=.ok (.bl true) h:=by
 have e1:run F (k+3) 711 [x] ⟨h.n,h.n,h.os⟩=.ok (.int 116) ⟨h.n,h.n,h.os⟩:=by
  rw[zan C.t3 rfl]
  have e:=zao C.b.toCoreA (k:=k) (h:=⟨h.n,h.n,h.os⟩) (w:=x) (lo:=0) (hi:=8) (kn_lo.mpr hx)
  rw[hn]at e
  show fin ⟨h.n,h.n,h.os⟩ (exs (run F (k+2)) zd7.body [some x,none,none] ⟨h.n,h.n,h.os⟩)=_
  rw[show exs (run F (k+2)) zd7.body [some x,none,none] ⟨h.n,h.n,h.os⟩=.ok (.rt (.int 116)) ⟨h.n,h.n,h.os⟩from zab (zab ((iteT (notT (zc3 (varE rfl) cstE cstE e))).trans (zab (retE cstE))))]
  exact zak (vac _) lt_int
 rw[zan C.f704 rfl]
 show fin h (exs (run F (k+3)) zd3.body [some x,none] ⟨h.n,h.n,h.os⟩)=_
 rw[show exs (run F (k+3)) zd3.body [some x,none] ⟨h.n,h.n,h.os⟩=.ok (.rt (.bl true)) ⟨h.n,h.n,h.os⟩from zab (trycE (consE (varE rfl) nilE) e1 rfl)]
 exact zak (vac _) lt_bl
end
noncomputable def rngI(a:Int):Nat->List Int
 |0=>[]
 |n+1=>a::rngI (a+1) n
theorem zin:∀(n:Nat) (a:Int),zav a n=(rngI a n).map .int
 |0,_=>rfl
 |n+1,a=>by rw[zav,rngI,va1,zin n]
theorem znk:∀(n:Nat) (a i:Int),i∈rngI a n->a<=i/\i<a+n
 |0,_,_,h=>nomatch h
 |n+1,a,i,h=>by
  rcases vat.mp h with rfl|h
  .exact⟨Int.le_refl _,by push_cast;omega⟩
  .have:=znk n (a+1) i h
   push_cast
   omega
theorem znl:∀(n:Nat) (a:Int),(rngI a n).length=n
 |0,_=>rfl
 |n+1,a=>by rw[rngI,vam,znl n]
noncomputable def bitR(g:Nat)(n:Int):List Int:=(rngI 0 g).map λk=>n/2 ^ ((g:Int)-1-k).toNat % 2
noncomputable def bitsR(g:Nat):List (List Int):=(rngI 0 (2 ^ g)).map (bitR g)
theorem zpg{g:Nat}(hg:g<=8):bitsR g=allL g:=by
 have h:∀g:Fin 9,bitsR g=allL g:=by decide +kernel
 exact h ⟨g,by omega⟩
theorem dd_iW{h:VH}{l:List Int}:Dd h (iW l):=by
 obtain⟨d,h1,h2,h3⟩:=zcz h 23 (iW l) (by
  show(l.map W.int).all (zbb 22)=true
  rw[List.all_map]
  exact vbr.mpr λ_ _=>rfl)
 exact⟨d,h1,h2,h3⟩
section
variable{F:Nat->Option Fn}(C:C02 F)
include C
omit C in
theorem zwp{cl:Call}{h:VH}{g:Nat}{n:Int}{x:Option W}(hg:g<=8) :
 ev cl (.bi .tuple (.cons (.lc .rng1 (.cons (.var 0) .nil) (.one 0) 1 [0,2] (.cst (.bl true)) za1) .nil)) [some (.int g),x,some (.int n)] h=.ok (iW (bitR g n)) (h.new (.lst ((bitR g n).map .int))):=by
 have hf:fits (g:Int)=true:=by simp[fits];omega
 have e1:=zfn (nx:=nxt .rng1 (.tup [.int g])) (c:=ev cl (.cst (.bl true))) (e:=ev cl za1) (h:=h) (ws:=zav 0 g) (tl:=[some (.int g),some (.int n)]) (p:=λ_=>true) (f:=λw=>match w with|.int k=>.int (n/2 ^ ((g:Int)-1-k).toNat % 2)|w=>w)
  (λi=>by rw[zch];simp[nxt,hf]) (λw hw=>cstE) (λw hw=>by
    rw[zin]at hw
    obtain⟨i,hi,rfl⟩:=vco.mp hw
    have:=znk g 0 i hi
    have es:ev cl (.op .shr (.var 2) (.op .sub (.op .sub (.var 1) (.cst (.int (1)))) (.var 0))) [some (.int i),some (.int g),some (.int n)] h=.ok (.int (n/2 ^ ((g:Int)-1-i).toNat)) h:=by
     refine opE (varE rfl) (opE (x:=.int ((g:Int)-1)) (y:=.int i) (opE (varE rfl) cstE rfl) (varE rfl) rfl) ?_
     show Res.of ((opI .shr n ((g:Int)-1-i)).map W.int) h=_
     simp only[opI]
     rw[if_pos (decide_eq_true (by omega))];rfl
    show ev cl za1 [some (.int i),some (.int g),some (.int n)] h=_
    unfold za1
    exact opE es cstE rfl) fuel 0 none [] (va9 _) (by rw[zci,show fuel=1000000 from rfl];omega)
 have e2:(([]:List W).reverse++((((zav 0 g).drop 0).filter λ_=>true).map λw=>match w with|.int k=>.int (n/2 ^ ((g:Int)-1-k).toNat % 2)|w=>w))=(bitR g n).map .int:=by
  rw[vdf,List.filter_eq_self.mpr (λ_ _=>rfl),zin,List.map_map]
  unfold bitR
  rw[List.map_map]
  rfl
 rw[e2]at e1
 refine zqm (i:=h.n) ?_ zai
 have q:ev cl (.lc .rng1 (.cons (.var 0) .nil) (.one 0) 1 [0,2] (.cst (.bl true)) za1) [some (.int g),x,some (.int n)] h=(ev cl (.cons (.var 0) .nil) [some (.int g),x,some (.int n)] h).bind λx1 h=>(lcG (nxt .rng1 x1) (tgW (.one 0)) (ev cl (.cst (.bl true))) (ev cl za1) fuel 0 (inner 1 [0,2] [some (.int g),x,some (.int n)]) h []).bind λys h=>if Nat.ble ys.length big then .ok (.ref h.n) (h.new (.lst ys))else .no:=by conv=>lhs;rw[ev]
 rw[q,consE (varE (x:=.int g) rfl) nilE,bindok]
 show(lcG (nxt .rng1 (.tup [.int g])) (tgW (.one 0)) (ev cl (.cst (.bl true))) (ev cl za1) fuel 0 [none,some (.int g),some (.int n)] h []).bind _=_
 rw[e1,bindok,if_pos (zb2 (by rw[vai];unfold bitR;rw[vai,znl];omega))]
omit C in
theorem zfp{cl:Call}{g l bb:Nat}(hg:g<=8)(hb:bb<=l):∀(n:Nat) (a:Int) (x:Option W) (acc:List W) (h:VH),bb<=h.n->h.get l=some (.lst acc)->acc.length+n<=1000->
 ∃x' h',forL (tgW (.one 2)) (exs cl zbc) (zav a n) [some (.int g),some (.ref l),x] h=.ok (.nx [some (.int g),some (.ref l),x']) h'/\h'.get l=some (.lst (acc++((rngI a n).map (bitR g)).map iW))/\Up bb h h'
 |0,a,x,acc,h,_,gl,_=>⟨x,h,rfl,by rw[rngI,vdb,vdb,va5];exact gl,.refl⟩
 |n+1,a,x,acc,h,hn,gl,hl=>by
  have ea:=zwp (cl:=cl) (h:=h) (g:=g) (n:=a) (x:=some (.ref l)) hg
  have g1:(h.new (.lst ((bitR g a).map .int))).get l=some (.lst acc):=by rw[zad (zaq gl)];exact gl
  have e:exs cl zbc [some (.int g),some (.ref l),some (.int a)] h=.ok (.nx [some (.int g),some (.ref l),some (.int a)]) ((h.new (.lst ((bitR g a).map .int))).set l (.lst (acc++[iW (bitR g a)]))):=by
   unfold zbc
   exact(zac (exprE (zez (i:=1) (l:=l) rfl gl ea g1 (by omega)))).trans rfl
  have u1:Up bb h ((h.new (.lst ((bitR g a).map .int))).set l (.lst (acc++[iW (bitR g a)]))):=(Cf.refl.new.up hn).set g1 hb
  obtain⟨x',h',e2,g2,u2⟩:=zfp (cl:=cl) hg hb n (a+1) (some (.int a)) (acc++[iW (bitR g a)]) _ (vap hn u1.le) (za0 g1) (by rw[vak,vbh];omega)
  refine⟨x',h',?_,by rw[g2,rngI,va1,va1,List.append_assoc];rfl,u1.trans u2⟩
  show(exs cl zbc [some (.int g),some (.ref l),some (.int a)] h).bind _=_
  rw[e]
  exact e2
theorem znm{k g:Nat}{h:VH}(hg:g<=8):∃i h',run F (k+1) 702 [.int g] h=.ok (.ref i) h'/\Cf h h'/\h.n<=i/\h'.get i=some (.lst ((allL g).map iW)):=by
 rw[zan C.f702 rfl]
 have hp:=pow8 hg
 obtain⟨x',h',e2,g2,u2⟩:=zfp (cl:=run F k) (g:=g) (l:=h.n) (bb:=h.n) hg (vac _) (2 ^ g) 0 none [] (VH.new ⟨h.n,h.n,h.os⟩ (.lst [])) (vdv _) zai (by simp;omega)
 have u0:Up h.n ⟨h.n,h.n,h.os⟩ (VH.new ⟨h.n,h.n,h.os⟩ (.lst [])):=Cf.refl.new.up (vac _)
 have es:ev (run F k) (.op .shl (.cst (.int 1)) (.var 0)) [some (.int g),some (.ref h.n),none] (VH.new ⟨h.n,h.n,h.os⟩ (.lst []))=.ok (.int ((2 ^ g:Nat):Int)) (VH.new ⟨h.n,h.n,h.os⟩ (.lst [])):=by
  refine opE cstE (varE (x:=.int g) rfl) ?_
  show Res.of ((opI .shl 1 (g:Int)).map W.int) _=_
  simp only[opI]
  rw[if_pos (by simp only[vaa,vax];exact⟨⟨by omega,by omega⟩,by decide⟩)]
  simp
 have eb:exs (run F k) zd2.body [some (.int g),none,none] ⟨h.n,h.n,h.os⟩=.ok (.rt (.ref h.n)) h':=by
  refine(zac (setE (x:=.ref h.n) (h1:=VH.new ⟨h.n,h.n,h.os⟩ (.lst [])) (lstE nilE rfl))).trans ?_
  refine(zac (ρ':=[some (.int g),some (.ref h.n),x']) (h':=h') ?_).trans ?_
  .show exs (run F k) (.«for» .rng1 (.cons (.op .shl (.cst (.int 1)) (.var 0)) .nil) (.one 2) zbc) [some (.int g),some (.ref h.n),none] _=_
   rw[exs,consE es nilE,bindok,zm5 (by omega)]
   exact e2
  .exact zab (retE (varE rfl))
 show ∃i h',fin h (exs (run F k) zd2.body [some (.int g),none,none] ⟨h.n,h.n,h.os⟩)=.ok (.ref i) h'/\_
 rw[eb]
 obtain⟨h2,e3,c3,g3⟩:=znf (h:=h) (i:=h.n) (u0.trans u2) (vac _)
 refine⟨h.n,h2,e3,c3,vac _,?_⟩
 rw[g3,g2,vcj]
 show some (VO.lst ((bitsR g).map iW))=_
 rw[zpg hg]
omit C in
theorem zjp{cl:Call}{g:Nat}:∀(n t j:Nat) (x:Option W) (h:VH),t+n<=8->h.get j=some (.lst ((allL t).map iW))->∃j' x' h',forL (tgW (.one 2)) (exs cl zdz) (zav (t:Int) n) [some (.int g),some (.ref j),x] h=.ok (.nx [some (.int g),some (.ref j'),x']) h'/\h'.get j'=some (.lst ((allL (t+n)).map iW))/\Cf h h'/\j<=j'
 |0,t,j,x,h,_,hj=>⟨j,x,h,rfl,hj,.refl,vac _⟩
 |n+1,t,j,x,h,ht,hj=>by
  have e1:=zsw (cl:=cl) (g:=g) (h:=h) (t:=t) (j:=j) (by omega) hj
  obtain⟨j',x',h',e2,g2,c2,m2⟩:=zjp (cl:=cl) (g:=g) n (t+1) h.n (some (.int t)) (h.new (.lst ((allL (t+1)).map iW))) (by omega) zai
  refine⟨j',x',h',?_,by rw[show t+ (n+1)=t+1+n by omega];exact g2,(Cf.refl.new).trans c2,vap (vc8 (zaq hj)) m2⟩
  simp only[zav,forL,tgW,List.set_cons_succ,vdt,e1,bindok]
  exact e2
theorem zjq{k g:Nat}{h:VH}(hg:g<=8):∃i h',run F (k+3) 190 [.int g] h=.ok (.ref i) h'/\Cf h h'/\h.n<=i/\h'.get i=some (.lst ((allL g).map iW)):=by
 rw[zan C.f190 rfl]
 have e0:=zao C.b.toCoreA (k:=k) (h:=⟨h.n,h.n,h.os⟩) (w:=.int g) (lo:=0) (hi:=8) (by unfold Kn;simp)
 have hw:within (.int g) 0 8=true:=by simp only[within,vaa,vax];omega
 rw[hw]at e0
 have g1:(VH.new ⟨h.n,h.n,h.os⟩ (.lst [.tup []])).get h.n=some (.lst ((allL 0).map iW)):=zai (h:=⟨h.n,h.n,h.os⟩)
 obtain⟨j',x',h',e2,g2,c2,m2⟩:=zjp (cl:=run F (k+2)) (g:=g) g 0 h.n none (VH.new ⟨h.n,h.n,h.os⟩ (.lst [.tup []])) (by omega) g1
 have c0:Cf ⟨h.n,h.n,h.os⟩ h':=(Cf.refl.new).trans c2
 have eb:exs (run F (k+2)) fn190.body [some (.int g),none,none] ⟨h.n,h.n,h.os⟩=.ok (.rt (.ref j')) h':=by
  refine(zac ((iteF (notT (zc3 (varE rfl) cstE cstE e0))).trans rfl)).trans ?_
  refine(zac (setE (x:=.ref h.n) (h1:=VH.new ⟨h.n,h.n,h.os⟩ (.lst [.tup []])) (lstE (consE (tupE nilE rfl) nilE) rfl))).trans ?_
  refine(zac (ρ':=[some (.int g),some (.ref j'),x']) (h':=h') ?_).trans ?_
  .rw[exs,consE (varE (x:=.int g) rfl) nilE,bindok,zm5 (by omega)]
   exact e2
  .exact zab (retE (varE rfl))
 show ∃i h',fin h (exs (run F (k+2)) fn190.body [some (.int g),none,none] ⟨h.n,h.n,h.os⟩)=.ok (.ref i) h'/\_
 rw[eb]
 obtain⟨h2,e3,c3,g3⟩:=znf (h:=h) (i:=j') (c0.up (vac _)) m2
 exact⟨j',h2,e3,c3,m2,by rw[g3,g2,Nat.zero_add]⟩
end
theorem revE{cl:Call}{ρ:En}{h:VH}{i l:Nat}{ws:List W}(hρ:ρ[i]?=some (some (.ref l)))(g:h.get l=some (.lst ws)):ev cl (.mt .reverse (.var i) .nil) ρ h=.ok .non (h.set l (.lst ws.reverse)):=by
 have hk:zdm .reverse h (.ref l)=true:=by simp only[zdm,g]
 have hm:mtW .reverse (.ref l) [] h=.ok .non (h.set l (.lst ws.reverse)):=by simp only[mtW,g]
 rw[ev,varE hρ,bindok,if_pos hk,nilE,bindok]
 exact hm
theorem znn{l:List Int}{g:Nat}(hl:l.length=g)(hb:Bits l):zay (iW l) g g 0 1=true:=by
 show(zar (.tup (l.map W.int)) g g&& (l.map W.int).all (within · 0 1))=true
 rw[vaa]
 refine⟨by simp only[zar,vai,vaa,vax];omega,?_⟩
 rw[vbr]
 intro w hw
 obtain⟨i,hi,rfl⟩:=vco.mp hw
 rcases hb i hi with rfl|rfl<;>rfl
theorem tk_iW{h:VH}{l:List Int}(hl:l.length<1000):TK h (iW l):=⟨by simp[Kn,iW],λws e=>by
 cases e
 refine⟨by rw[vai];exact hl,λx hx=>?_⟩
 obtain⟨i,_,rfl⟩:=vco.mp hx
 exact⟨by simp[Kn],.int i,rfl,rfl,va9 _⟩⟩
section
variable{F:Nat->Option Fn}(C:C02 F)
include C
theorem zno{k g:Nat}{h:VH}(hg:g<=8):run F (k+4) 700 [.int g] h=.ok (.bl true) h:=by
 rw[zan C.f700 rfl]
 have hp:=pow8 hg
 have hlen:((allL g).map iW).length<=256:=by rw[vai,zd0];exact hp
 obtain⟨i1,h1,e1,c1,n1,g1⟩:=zjq C (k:=k) (h:=⟨h.n,h.n,h.os⟩) hg
 obtain⟨i2,h2,e2,c2,n2,g2⟩:=znm C (k:=k+2) (h:=h1) hg
 have g1':=c2.get _ _ g1
 have hd:∀h,∀w∈(allL g).map iW,Dd h w:=λh w hw=>by
  obtain⟨l,_,rfl⟩:=vco.mp hw
  exact dd_iW
 let ρ:En:=[some (.int g),some (.ref i1),some (.ref i2)]
 have ei:ev (run F (k+3)) (.isi .list (.var 1)) ρ h2=.ok (.bl true) h2:=by
  rw[ev,varE (x:=.ref i1) rfl,bindok]
  simp only[tyIs,g1'];rfl
 have en:ev (run F (k+3)) (.cmp .ne (.var 1) (.var 2)) ρ h2=.ok (.bl false) h2:=by
  rw[ev,varE (x:=.ref i1) rfl,bindok,varE (x:=.ref i2) rfl,bindok]
  simp only[cmpW,znh g1' g2 (hd h2),vbb];rfl
 have el:lcG (nxt .seq (.ref i1)) (tgW (.one 0)) (ev (run F (k+3)) (.cst (.bl true))) (ev (run F (k+3)) zbl) fuel 0 [none,some (.int g)] h2 []=.ok (List.replicate ((allL g).map iW).length (.bl true)) h2:=by
  have:=zfn (nx:=nxt .seq (.ref i1)) (c:=ev (run F (k+3)) (.cst (.bl true))) (e:=ev (run F (k+3)) zbl) (h:=h2) (ws:=(allL g).map iW) (tl:=[some (.int g)]) (p:=λ_=>true) (f:=λ_=>.bl true) (zfo g1') (λw hm=>cstE) (λw hm=>by
   obtain⟨l,hl,rfl⟩:=vco.mp hm
   obtain⟨q1,q2⟩:=zij g l hl
   have e:=are02 C (k:=k+1) (h:=h2) (w:=iW l) (g:=g) (tk_iW (by omega))
   rw[znn q1 q2]at e
   unfold zbl
   exact zbk (varE rfl) (varE rfl) e) fuel 0 none [] (va9 _) (by rw[show fuel=1000000 from rfl];omega)
  rw[this]
  congr 1
  rw[vdf,List.filter_eq_self.mpr (λ_ _=>rfl),List.map_const'];rfl
 let L3:List W:=List.replicate ((allL g).map iW).length (.bl true)
 have ea:ev (run F (k+3)) (.bi .all (.cons (.lc .seq (.var 1) (.one 0) 1 [0] (.cst (.bl true)) zbl) .nil)) ρ h2=.ok (.bl true) (h2.new (.lst L3)):=
  allE (j:=h2.n) (n:=((allL g).map iW).length) (zgp (varE rfl) el (by rw[vc9];omega)) zai
 have g3:(h2.new (.lst L3)).get i1=some (.lst ((allL g).map iW)):=by rw[zad (zaq g1')];exact g1'
 have g3b:(h2.new (.lst L3)).get i2=some (.lst ((allL g).map iW)):=by rw[zad (zaq g2)];exact g2
 have e4:=revE (cl:=run F (k+3)) (ρ:=ρ) (i:=1) rfl g3
 have g4:=za0 (o:=.lst ((allL g).map iW).reverse) g3
 have e5:=zez (cl:=run F (k+3)) (i:=1) (l:=i1) (x:=.cst .non) (ρ:=ρ) (w:=.non) rfl g4 cstE g4 (by rw[vdl];omega)
 have ne:i2≠i1:=λz=>by have:=zaq g1;omega
 have g5:(((h2.new (.lst L3)).set i1 (.lst ((allL g).map iW).reverse)).set i1 (.lst (((allL g).map iW).reverse++[.non]))).get i2=some (.lst ((allL g).map iW)):=by
  rw[zah g4 ne,zah g3 ne];exact g3b
 generalize h5e:((h2.new (.lst L3)).set i1 (.lst ((allL g).map iW).reverse)).set i1 (.lst (((allL g).map iW).reverse++[.non]))=h5 at g5 e5
 obtain⟨i6,h6,e6,c6,n6,g6⟩:=zjq C (k:=k) (h:=h5) hg
 have g6':=c6.get _ _ g5
 have er:ev (run F (k+3)) (.cmp .eq (.call 190 (.cons (.var 0) .nil)) (.var 2)) ρ h5=.ok (.bl true) h6:=by
  rw[ev,zbj (varE rfl) e6,bindok,varE (x:=.ref i2) rfl,bindok]
  simp only[cmpW,znh g6 g6' (hd h6),vbb];rfl
 have hup:Up h.n ⟨h.n,h.n,h.os⟩ h6:=by
  have u1:Up h.n ⟨h.n,h.n,h.os⟩ (h2.new (.lst L3)):=((c1.trans c2).new).up (vac _)
  have u2:=(u1.set (o:=.lst ((allL g).map iW).reverse) g3 n1).set (o:=.lst (((allL g).map iW).reverse++[.non])) g4 n1
  rw[h5e]at u2
  exact u2.cf c6 (vac _)
 have eb:exs (run F (k+3)) zd1.body [some (.int g),none,none] ⟨h.n,h.n,h.os⟩=.ok (.rt (.bl true)) h6:=by
  refine(zac (setE (x:=.ref i1) (h1:=h1) (zbj (varE rfl) e1))).trans ?_
  refine(zac (setE (x:=.ref i2) (h1:=h2) (zbj (varE rfl) e2))).trans ?_
  refine(zac ((iteF (orB (x:=false) (notT ei) en)).trans rfl)).trans ?_
  refine(zac ((iteF (notT ea)).trans rfl)).trans ?_
  refine(zac (exprE e4)).trans ?_
  refine(zac (exprE e5)).trans ?_
  exact zab (retE er)
 show fin h (exs (run F (k+3)) zd1.body [some (.int g),none,none] ⟨h.n,h.n,h.os⟩)=_
 rw[eb]
 exact zwn hup (λ_=>lt_bl)
end
noncomputable def DL(m:Nat)(h:VH)(x:W):Prop:=∃d,(∀n,toD h (n+m) x=some d)/\d.canLay0=true/\d.depth<=m
theorem DL.up{m:Nat}{h:VH}{x:W}(q:DL m h x):DL (m+1) h x:=by
 obtain⟨d,a,b,c⟩:=q
 exact⟨d,λn=>by rw[show n+ (m+1)=n+1+m by omega];exact a _,b,vde c⟩
theorem DL.dd{m:Nat}{h:VH}{x:W}(q:DL m h x)(hm:m<=23):Dd h x:=by
 obtain⟨d,a,b,c⟩:=q
 exact⟨d,by have:=a (23-m);rwa [show 23-m+m=23 by omega]at this,b,by omega⟩
theorem znp{m:Nat}{h:VH}:∀ws:List W,(∀x∈ws,DL m h x)->∃ds,(∀n,mapO (toD h (n+m)) ws=some ds)/\PyData.canLayAll0 ds=true/\PyData.depthAll ds<=m
 |[],_=>⟨[],λ_=>rfl,rfl,va9 _⟩
 |w::r,e=>by
  obtain⟨d,h1,h2,h3⟩:=e w (vaw ..)
  obtain⟨ds,h4,h5,h6⟩:=znp r λz hz=>e z (vao _ hz)
  refine⟨d::ds,λn=>by simp[mapO,h1,h4],?_,?_⟩
  .show(d.canLay0&&PyData.canLayAll0 ds)=true
   rw[h2,h5];rfl
  .show max d.depth (PyData.depthAll ds)<=m
   omega
theorem DL.tup{m:Nat}{h:VH}{ws:List W}(q:∀x∈ws,DL m h x):DL (m+1) h (.tup ws):=by
 obtain⟨ds,a,b,c⟩:=znp ws q
 exact⟨.tuple ds,λn=>by show(mapO (toD h (n+m)) ws).map PyData.tuple=_;rw[a];rfl,b,by show PyData.depthAll ds+1<=m+1;omega⟩
theorem DL.ref{m:Nat}{h:VH}{i:Nat}{ws:List W}(g:h.get i=some (.lst ws))(q:∀x∈ws,DL m h x):DL (m+1) h (.ref i):=by
 obtain⟨ds,a,b,c⟩:=znp ws q
 exact⟨.list ds,λn=>by rw[show n+ (m+1)=(n+m)+1 from rfl,zjo g,a];rfl,b,by show PyData.depthAll ds+1<=m+1;omega⟩
theorem znq{m:Nat}{h:VH}{i:Int}:DL (m+1) h (.int i):=⟨.int i,λ_=>rfl,rfl,va9 _⟩
theorem dl_bl{m:Nat}{h:VH}{i:Bool}:DL (m+1) h (.bl i):=⟨.bool i,λ_=>rfl,rfl,va9 _⟩
theorem zwq{m:Nat}{h:VH}:DL (m+1) h .non:=⟨.none,λ_=>rfl,rfl,va9 _⟩
theorem zwr{m:Nat}{h:VH}{x:Str}(e:PyData.strOk x=true):DL (m+1) h (.str x):=⟨.str x,λ_=>rfl,e,va9 _⟩
theorem tk_no{h:VH}{w:W}(hk:Kn h w)(hn:zhs w=false):TK h w:=⟨hk,λws e=>by subst e;cases hn⟩
noncomputable def X1(h:VH)(d c:Nat)(x:W):Prop:=∀h2,Keep h h2 d c->TK h2 x/\DL 3 h2 x
noncomputable def X2(h:VH)(d c:Nat)(x:W):Prop:=∀h2,Keep h h2 d c->TK h2 x/\DL 4 h2 x
noncomputable def X3(h:VH)(d c:Nat)(x:W):Prop:=∀h2,Keep h h2 d c->TH h2 x
section
variable{h h':VH}{d c:Nat}{x:W}{ws:List W}
theorem X1.keep(q:X1 h d c x)(K:Keep h h' d c):X1 h' d c x:=λh2 K2=>q h2 (K.trans K2)
theorem X2.keep(q:X2 h d c x)(K:Keep h h' d c):X2 h' d c x:=λh2 K2=>q h2 (K.trans K2)
theorem X3.keep(q:X3 h d c x)(K:Keep h h' d c):X3 h' d c x:=λh2 K2=>q h2 (K.trans K2)
theorem X1.x2(q:X1 h d c x):X2 h d c x:=λh2 K=>⟨(q h2 K).1,(q h2 K).2.up⟩
theorem X1.tup(hl:ws.length<1000)(q:∀x∈ws,X1 h d c x):X2 h d c (.tup ws):=λh2 K=>⟨⟨by simp[Kn],λus e=>by
 cases e
 exact⟨hl,λx hx=>⟨(q x hx h2 K).1.1,(q x hx h2 K).2.dd (by decide)⟩⟩⟩,.tup λx hx=>(q x hx h2 K).2⟩
theorem X2.tup(hl:ws.length<1000)(q:∀x∈ws,X2 h d c x):X3 h d c (.tup ws):=λh2 K=>⟨⟨by simp[Kn],λus e=>by
 cases e
 exact⟨hl,λx hx=>⟨(q x hx h2 K).1.1,(q x hx h2 K).2.dd (by decide)⟩⟩⟩,λus e x hx=>by cases e;exact(q x hx h2 K).1⟩
theorem X1.tup3(hl:ws.length<1000)(q:∀x∈ws,X1 h d c x):X3 h d c (.tup ws):=X2.tup hl λx hx=>(q x hx).x2
theorem x3_no(hk:∀h2,Keep h h2 d c->Kn h2 x)(hn:zhs x=false):X3 h d c x:=λh2 K=>⟨tk_no (hk h2 K) hn,λws e=>by subst e;cases hn⟩
theorem zce{i:Int}:X1 h d c (.int i):=λh2 _=>⟨tk_no (by simp[Kn]) rfl,znq⟩
theorem x1_bl{i:Bool}:X1 h d c (.bl i):=λh2 _=>⟨tk_no (by simp[Kn]) rfl,dl_bl⟩
theorem znr:X1 h d c .non:=λh2 _=>⟨tk_no (by simp[Kn]) rfl,zwq⟩
theorem zqt{y:Str}(e:PyData.strOk y=true):X1 h d c (.str y):=λh2 _=>⟨tk_no (by simp[Kn]) rfl,zwr e⟩
theorem zqu{i:Int}:X1 h d c (.tup [.int i]):=λh2 _=>⟨⟨by simp[Kn],λus e=>by
 cases e
 exact⟨by show 1<1000;decide,λx hx=>by rw[va8.mp hx];exact⟨by simp[Kn],.int i,rfl,rfl,va9 _⟩⟩⟩,(DL.tup (m:=1) λx hx=>by rw[va8.mp hx];exact znq).up⟩
theorem zqv{i:Nat}{is:List Int}(hi:i≠d/\i≠c)(g:h.get i=some (.lst (is.map .int))):X1 h d c (.ref i):=λh2 K=>by
 have g2:=K.get i _ hi.1 hi.2 g
 exact⟨tk_no (by simp[Kn,tyIs,g2]) rfl,(DL.ref (m:=1) g2 λx hx=>by
  obtain⟨j,_,rfl⟩:=vco.mp hx
  exact znq).up⟩
end
theorem zs2{h h':VH}{i:Nat}(hi:h.n<=i):fin h (.ok (.rt (.ref i)) h')=.ok (.ref i) ⟨h'.n,if Nat.ble h.lo h'.lo then h.lo else h'.lo,h'.os⟩:=by
 show leave h (.ref i) h'=_
 unfold leave
 rw[if_neg]
 rw[vaa]
 intro z
 have:=z.2
 simp only[W.lt]at this
 have:=zax.mp this
 omega
theorem dspE0{cl:Call}{ρ:En}{h:VH}:ev cl (.dsp .nil) ρ h=.ok (.ref h.n) (h.new (.dk [])):=by
 rw[ev,nilE];rfl
theorem Keep.lo2{h h':VH}{d c l l':Nat}(K:Keep ⟨h.n,l,h.os⟩ h' d c):Keep h ⟨h'.n,l',h'.os⟩ d c:=⟨K.le,λi o a b e=>by rw[get_lo];exact K.get i o a b (by rw[get_lo];exact e)⟩
theorem ne10{n:Nat}(h:1<n):n≠1/\n≠0:=by omega
theorem lt3{a b:Nat}(h:a<=8)(k:b<=8):a+1+b<1000:=by omega
section
variable{F:Nat->Option Fn}(C:C02 F)
include C
theorem zht{k lc lf lk:Nat}{hb:VH}{RC CA:List W}{v1 v2 v3 v4 v5:Option W}(hne:lf≠lc/\lf≠lk)(hlc:lc≠1/\lc≠0)(hlf:lf≠1/\lf≠0)(hlk:lk≠1/\lk≠0)(hbf:hb.n<=lf)(hR:∀w∈RC,X2 hb 1 0 w)(hC:∀w∈CA,X1 hb 1 0 w)(h9:CA.length=9) :
 ∀(n f i b:Nat)(x:Option W)(acc:List W)(h:VH),i+n=RC.length->n<f->h.get lc=some (.lst RC)->h.get lk=some (.lst CA)->h.get lf=some (.lst acc)->(∀w∈acc,X3 hb 1 0 w)->acc.length+n<=1000->Dk h 1 0 b->b+n+5<1000000000->Keep hb h 1 0->
 ∃x' acc' h',forG (nxt .seq (.ref lc)) (tgW (.one 8)) (exs (run F (k+3)) zbd) f i [some (.ref 1),v1,v2,v3,v4,v5,some (.ref lk),some (.ref lf),x] h=.ok (.nx [some (.ref 1),v1,v2,v3,v4,v5,some (.ref lk),some (.ref lf),x']) h'/\h'.get lk=some (.lst CA)/\h'.get lf=some (.lst acc')/\(∀w∈acc',X3 hb 1 0 w)/\acc'.length=acc.length+n/\Dk h' 1 0 (b+n)/\Keep hb h' 1 0
 |n,0,i,b,x,acc,h,_,hf,_,_,_,_,_,_,_,_=>by omega
 |0,f+1,i,b,x,acc,h,hi,hf,gc,gk,gf,ha,hl,D,hb',K=>by
  refine⟨x,acc,h,?_,gk,gf,ha,rfl,D,K⟩
  have:nxt .seq (.ref lc) i h=some none:=by
   rw[zfo gc,List.getElem?_eq_none (by omega)]
  rw[forG,this]
 |n+1,f+1,i,b,x,acc,h,hi,hf,gc,gk,gf,ha,hl,D,hb',K=>by
  have hil:i<RC.length:=by omega
  obtain⟨r,h1,e1,a1,b1,D1,K1⟩:=take C.q.toCoreD (k:=k) (m:=9) D (by omega) (by decide) (by decide)
  obtain⟨j,rfl⟩:=vbo a1
  have hj:j<CA.length:=by omega
  have gk1:=K1.get _ _ hlk.1 hlk.2 gk
  have gf1:=K1.get _ _ hlf.1 hlf.2 gf
  have gc1:=K1.get _ _ hlc.1 hlc.2 gc
  have ep:ev (run F (k+3)) (.tup (.cons (.var 8) (.cons (.idx (.var 6) (.call 5 (.cons (.var 0) (.cons (.cst (.int (9))) .nil)))) .nil))) [some (.ref 1),v1,v2,v3,v4,v5,some (.ref lk),some (.ref lf),some RC[i]] h=.ok (.tup [RC[i],CA[j]]) h1:=
   tup2E (varE rfl) (idxE (varE rfl) (zbk (varE rfl) cstE e1) (by simp only[idxW,gk1];exact zfu (vay hj)))
  have eb:exs (run F (k+3)) zbd [some (.ref 1),v1,v2,v3,v4,v5,some (.ref lk),some (.ref lf),some RC[i]] h=.ok (.nx [some (.ref 1),v1,v2,v3,v4,v5,some (.ref lk),some (.ref lf),some RC[i]]) (h1.set lf (.lst (acc++[.tup [RC[i],CA[j]]]))):=by
   unfold zbd
   exact(zac (exprE (zez (i:=7) (l:=lf) rfl gf ep gf1 (by omega)))).trans rfl
  have D2:Dk (h1.set lf (.lst (acc++[.tup [RC[i],CA[j]]]))) 1 0 (b+1):=by
   obtain⟨ne,ns,cells,p,q,a1,a2,a3⟩:=D1
   exact⟨ne,ns,cells,p,q,by rw[zah gf1 hlf.1.symm];exact a1,by rw[zah gf1 hlf.2.symm];exact a2,a3⟩
  obtain⟨x',acc',h',e2,k2,g2,x2,l2,D3,K3⟩:=zht hne hlc hlf hlk hbf hR hC h9 n f (i+1) (b+1) (some RC[i]) (acc++[.tup [RC[i],CA[j]]]) (h1.set lf (.lst (acc++[.tup [RC[i],CA[j]]]))) (by omega) (by omega) (by rw[zah gf1 hne.1.symm];exact gc1) (by rw[zah gf1 hne.2.symm];exact gk1) (za0 gf1) (λw hw=>by
   rcases vbq.mp hw with hw|hw
   .exact ha w hw
   .rw[va8.mp hw]
    exact X2.tup (by show 2<1000;decide) λy hy=>by
     rcases vat.mp hy with rfl|hy
     .exact hR _ (vdj hil)
     .rw[va8.mp hy];exact(hC _ (vdj hj)).x2) (by rw[vak,vbh];omega) D2 (by omega) ((K.trans K1).set1 gf1 hbf)
  refine⟨x',acc',h',?_,k2,g2,x2,by rw[l2,vak,vbh];omega,by rw[show b+ (n+1)=b+1+n by omega];exact D3,K3⟩
  rw[forG,zfo gc,vay hil]
  show(exs (run F (k+3)) zbd [some (.ref 1),v1,v2,v3,v4,v5,some (.ref lk),some (.ref lf),some RC[i]] h).bind _=_
  rw[eb]
  exact e2
theorem zph{k b:Nat}{h:VH}{ls:List Int}{nf:Nat}(D:Dk h 1 0 b)(hb:b+30<1000000000)(hl:ls.length<=8)(hnf:nf<=4):∃i h' ws,run F (k+4) 705 [.ref 1,iW ls,.int nf] h=.ok (.ref i) h'/\h'.get i=some (.lst ws)/\i≠1/\i≠0/\ws.length<=1000/\(∀w∈ws,X3 h' 1 0 w)/\Dk h' 1 0 (b+8)/\Keep h h' 1 0:=by
 have l0:=D.ltn
 have lm:(ls.map W.int).length=ls.length:=vai ..
 obtain⟨at_,h1,e1,a1,b1,D1,K1⟩:=take C.q.toCoreD (k:=k) (m:=((ls.map W.int).length:Int)+1) (D.lo (l:=h.n)) (by omega) (by omega) (by omega)
 have l1:=D1.ltn
 let ρ1:En:=[some (.ref 1),some (iW ls),some (.int nf),some (.int at_),none,none,none,none,none]
 obtain⟨odd,h2,e2,m2,D2,K2⟩:=draw C.q.toCoreD (k:=k) (i:=0) (e:=.cons (.cst (.int (2))) (.cons (.neg (.cst (.int (1)))) (.cons (.cst (.bl true)) (.cons (.cst (.bl false)) (.cons (.cst .non) (.cons (.cst (.str (PySem.Str.ofString "0"))) (.cons (.tup (.cons (.cst (.int (0))) .nil)) (.cons (.lst (.cons (.cst (.int (0))) .nil)) .nil)))))))) (ρ:=ρ1) (h:=h1) (h1:=h1.new (.lst [.int 0])) (ys:=[W.int 2,W.int (-1),W.bl true,W.bl false,W.non,W.str (PySem.Str.ofString "0"),W.tup [W.int 0],W.ref h1.n]) (m:=8) rfl
  (consE cstE (consE (negE cstE) (consE cstE (consE cstE (consE cstE (consE cstE (consE (tupE (consE cstE nilE) rfl) (consE (lstE (consE cstE nilE) rfl) nilE)))))))) rfl (by decide) (by decide) D1.new (by omega)
 have l2:=D2.ltn
 have p2:=l2.1
 have p1:=l1.1
 have xo:X1 h2 1 0 odd:=by
  have x0:X1 (h1.new (.lst [.int 0])) 1 0 odd:=by
   simp only[vat,vbj,vdk]at m2
   rcases m2 with rfl|rfl|rfl|rfl|rfl|rfl|rfl|rfl
   .exact zce
   .exact zce
   .exact x1_bl
   .exact x1_bl
   .exact znr
   .exact zqt (by decide +kernel)
   .exact zqu
   .exact zqv (is:=[0]) (ne10 p1) zai
  exact x0.keep K2
 generalize hc1:cutW (ls.map W.int) none (some at_)=c1
 generalize hc2:cutW (ls.map W.int) (some (at_+1)) none=c2
 generalize hc3:cutW (ls.map W.int) (some at_) none=c3
 have z1:c1.length<=8:=by rw[<-hc1];exact vap zii (by omega)
 have z2:c2.length<=8:=by rw[<-hc2];exact vap zii (by omega)
 have z3:c3.length<=8:=by rw[<-hc3];exact vap zii (by omega)
 have xi:∀{hh:VH},∀w∈ls.map W.int,X1 hh 1 0 w:=λw hw=>by
  obtain⟨i,_,rfl⟩:=vco.mp hw
  exact zce
 have q4:(ls.map W.int++[W.int 0]).length<1000:=by rw[vak,lm];exact vbi (Nat.add_le_add_right hl 1) (by decide)
 have q3:(c1++c2).length<1000:=by rw[vak];exact vbi (Nat.add_le_add z1 z2) (by decide)
 have q1:(c1++[odd]++c2).length<1000:=by rw[vak,vak];exact lt3 z1 z2
 have q2:(c1++[odd]++c3).length<1000:=by rw[vak,vak];exact lt3 z1 z3
 have q0:(ls.map W.int).length<1000:=by rw[lm];exact vbi hl (by decide)
 have x1':∀{hh:VH},∀w∈c1,X1 hh 1 0 w:=λw hw=>xi w (zih (by rw[<-hc1]at hw;exact hw))
 have x2':∀{hh:VH},∀w∈c2,X1 hh 1 0 w:=λw hw=>xi w (zih (by rw[<-hc2]at hw;exact hw))
 have x3':∀{hh:VH},∀w∈c3,X1 hh 1 0 w:=λw hw=>xi w (zih (by rw[<-hc3]at hw;exact hw))
 generalize hR1:[iW ls,W.ref h2.n,W.tup (ls.map W.int++[.int 0]),W.tup (c1++c2),W.tup (c1++[odd]++c2)]=R1
 generalize h4e:(h2.new (.lst (ls.map W.int))).new (.lst R1)=h4
 have n4:h4.n=h2.n+2:=by rw[<-h4e];rfl
 have K4:Keep h2 h4 1 0:=by rw[<-h4e];exact Keep.refl.new.new
 have p4:=vae p2 K4.le
 generalize hR2:[W.tup (c1++[odd]++c3),.non,.int 0,.str (PySem.Str.ofString ""),.str (PySem.Str.ofString "0"),.ref h4.n,.ref (h4.n+1),.tup [],.bl true]=R2
 generalize h7e:((h4.new (.dk [])).new (.lst [])).new (.lst R2)=h7
 have n7:h7.n=h4.n+3:=by rw[<-h7e];rfl
 have K7:Keep h4 h7 1 0:=by rw[<-h7e];exact Keep.refl.new.new.new
 have p7:=vae p4 K7.le
 generalize hCA:[W.non,.int 0,.int ((nf:Int)-1),.int nf,.int (-1),.bl true,.bl false,.str (PySem.Str.ofString "0"),.tup [.int 0]]=CA
 generalize h9e:(h7.new (.lst (R1++R2))).new (.lst CA)=h9
 have n9:h9.n=h7.n+2:=by rw[<-h9e];rfl
 have K9:Keep h7 h9 1 0:=by rw[<-h9e];exact Keep.refl.new.new
 have p9:=vae p7 K9.le
 have p2a:1<h2.n+1:=vba p2
 have p4a:1<h4.n+1:=vba p4
 have p7a:1<h7.n+1:=vba p7
 have p9a:1<h9.n+1:=vba p9
 have le79:h7.n+1<h9.n:=by rw[n9];exact vaq _
 have gl:h9.get h2.n=some (.lst (ls.map W.int)):=(K7.trans K9).get _ _ (ne10 p2).1 (ne10 p2).2 (by rw[<-h4e,zad (vaq _)];exact zai)
 have gd:h9.get h4.n=some (.dk []):=K9.get _ _ (ne10 p4).1 (ne10 p4).2 (by rw[<-h7e,zad (vba (vaq _)),zad (vaq _)];exact zai)
 have ge:h9.get (h4.n+1)=some (.lst []):=K9.get _ _ (ne10 p4a).1 (ne10 p4a).2 (by rw[<-h7e,zad (vaq _)];exact zai (h:=h4.new (.dk [])))
 have gr:h9.get h7.n=some (.lst (R1++R2)):=by rw[<-h9e,zad (vaq _)];exact zai
 have gc:h9.get (h7.n+1)=some (.lst CA):=by rw[<-h9e];exact zai (h:=h7.new (.lst (R1++R2)))
 have g7a:h7.get (h2.n+1)=some (.lst R1):=K7.get _ _ (ne10 p2a).1 (ne10 p2a).2 (by rw[<-h4e];exact zai (h:=h2.new (.lst (ls.map W.int))))
 have g7b:h7.get (h4.n+2)=some (.lst R2):=by rw[<-h7e];exact zai (h:=(h4.new (.dk [])).new (.lst []))
 have xo9:X1 h9 1 0 odd:=xo.keep ((K4.trans K7).trans K9)
 have ap1:∀w∈c1++[odd]++c2,X1 h9 1 0 w:=λw hw=>by
  rcases vbq.mp hw with hw|hw
  .rcases vbq.mp hw with hw|hw
   .exact x1' w hw
   .rw[va8.mp hw];exact xo9
  .exact x2' w hw
 have ap2:∀w∈c1++[odd]++c3,X1 h9 1 0 w:=λw hw=>by
  rcases vbq.mp hw with hw|hw
  .rcases vbq.mp hw with hw|hw
   .exact x1' w hw
   .rw[va8.mp hw];exact xo9
  .exact x3' w hw
 have ap3:∀w∈c1++c2,X1 h9 1 0 w:=λw hw=>by
  rcases vbq.mp hw with hw|hw
  .exact x1' w hw
  .exact x2' w hw
 have ap4:∀w∈ls.map W.int++[W.int 0],X1 h9 1 0 w:=λw hw=>by
  rcases vbq.mp hw with hw|hw
  .exact xi w hw
  .rw[va8.mp hw];exact zce
 have XR:∀w∈R1++[W.tup (c1++[odd]++c3)],X2 h9 1 0 w:=by
  intro w hw
  rw[<-hR1]at hw
  simp only[vc3,vcj,vat,vbj,vdk]at hw
  rcases hw with rfl|rfl|rfl|rfl|rfl|rfl
  .exact X1.tup q0 xi
  .exact(zqv (is:=ls) (ne10 p2) gl).x2
  .exact X1.tup q4 ap4
  .exact X1.tup q3 ap3
  .exact X1.tup q1 ap1
  .exact X1.tup q2 ap2
 have XT:∀w∈R1++R2,X3 h9 1 0 w:=by
  intro w hw
  rw[<-hR1,<-hR2]at hw
  simp only[vc3,vcj,vat,vbj,vdk]at hw
  rcases hw with rfl|rfl|rfl|rfl|rfl|rfl|rfl|rfl|rfl|rfl|rfl|rfl|rfl|rfl
  .exact X1.tup3 q0 xi
  .exact x3_no (λh2' K=>by have:=K.get _ _ (ne10 p2).1 (ne10 p2).2 gl;simp[Kn,tyIs,this]) rfl
  .exact X1.tup3 q4 ap4
  .exact X1.tup3 q3 ap3
  .exact X1.tup3 q1 ap1
  .exact X1.tup3 q2 ap2
  .exact x3_no (λ_ _=>by simp[Kn]) rfl
  .exact x3_no (λ_ _=>by simp[Kn]) rfl
  .exact x3_no (λ_ _=>by simp[Kn]) rfl
  .exact x3_no (λ_ _=>by simp[Kn]) rfl
  .exact x3_no (λh2' K=>by have:=K.get _ _ (ne10 p4).1 (ne10 p4).2 gd;simp[Kn,tyIs,this]) rfl
  .exact x3_no (λh2' K=>by have:=K.get _ _ (ne10 p4a).1 (ne10 p4a).2 ge;simp[Kn,tyIs,this]) rfl
  .exact X1.tup3 (by show 0<1000;decide) (λ_ z=>nomatch z)
  .exact x3_no (λ_ _=>by simp[Kn]) rfl
 have XC:∀w∈CA,X1 h9 1 0 w:=by
  intro w hw
  rw[<-hCA]at hw
  simp only[vat,vbj,vdk]at hw
  rcases hw with rfl|rfl|rfl|rfl|rfl|rfl|rfl|rfl|rfl
  .exact znr
  .exact zce
  .exact zce
  .exact zce
  .exact zce
  .exact x1_bl
  .exact x1_bl
  .exact zqt (by decide +kernel)
  .exact zqu
 have lR:(R1++R2).length=14:=by rw[<-hR1,<-hR2];rfl
 have lC:CA.length=9:=by rw[<-hCA];rfl
 have hcut:cutW (R1++R2) none (some 6)=R1++[W.tup (c1++[odd]++c3)]:=by rw[<-hR1,<-hR2];rfl
 have D9:Dk h9 1 0 (b+1+1):=by rw[<-h9e,<-h7e,<-h4e];exact D2.new.new.new.new.new.new.new
 let RC:List W:=R1++[W.tup (c1++[odd]++c3)]
 have lRC:RC.length=6:=by show(R1++[W.tup (c1++[odd]++c3)]).length=6;rw[<-hR1];rfl
 let h11:VH:=(h9.new (.lst (R1++R2))).new (.lst RC)
 have n11:h11.n=h9.n+2:=rfl
 obtain⟨x8,acc,h12,e12,k12,g12,xa,la,D12,K12⟩:=zht C (k:=k) (lc:=h9.n+1) (lf:=h9.n) (lk:=h7.n+1) (hb:=h9) (RC:=RC) (CA:=CA) (v1:=some (iW ls)) (v2:=some (.int nf)) (v3:=some (.int at_)) (v4:=some odd) (v5:=some (.ref h7.n)) ⟨vau (vaq _),vca le79⟩ (ne10 p9a) (ne10 p9) (ne10 p7a) (vac _) XR XC lC 6 fuel 0 (b+1+1) none (R1++R2) h11 (by omega) (by decide) (zai (h:=h9.new (.lst (R1++R2)))) (((zad (vba le79)).trans (zad le79)).trans gc) ((zad (vaq _)).trans zai) XT (by omega) D9.new.new (by omega) Keep.refl.new.new
 have l12:=D12.ltn
 let P1:List W:=CA.map λc=>.tup [iW ls,c]
 have eP:lcG (nxt .seq (.ref (h7.n+1))) (tgW (.one 0)) (ev (run F (k+3)) (.cst (.bl true))) (ev (run F (k+3)) zb5) fuel 0 [none,some (iW ls)] h12 []=.ok P1 h12:=by
  have:=zfn (nx:=nxt .seq (.ref (h7.n+1))) (c:=ev (run F (k+3)) (.cst (.bl true))) (e:=ev (run F (k+3)) zb5) (h:=h12) (ws:=CA) (tl:=[some (iW ls)]) (p:=λ_=>true) (f:=λc=>.tup [iW ls,c]) (zfo k12) (λw hm=>cstE) (λw hm=>by
   unfold zb5
   exact tup2E (varE rfl) (varE rfl)) fuel 0 none [] (va9 _) (by rw[show fuel=1000000 from rfl];omega)
  rw[this]
  congr 1
  rw[vdf,List.filter_eq_self.mpr (λ_ _=>rfl)];rfl
 have lP:P1.length=9:=by show(CA.map _).length=9;rw[vai,lC]
 have xl:X2 h9 1 0 (iW ls):=X1.tup q0 xi
 have XP:∀w∈P1,X3 h9 1 0 w:=λw hw=>by
  obtain⟨c,hc,rfl⟩:=vco.mp hw
  exact X2.tup (by show 2<1000;decide) λy hy=>by
   rcases vat.mp hy with rfl|hy
   .exact xl
   .rw[va8.mp hy];exact(XC c hc).x2
 let h14:VH:=(h12.new (.lst P1)).new (.lst (acc++P1))
 let P2:List W:=[.tup [iW ls],.tup [iW ls,.int 0,.int 0],.ref h14.n,.tup [.int 0,iW ls],.tup [.non,.non]]
 let h16:VH:=(h14.new (.lst [iW ls,.int 0])).new (.lst P2)
 let h17:VH:=h16.new (.lst ((acc++P1)++P2))
 have n14:h14.n=h12.n+2:=rfl
 have p14:1<h14.n:=vba (vba l12.1)
 have n16:h16.n=h12.n+4:=rfl
 have K17:Keep h12 h17 1 0:=Keep.refl.new.new.new.new.new
 have K917:Keep h9 h17 1 0:=K12.trans K17
 have gp:h17.get h14.n=some (.lst [iW ls,.int 0]):=((zad (show h14.n<h14.n+2 from vba (vaq _))).trans (zad (vaq _))).trans zai
 have g17:h17.get h16.n=some (.lst ((acc++P1)++P2)):=zai
 have XQ:∀w∈(acc++P1)++P2,X3 h17 1 0 w:=λw hw=>by
  rcases vbq.mp hw with hw|hw
  .rcases vbq.mp hw with hw|hw
   .exact(xa w hw).keep K917
   .exact(XP w hw).keep K917
  .have xl':=xl.keep K917
   simp only[P2,vat,vbj,vdk]at hw
   rcases hw with rfl|rfl|rfl|rfl|rfl
   .exact X2.tup (by show 1<1000;decide) λy hy=>by rw[va8.mp hy];exact xl'
   .exact X2.tup (by show 3<1000;decide) λy hy=>by
     simp only[vat,vbj,vdk]at hy
     rcases hy with rfl|rfl|rfl
     .exact xl'
     .exact zce.x2
     .exact zce.x2
   .exact x3_no (λh2' K=>by have:=K.get _ _ (ne10 p14).1 (ne10 p14).2 gp;simp[Kn,tyIs,this]) rfl
   .exact X2.tup (by show 2<1000;decide) λy hy=>by
     simp only[vat,vbj,vdk]at hy
     rcases hy with rfl|rfl
     .exact zce.x2
     .exact xl'
   .exact X2.tup (by show 2<1000;decide) λy hy=>by
     simp only[vat,vbj,vdk]at hy
     rcases hy with rfl|rfl<;>exact znr.x2
 let ρ5:En:=[some (.ref 1),some (iW ls),some (.int nf),some (.int at_),some odd,none,none,none,none]
 have slA:∀{ρ:En}{hh:VH},ρ[1]?=some (some (iW ls))->ρ[3]?=some (some (.int at_))->ev (run F (k+3)) (.slc (.var 1) false (.cst .non) true (.var 3)) ρ hh=.ok (.tup c1) hh:=λq1 q3=>by
  rw[<-hc1];exact slcE (l':=none) (u':=some at_) (varE q1) cstE (varE q3) rfl rfl rfl
 have slB:∀{ρ:En}{hh:VH},ρ[1]?=some (some (iW ls))->ρ[3]?=some (some (.int at_))->ev (run F (k+3)) (.slc (.var 1) true (.op .add (.var 3) (.cst (.int (1)))) false (.cst .non)) ρ hh=.ok (.tup c2) hh:=λq1 q3=>by
  rw[<-hc2];exact slcE (l':=some (at_+1)) (u':=none) (varE q1) (opE (x:=.int at_) (y:=.int 1) (varE q3) cstE rfl) cstE rfl rfl rfl
 have slC:∀{ρ:En}{hh:VH},ρ[1]?=some (some (iW ls))->ρ[3]?=some (some (.int at_))->ev (run F (k+3)) (.slc (.var 1) true (.var 3) false (.cst .non)) ρ hh=.ok (.tup c3) hh:=λq1 q3=>by
  rw[<-hc3];exact slcE (l':=some at_) (u':=none) (varE q1) (varE q3) cstE rfl rfl rfl
 have eb:exs (run F (k+3)) zd4.body [some (.ref 1),some (iW ls),some (.int nf),none,none,none,none,none,none] ⟨h.n,h.n,h.os⟩=.ok (.rt (.ref h16.n)) h17:=by
  refine(zac (setE (x:=.int at_) (h1:=h1) (zbk (varE rfl) (opE (x:=.int ((ls.map W.int).length:Int)) (y:=.int 1) (lenE (varE rfl) rfl) cstE rfl) e1))).trans ?_
  refine(zac (setE (x:=odd) (h1:=h2) e2)).trans ?_
  refine(zac (setE (x:=.ref (h2.n+1)) (h1:=h4) ?_)).trans ?_
  .rw[<-h4e,<-hR1]
   exact lstE (consE (varE rfl) (consE (listE (varE rfl) rfl) (consE (opE (x:=iW ls) (y:=.tup [.int 0]) (varE rfl) (tupE (consE cstE nilE) rfl) (addT (by rw[lm];show ls.length+1<=_;omega))) (consE (opE (slA rfl rfl) (slB rfl rfl) (addT (by omega))) (consE (opE (opE (slA rfl rfl) (tupE (consE (varE rfl) nilE) rfl) (addT (by show c1.length+1<=_;omega))) (slB rfl rfl) (addT (by rw[vak,vbh];omega))) nilE))))) rfl
  refine(zac (setE (x:=.ref h7.n) (h1:=h7.new (.lst (R1++R2))) ?_)).trans ?_
  .refine opE (x:=.ref (h2.n+1)) (y:=.ref (h4.n+2)) (h1:=h4) (h2:=h7) (varE rfl) ?_ (addL g7a g7b (by rw[<-vak];omega))
   rw[<-h7e,<-hR2]
   exact lstE (consE (opE (opE (slA rfl rfl) (tupE (consE (varE rfl) nilE) rfl) (addT (by show c1.length+1<=_;omega))) (slC rfl rfl) (addT (by rw[vak,vbh];omega))) (consE cstE (consE cstE (consE cstE (consE cstE (consE dspE0 (consE (lstE nilE rfl) (consE (tupE nilE rfl) (consE cstE nilE))))))))) rfl
  refine(zac (setE (x:=.ref (h7.n+1)) (h1:=h9) ?_)).trans ?_
  .rw[<-h9e,<-hCA]
   show ev (run F (k+3)) (.lst _) [some (.ref 1),some (iW ls),some (.int nf),some (.int at_),some odd,some (.ref h7.n),none,none,none] _=_
   exact lstE (h1:=h7.new (.lst (R1++R2))) (ρ:=[some (.ref 1),some (iW ls),some (.int nf),some (.int at_),some odd,some (.ref h7.n),none,none,none]) (consE cstE (consE cstE (consE (opE (x:=.int nf) (y:=.int 1) (varE rfl) cstE rfl) (consE (varE rfl) (consE (negE cstE) (consE cstE (consE cstE (consE cstE (consE (tupE (consE cstE nilE) rfl) nilE))))))))) rfl
  refine(zac (setE (x:=.ref h9.n) (h1:=h9.new (.lst (R1++R2))) (listE (varE rfl) (by simp only[seqW,gr])))).trans ?_
  refine(zac (ρ':=[some (.ref 1),some (iW ls),some (.int nf),some (.int at_),some odd,some (.ref h7.n),some (.ref (h7.n+1)),some (.ref h9.n),x8]) (h':=h12) ?_).trans ?_
  .have es:ev (run F (k+3)) (.slc (.var 5) false (.cst .non) true (.cst (.int (6)))) [some (.ref 1),some (iW ls),some (.int nf),some (.int at_),some odd,some (.ref h7.n),some (.ref (h7.n+1)),some (.ref h9.n),none] (h9.new (.lst (R1++R2)))=.ok (.ref (h9.n+1)) h11:=by
    refine slcE (l':=none) (u':=some 6) (varE rfl) cstE cstE rfl rfl ?_
    have gr':(h9.new (.lst (R1++R2))).get h7.n=some (.lst (R1++R2)):=by rw[zad (Nat.lt_of_succ_lt le79)];exact gr
    simp only[slcW,gr',hcut];rfl
   show exs (run F (k+3)) (.«for» .seq (.slc (.var 5) false (.cst .non) true (.cst (.int (6)))) (.one 8) zbd) [some (.ref 1),some (iW ls),some (.int nf),some (.int at_),some odd,some (.ref h7.n),some (.ref (h7.n+1)),some (.ref h9.n),none] (h9.new (.lst (R1++R2)))=_
   rw[exs,es,bindok]
   exact e12
  have g13:(h12.new (.lst P1)).get h9.n=some (.lst acc):=by rw[zad (zaq g12)];exact g12
  refine(zac (setE (x:=.ref (h12.n+1)) (h1:=h14) (opE (x:=.ref h9.n) (y:=.ref h12.n) (h1:=h12) (h2:=h12.new (.lst P1)) (varE rfl) (zgp (varE rfl) eP (by omega)) (addL g13 zai (by omega))))).trans ?_
  refine zab (retE (opE (x:=.ref (h12.n+1)) (y:=.ref (h14.n+1)) (h1:=h14) (h2:=h16) (varE rfl) (lstE (consE (tupE (consE (varE rfl) nilE) rfl) (consE (tupE (consE (varE rfl) (consE cstE (consE cstE nilE))) rfl) (consE (lstE (consE (varE rfl) (consE cstE nilE)) rfl) (consE (tup2E cstE (varE rfl)) (consE (tup2E cstE cstE) nilE))))) rfl) (addL ?_ zai (by rw[vak];show _+5<=_;omega))))
  exact((zad (show h12.n+1<h12.n+3 from vba (vaq _))).trans (zad (show h12.n+1<h12.n+2 from vaq _))).trans (zai (h:=h12.new (.lst P1)))
 rw[zan C.f705 rfl]
 show ∃i h' ws,fin h (exs (run F (k+3)) zd4.body [some (.ref 1),some (iW ls),some (.int nf),none,none,none,none,none,none] ⟨h.n,h.n,h.os⟩)=.ok (.ref i) h'/\_
 rw[eb]
 have KA:Keep ⟨h.n,h.n,h.os⟩ h17 1 0:=((((K1.trans (Keep.refl.new.trans K2)).trans K4).trans K7).trans K9).trans K917
 have nh:h.n<=h16.n:=by have q1:h.n<=h9.n:=((((K1.trans (Keep.refl.new.trans K2)).trans K4).trans K7).trans K9).le;have:=K12.le;omega
 refine⟨h16.n,_,(acc++P1)++P2,zs2 nh,by rw[get_lo];exact g17,by omega,by omega,?_,λw hw h2' K=>XQ w hw h2' ⟨K.le,λi o a b e=>K.get i o a b (by rw[get_lo];exact e)⟩,?_,KA.lo2⟩
 .rw[vak,vak,la,lR,lP];show _+5<=1000;omega
 .exact(D12.new.new.new.new.new.lo).mono (by omega)
end
theorem forCf{ws:List W}{l:Nat}{tg:W->VH->En->Option En}{b:En->VH->Res Fl}{h0:VH}(g:h0.get l=some (.lst ws))(P:En->Prop)(hb:∀w∈ws,∀ρ h,P ρ->Cf h0 h->∃ρ1 ρ2 h',tg w h ρ=some ρ1/\b ρ1 h=.ok (.nx ρ2) h'/\P ρ2/\Cf h h'):∀(n f i:Nat) (ρ:En) (h:VH),ws.length-i=n->n<f->P ρ->Cf h0 h->∃ρ' h',forG (nxt .seq (.ref l)) tg b f i ρ h=.ok (.nx ρ') h'/\P ρ'/\Cf h0 h'
 |n,0,_,_,_,_,hf,_,_=>by omega
 |n,f+1,i,ρ,h,hn,hf,hP,c=>by
  rw[forG,zfo (c.get _ _ g)]
  cases q:ws[i]? with
  |none=>exact⟨ρ,h,rfl,hP,c⟩
  |some w=>
   obtain⟨ρ1,ρ2,h',e1,e2,p2,c2⟩:=hb w (vb9 q) ρ h hP c
   have hi:=(van.mp q).1
   simp only[e1,e2,bindok]
   exact forCf g P hb (n-1) f (i+1) ρ2 h' (by omega) (by omega) p2 (c.trans c2)
theorem Cf.keep{h h':VH}{d c:Nat}(q:Cf h h'):Keep h h' d c:=⟨q.le,λi o _ _ e=>q.get i o e⟩
theorem Cf.dk{h h':VH}{d c b:Nat}(q:Cf h h')(D:Dk h d c b):Dk h' d c b:=D.gx q.get
theorem zjr{h:VH}{x:Str}(hx:PyData.strOk x=true):cmpW .ne h (.str x) (.str x)=some false:=by
 unfold cmpW;rw[eqS hx hx,beq_self_eq_true];rfl
theorem eq_bl{h:VH}{b:Bool}:eqW h (.bl b) (.bl b)=some true:=zpb rfl
theorem andE{cl:Call}{ρ:En}{h h1 h2:VH}{a b:E}{w:W}(ea:ev cl a ρ h=.ok (.bl true) h1)(eb:ev cl b ρ h1=.ok w h2):ev cl (.and a b) ρ h=.ok w h2:=by
 rw[ev,ea,bindok];exact eb
noncomputable def zbp(B:Bd):Bd:=⟨B.wd,B.gr,List.replicate B.wd.toNat .non::B.rows.drop 1,B.fd,B.dr⟩
theorem zns{B:Bd}(b:B.Ok):(zbp B).Ok0:=⟨b.w1,b.w2,b.g1,b.g2,by
 have:=b.r1
 show(List.replicate B.wd.toNat W.non::B.rows.drop 1).length<=60
 rw[vam,vdg]
 omega,λr hr=>by
 have w1:=b.w1
 rcases vat.mp hr with rfl|hr
 .show((List.replicate B.wd.toNat W.non).length:Int)=B.wd
  rw[vc9];omega
 .exact(b.r2 r (List.mem_of_mem_drop hr)).1,b.f1,b.f2,b.f3,b.d1,b.d2⟩
theorem zki{B:Bd}(b:B.Ok):∃r,(zbp B).rows=(.non::r)::B.rows.drop 1:=by
 have w1:=b.w1
 obtain⟨n,hn⟩:∃n,B.wd.toNat=n+1:=⟨B.wd.toNat-1,by omega⟩
 exact⟨List.replicate n .non,by show List.replicate B.wd.toNat W.non::_=_;rw[hn,vbf]⟩
section
variable{F:Nat->Option Fn}(C:C02 F)
include C
omit C in
theorem zs3{cl:Call}{h:VH}{ρ:En}{B:Bd}(b:B.Ok)(e1:ρ[2]?=some (some B.w))(e4:ρ[3]?=some (some (.int B.gr))):ev cl (.tup (.cons (.idx (.var 2) (.cst (.int (0)))) (.cons (.var 3) (.cons (.op .add (.tup (.cons (.op .mul (.tup (.cons (.cst .non) .nil)) (.idx (.var 2) (.cst (.int (0))))) .nil)) (.slc (.idx (.var 2) (.cst (.int (2)))) true (.cst (.int (1))) false (.cst .non))) (.cons (.idx (.var 2) (.cst (.int (3)))) (.cons (.idx (.var 2) (.cst (.int (4)))) .nil)))))) ρ h=.ok (zbp B).w h:=by
 have w1:=b.w1
 have w2:=b.w2
 have h60:=b.r1
 obtain⟨n,hn⟩:=vbo (show 0<=B.wd by omega)
 have er:ev cl (.op .mul (.tup (.cons (.cst .non) .nil)) (.idx (.var 2) (.cst (.int (0))))) ρ h=.ok (.tup (List.replicate n .non)) h:=
  opE (tupE (consE cstE nilE) rfl) (idxE (varE e1) cstE (show idxW _ B.w (.int 0)=some (.int (n:Int)) by rw[<-hn];rfl)) (zss (by omega))
 have es:ev cl (.slc (.idx (.var 2) (.cst (.int (2)))) true (.cst (.int (1))) false (.cst .non)) ρ h=.ok (.tup ((B.rows.map .tup).drop 1)) h:=by
  rw[<-zwl]
  exact slcE (l':=some 1) (u':=none) (idxE (varE e1) cstE (show idxW _ B.w (.int 2)=some (.tup (B.rows.map .tup))from rfl)) cstE cstE rfl rfl rfl
 have ea:=consE (cl:=cl) (idxE (varE e1) cstE (show idxW h B.w (.int 0)=some (.int B.wd)from rfl)) (consE (varE e4) (consE (opE (tupE (consE er nilE) rfl) es (addT (by rw[vbh,vdg,vai];omega))) (consE (idxE (varE e1) cstE (show idxW h B.w (.int 3)=some (.tup B.fd)from rfl)) (consE (idxE (varE e1) cstE (show idxW h B.w (.int 4)=some (.tup B.dr)from rfl)) nilE))))
 rw[tupE ea rfl]
 unfold zbp Bd.w
 simp only[va1,List.map_drop,List.singleton_append]
 rw[show B.wd.toNat=n by rw[hn];rfl]
theorem zs4{B:Bd}{h:VH}{t:W}{v0 v1 v6 v7 v8 v9 v10:Option W}(bo:B.Ok)(ht:TH h t):∃v6' v7' h',exs (run F 29) zbn [v0,v1,some B.w,some (.int B.gr),some (.int B.fd.length),some t,v6,v7,v8,v9,v10] h=.ok (.nx [v0,v1,some B.w,some (.int B.gr),some (.int B.fd.length),some t,v6',v7',v8,v9,v10]) h'/\Cf h h':=by
 have e1:=zsx C (k:=21) (h:=h) bo ht.1.lkn
 have e2:=are02 C (k:=27) (h:=h) (w:=t) (g:=B.gr) ht.1
 have e3:=zsy C (k:=21) (h:=h) bo ht.skn
 have e4:=st02 C (k:=26) (h:=h) (B:=B) ht
 let L:List W:=[.tup [.bl (zay t B.gr B.gr 0 1),.bl (zay t B.gr B.gr 0 1)],.tup [.bl (isSt B t),.bl (isSt B t)]]
 have c1:Cf h (h.new (.lst L)):=Cf.refl.new
 obtain⟨ρ',h',f,⟨y6,y7,rfl⟩,c2⟩:=forCf (b:=exs (run F 29) zcr) (tg:=tgW (.many [6,7])) (h0:=h.new (.lst L)) (l:=h.n) (ws:=L) zai (λρ=>∃y6 y7,ρ=[v0,v1,some B.w,some (.int B.gr),some (.int B.fd.length),some t,y6,y7,v8,v9,v10]) (λw hw ρ hh hρ cc=>by
  obtain⟨y6,y7,rfl⟩:=hρ
  obtain⟨b,rfl⟩:∃b:Bool,w=.tup [.bl b,.bl b]:=by
   simp only[L,vat,vbj,vdk]at hw
   rcases hw with rfl|rfl<;>exact⟨_,rfl⟩
  refine⟨[v0,v1,some B.w,some (.int B.gr),some (.int B.fd.length),some t,some (.bl b),some (.bl b),v8,v9,v10],[v0,v1,some B.w,some (.int B.gr),some (.int B.fd.length),some t,some (.bl b),some (.bl b),v8,v9,v10],hh,rfl,?_,⟨some (.bl b),some (.bl b),rfl⟩,.refl⟩
  unfold zcr
  refine(zac ((iteF (h1:=hh) (orB (x:=false) (y:=false) (notT (b:=true) ?_) ?_)).trans rfl)).trans rfl
  .rw[ev,varE (x:=.bl b) rfl];rfl
  .rw[ev,varE (x:=.bl b) rfl,bindok,varE (x:=.bl b) rfl,bindok]
   simp only[cmpW,eq_bl,vbb];rfl) 2 fuel 0 [v0,v1,some B.w,some (.int B.gr),some (.int B.fd.length),some t,v6,v7,v8,v9,v10] (h.new (.lst L)) rfl (by decide) ⟨v6,v7,rfl⟩ .refl
 refine⟨y6,y7,h',?_,c1.trans c2⟩
 unfold zbn
 refine(zac (ρ':=[v0,v1,some B.w,some (.int B.gr),some (.int B.fd.length),some t,y6,y7,v8,v9,v10]) (h':=h') ?_).trans rfl
 rw[exs,lstE (ys:=L) (h1:=h) (consE (tup2E (zbk (varE rfl) (varE rfl) e1) (zbk (varE rfl) (varE rfl) e2)) (consE (tup2E (zbk (varE rfl) (varE rfl) e3) (zc3 (varE rfl) (varE rfl) (varE rfl) e4)) nilE)) rfl,bindok]
 exact f
theorem zs5{B:Bd}{h:VH}{z:Int}{v0 v1 v3 v4 v5 v6 v7 v10:Option W}(bo:B.Ok)(hz:z=0\/z=1):∃h',exs (run F 29) zbo [v0,v1,some B.w,v3,v4,v5,v6,v7,some (zbp B).w,some (.int z),v10] h=.ok (.nx [v0,v1,some B.w,v3,v4,v5,v6,v7,some (zbp B).w,some (.int z),v10]) h'/\Cf h h':=by
 obtain⟨r,hr⟩:=zki bo
 have e1:=zqs C (k:=20) (h:=h) (w:=(zbp B).w) (i:=56) (x:=PySem.Str.ofString "fault") (zhr C.b C.t0 (k:=20) (zns bo) hr rfl rfl) rfl hz
 let hn:VH:=h.new (.lst [.int B.wd,.int B.gr,.tup (B.rows.map .tup),.tup B.fd,.tup B.dr])
 have gn:hn.get h.n=some (.lst [.int B.wd,.int B.gr,.tup (B.rows.map .tup),.tup B.fd,.tup B.dr]):=zai
 have e2:=zqs C (k:=20) (h:=hn) (w:=.ref h.n) (i:=37) (x:=PySem.Str.ofString "board") (zhq C.t0 (k:=20) (znd C.b (by rw[kn_lo,kn_lo];simp[Kn,tyIs,gn]) rfl)) rfl hz
 refine⟨hn,?_,Cf.refl.new⟩
 unfold zbo
 have o1:ev (run F 29) (.cmp .ne (.call 706 (.cons (.var 8) (.cons (.var 9) .nil))) (.cst (.str (PySem.Str.ofString "fault")))) [v0,v1,some B.w,v3,v4,v5,v6,v7,some (zbp B).w,some (.int z),v10] h=.ok (.bl false) h:=by
  rw[ev,zbk (varE rfl) (varE rfl) e1,bindok,cstE,bindok,zjr (by decide +kernel)];rfl
 have o2:ev (run F 29) (.cmp .ne (.call 706 (.cons (.bi .list (.cons (.var 2) .nil)) (.cons (.var 9) .nil))) (.cst (.str (PySem.Str.ofString "board")))) [v0,v1,some B.w,v3,v4,v5,v6,v7,some (zbp B).w,some (.int z),v10] h=.ok (.bl false) hn:=by
  rw[ev,zbk (listE (varE rfl) rfl) (varE rfl) e2,bindok,cstE,bindok,zjr (by decide +kernel)];rfl
 refine(zac ((iteF (h1:=hn) ?_).trans rfl)).trans rfl
 rw[ev,o1,bindok];exact o2
theorem law02{ns:List Int}(hl:ns.length<=63):zcx (run F 30 707 [.fz (ns.map .int)] ⟨0,0,[]⟩)=true:=by
 rw[show(30:Nat)=29+1 from rfl,zan C.f707 rfl]
 obtain⟨h1,e1,D1⟩:=deck (F:=F) C.q.toCoreD (k:=28) (h:=⟨0,0,[]⟩) hl
 obtain⟨B,h2,e2,bo,_,_,_,D2,K2⟩:=zif C.q (k:=23) (mw:=6) (mr:=4) (mg:=8) D1 (by omega) (by decide) (by decide) (by decide) (by decide) (by decide) (by decide)
 obtain⟨g,hg⟩:=vbo bo.g1
 have g2:=bo.g2
 have f2:=bo.f2
 obtain⟨ls,h3,e3,l3,bi3,D3,K3⟩:=zig C.q.toCoreD (k:=25) (g:=g) C.f20 D2 (by omega) (by omega)
 obtain⟨i,h4,ws,e4,g4,i1,i0,lw,xw,D4,K4⟩:=zph C (k:=25) (ls:=ls) (nf:=B.fd.length) D3 (by omega) (by omega) (by omega)
 let sc:Option W:=some (.fz (ns.map .int))
 obtain⟨ρ5,h5,e5,⟨y5,y6,y7,rfl⟩,c5⟩:=forCf (b:=exs (run F 29) zbn) (tg:=tgW (.one 5)) (h0:=h4) g4 (λρ=>∃y5 y6 y7,ρ=[sc,some (.ref 1),some B.w,some (.int B.gr),some (.int B.fd.length),y5,y6,y7,none,none,none]) (λw hw ρ hh hρ cc=>by
  obtain⟨y5,y6,y7,rfl⟩:=hρ
  obtain⟨z6,z7,h',e,c⟩:=zs4 C (h:=hh) (t:=w) (v0:=sc) (v1:=some (.ref 1)) (v6:=y6) (v7:=y7) (v8:=none) (v9:=none) (v10:=none) bo (xw w hw hh cc.keep)
  exact⟨[sc,some (.ref 1),some B.w,some (.int B.gr),some (.int B.fd.length),some w,y6,y7,none,none,none],_,h',rfl,e,⟨_,_,_,rfl⟩,c⟩) ws.length fuel 0 [sc,some (.ref 1),some B.w,some (.int B.gr),some (.int B.fd.length),none,none,none,none,none,none] h4 rfl (by rw[show fuel=1000000 from rfl];omega) ⟨none,none,none,rfl⟩ .refl
 have D5:=c5.dk D4
 let L:List W:=[.int 0,.int 1]
 have c6:Cf h5 (h5.new (.lst L)):=Cf.refl.new
 obtain⟨ρ6,h6,e6,⟨y9,rfl⟩,c6'⟩:=forCf (b:=exs (run F 29) zbo) (tg:=tgW (.one 9)) (h0:=h5.new (.lst L)) (l:=h5.n) (ws:=L) zai (λρ=>∃y9,ρ=[sc,some (.ref 1),some B.w,some (.int B.gr),some (.int B.fd.length),y5,y6,y7,some (zbp B).w,y9,none]) (λw hw ρ hh hρ cc=>by
  obtain⟨y9,rfl⟩:=hρ
  obtain⟨z,rfl,hz⟩:∃z:Int,w=.int z/\(z=0\/z=1):=by
   simp only[L,vat,vbj,vdk]at hw
   rcases hw with rfl|rfl
   .exact⟨0,rfl,.inl rfl⟩
   .exact⟨1,rfl,.inr rfl⟩
  obtain⟨h',e,c⟩:=zs5 C (h:=hh) (v0:=sc) (v1:=some (.ref 1)) (v3:=some (.int B.gr)) (v4:=some (.int B.fd.length)) (v5:=y5) (v6:=y6) (v7:=y7) (v10:=none) bo hz
  exact⟨[sc,some (.ref 1),some B.w,some (.int B.gr),some (.int B.fd.length),y5,y6,y7,some (zbp B).w,some (.int z),none],_,h',rfl,e,⟨_,rfl⟩,c⟩) 2 fuel 0 [sc,some (.ref 1),some B.w,some (.int B.gr),some (.int B.fd.length),y5,y6,y7,some (zbp B).w,none,none] (h5.new (.lst L)) rfl (by decide) ⟨none,rfl⟩ .refl
 have D6:=(c6.trans c6').dk D5
 have l6:=D6.ltn
 let ρ7:En:=[sc,some (.ref 1),some B.w,some (.int B.gr),some (.int B.fd.length),y5,y6,y7,some (zbp B).w,y9,none]
 obtain⟨odd,h7,e7,m7,D7,K7⟩:=draw C.q.toCoreD (k:=26) (i:=1) (e:=.cons (.neg (.cst (.int (1)))) (.cons (.cst (.int (9))) (.cons (.cst (.bl true)) (.cons (.cst .non) (.cons (.cst (.str (PySem.Str.ofString "3"))) (.cons (.tup (.cons (.cst (.int (3))) .nil)) (.cons (.lst .nil) (.cons (.op .pow (.cst (.int (10))) (.cst (.int (30)))) .nil)))))))) (ρ:=ρ7) (h:=h6) (h1:=h6.new (.lst [])) (ys:=[W.int (-1),W.int 9,W.bl true,W.non,W.str (PySem.Str.ofString "3"),W.tup [W.int 3],W.ref h6.n,W.int 1000000000000000000000000000000]) (m:=8) rfl
  (consE (negE cstE) (consE cstE (consE cstE (consE cstE (consE cstE (consE (tupE (consE cstE nilE) rfl) (consE (lstE nilE rfl) (consE (powE (by decide)) nilE)))))))) rfl (by decide) (by decide) D6.new (by omega)
 have hodd:Kn h7 odd/\within odd 0 8=false:=by
  simp only[vat,vbj,vdk]at m7
  rcases m7 with rfl|rfl|rfl|rfl|rfl|rfl|rfl|rfl
  .exact⟨by simp[Kn],by decide⟩
  .exact⟨by simp[Kn],by decide⟩
  .exact⟨by simp[Kn],rfl⟩
  .exact⟨by simp[Kn],rfl⟩
  .exact⟨by simp[Kn],rfl⟩
  .exact⟨by simp[Kn],rfl⟩
  .have:=K7.get _ _ (by omega) (by omega) (zai (h:=h6) (o:=.lst []))
   exact⟨by simp[Kn,tyIs,this],rfl⟩
  .exact⟨by simp[Kn],by decide⟩
 have e8:=zs1 C (k:=25) (h:=h7) hodd.1 hodd.2
 have e9:=zno C (k:=25) (h:=h7) (g:=g) (by omega)
 obtain⟨r,h8,e10,a10,b10,D8,K8⟩:=take C.q.toCoreD (k:=26) (m:=9) D7 (by omega) (by decide) (by decide)
 obtain⟨r',rfl⟩:=vbo a10
 have e11:=zno C (k:=25) (h:=h8) (g:=r') (by omega)
 have eb:exs (run F 29) zd6.body [sc,none,none,none,none,none,none,none,none,none,none] ⟨0,0,[]⟩=.ok (.rt (.bl true)) h8:=by
  refine(zac (setE (x:=.ref 1) (h1:=h1) (zbj (varE rfl) e1))).trans ?_
  refine(zac (setE (x:=B.w) (h1:=h2) (zqn (varE rfl) cstE cstE cstE e2))).trans ?_
  refine(zac (setE (x:=.int B.gr) (idxE (varE rfl) cstE (show idxW _ B.w (.int 1)=some (.int B.gr)from rfl)))).trans ?_
  refine(zac (setE (x:=.int B.fd.length) (lenE (idxE (varE rfl) cstE (show idxW _ B.w (.int 3)=some (.tup B.fd)from rfl)) rfl))).trans ?_
  refine(zac (ρ':=[sc,some (.ref 1),some B.w,some (.int B.gr),some (.int B.fd.length),y5,y6,y7,none,none,none]) (h':=h5) ?_).trans ?_
  .show exs (run F 29) (.«for» .seq (.call 705 (.cons (.var 1) (.cons (.call 20 (.cons (.var 1) (.cons (.var 3) .nil))) (.cons (.var 4) .nil)))) (.one 5) zbn) [sc,some (.ref 1),some B.w,some (.int B.gr),some (.int B.fd.length),none,none,none,none,none,none] h2=_
   rw[exs,zc3 (x:=.ref 1) (y:=iW ls) (z:=.int B.fd.length) (varE rfl) (zbk (varE rfl) (varE (x:=.int g) (by rw[<-hg];rfl)) e3) (varE rfl) e4,bindok]
   exact e5
  refine(zac (setE (x:=(zbp B).w) (h1:=h5) (zs3 bo rfl rfl))).trans ?_
  refine(zac (ρ':=ρ7) (h':=h6) ?_).trans ?_
  .show exs (run F 29) (.«for» .seq (.lst (.cons (.cst (.int (0))) (.cons (.cst (.int (1))) .nil))) (.one 9) zbo) [sc,some (.ref 1),some B.w,some (.int B.gr),some (.int B.fd.length),y5,y6,y7,some (zbp B).w,none,none] h5=_
   rw[exs,lstE (ys:=L) (h1:=h5) (consE cstE (consE cstE nilE)) rfl,bindok]
   exact e6
  refine(zac (setE (x:=odd) (h1:=h7) e7)).trans ?_
  refine zab (retE (andE (zbj (varE rfl) e8) (andE (zbj (x:=.int g) (varE (by show some (some (W.int B.gr))=_;rw[hg])) e9) (zbj (zbk (varE rfl) cstE e10) e11))))
 show zcx (fin ⟨0,0,[]⟩ (exs (run F 29) zd6.body [sc,none,none,none,none,none,none,none,none,none,none] ⟨0,0,[]⟩))=true
 rw[eb]
 obtain⟨hz,ez⟩:=zsu (h:=⟨0,0,[]⟩) (h':=h8) (w:=.bl true)
 rw[ez]
 rfl
end
end RF
namespace HD
open PySem PySem.W PySem.Calls PyProof.Rows
noncomputable section
noncomputable def p:Program:=PySem.Challenge.pw_ballrockers_k02_leans_stands
noncomputable abbrev S(x:String):Str:=Str.ofString x
noncomputable abbrev U(x:String)(t:Tok):Value:=Value.str (S x) t
noncomputable abbrev R(a:Addr):Value:=Value.ref a
noncomputable abbrev I(i:Int)(t:Tok):Value:=Value.int i t
noncomputable abbrev E(P:Params)(x:String)(t:Tok)(v:Value):DictEntry:=DictEntry.mk (PyData.keyHash P (S x)) (Value.str (S x) t) v
noncomputable abbrev N(o:Obj)(l r:BT):BT:=BT.node o l r
noncomputable abbrev Z:BT:=BT.nil
noncomputable abbrev L(o:Obj):BT:=BT.node o Z Z
noncomputable abbrev Y(c:String)(d:Data):Obj:=Obj.mk (Value.type c) none d #[]
noncomputable abbrev X(d:Data):Obj:=Obj.mk Value.none none d #[]
noncomputable def atN(l:List Stmt)(i:Nat):Stmt:=l.getD i (Stmt.Pass ⟨0,0,0,0⟩)
noncomputable def fbS:Stmt->List Stmt
 |.FunctionDef _ _ b _ _ _ _ _ _ _=>b
 |.ClassDef _ _ _ b _ _ _ _ _ _ _=>b
 |_=>[]
noncomputable def faS:Stmt->Arguments
 |.FunctionDef _ a _ _ _ _ _ _ _ _=>a
 |_=>⟨[],[],none,[],[],none,[]⟩
noncomputable def fsS:Stmt->Scope
 |.FunctionDef _ _ _ _ _ _ s _ _ _=>s
 |_=>p.main.scope
noncomputable def fb(i:Nat):List Stmt:=fbS (atN p.main.body i)
noncomputable def fa(i:Nat):Arguments:=faS (atN p.main.body i)
noncomputable def fs(i:Nat):Scope:=fsS (atN p.main.body i)
noncomputable def cb(i j:Nat):List Stmt:=fbS (atN (fb i) j)
noncomputable def ca(i j:Nat):Arguments:=faS (atN (fb i) j)
noncomputable def cs(i j:Nat):Scope:=fsS (atN (fb i) j)
noncomputable abbrev O:Value:=Value.none
noncomputable abbrev J(i:Int):Value:=Value.int i 0
noncomputable abbrev V(t:Tok):Value:=Value.str (S "/claim/cut.py") t
noncomputable abbrev A(l:Array Value):Data:=Data.fields l
noncomputable abbrev B(f:FuncData):Data:=Data.func f
noncomputable abbrev G(x:String)(i:Nat)(g:Addr)(c:List (Str×Addr))(d k o m:Value)(n:Option Addr)(cd ct:Value)(b:Addr):FuncData:=FuncData.mk (S x) (S x) (fa i) (FuncBody.stmts (fb i)) (fs i) g c d k o m n cd ct b
section
variable(P:Params)
noncomputable def N0:Nat:=9726
noncomputable def lo:List Str:=[]
noncomputable def keep:List Nat:=[1,2,3,4,5,6,7,8,9,10,11,12,13,14,15,16,17,19,20,21,22,24,25,26,27,28,29,30,31,32,33,34,35,36,37,38,39,40,42,43,44,45,46,47,48,49,50,51,52,53,54,55,56,57,58,59,60,61]
noncomputable def life:Life:=(Life.mk [] [] [] 0 [] [] false #[] [] 0 false false false 0 [2000,10,10] false 0 true [] [] 0 false)
noncomputable def m0:Nat:=11
noncomputable def ann:Option Value:=(some (R 6))
noncomputable def env:Env:={scope:=p.main.scope,locals:=mainNs,globals:=mainNs,cells:=[],code:=(R 13),frame:=some 14}
noncomputable def bd:List Stmt:=behindTheImports p
noncomputable def cd:Code:=Code.body bd env
noncomputable def fr:List Frame:=[topFrame (Pos.mk 0 0 0 0)]
noncomputable abbrev qC(n:String)(t:Nat)(l k:Int)(r m:Nat):Obj:=Y "code" (A #[U n t,U n (t+1),V (t+2),J l,J k,J 0,J 0,J 3,R r,Value.bool true,J 181,R (r+1),O,R (r+2),R (r+3),R (r+4),J (Int.ofNat m),J l,V (m+1)])
noncomputable abbrev qD(n:String)(t:Nat)(l k:Int)(r m:Nat):Obj:=Y "code" (A #[U n t,U n (t+1),V (t+2),J l,J k,J 0,J 0,J 3,R r,Value.bool true,J 181,R (r+1),O,O,O,R (r+2),J (Int.ofNat m),J l,V (m+1)])
noncomputable def qU:Nat->List String->List Value
 |_,[]=>[]
 |t,x::r=>U x t::qU (t+1) r
noncomputable abbrev qT(t:Nat)(l:List String):Obj:=Y "tuple" (Data.seq (qU t l).toArray 0)
noncomputable abbrev qF(n:String)(i:Nat)(u:Value)(r:Addr):Obj:=Y "function" (B (G n i 3 [] O O O u none (R r) O 0))
noncomputable abbrev qG(n:String)(i:Nat):Obj:=X (B (G n i 0 [] O O O O none O O 0))
noncomputable def qJ:List (Int×Nat)->List Value
 |[]=>[]
 |(a,b)::r=>J a::J 0::R b::qJ r
noncomputable def qO:List Obj->List Obj
 |x::_::r=>x::qO r
 |x=>x
noncomputable def qE:List Obj->List Obj
 |_::y::r=>y::qE r
 |_=>[]
noncomputable def qB:Nat->List Obj->BT
 |f+1,x::r=>N x (qB f (qO r)) (qB f (qE r))
 |_,_=>Z
 def a0:=(Y "tuple" (Data.seq #[] 0))
 def a1:=(X (A #[]))
 abbrev qN(n:String)(i t:Nat)(l k:Int)(r:Nat)(u:Value):List Obj:=[a0,a1,qG n i,qD n t l k r (t+3),qF n i u (r+3)]
 abbrev qM(n:String)(i t:Nat)(s:List String)(l k:Int)(r:Nat)(u:Value):List Obj:=[a0,a1,qT (t+3) s,a0,qG n i,qC n t l k r (t+3+s.length),qF n i u (r+5)]
 def a2:=(Y "code" (A #[(U "<module>" 182),(U "<module>" 183),(V 184),(J 1),(J 0),(J 0),(J 0),(J 0),(R 11),(Value.bool false),(J 181),(R 12),O,O,O,O,(J 185),(J 1),(V 186)]))
 def a3:=(Obj.mk (Value.type "frame") none Data.plain #[(some (R 13)),(some (R 3)),(some (R 3)),none,(some (U "__main__" 164)),none,(some (R 0))])
 def ha:Heap:=Heap.mk (Array.mk [(boot_o_0 P),(boot_o_1 P),(boot_o_2 P),(boot_o_3 P),(boot_o_4 P),(boot_o_5 P),(boot_o_6 P),(boot_o_7 P),(boot_o_8 P),(boot_o_9 P),(boot_o_10 P),a0,a1,a2,a3]) (Life.mk [] [] [] 0 [] [] false #[] [] 0 false false false 0 [2000,10,10] false 0 true [] [] 0 false)
noncomputable def sa(w:World)(os:OsState):Shared:=⟨ha w.params,(Array.mk []),(Drawn.mk 0 0 0 0),187,os⟩
theorem seg_q{w:World}{n:Nat}{s s':SharedT}{l:List Stmt}{pos pos':Pos}(h:PySem.W.Fast.tw10110043849684766642 PySem.W.Fast.tw14364793385576792824 p w m0 ann 1 n s (piecesOf l env cd pos fr)=some (.next,s',cd,pos')) :
 segRun treeTable p w m0 ann 1 n s.abs (piecesOf l env cd pos fr)=some (.next,s'.abs,cd,pos'):=
 segRun_of (by rw[PySem.W.Fast.te10110043849684766642,vb2];exact h)
theorem pre_q{w:World}{n:Nat}{s s':Shared}{pos:Pos}(h:PySem.W.Fast.tw15667345088766844465 PySem.W.Fast.tw14364793385576792824 p w m0 ann n s (topStub p)=some (s',⟨PySem.W.Fast.tw11892475500146522536 PySem.W.Fast.tw14364793385576792824 cd,cd,pos,fr⟩)) :
 topGo treeTable p w m0 ann n s (topStub p)=some (s',⟨denote treeTable cd,cd,pos,fr⟩):=by
 rw[PySem.W.Fast.te15667345088766844465,vb2,PySem.W.Fast.te11892475500146522536];exact h
theorem zs6{w:World}{n:Nat}{s s':Shared}{pos pos':Pos}(h:PySem.W.Fast.tw14374325043358763698 PySem.W.Fast.tw14364793385576792824 p w m0 ann 1 n s (blockOf bd env cd pos fr)=some (.next,s',cd,pos')) :
 segRun treeTable p w m0 ann 1 n s (blockOf bd env cd pos fr)=some (.next,s',cd,pos'):=by
 rw[PySem.W.Fast.te14374325043358763698,vb2];exact h
theorem fin_q{w:World}{n:Nat}{s s':Shared}{pos:Pos}(h:PySem.W.Fast.tw14082659384304107361 PySem.W.Fast.tw14364793385576792824 p w m0 ann n s ⟨doneF .next,cd,pos,fr⟩=some s') :
 topRun treeTable p w m0 ann n s ⟨doneF .next,cd,pos,fr⟩=some s':=by
 rw[PySem.W.Fast.te14082659384304107361,vb2];exact h
set_option maxHeartbeats 0 in
theorem pre(w:World)(os:OsState):topGo treeTable p w m0 ann 12 ⟨boot_heap w.params,Array.mk [],boot_drawn,boot_toks,os⟩ (topStub p)=some (sa w os,⟨denote treeTable cd,cd,(Pos.mk 0 0 0 0),fr⟩):=pre_q (by kernel_rfl)
 def vtb:List Obj:=[(boot_o_0 P),(boot_o_1 P),(boot_o_2 P),(boot_o_3 P),(boot_o_4 P),(boot_o_5 P),(boot_o_6 P),(boot_o_7 P),(boot_o_8 P),(boot_o_9 P),(boot_o_10 P),a0,a1,a2,a3]
 def tb:=qB 20 (vtb P)
noncomputable def sb(w:World)(os:OsState):SharedT:=⟨tb w.params,15,life,(Array.mk []),(Drawn.mk 0 0 0 0),187,os⟩
set_option maxHeartbeats 0 in
theorem block(w:World)(os:OsState):segRun treeTable p w m0 ann 1 1 (sa w os) (blockOf bd env cd (Pos.mk 0 0 0 0) fr)=some (.next,(sb w os).abs,cd,(Pos.mk 0 0 0 0)):=zs6 (by kernel_rfl)
 def ea4:=[(E P "__doc__" 166 O),(E P "__package__" 167 O),(E P "__loader__" 168 (Value.builtin "__main__.__loader__#opaque")),(E P "__spec__" 169 O),(E P "__annotations__" 170 (R 6)),(E P "__builtins__" 171 (R 4)),(E P "__file__" 173 (V 172)),(E P "__cached__" 174 O),(E P "BoardError" 206 (R 24)),(E P "NoBoard" 222 (R 37)),(E P "Fault" 249 (R 56)),(E P "NoLeans" 265 (R 68)),(E P "NoStand" 281 (R 80)),(E P "NoFeeder" 297 (R 92))]
 def a4:=Y "dict" (Data.dict ((E P "__name__" 165 (U "ballrockers.errors" 187))::ea4 P).toArray 15)
 def ja5:List (Int×Nat):=[(2,20),(4,33),(6,45),(11,64),(13,76),(15,88)]
 def a5:=X (A (qJ ja5).toArray)
 def a6:=(Y "tuple" (Data.seq #[(Value.type "ValueError")] 0))
 def a7:=(Y "builtin_function_or_method" (A #[(Value.builtin "type.__prepare__"),(Value.type "type")]))
 def a8:=(Y "dict" (Data.dict #[(E P "__module__" 196 (U "ballrockers.errors" 187)),(E P "__qualname__" 198 (U "BoardError" 197)),(E P "__firstlineno__" 200 (I 2 199)),(E P "__static_attributes__" 201 (R 22))] 4))
 def a9:=(Y "code" (A #[(U "BoardError" 191),(U "BoardError" 192),(V 193),(J 2),(J 0),(J 0),(J 0),(J 0),(R 18),(Value.bool false),(J 181),(R 19),O,O,O,O,(J 194),(J 2),(V 195)]))
 def a10:=(Obj.mk (Value.type "frame") none Data.plain #[(some (R 20)),(some (R 3)),(some (R 17)),none,(some (U "ballrockers.errors" 187)),none,(some (R 0))])
 def a11:=(Y "dict" (Data.dict #[(E P "__module__" 196 (U "ballrockers.errors" 187)),(E P "__firstlineno__" 200 (I 2 199)),(E P "__static_attributes__" 201 (R 22)),(E P "__weakref__" 203 (R 25)),(E P "__doc__" 204 O)] 3))
 def qR(l:List Nat):Obj:=(Obj.mk (Value.type "type") none (Data.cls (ClassData.mk (S "BoardError") [(Value.type "ValueError")] [(R 24),(Value.type "ValueError"),(Value.type "Exception"),(Value.type "BaseException"),(Value.type "object")] 23 (S "BoardError") true [] (l.map λi=>R i) false none false)) #[(some (R 15)),none,(some (U "BoardError" 189)),(some (U "BoardError" 197)),(some (Value.builtin "ValueError.__new__")),(some (Value.bool true))])
 def a12:=qR [37,56,68,80,92]
 def a13:=(Y "getset_descriptor" (A #[(U "__weakref__" 202),(R 24),(Value.builtin "ExceptionGroup.__weakref__"),O]))
 def a14:=(Y "super" (A #[(R 24),(R 24),(R 24)]))
 def a15:=(Y "builtin_function_or_method" (A #[(Value.builtin "object.__init_subclass__"),(R 24)]))
 def a16:=(Y "tuple" (Data.seq #[(R 24)] 0))
 def a24:=(Y "dict" (Data.dict #[(E P "__module__" 230 (U "ballrockers.errors" 187)),(E P "__qualname__" 232 (U "Fault" 231)),(E P "__firstlineno__" 234 (I 6 233)),(E P "__init__" 243 (R 53)),(E P "__static_attributes__" 246 (R 54))] 5))
 def a25:=(X (A #[(J 8),(J 4),(R 52)]))
 def a26:=(Y "code" (A #[(U "Fault" 225),(U "Fault" 226),(V 227),(J 6),(J 0),(J 0),(J 0),(J 0),(R 43),(Value.bool false),(J 181),(R 44),O,O,O,O,(J 228),(J 6),(V 229)]))
 def a27:=(Obj.mk (Value.type "frame") none Data.plain #[(some (R 45)),(some (R 3)),(some (R 42)),none,(some (U "ballrockers.errors" 187)),none,(some (R 0))])
 def a28:=qT 238 ["self","row","column"]
 def a29:=(X (B (FuncData.mk (S "__init__") (S "Fault.__init__") (ca 3 0) (FuncBody.stmts (cb 3 0)) (cs 3 0) 0 [] O O O O none O O 0)))
 def a30:=(Y "code" (A #[(U "__init__" 235),(U "Fault.__init__" 236),(V 237),(J 8),(J 3),(J 0),(J 0),(J 3),(R 47),(Value.bool true),(J 181),(R 48),O,(R 49),(R 50),(R 51),(J 241),(J 8),(V 242)]))
 def a31:=(Y "function" (B (FuncData.mk (S "__init__") (S "Fault.__init__") (ca 3 0) (FuncBody.stmts (cb 3 0)) (cs 3 0) 3 [] O O O (U "ballrockers.errors" 187) none (R 52) O 0)))
 def a32:=qT 244 ["column","row"]
 def a33:=(Y "dict" (Data.dict #[(E P "__module__" 230 (U "ballrockers.errors" 187)),(E P "__firstlineno__" 234 (I 6 233)),(E P "__init__" 243 (R 53)),(E P "__static_attributes__" 246 (R 54)),(E P "__doc__" 247 O)] 2))
 def a34:=(Obj.mk (Value.type "type") none (Data.cls (ClassData.mk (S "Fault") [(R 24)] [(R 56),(R 24),(Value.type "ValueError"),(Value.type "Exception"),(Value.type "BaseException"),(Value.type "object")] 55 (S "Fault") true [] [] false none false)) #[(some (R 40)),none,(some (U "Fault" 223)),(some (U "Fault" 231)),(some (Value.builtin "ValueError.__new__")),(some (Value.bool true))])
 def a35:=(Y "super" (A #[(R 56),(R 56),(R 56)]))
 def a36:=(Y "builtin_function_or_method" (A #[(Value.builtin "object.__init_subclass__"),(R 56)]))
 def qK(n:String)(t:Nat)(l:Int)(b:Nat):List Obj:=[a16,a7,Y "dict" (Data.dict #[E P "__module__" (t+7) (U "ballrockers.errors" 187),E P "__qualname__" (t+9) (U n (t+8)),E P "__firstlineno__" (t+11) (I l (t+10)),E P "__static_attributes__" (t+12) (R (b+7))] 4),a0,a1,Y "code" (A #[U n (t+2),U n (t+3),V (t+4),J l,J 0,J 0,J 0,J 0,R (b+3),Value.bool false,J 181,R (b+4),O,O,O,O,J (Int.ofNat (t+5)),J l,V (t+6)]),Obj.mk (Value.type "frame") none Data.plain #[some (R (b+5)),some (R 3),some (R (b+2)),none,some (U "ballrockers.errors" 187),none,some (R 0)],a0,Y "dict" (Data.dict #[E P "__module__" (t+7) (U "ballrockers.errors" 187),E P "__firstlineno__" (t+11) (I l (t+10)),E P "__static_attributes__" (t+12) (R (b+7)),E P "__doc__" (t+13) O] 2),Obj.mk (Value.type "type") none (Data.cls (ClassData.mk (S n) [R 24] [R (b+9),R 24,Value.type "ValueError",Value.type "Exception",Value.type "BaseException",Value.type "object"] (b+8) (S n) true [] [] false none false)) #[some (R b),none,some (U n t),some (U n (t+8)),some (Value.builtin "ValueError.__new__"),some (Value.bool true)],Y "super" (A #[R (b+9),R (b+9),R (b+9)]),Y "builtin_function_or_method" (A #[Value.builtin "object.__init_subclass__",R (b+9)])]
 def vt0:List Obj:=((vtb P).set 3 (a4 P)).set 12 a5++([a6,a7,(a8 P),a0,a1,a9,a10,a0,(a11 P),a12,a13,a14,a15]++(qK P "NoBoard" 207 4 28++([a16,a7,(a24 P),a0,a25,a26,a27,a0,a1,a28,a0,a29,a30,a31,a32,(a33 P),a34,a35,a36]++(qK P "NoLeans" 250 11 59++(qK P "NoStand" 266 13 71++(qK P "NoFeeder" 282 15 83))))))
 def t0:=qB 20 (vt0 P)
noncomputable def s0(w:World)(os:OsState):SharedT:=⟨t0 w.params,95,life,(Array.mk []),(Drawn.mk 0 0 0 0),298,os⟩
noncomputable def st0:List Stmt:=(bd.drop 0).take 7
set_option maxHeartbeats 0 in
theorem seg0(w:World)(os:OsState):segRun treeTable p w m0 ann 1 1295 (sb w os).abs (piecesOf st0 env cd (Pos.mk 0 0 0 0) fr)=some (.next,(s0 w os).abs,cd,(Pos.mk 15 0 16 8)):=seg_q (by kernel_rfl)
 def ea58:=(ea4 P++[(E P "NoRow" 313 (R 104)),(E P "NoNumber" 329 (R 116)),(E P "NoFit" 345 (R 128)),(E P "TooGreat" 361 (R 140)),(E P "NoMachine" 377 (R 152)),(E P "NoWord" 393 (R 164)),(E P "NoFault" 409 (R 176))])
 def a58:=Y "dict" (Data.dict ((E P "__name__" 165 (U "ballrockers.errors" 187))::ea58 P).toArray 22)
 def ja59:List (Int×Nat):=ja5++[(17,100),(19,112),(21,124),(23,136),(25,148),(27,160),(29,172)]
 def a59:=X (A (qJ ja59).toArray)
 def a60:=qR [37,56,68,80,92,104,116,128,140,152,164,176]
 def vt1:List Obj:=(((vt0 P).set 3 (a58 P)).set 12 a59).set 24 a60++(qK P "NoRow" 298 17 95++(qK P "NoNumber" 314 19 107++(qK P "NoFit" 330 21 119++(qK P "TooGreat" 346 23 131++(qK P "NoMachine" 362 25 143++(qK P "NoWord" 378 27 155++(qK P "NoFault" 394 29 167)))))))
 def t1:=qB 20 (vt1 P)
noncomputable def s1(w:World)(os:OsState):SharedT:=⟨t1 w.params,179,life,(Array.mk []),(Drawn.mk 0 0 0 0),410,os⟩
noncomputable def st1:List Stmt:=(bd.drop 7).take 7
set_option maxHeartbeats 0 in
theorem seg1(w:World)(os:OsState):segRun treeTable p w m0 ann 1 1492 (s0 w os).abs (piecesOf st1 env cd (Pos.mk 15 0 16 8) fr)=some (.next,(s1 w os).abs,cd,(Pos.mk 29 0 30 8)):=seg_q (by kernel_rfl)
 def ea110:=(ea58 P++[(E P "NoNames" 425 (R 188)),(E P "NoText" 441 (R 200)),(E P "NoSaying" 457 (R 212)),(E P "NoName" 473 (R 224)),(E P "is_whole" 482 (R 233)),(E P "is_whole_within" 491 (R 240)),(E P "is_tuple_within" 500 (R 247)),(E P "are_wholes_within" 512 (R 254)),(E P "MOST_COLUMNS" 516 (I 40 515)),(E P "MOST_ROWS" 518 (I 60 517)),(E P "MOST_GROUPS" 520 (I 8 519)),(E P "MOST_FEEDERS" 522 (I 4 521)),(E P "MOST_NAME" 524 (I 99 523)),(E P "look_at_board" 538 (R 261)),(E P "is_leans" 546 (R 268)),(E P "is_stand" 556 (R 275)),(E P "all_leans" 562 (R 280)),(E P "is_board_but_for_places" 574 (R 287)),(E P "are_rows" 583 (R 294)),(E P "are_doors" 593 (R 301)),(E P "is_door" 603 (R 308)),(E P "is_feeder_or_none" 611 (R 315)),(E P "may_stand" 621 (R 322)),(E P "is_rocker" 631 (R 329)),(E P "are_leans" 639 (R 336)),(E P "_law_cell" 649 (R 343)),(E P "_law_mixed" 659 (R 350))])
 def a110:=Y "dict" (Data.dict ((E P "__name__" 165 (U "law_ballrockers_k02_leans_stands" 640))::ea110 P).toArray 49)
 def ja111:List (Int×Nat):=ja59++[(31,184),(33,196),(35,208),(37,220),(40,232),(42,239),(44,246),(46,253),(59,260),(67,267),(70,274),(76,279),(83,286),(92,293),(99,300),(106,307),(111,314),(113,321),(121,328),(126,335),(129,342),(133,349)]
 def a111:=X (A (qJ ja111).toArray)
 def a112:=qR [37,56,68,80,92,104,116,128,140,152,164,176,188,200,212,224]
 def u474:=U "ballrockers.whole" 474
 def u513:=U "ballrockers.boards" 513
 def u640:=U "law_ballrockers_k02_leans_stands" 640
 def vt2:List Obj:=(((vt1 P).set 3 (a110 P)).set 12 a111).set 24 a112++(qK P "NoNames" 410 31 179++(qK P "NoText" 426 33 191++(qK P "NoSaying" 442 35 203++(qK P "NoName" 458 37 215++(qM "is_whole" 19 476 ["thing"] 40 1 227 u474++(qM "is_whole_within" 20 483 ["thing","low","high"] 42 3 234 u474++(qM "is_tuple_within" 21 492 ["thing","fewest","most"] 44 3 241 u474++(qM "are_wholes_within" 22 501 ["thing","fewest","most","low","high","number"] 46 5 248 u474++(qM "look_at_board" 29 525 ["board","width","groups","rows","row","places","column","piece"] 59 1 255 u513++(qM "is_leans" 30 539 ["board","thing"] 67 2 262 u513++(qM "is_stand" 31 547 ["board","thing","leans","feeder"] 70 2 269 u513++(qN "all_leans" 32 557 76 1 276 u513++(qM "is_board_but_for_places" 33 563 ["board","width","groups","rows","feeders","doors"] 83 1 281 u513++(qM "are_rows" 34 575 ["thing","width","places"] 92 2 288 u513++(qM "are_doors" 35 584 ["thing","width","feeders","door"] 99 3 295 u513++(qM "is_door" 36 594 ["thing","feeders","name","call"] 106 2 302 u513++(qM "is_feeder_or_none" 37 604 ["thing","feeders"] 111 2 309 u513++(qM "may_stand" 38 612 ["piece","column","width","groups"] 113 4 316 u513++(qM "is_rocker" 39 622 ["thing","groups","group","side"] 121 2 323 u513++(qM "are_leans" 40 632 ["thing","groups"] 126 2 330 u513++(qM "_law_cell" 42 642 ["_law_script","_law_k"] 129 2 337 u640++(qM "_law_mixed" 43 650 ["_law_script","_law_k","_law_many","_law_number"] 133 3 344 u640))))))))))))))))))))))
 def t2:=qB 20 (vt2 P)
noncomputable def s2(w:World)(os:OsState):SharedT:=⟨t2 w.params,351,life,(Array.mk []),(Drawn.mk 0 0 0 0),660,os⟩
noncomputable def st2:List Stmt:=(bd.drop 14).take 30
set_option maxHeartbeats 0 in
theorem seg2(w:World)(os:OsState):segRun treeTable p w m0 ann 1 1489 (s1 w os).abs (piecesOf st2 env cd (Pos.mk 29 0 30 8) fr)=some (.next,(s2 w os).abs,cd,(Pos.mk 133 0 135 40)):=seg_q (by kernel_rfl)
 def ea212:=(ea110 P++[(E P "_law_deck" 665 (R 355)),(E P "_law_take" 674 (R 362)),(E P "_law_piece" 686 (R 369)),(E P "_law_row" 692 (R 374)),(E P "_law_door" 702 (R 381)),(E P "_law_board" 708 (R 386)),(E P "_law_leans" 714 (R 391)),(E P "_law_kinds" 722 (R 398)),(E P "_law_word" 730 (R 405)),(E P "_law_from" 739 (R 412)),(E P "_law_are_leans" 745 (R 417)),(E P "_law_is_stand" 754 (R 424)),(E P "_law_things" 760 (R 429)),(E P "_law_word_of" 769 (R 436)),(E P "_law_counted" 775 (R 441)),(E P "_law_no_number" 783 (R 448)),(E P "_law_all_right" 789 (R 453)),(E P "law" 806 (R 460))])
 def a212:=Y "dict" (Data.dict ((E P "__name__" 165 (U "law_ballrockers_k02_leans_stands" 640))::ea212 P).toArray 67)
 def ja213:List (Int×Nat):=ja111++[(136,354),(138,361),(147,368),(157,373),(159,380),(165,385),(172,390),(174,397),(180,404),(185,411),(187,416),(191,423),(195,428),(206,435),(215,440),(220,447),(226,452),(236,459)]
 def a213:=X (A (qJ ja213).toArray)
 def vt3:List Obj:=((vt2 P).set 3 (a212 P)).set 12 a213++(qN "_law_deck" 44 660 136 1 351 u640++(qM "_law_take" 45 666 ["_law_deck_here","_law_many","_law_cell_here"] 138 2 356 u640++(qM "_law_piece" 46 675 ["_law_deck_here","_law_column","_law_width","_law_groups","_law_kind","_law_piece_here"] 147 4 363 u640++(qN "_law_row" 47 687 157 3 370 u640++(qM "_law_door" 48 693 ["_law_deck_here","_law_feeders","_law_name","_law_call"] 159 2 375 u640++(qN "_law_board" 49 703 165 4 382 u640++(qN "_law_leans" 50 709 172 2 387 u640)++(qM "_law_kinds" 51 715 ["_law_e","_law_found"] 174 1 392 u640++(qM "_law_word" 52 723 ["_law_e","_law_words"] 180 1 399 u640++(qM "_law_from" 53 731 ["_law_thing","_law_low","_law_high"] 185 3 406 u640++(qN "_law_are_leans" 54 740 187 2 413 u640++(qM "_law_is_stand" 55 746 ["_law_thing","_law_groups","_law_feeders"] 191 3 418 u640++(qN "_law_things" 56 755 195 3 425 u640++(qM "_law_word_of" 57 761 ["_law_board_here","_law_which","_law_e"] 206 2 430 u640++(qN "_law_counted" 58 770 215 1 437 u640++(qM "_law_no_number" 59 776 ["_law_thing","_law_e"] 220 1 442 u640++(qN "_law_all_right" 60 784 226 1 449 u640++(qM "law" 61 790 ["_law_script","_law_deck_here","_law_board_here","_law_groups","_law_feeders","_law_thing","_law_found","_law_due","_law_wrong","_law_which","_law_odd"] 236 1 454 u640)))))))))))))))))
 def t3:=qB 20 (vt3 P)
noncomputable def s3(w:World)(os:OsState):SharedT:=⟨t3 w.params,461,life,(Array.mk []),(Drawn.mk 0 0 0 0),807,os⟩
noncomputable def st3:List Stmt:=(bd.drop 44).take 18
set_option maxHeartbeats 0 in
theorem seg3(w:World)(os:OsState):segRun treeTable p w m0 ann 1 528 (s2 w os).abs (piecesOf st3 env cd (Pos.mk 133 0 135 40) fr)=some (.next,(s3 w os).abs,cd,(Pos.mk 236 0 250 116)):=seg_q (by kernel_rfl)
 def hz:Heap:=Heap.mk (Array.mk (vt3 P)) (Life.mk [] [] [] 0 [] [] false #[] [] 0 false false false 0 [2000,10,10] false 0 true [] [] 0 false)
noncomputable def sz(w:World)(os:OsState):Shared:=⟨hz w.params,(Array.mk []),(Drawn.mk 0 0 0 0),807,os⟩
set_option maxHeartbeats 0 in
theorem fin(w:World)(os:OsState):topRun treeTable p w m0 ann 2 (s3 w os).abs ⟨doneF .next,cd,(Pos.mk 236 0 250 116),fr⟩=some (sz w os):=fin_q (by kernel_rfl)
 def as:List Addr:=[2,3,15,22,23,24,25,28,35,36,37,40,47,49,50,52,53,54,55,56,59,66,67,68,71,78,79,80,83,90,91,92,95,102,103,104,107,114,115,116,119,126,127,128,131,138,139,140,143,150,151,152,155,162,163,164,167,174,175,176,179,186,187,188,191,198,199,200,203,210,211,212,215,222,223,224,227,229,230,232,233,234,236,237,239,240,241,243,244,246,247,248,250,251,253,254,255,257,258,260,261,262,264,265,267,268,269,271,272,274,275,276,279,280,281,283,284,286,287,288,290,291,293,294,295,297,298,300,301,302,304,305,307,308,309,311,312,314,315,316,318,319,321,322,323,325,326,328,329,330,332,333,335,336,337,339,340,342,343,344,346,347,349,350,351,354,355,356,358,359,361,362,363,365,366,368,369,370,373,374,375,377,378,380,381,382,385,386,387,390,391,392,394,395,397,398,399,401,402,404,405,406,408,409,411,412,413,416,417,418,420,421,423,424,425,428,429,430,432,433,435,436,437,440,441,442,444,445,447,448,449,452,453,454,456,457,459,460]
 def K:Frag:=as.map λi=>(i,(vt3 P).getD i a0)
noncomputable def M0:Nat:=(12+ (1+ (1295+ (1492+ (1489+ (528+2))))))
theorem bd_is:bd=st0++(st1++(st2++(st3++([])))):=by kernel_rfl
theorem rest(w:World)(os:OsState):topRun treeTable p w m0 ann (1295+ (1492+ (1489+ (528+ (2))))) (sb w os).abs (restOf bd env cd (Pos.mk 0 0 0 0) fr)=some (sz w os):=by
 rw[show restOf bd env cd (Pos.mk 0 0 0 0) fr=restOf (st0++(st1++(st2++(st3++([]))))) env cd (Pos.mk 0 0 0 0) fr from vdn (λb=>restOf b env cd (Pos.mk 0 0 0 0) fr) bd_is]
 exact(piece_app (seg0 w os) (piece_app (seg1 w os) (piece_app (seg2 w os) (piece_app (seg3 w os) (piece_nil (fin w os))))))
theorem run(w:World)(os:OsState):topRun treeTable p w m0 ann M0 ⟨boot_heap w.params,Array.mk [],boot_drawn,boot_toks,os⟩ (topStub p)=some (sz w os):=
 go_top (pre w os) (piece_block (block w os) (rest w os))
noncomputable def lawAt:Nat:=61
noncomputable def zws:Pos:=(Pos.mk 236 0 250 116)
noncomputable def q:Program:={p with main:={p.main with body:=keep.map (atN p.main.body)}}
theorem as_is:∀P,as=(K P).map (·.1):=λ_=>by kernel_rfl
noncomputable def H:Hook:=kHook K as as_is
noncomputable def Xt(s:Shared):Bool:=xlAt q [] s&&recOk [] s
theorem zwt(w:World)(os:OsState):(staticsOk (importedModules p.main.body) (boot_heap w.params) (hz w.params)&&namesBound p (hz w.params)&&gensDone (sz w os)&&laidKept (boot_heap w.params) (hz w.params))=true:=by
 rw[PySem.W.Fast.te5923862056798008813];kernel_rfl
theorem zwu(w:World)(os:OsState):seen ((recsOf q).map (·.name)) (ownsOf q) [] {sz w os with gens:=#[]}=expectedOf q:=by
 rw[PySem.W.Fast.te5160383126252970620,PySem.W.R.mapR_eq,PySem.W.Fast.te3399658132070893891,PySem.W.Fast.te5991557255702980513];kernel_rfl
theorem l_blt(w:World)(os:OsState):(sz w os).heap.bltView=bltViewBooted:=by kernel_rfl
theorem zwv(w:World)(os:OsState):((sz w os).heap.keysOk (looseW q lo) ((recsOf q).map (·.name)) ((litsOf q).map (·.1)) ((clssOf q (looseW q lo)).map (·.name))&& (sz w os).heap.accountedOkI (importedModules p.main.body)&& (sz w os).heap.isNs mainGlobals&& (sz w os).heap.isNs builtinsNs&&tablesOk q (sz w os).heap&&Xt (sz w os)&& (if true=true then(sz w os).gens.size==0 else !leftWithCleanup (sz w os).gens))=true:=by
 rw[PySem.W.Fast.te10880121769531294198,PySem.W.Fast.te821141287760084731,PySem.W.R.mapR_eq,PySem.W.Fast.te3399658132070893891,PySem.W.Fast.te7409074990110511671,PySem.W.Fast.te13664370479719496447,PySem.W.Fast.te14722251495701143533,PySem.W.Fast.te10994771534591457954,PySem.W.Fast.te5923862056798008813];kernel_rfl
theorem zww(w:World)(os:OsState):tabsOk q (sz w os)=true:=by rw[PySem.W.Fast.te479339242167458305];kernel_rfl
theorem l_pin(w:World)(os:OsState):pinSeenD q (drecsOf q) (sz w os)=pinGoodD (drecsOf q):=by rw[PySem.W.Fast.te16090120013241838585,PySem.W.Fast.te3247288618530077131];kernel_rfl
theorem l_plE(w:World)(os:OsState):plainSeenE q (looseW q lo) (sz w os)=plainGoodE q (looseW q lo):=by rw[PySem.W.Fast.te2386780881361962483,PySem.W.Fast.te821141287760084731];kernel_rfl
theorem l_plD(w:World)(os:OsState):plainSeenD q lo (sz w os)=plainGoodD q lo:=by rw[PySem.W.Fast.te11698064438423848299];kernel_rfl
theorem zwx(w:World)(os:OsState):wideSeen q (sz w os)=wideGood q:=by rw[PySem.W.Fast.te7317090234206586261];kernel_rfl
theorem l_cls(w:World)(os:OsState):clsSeenW q lo (sz w os)=clsGoodW q lo:=by rw[PySem.W.Fast.te7369524293546568484];kernel_rfl
theorem zwy(w:World)(os:OsState):as.map (sz w os).heap.get?=(K w.params).map λp=>some p.2:=by kernel_rfl
theorem left:LeftO p q lo Xt (Hook.obs H) (Hook.val H) N0 true:=
 LeftO.of_pieces (H₀:=boot_heap) (H₁:=hz) (boot_open (by kernel_rfl) (by kernel_rfl) (λs=>by kernel_rfl)) (λw=>by kernel_rfl) run (by kernel_rfl)
  (λw=>funext λos=>looks_pair (zwt w os) (looks_pair
    (looks_pair (zwu w os) (looks_pair (l_blt w os) (looks_pair (zwv w os) (looks_pair (zww w os) (looks_pair (l_pin w os) (looks_pair (l_plE w os) (looks_pair (l_plD w os) (looks_pair (zwx w os) (l_cls w os)))))))))
    (zwy w os)))
noncomputable def df:DefRec:=⟨S "law",fa lawAt,fb lawAt,fs lawAt,zws⟩
theorem df_is:defOf q (S "law")=some (df,[]):=by kernel_rfl
theorem holds(l:OpenLaw)(hp:l.prog=p)(hn:l.name=S "law")(ok:l.wellSaid=true)(hch:(chainsOk q&&opensWell p&& (frees l.row.toRowW&&l.row.within.isEmpty))=true)(hb:l.row.toRowW.prog.bare)(hw:l.row.toRowW.promised)
 (hwr:(!l.row.writes||l.row.records.isEmpty)=true) (hk:p.theDef (S "law")=some (df.params,df.body,df.scope)) (hkw:kwWritten? df.params.kwonlyargs df.params.kw_defaults=some [])
 (call:WalkO q lo (XL q []) (Hook.says H) l.row.toRowW df [] λf vs=>PySem.call f vs):l.Holds:=
 holds_law ok λsaid=>PySem.W.holds_open (q:=q) (loose:=lo) (Xt:=Xt) (XP:=XL q []) (Yf:=Hook.obs H) (Ya:=Hook.val H) (YP:=Hook.says H) (N:=N0) (r:=l.row) (by have h:l.row.toRowW.prog=p:=hp;show LeftO l.row.toRowW.prog q lo Xt (Hook.obs H) (Hook.val H) N0 true;rw[h];exact left) (Hook.of H) (Hook.keeps H) (λs e=>xl_of s (Bool.and_eq_true_iff.mp e).1) XL.keeps
  (by show defOf q l.name=_;rw[hn];exact df_is) (by show l.prog.theDef l.name=_;rw[hp,hn];exact hk) hkw (λs e=>recFacts_of (Bool.and_eq_true_iff.mp e).2) hwr said (by have h:l.row.toRowW.prog=p:=hp;rw[h];exact hch) hb hw call
end
end
end HD
namespace RF
noncomputable def T02:List PySem.Str:=(["is_whole","is_whole_within","_law_cell","_law_deck","_law_mixed","_law_take","is_tuple_within","are_wholes_within","are_doors","are_rows","is_board_but_for_places","is_door","is_feeder_or_none","is_rocker","look_at_board","may_stand"]++List.replicate 1 "" ++ ["are_leans"]++List.replicate 2 "" ++ ["_law_leans","_law_piece","is_leans","_law_door"]++List.replicate 1 "" ++ ["_law_row","_law_board","is_stand"]++List.replicate 120 "" ++ ["_law_from"]++List.replicate 41 "" ++ ["all_leans"]++List.replicate 509 "" ++ ["_law_all_right","_law_are_leans","_law_counted","_law_is_stand","_law_no_number","_law_things","_law_word_of","law"]).map PySem.Str.ofString
noncomputable def fnNo:Fn:=⟨0,0,.no⟩
noncomputable def zqw:List Fn:=[fn0,fn1,fn2,fn3,fn4,fn5,fn6,fn7,fn8,fn9,fn10,fn11,fn12,fn13,fn14,fn15]++List.replicate 1 fnNo++[fn17]++List.replicate 2 fnNo++[fn20,fn21,fn22,fn23]++List.replicate 1 fnNo++[fn25,fn26,fn27]++List.replicate 120 fnNo++[fn148]++List.replicate 41 fnNo++[fn190]++List.replicate 509 fnNo++[zd1,zb4,zd2,zbv,zd3,zd4,zd5,zd6,tB 37 56,tI 708,tS 708,zd7]
noncomputable def R02:RX:=⟨[PySem.Str.ofString "look_at_board",PySem.Str.ofString "is_leans",PySem.Str.ofString "is_stand",PySem.Str.ofString "all_leans"],708,[(37,PySem.Str.ofString "board"),(56,PySem.Str.ofString "fault"),(116,PySem.Str.ofString "number")]⟩
theorem c02:C02 (λi=>zqw[i]?):=by repeat' (first|rfl|constructor)
end RF
set_option maxHeartbeats 0 in
theorem RF.pb02(P:PySem.Params):RF.cProg (HD.K P) RF.T02 RF.R02 60 60=some RF.zqw:=by kernel_rfl
open PySem PySem.W PyProof.Rows
set_option maxRecDepth 100000 in
set_option maxHeartbeats 0 in
theorem PySem.Challenge.cw_ballrockers_k02_leans_stands_holds : PySem.Challenge.rw_ballrockers_k02_leans_stands.Holds := by
 refine HD.holds _ rfl rfl RF.pa02 (by kernel_rfl) ⟨rfl,rfl,rfl,rfl,rfl,by decide +kernel⟩ ?hw rfl (by kernel_rfl) (by kernel_rfl) ?call
 (case hw=>w_witness2)
 refine RF.zo9 RF.T02 RF.R02 60 60 30 707 rfl (by kernel_rfl) ⟨rfl,by decide,by decide⟩ (λw h Y=>PySem.W.kIn_of Y) (by kernel_rfl) (by decide +kernel) ?b ?c ?d
 (case c=>intro w;kernel_rfl)
 (case d=>
   intro w C z hm
   have e:C=37/\z=PySem.Str.ofString "board"\/C=56/\z=PySem.Str.ofString "fault"\/C=116/\z=PySem.Str.ofString "number":=by simpa[RF.R02]using hm
   rcases e with⟨rfl,rfl⟩|⟨rfl,rfl⟩|⟨rfl,rfl⟩<;>exact⟨by kernel_rfl,by repeat' (first|kernel_rfl|rfl|decide|constructor)⟩)
 (case b=>
   intro w ns hl
   exact RF.zso (RF.pb02 _) (RF.law02 RF.c02 hl))
