import PyProof.Rows.All
import Wide.All
import OpenK.AllK
import Wide.FinOn
import Lean
import PyProof.EqAt
import PyProof.EqKinds
import PyProof.TupleCall
import KE.KUnpack
import PySem.Challenge.RW_ballrockers_k25_least_groups
set_option Elab.async false
set_option linter.all false
set_option genSizeOf false
set_option maxRecDepth 100000
def vaw:=@decide_eq_false
def vax:=@of_decide_eq_true
def va1:=@if_false
def vbb:=@if_true
def vbs:=@beq_eq_false_iff_ne
def vbx:=@beq_iff_eq
def vb8:=@decide_eq_true
def vca:=@decide_eq_true_eq
def vcx:=@congrArg
open Bool renaming and_eq_true->vaa,false_eq_true->vaf,false_ne_true->vao,not_true->vbf,false_and->vcp
open PySem renaming wpAny_bind->vab,wpAny_pure->vag,wpAny_holding->vbd,wpAny_truthy_bool->vbe,wpAny_mono->vbm,wpAny_Call_Name_kw->vbq,wpAny_newObj_type->vbu,wpAny_loadPart_at->vbv,wpAny_standAt->vbz,wpAny_isSubtype_exc->vb2,wpAny_call_entry->vb5,wpAny_field->vb7,wpAny_passesOwn->vb9,mem_of_lookup->vcb,wpAny_callSpecial?_slot->vcd,wpAny_execs_nil->vch,wpAny_specialOf->vcm,wpAny_call->vcv,codeAny_mono->vcw,sizeLine_eq->vc4,wpAny_setField->vc5
open PySem.Heap renaming get?_push_of_some->vac,lt_size->vai,get?_push_size->vav,get?_update_other->vbi,size_push->vce,get?_update_self->vcj
open Nat renaming le_refl->vad,lt_of_lt_of_le->vae,ne_of_lt->vas,le_of_ble_eq_true->vau,lt_succ_self->va2,le_trans->va3,not_lt->vbo,eq_of_beq_eq_true->vbp,lt_irrefl->vby,ne_of_gt->vci,zero_le->vct,le_of_lt->vcu
open List renaming size_toArray->vah,map_cons->vaj,getElem?_eq_some_iff->vak,length_cons->vam,mem_cons_of_mem->van,length_map->vap,lookup_cons->vaq,length_append->vat,mem_append_right->vay,mem_cons_self->vaz,getElem?_set_self->va0,find?_cons->va4,mem_cons->va5,append_nil->va8,getElem?_eq_getElem->vba,getElem?_append_right->vbc,zip_cons_cons->vbh,getElem?_append_left->vbj,getElem?_eq_none_iff->vbk,getElem?_map->vbn,getElem?_set_ne->vbr,filterMap_cons->vbt,all_cons->vbw,cons_append->vb6,getElem?_replicate->vcc,length_set->vck,length_singleton->vcl,mem_of_getElem?->vcn,all_eq_true->vcr,nodup_cons->vcy,length_nil->vc0,map_append->vc1,nil_append->vc2,forIn_nil->vc6,map_nil->vc7
open Option.some renaming inj->va6
open PySem.W renaming kia_one->va7,callWith_K->vcg
open PyProof.Rows renaming slot_tuple_getitem->va9,callWith_type1->vb1
open Array renaming getElem?_eq_some_iff->vbg,length_toList->vcs
open PySem.W.Fast renaming te14364793385576792824->vbl
open Int renaming eq_ofNat_of_zero_le->vb0,emod_lt_of_pos->vc3
open Ne renaming symm->vb3
open PySem.F renaming slot_tuple_iterator_next->vb4,slot_NoneType_hash->vco
open PySem.SeqAt renaming canLay_of_shaped->vcf
open Option renaming bind_some->vcq
open PySem.Code renaming quiet_builtin->vcz
namespace L2
open PySem PySem.Spec PyProof.Rows
noncomputable abbrev Key:=Sum Int Str
noncomputable def keyIs:Key->Value->Bool
 |.inl k,v=>Value.isInt k v
 |.inr x,v=>Value.isStrOf x v
noncomputable def keyH(w:World):Key->Int
 |.inl k=>hashInt k
 |.inr x=>hashStr w x
theorem zak:∀{k:Key} {v:Value},keyIs k v=true->(∃i t,k=Sum.inl i/\v=Value.int i t)\/(∃x t,k=Sum.inr x/\v=Value.str x t)
 |.inl i,v,h=>by
  obtain⟨t,e⟩:=Value.isInt_shape (k:=i) (v:=v) h
  exact .inl ⟨i,t,rfl,e⟩
 |.inr x,v,h=>by
  obtain⟨t,e⟩:=Value.isStrOf_shape (x:=x) (v:=v) h
  exact .inr ⟨x,t,rfl,e⟩
theorem zhw(i:Int)(t:Tok):keyIs (.inl i) (.int i t)=true:=by simp[keyIs,Value.isInt]
theorem zhx(x:Str)(t:Tok):keyIs (.inr x) (.str x t)=true:=by simp[keyIs,Value.isStrOf]
theorem zo0(a b:Int):decide ((Sum.inl a:Key)=Sum.inl b)=(a==b):=by
 by_cases e:a=b
 .subst e;simp
 .have h:¬(Sum.inl a:Key)=Sum.inl b:=λq=>e (Sum.inl.inj q)
  rw[vaw h]
  exact(vbs.mpr e).symm
theorem zo1(a b:Str):decide ((Sum.inr a:Key)=Sum.inr b)=decide (a=b):=by
 by_cases e:a=b
 .subst e;simp
 .have h:¬(Sum.inr a:Key)=Sum.inr b:=λq=>e (Sum.inr.inj q)
  rw[vaw h,vaw e]
theorem zo2(a:Int)(b:Str):decide ((Sum.inl a:Key)=Sum.inr b)=false:=vaw (λq=>nomatch q)
theorem zo3(a:Str)(b:Int):decide ((Sum.inr a:Key)=Sum.inl b)=false:=vaw (λq=>nomatch q)
noncomputable def zam(prog:Program)(w:World):PySem.KeyKind prog w Key where
 is:=keyIs
 hash:=keyH w
 inj:=λv a b ha hb=>by
  rcases zak ha with⟨i,t,rfl,rfl⟩|⟨x,t,rfl,rfl⟩
  .rcases zak hb with⟨j,u,rfl,e⟩|⟨y,u,rfl,e⟩
   .injection e with e1 _;rw[e1]
   .exact nomatch e
  .rcases zak hb with⟨j,u,rfl,e⟩|⟨y,u,rfl,e⟩
   .exact nomatch e
   .injection e with e1 _;rw[e1]
 byValue:=λk v h=>by
  rcases zak h with⟨i,t,rfl,rfl⟩|⟨x,t,rfl,rfl⟩<;>rfl
 pyHash:=λhv h=>by
  rcases zak hv with⟨i,t,rfl,rfl⟩|⟨x,t,rfl,rfl⟩
  .exact wpAny_pyHash_int h
  .exact wpAny_pyHash_str h
 eqBool:=λhu hv h=>by
  rcases zak hu with⟨i,t,rfl,rfl⟩|⟨x,t,rfl,rfl⟩
  .rcases zak hv with⟨j,u,rfl,rfl⟩|⟨y,u,rfl,rfl⟩
   .rw[zo0]at h;exact wpAny_eqBool_int h
   .rw[zo2]at h;exact SeqAt.EqAt.int_str i t y u _ _ _ _ h
  .rcases zak hv with⟨j,u,rfl,rfl⟩|⟨y,u,rfl,rfl⟩
   .rw[zo3]at h;exact SeqAt.EqAt.str_int x t j u _ _ _ _ h
   .rw[zo1]at h;exact wpAny_eqBool_str h
 «strs»:=λk x t v h=>by
  rcases zak h with⟨i,u,rfl,e⟩|⟨y,u,rfl,e⟩
  .exact nomatch e
  .injection e with e1 _
   subst e1
   cases v<;>rfl
theorem zfx(prog:Program)(w:World)(i:Int)(t:Tok):(zam prog w).is (.inl i) (.int i t)=true:=zhw i t
theorem zfy(prog:Program)(w:World)(x:Str)(t:Tok):(zam prog w).is (.inr x) (.str x t)=true:=zhx x t
inductive V where
 |non|bl (b:Bool)|int (i:Int)|str (x:Str)|byt (b:Array UInt8)|flt (b:UInt64)|ref (a:Addr)|ty (n:String)
 deriving DecidableEq
noncomputable def RelV:V->Value->Prop
 |.non,u=>u=Value.none
 |.bl b,u=>u=Value.bool b
 |.int i,u=>∃t,u=Value.int i t
 |.str x,u=>∃t,u=Value.str x t
 |.byt b,u=>∃t,u=Value.bytes b t
 |.flt b,u=>∃t,u=Value.float b t
 |.ref a,u=>u=Value.ref a
 |.ty n,u=>u=Value.type n
noncomputable abbrev Vals:List V->List Value->Prop:=Paired RelV
theorem Vals.length{xs:List V}{us:List Value}(r:Vals xs us):xs.length=us.length:=Paired.length r
theorem Vals.get:∀{xs:List V} {us:List Value} {i:Nat} {x:V},Vals xs us->xs[i]?=some x->∃u,us[i]?=some u/\RelV x u
 |_,_,_,_,.nil,e=>by simp at e
 |_,_,0,_,.cons r _,e=>by simp at e;subst e;exact⟨_,rfl,r⟩
 |_,_,i+1,x,.cons _ t,e=>by
  obtain⟨u,h1,h2⟩:=Vals.get (i:=i) (x:=x) t (by simpa using e)
  exact⟨u,by simpa using h1,h2⟩
theorem Vals.set{x:V}{u:Value}(r:RelV x u):∀{xs:List V} {us:List Value} (i:Nat),Vals xs us->Vals (xs.set i x) (us.set i u)
 |_,_,_,.nil=>.nil
 |_,_,0,.cons _ t=>.cons r t
 |_,_,i+1,.cons q t=>.cons q (Vals.set r i t)
theorem Vals.append:∀{xs ys:List V} {us ws:List Value},Vals xs us->Vals ys ws->Vals (xs++ys) (us++ws)
 |_,_,_,_,.nil,s=>s
 |_,_,_,_,.cons r t,s=>.cons r (Vals.append t s)
theorem Vals.take:∀{xs:List V} {us:List Value} (n:Nat),Vals xs us->Vals (xs.take n) (us.take n)
 |_,_,0,_=>.nil
 |_,_,_+1,.nil=>.nil
 |_,_,n+1,.cons r t=>.cons r (Vals.take n t)
theorem Vals.drop:∀{xs:List V} {us:List Value} (n:Nat),Vals xs us->Vals (xs.drop n) (us.drop n)
 |_,_,0,r=>r
 |_,_,_+1,.nil=>.nil
 |_,_,n+1,.cons _ t=>Vals.drop n t
noncomputable def RelO:Option V->Option Value->Prop
 |some v,some u=>RelV v u
 |none,none=>True
 |_,_=>False
noncomputable def KV{κ:Type}:List (κ×V)->List (κ×Value)->Prop:=Paired λ(p:κ×V) (q:κ×Value)=>p.1=q.1/\RelV p.2 q.2
noncomputable def kV:Key->V
 |.inl i=>.int i
 |.inr x=>.str x
inductive HO where
 /-- a list -/
 |lst (xs:List V)
 /-- a tuple (never changes) -/
 |tup (xs:List V)
 /-- a dict whose keys are ints and texts;one whose keys are tuples of ints and texts (the empty one is both) -/
 |dK (kvs:List (Key×V))|dT (kvs:List (List Key×V))
 /-- a set of ints: its members,its size -/
 |set (S:Int->Bool) (n:Nat)
 /-- an instance of the class at C,its dict at dx,its attributes -/
 |ins (C dx:Addr) (fs:List (Str×V))
 /-- the dict of the instance at x -/
 |own (x:Addr)
 /-- the dict of an exception -/
 |xd (fs:List (Str×V))
 /-- a bound method,f of x -/
 |met (f x:Addr)
 /-- a range object lo,lo+1,.. below hi -/
 |rng (lo hi:Int)
 /-- a thing that is known to the object (the script;a dict while a loop walks it): read,never written while it is so -/
 |frz (o:Obj) (u:HO)
 /-- a code object's table -/
 |tbl (ps:Array Value)
 /-- any other thing,by what is true of its one object (a def of one's own: SetO a S n:=HO.ext λh=>..) -/
 |ext (φ:Heap->Prop)
noncomputable abbrev Hp:=Addr->Option HO
noncomputable def upd(H:Hp)(a:Addr)(o:HO):Hp:=λb=>if b=a then some o else H b
theorem zad{H:Hp}{a:Addr}{o:HO}:upd H a o a=some o:=by unfold upd;rw[if_pos rfl]
theorem zac{H:Hp}{a b:Addr}{o:HO}(h:b≠a):upd H a o b=H b:=by unfold upd;rw[if_neg h]
theorem ne_of{H:Hp}{a b:Addr}{o u:HO}(h:H a=some o)(h':H b=some u)(d:o≠u):a≠b:=by
 intro e;subst e;rw[h]at h';exact d (va6 h')
theorem zae{H:Hp}{a b:Addr}{o:HO}(h:H a=some o)(h':H b=none):a≠b:=by
 intro e;subst e;rw[h]at h';cases h'
noncomputable def zbd(h:Heap)(a:Addr)(items:Array Value):Prop:=∃o,h.get? a=some o/\o.cls=.type "tuple"/\(∃n,o.data=.seq items n)/\o.dict=none
theorem zbd.tup{h:Heap}{a:Addr}{items:Array Value}(x:zbd h a items):IsTup h a items:=let⟨o,e,c,d,_⟩:=x;⟨o,e,c,d⟩
theorem zbd.lt{h:Heap}{a:Addr}{items:Array Value}(x:zbd h a items):a<h.objs.size:=x.tup.lt
theorem zbd.new(h:Heap)(items:Array Value):zbd (h.push {cls:=.type "tuple",data:=.seq items}) h.objs.size items:=⟨_,vav _ rfl,rfl,⟨_,rfl⟩,rfl⟩
section
variable(P:Program)(w:World)
noncomputable def ObjOk(H:Hp)(h:Heap)(a:Addr):HO->Prop
 |.lst xs=>xs.length<=sizeLine/\∃(its:List Value) (n:Nat),Vals xs its/\h.get? a=some {cls:=.type "list",data:=.seq its.toArray n}
 |.tup xs=>xs.length<=sizeLine/\∃its:List Value,Vals xs its/\zbd h a its.toArray
 |.dK kvs=>kvs.length<=sizeLine/\(a==sysModules)=false/\∃vs,KV kvs vs/\h.DictOf (zam P w) a vs
 |.dT kvs=>kvs.length<=sizeLine/\(a==sysModules)=false/\∃xs:List (List Key×Addr×Value),
  Paired (λ(p:List Key×V)(q:List Key×Addr×Value)=>p.1=q.1/\H q.2.1=some (.tup (p.1.map kV))/\RelV p.2 q.2.2) kvs xs/\
  ∃o es ep,h.get? a=some o/\o.ExactDict/\o.data=.dict es ep/\es.toList=xs.map (entryOfKey (tupleKind (zam P w)))/\(xs.map (·.1)).Nodup
 |.set S n=>h.SetOf (intKind P w) a S n
 |.ins C dx fs=>H dx=some (.own a)/\fs.length<=1000/\dx≠a/\h.get? a=some (PySem.W.instObj C dx)/\
  ∃mA,h.Ns1 dx mA/\(∀f,RelO (fs.lookup f) (mA f))/\PySem.Within mA (fs.map (·.1))
 |.own _=>∃o,h.get? a=some o
 |.xd fs=>∃mA,h.Ns1 a mA/\∀f,RelO (fs.lookup f) (mA f)
 |.rng lo hi=>∃t u v,h.get? a=some {cls:=.type "range",data:=.fields #[.int lo t,.int hi u,.int 1 v]}
 |.frz o u=>h.get? a=some o/\ObjOk H h a u
 |.tbl ps=>h.get? a=some {cls:=.none,data:=.fields ps}
 |.met f x=>h.get? a=some (PySem.W.methodObj (.ref f) (.ref x))
 |.ext φ=>φ h/\(∃o,h.get? a=some o)/\∀h1 h2:Heap,φ h1->(∀o,h1.get? a=some o->h2.get? a=some o)->φ h2
noncomputable def HOk(H:Hp)(h:Heap):Prop:=∀a o,H a=some o->ObjOk P w H h a o
end
section
variable{P:Program}{w:World}{H H':Hp}{h h':Heap}{a:Addr}{o:HO}
theorem ObjOk.lt(x:ObjOk P w H h a o):a<h.objs.size:=by
 cases o with
 |lst xs=>obtain⟨_,_,_,_,e⟩:=x;exact vai e
 |tup xs=>obtain⟨_,_,_,p⟩:=x;exact p.lt
 |dK kvs=>obtain⟨_,_,_,_,o,_,_,e,_⟩:=x;exact vai e
 |dT kvs=>obtain⟨_,_,_,_,o,_,_,e,_⟩:=x;exact vai e
 |set S n=>obtain⟨o,_,_,_,e,_⟩:=x;exact vai e
 |ins C dx fs=>obtain⟨_,_,_,e,_⟩:=x;exact vai e
 |own y=>obtain⟨_,e⟩:=x;exact vai e
 |xd fs=>obtain⟨_,⟨_,_,_,e,_⟩,_⟩:=x;exact vai e
 |rng lo hi=>obtain⟨_,_,_,e⟩:=x;exact vai e
 |frz ob u=>obtain⟨e,_⟩:=x;exact vai e
 |tbl ps=>exact vai (show h.get? a=some _ from x)
 |met f y=>exact vai (show h.get? a=some _ from x)
 |ext φ=>obtain⟨_,⟨_,e⟩,_⟩:=x;exact vai e
theorem Paired.mapP{α β:Type}{F G:α->β->Prop}:∀{l₁:List α} {l₂:List β},Paired F l₁ l₂->(∀a b,F a b->G a b)->Paired G l₁ l₂
 |_,_,.nil,_=>.nil
 |_,_,.cons r t,f=>.cons (f _ _ r) (Paired.mapP t f)
theorem ObjOk.stay(x:ObjOk P w H h a o)(k:∀b u,(b=a\/H b=some (.own a))->h.get? b=some u->h'.get? b=some u)
 (ho:∀b,H b=some (.own a)->H' b=some (.own a)) (ht:∀b xs,H b=some (.tup xs)->H' b=some (.tup xs)):ObjOk P w H' h' a o:=by
 induction o with
 |lst xs=>obtain⟨z,its,n,r,e⟩:=x;exact⟨z,its,n,r,k _ _ (.inl rfl) e⟩
 |tup xs=>obtain⟨z,its,r,ob,e,c⟩:=x;exact⟨z,its,r,ob,k _ _ (.inl rfl) e,c⟩
 |dK kvs=>obtain⟨z,y,vs,r,ob,es,ep,e,c⟩:=x;exact⟨z,y,vs,r,ob,es,ep,k _ _ (.inl rfl) e,c⟩
 |dT kvs=>
  obtain⟨z,y,xs,r,ob,es,ep,e,c⟩:=x
  exact⟨z,y,xs,Paired.mapP r λp q z=>⟨z.1,ht _ _ z.2.1,z.2.2⟩,ob,es,ep,k _ _ (.inl rfl) e,c⟩
 |set S n=>obtain⟨ob,es,ep,t,e,c⟩:=x;exact⟨ob,es,ep,t,k _ _ (.inl rfl) e,c⟩
 |ins C dx fs=>
  obtain⟨d,z,ne,e,mA,⟨od,es,ep,e2,c⟩,r⟩:=x
  exact⟨ho _ d,z,ne,k _ _ (.inl rfl) e,mA,⟨od,es,ep,k _ _ (.inr d) e2,c⟩,r⟩
 |own y=>obtain⟨ob,e⟩:=x;exact⟨ob,k _ _ (.inl rfl) e⟩
 |xd fs=>obtain⟨mA,⟨od,es,ep,e,c⟩,r⟩:=x;exact⟨mA,⟨od,es,ep,k _ _ (.inl rfl) e,c⟩,r⟩
 |rng lo hi=>obtain⟨t,u,v,e⟩:=x;exact⟨t,u,v,k _ _ (.inl rfl) e⟩
 |frz ob u ih=>obtain⟨e,q⟩:=x;exact⟨k _ _ (.inl rfl) e,ih q⟩
 |tbl ps=>
  have e:h.get? a=some {cls:=.none,data:=.fields ps}:=x
  show h'.get? a=some {cls:=.none,data:=.fields ps}
  exact k a _ (.inl rfl) e
 |met f y=>
  have e:h.get? a=some (PySem.W.methodObj (.ref f) (.ref y)):=x
  show h'.get? a=some (PySem.W.methodObj (.ref f) (.ref y))
  exact k a _ (.inl rfl) e
 |ext φ=>obtain⟨p,⟨o,e⟩,st⟩:=x;exact⟨st _ _ p λo q=>k _ _ (.inl rfl) q,⟨o,k _ _ (.inl rfl) e⟩,st⟩
theorem HOk.lt(x:HOk P w H h)(e:H a=some o):a<h.objs.size:=(x a o e).lt
theorem HOk.fresh(x:HOk P w H h)(e:h.objs.size<=a):H a=none:=by
 cases q:H a with
 |none=>rfl
 |some u=>exact absurd (vae (x.lt q) e) (vby _)
theorem HOk.kept(x:HOk P w H h)(k:∀b u,h.get? b=some u->h'.get? b=some u):HOk P w H h':=λa o e=>
 (x a o e).stay (λb u _ q=>k b u q) (λ_ q=>q) λ_ _ q=>q
theorem HOk.laid(x:HOk P w H h)(k:∀b u,h.get? b=some u->h'.get? b=some u)(hp:h.objs.size<=a)(new:ObjOk P w (upd H a o) h' a o):HOk P w (upd H a o) h':=λb u e=>by
 have hn:=x.fresh hp
 by_cases hb:b=a
 .subst hb;rw[zad]at e;cases e;exact new
 .rw[zac hb]at e
  exact(x b u e).stay (λc v _ q=>k c v q) (λc q=>by rw[zac (zae q hn)];exact q) λc xs q=>by rw[zac (zae q hn)];exact q
end
noncomputable def Rd(H:Hp)(a:Addr)(u:HO):Prop:=H a=some u\/∃o,H a=some (.frz o u)
theorem Rd.ok{P:Program}{w:World}{H:Hp}{h:Heap}{a:Addr}{u:HO}(r:Rd H a u)(x:HOk P w H h):ObjOk P w H h a u:=by
 rcases r with r|⟨o,r⟩
 .exact x a u r
 .obtain⟨_,q⟩:=x a _ r
  exact q
noncomputable def Mut:Option HO->Prop
 |some (.lst _)=>True
 |some (.dK _)=>True
 |some (.dT _)=>True
 |some (.set _ _)=>True
 |some (.ins _ _ _)=>True
 |some (.ext _)=>True
 |_=>False
section
variable{P:Program}{w:World}{H:Hp}{h h':Heap}{x e:Addr}{o':HO}
theorem HOk.write(ok:HOk P w H h)(mu:Mut (H x))(he:e=x\/H e=some (.own x))(k:∀b u,b≠e->h.get? b=some u->h'.get? b=some u)(heo:∃u,h'.get? e=some u)
 (new:ObjOk P w (upd H x o') h' x o'):HOk P w (upd H x o') h':=λb u q=>by
 have nown:∀c y,H c=some (.own y)->c≠x:=λc y r z=>by subst z;rw[r]at mu;exact mu
 have ntup:∀c xs,H c=some (.tup xs)->c≠x:=λc xs r z=>by subst z;rw[r]at mu;exact mu
 by_cases hb:b=x
 .subst hb;rw[zad]at q;cases q;exact new
 .rw[zac hb]at q
  by_cases hbe:b=e
  .have q':H b=some (.own x):=by
    rcases he with z|z
    .exact absurd (hbe.trans z) hb
    .rw[hbe];exact z
   rw[q]at q';cases q'
   obtain⟨v,hv⟩:=heo
   exact⟨v,by rw[hbe];exact hv⟩
  .refine(ok b u q).stay (λc v hc r=>k c v ?_ r) (λc r=>by rw[zac (nown c b r)];exact r) λc xs r=>by rw[zac (ntup c xs r)];exact r
   rcases hc with rfl|hc
   .exact hbe
   .rintro rfl
    rcases he with z|z
    .exact nown c b hc z
    .rw[hc]at z;cases z;exact hb rfl
end
structure Un(fs ex:List Addr)(H H':Hp)(h h':Heap):Prop where
 keep:∀b o,h.get? b=some o->H b=none->b∉fs->b∉ex->h'.get? b=some o
 slot:∀b o,h.get? b=some o->H b=none->b∈fs->b∉ex->∃sl,h'.get? b=some {o with slots:=sl}
 free:∀b o,h.get? b=some o->H b=none->b∉ex->H' b=none
 there:∀b o,h.get? b=some o->b∉ex->∃o',h'.get? b=some o'
 tups:∀b xs,H b=some (.tup xs)->H' b=some (.tup xs)
 frzs:∀b o u,H b=some (.frz o u)->H' b=some (.frz o u)
 tbls:∀b ps,H b=some (.tbl ps)->∃more,H' b=some (.tbl (ps++more))
section
variable{fs fs' ex ex':List Addr}{H H1 H2:Hp}{h h1 h2 h':Heap}{a x e:Addr}{o:HO}
theorem Un.any(u:Un fs ex H H1 h h1){b:Addr}{ob:Obj}(q:h.get? b=some ob)(n:H b=none)(hx:b∉ex):∃sl,h1.get? b=some {ob with slots:=sl}:=by
 by_cases hb:b∈fs
 .exact u.slot b ob q n hb hx
 .exact⟨ob.slots,u.keep b ob q n hb hx⟩
theorem Un.kept(k:∀b u,h.get? b=some u->h'.get? b=some u):Un fs ex H H h h':=
 ⟨λb ob q _ _ _=>k b ob q,λb ob q _ _ _=>⟨ob.slots,k b ob q⟩,λ_ _ _ n _=>n,λb ob q _=>⟨ob,k b ob q⟩,λ_ _ q=>q,λ_ _ _ q=>q,λ_ ps q=>⟨#[],by rw[q];simp⟩⟩
theorem Un.refl:Un fs ex H H h h:=Un.kept λ_ _ q=>q
theorem Un.laid(k:∀b u,h.get? b=some u->h'.get? b=some u)(hp:h.objs.size<=a)(hn:H a=none):Un fs ex H (upd H a o) h h' where
 keep:=λb u q _ _ _=>k b u q
 slot:=λb u q _ _ _=>⟨u.slots,k b u q⟩
 free:=λb u q n _=>by rw[zac (vas (vae (vai q) hp))];exact n
 there:=λb u q _=>⟨u,k b u q⟩
 tups:=λb xs q=>by rw[zac (zae q hn)];exact q
 frzs:=λb u xs q=>by rw[zac (zae q hn)];exact q
 tbls:=λb ps q=>⟨#[],by rw[zac (zae q hn),q];simp⟩
theorem Un.write(mu:Mut (H x))(he:e=x\/H e=some (.own x))(k:∀b u,b≠e->h.get? b=some u->h'.get? b=some u)(heo:∃u,h'.get? e=some u):Un fs ex H (upd H x o) h h':=by
 have hx:∀b,H b=none->b≠x:=λb n z=>by subst z;rw[n]at mu;exact mu
 have hb:∀b,H b=none->b≠e:=λb n z=>by
  subst z
  rcases he with r|r
  .exact hx b n r
  .rw[n]at r;cases r
 have hm:∀b u,H b=some u->¬Mut (some u)->b≠x:=λb u q nm z=>by subst z;rw[q]at mu;exact nm mu
 refine⟨λb u q n _ _=>k b u (hb b n) q,λb u q n _ _=>⟨u.slots,k b u (hb b n) q⟩,λb u q n _=>by rw[zac (hx b n)];exact n,λb u q _=>?_,
  λb xs q=>by rw[zac (hm b _ q λz=>z)];exact q,λb u xs q=>by rw[zac (hm b _ q λz=>z)];exact q,λb ps q=>⟨#[],by rw[zac (hm b _ q λz=>z),q];simp⟩⟩
 by_cases hbe:b=e
 .subst hbe;exact heo
 .exact⟨u,k b u hbe q⟩
end
noncomputable def trk(h:Heap)(H:Hp):List Addr:=(List.range h.objs.size).filter λa=>(H a).isSome
noncomputable def hidT(h:Heap)(H:Hp):Heap:=PySem.W.hideAll h (trk h H)
theorem zhy(h:Heap)(H:Hp):(hidT h H).objs.size=h.objs.size:=PySem.W.hideAll_size _ _
theorem zkc{h:Heap}{H:Hp}{b:Addr}{o:Obj}(e:h.get? b=some o)(n:H b=none):(hidT h H).get? b=some o:=
 PySem.W.hideAll_get _ e λhm=>by
  have q:(H b).isSome=true:=(List.mem_filter.mp hm).2
  rw[n]at q;simp at q
theorem zmu{h:Heap}{H:Hp}{b:Addr}{o:Obj}(e:(hidT h H).get? b=some o):h.get? b=some o/\H b=none:=by
 have e':h.get? b=some o:=PySem.W.of_hideAll (trk h H) e
 refine⟨e',?_⟩
 cases q:H b with
 |none=>rfl
 |some x=>
  have hm:b∈trk h H:=List.mem_filter.mpr ⟨List.mem_range.mpr (vai e'),by simp[q]⟩
  have z:(hidT h H).get? b=none:=PySem.W.hideAll_none (trk h H) hm
  rw[z]at e;cases e
structure Mod(K:PySem.W.Frag)(mg:Str->Option Value)(base:Heap):Prop where
 kin:K.In base
 glob:base.Ns mainGlobals mg
 blt:∃mb,base.Ns builtinsNs mb/\∀x:Str,x≠"__name__"->mb x=bootBuiltins x
 nolimit:base.NoLimit
set_option genInjectivity false in
structure Cx where
 prog:Program
 w:World
 K:PySem.W.Frag
 mg:Str->Option Value
 base:Heap
 A:Around
 N:List Str
 s₀:Shared
 H₀:Hp
 env:Env
 outer:List Env
 stack:List Env
 ex:List Addr
 fn:Str->Bool
 calm:Bool
 pn:List (Addr×Obj)
 xe:Value->Shared->Prop
noncomputable def frs(l:List Env):List Addr:=l.filterMap (·.frame)
noncomputable abbrev Cx.fs(X:Cx):List Addr:=frs X.outer
noncomputable def Vis(sc:Scope)(x:Str):Prop:=sc.names.lookup x=some .local\/sc.names.lookup x=some .cell\/sc.names.lookup x=some .free
noncomputable def Loc(sc:Scope)(x:Str):Prop:=sc.names.lookup x=some .local\/sc.names.lookup x=some .cell
noncomputable def Look(env:Env)(h:Heap)(m:Str->Option Value)(x:Str)(u:Value):Prop:=
 (env.kindOf x=some .local/\m x=some u)\/((env.kindOf x=some .cell\/env.kindOf x=some .free)/\∃c,env.cells.lookup x=some c/\h.IsCell c (some u))
structure Cx.Ok(X:Cx):Prop where
 mod:Mod X.K X.mg X.base
 kind:X.env.scope.kind=.function
 glob:X.env.globals=mainGlobals
 blt:X.env.builtins=builtinsNs
 above:X.s₀.heap.objs.size<=X.env.locals
 inj:∀x y c,X.env.cells.lookup x=some c->X.env.cells.lookup y=some c->x=y
 has:∀x,(X.env.kindOf x=some .cell\/X.env.kindOf x=some .free)->∃c,X.env.cells.lookup x=some c
 cab:∀x c,X.fn x=true->X.env.cells.lookup x=some c->X.s₀.heap.objs.size<=c
 hd:X.calm=true->X.A.handled=none
 frames:X.A.frames=some X.stack
 stk:X.stack=X.outer\/(X.stack=X.env::X.outer/\X.env.frame=some X.env.locals)
 exf:∀b∈X.ex,b≠X.env.locals/\∀x c,X.env.cells.lookup x=some c->c≠b
 bs:∀b o,X.base.get? b=some o->X.s₀.heap.get? b=some o/\X.H₀ b=none
 bsz:X.base.objs.size<=X.s₀.heap.objs.size
 noex:∀b o,X.base.get? b=some o->b∉X.ex
 exfs:∀b∈X.ex,b∉X.fs
 funs:X.s₀.heap.FunFrames X.base X.outer
 frf:∀b∈X.fs,X.H₀ b=none
structure Inv(X:Cx)(pins:List (Addr×Obj))(σ:List (Option V))(H:Hp)(s:Shared):Prop where
 ok:X.Ok
 os:s.os=X.s₀.os
 bare:AllBare s.gens
 base:Un X.fs X.ex X.H₀ H X.s₀.heap s.heap
 loc:∃m,s.heap.Ns X.env.locals m/\∀(i:Nat)(x:Str)(v:V),X.N[i]?=some x->σ[i]?=some (some v)->Vis X.env.scope x->∃u,RelV v u/\Look X.env s.heap m x u
 cell:∀x c,X.env.cells.lookup x=some c->∃v,s.heap.IsCell c v
 free:H X.env.locals=none
 freeC:∀x c,X.env.cells.lookup x=some c->H c=none
 pin:∀p∈X.pn++pins,s.heap.get? p.1=some p.2/\H p.1=none/\p.1≠X.env.locals/\p.1∉X.fs/\∀v,p.2.data≠.cell v
 hok:HOk X.prog X.w H s.heap
 len:σ.length=X.N.length
section
variable{X:Cx}{pins:List (Addr×Obj)}{σ:List (Option V)}{H H':Hp}{s:Shared}{h':Heap}
theorem Cx.Ok.nofr(ok:X.Ok){b:Addr}{o:Obj}(e:X.base.get? b=some o):b∉X.fs:=λhb=>by
 have:=(ok.funs.mem hb).1
 rw[e]at this;cases this
theorem Inv.bs(I:Inv X pins σ H s):∀b o,X.base.get? b=some o->s.heap.get? b=some o/\H b=none:=λb o e=>
 ⟨I.base.keep b o (I.ok.bs b o e).1 (I.ok.bs b o e).2 (I.ok.nofr e) (I.ok.noex b o e),I.base.free b o (I.ok.bs b o e).1 (I.ok.bs b o e).2 (I.ok.noex b o e)⟩
theorem Inv.bk(I:Inv X pins σ H s):∀b o,X.base.get? b=some o->s.heap.get? b=some o:=λb o e=>(I.bs b o e).1
theorem Inv.mod(I:Inv X pins σ H s):Mod X.K X.mg X.base:=I.ok.mod
theorem Inv.kIn(I:Inv X pins σ H s):X.K.In s.heap:=I.ok.mod.kin.keeps I.bk
theorem Inv.lt(I:Inv X pins σ H s):X.env.locals<s.heap.objs.size:=let⟨_,hn,_⟩:=I.loc;hn.lt
theorem Inv.sz(I:Inv X pins σ H s):X.s₀.heap.objs.size<=s.heap.objs.size:=va3 I.ok.above (vcu I.lt)
theorem Inv.nofs(I:Inv X pins σ H s){a:Addr}(h:s.heap.objs.size<=a):a∉X.fs:=λhb=>by
 obtain⟨_,o,ho,_⟩:=I.ok.funs.mem hb
 exact absurd (vae (vai ho) (va3 I.sz h)) (vby _)
theorem Inv.cne(I:Inv X pins σ H s):∀x c,X.env.cells.lookup x=some c->c≠X.env.locals:=λx c e z=>by
 obtain⟨v,o,ho,hd⟩:=I.cell x c e
 obtain⟨m,⟨o',es,ep,ho',hd',_⟩,_⟩:=I.loc
 rw[z,ho']at ho;cases ho;rw[hd']at hd;cases hd
theorem Inv.funs(I:Inv X pins σ H s):s.heap.FunFrames X.base X.outer:=by
 have all:∀(l:List Env),(∀b∈frs l,b∈X.fs)->X.s₀.heap.FunFrames X.base l->s.heap.FunFrames X.base l:=by
  intro l
  induction l with
  |nil=>intro _ _;trivial
  |cons env r ih=>
   intro hs hl
   obtain⟨hk,⟨L,o,hf,hn,ho,hd⟩,hr⟩:=hl
   have hL:L∈X.fs:=hs L (by unfold frs;rw[vbt,hf];exact vaz)
   obtain⟨sl,e⟩:=I.base.slot L o ho (I.ok.frf L hL) hL λz=>I.ok.exfs L z hL
   exact⟨hk,⟨L,_,hf,hn,e,hd⟩,ih (λb hb=>hs b (by unfold frs;rw[vbt,hf];exact van _ hb)) hr⟩
 exact all X.outer (λ_ hb=>hb) I.ok.funs
theorem Inv.stack(I:Inv X pins σ H s):s.heap.FunFrames X.base X.stack:=by
 rcases I.ok.stk with e|⟨e,hf⟩
 .rw[e];exact I.funs
 .rw[e]
  obtain⟨m,hn,_⟩:=I.loc
  refine .cons (by rw[I.ok.kind];decide) hf hn ?_ I.funs
  exact Heap.get?_none_of_le (va3 I.ok.bsz I.ok.above)
theorem Inv.stkSub(I:Inv X pins σ H s):∀b∈frs X.stack,b∈X.env.locals::X.fs:=λb hb=>by
 rcases I.ok.stk with e|⟨e,hf⟩
 .rw[e]at hb;exact van _ hb
 .rw[e]at hb
  unfold frs at hb
  rw[vbt,hf]at hb
  exact hb
theorem Inv.stkFree(I:Inv X pins σ H s):∀b∈frs X.stack,H b=none:=λb hb=>by
 rcases va5.mp (I.stkSub b hb)with e|hb
 .rw[e];exact I.free
 .obtain⟨_,o,ho,_⟩:=I.ok.funs.mem hb
  exact I.base.free b o ho (I.ok.frf b hb) λz=>I.ok.exfs b z hb
theorem Inv.step{g':Array GenState}{t':Nat}{d':Drawn}{ch:List Addr}(I:Inv X pins σ H s)
 (hch:∀b∈ch,(b∈X.ex\/X.s₀.heap.objs.size<=b)/\b≠X.env.locals/\(∀x c,X.env.cells.lookup x=some c->c≠b)/\∀p∈X.pn++pins,p.1≠b)
 (keep:∀b o,b≠X.env.locals->b∉X.fs->b∉ch->s.heap.get? b=some o->H b=none->h'.get? b=some o)
 (slot:∀b o,b≠X.env.locals->b∈X.fs->b∉ch->s.heap.get? b=some o->H b=none->∃sl,h'.get? b=some {o with slots:=sl}) (free:∀b o,b∉ch->s.heap.get? b=some o->H b=none->H' b=none)
 (there:∀b o,b∉ch->s.heap.get? b=some o->∃o',h'.get? b=some o')
 (tups:∀b xs,H b=some (.tup xs)->H' b=some (.tup xs)) (frzs:∀b o u,H b=some (.frz o u)->H' b=some (.frz o u)) (tbls:∀b ps,H b=some (.tbl ps)->∃more,H' b=some (.tbl (ps++more)))
 (ns:∀m,s.heap.Ns X.env.locals m->h'.Ns X.env.locals m) (hok:HOk X.prog X.w H' h') (hg:AllBare g') :
 Inv X pins σ H' {s with heap:=h',gens:=g',drawn:=d',toks:=t'}:=by
 have neL:∀b o,X.s₀.heap.get? b=some o->b≠X.env.locals:=λb o e=>vas (vae (vai e) I.ok.above)
 have neC:∀b o,X.s₀.heap.get? b=some o->b∉X.ex->b∉ch:=λb o e hx hb=>by
  rcases(hch b hb).1 with z|z
  .exact hx z
  .exact absurd (vae (vai e) z) (vby _)
 have cellK:∀x c,X.env.cells.lookup x=some c->∀v,s.heap.IsCell c v->h'.IsCell c v:=λx c e v hq0=>by
  obtain⟨o,ho,hd⟩:=hq0
  have nch:c∉ch:=λz=>(hch c z).2.2.1 x c e rfl
  by_cases hc:c∈X.fs
  .obtain⟨sl,q⟩:=slot c o (I.cne x c e) hc nch ho (I.freeC x c e)
   exact⟨_,q,hd⟩
  .exact⟨o,keep c o (I.cne x c e) hc nch ho (I.freeC x c e),hd⟩
 refine⟨I.ok,I.os,hg,⟨λb o e n hb hx=>?_,λb o e n hb hx=>?_,λb o e n hx=>?_,λb o e hx=>?_,λb xs e=>tups b xs (I.base.tups b xs e),λb o xs e=>frzs b o xs (I.base.frzs b o xs e),λb ps e=>?_⟩,?_,λx c e=>?_,?_,λx c e=>?_,λp hp=>?_,hok,I.len⟩
 .exact keep b o (neL b o e) hb (neC b o e hx) (I.base.keep b o e n hb hx) (I.base.free b o e n hx)
 .obtain⟨sl,e1⟩:=I.base.slot b o e n hb hx
  obtain⟨sl',e2⟩:=slot b _ (neL b o e) hb (neC b o e hx) e1 (I.base.free b o e n hx)
  exact⟨sl',e2⟩
 .obtain⟨o',e1⟩:=I.base.there b o e hx
  exact free b o' (neC b o e hx) e1 (I.base.free b o e n hx)
 .obtain⟨o',e1⟩:=I.base.there b o e hx
  exact there b o' (neC b o e hx) e1
 .obtain⟨m1,e1⟩:=I.base.tbls b ps e
  obtain⟨m2,e2⟩:=tbls b _ e1
  exact⟨m1++m2,by rw[e2,Array.append_assoc]⟩
 .obtain⟨m,hn,hl⟩:=I.loc
  refine⟨m,ns m hn,λi x v e1 e2 e3=>?_⟩
  obtain⟨u,r,l⟩:=hl i x v e1 e2 e3
  refine⟨u,r,?_⟩
  rcases l with l|⟨k,c,e,z⟩
  .exact .inl l
  .exact .inr ⟨k,c,e,cellK x c e _ z⟩
 .obtain⟨v,z⟩:=I.cell x c e
  exact⟨v,cellK x c e v z⟩
 .obtain⟨m,⟨o,_,_,ho,_⟩,_⟩:=I.loc
  exact free _ o (λz=>(hch _ z).2.1 rfl) ho I.free
 .obtain⟨v,o,ho,hd⟩:=I.cell x c e
  exact free c o (λz=>(hch c z).2.2.1 x c e rfl) ho (I.freeC x c e)
 .obtain⟨e,n,ne,nf,d⟩:=I.pin p hp
  have nch:p.1∉ch:=λz=>(hch p.1 z).2.2.2 p hp rfl
  exact⟨keep p.1 p.2 ne nf nch e n,free p.1 p.2 nch e n,ne,nf,d⟩
theorem Inv.un{t':Nat}(I:Inv X pins σ H s)(u:Un X.fs [] H H' s.heap h')(hok:HOk X.prog X.w H' h'):Inv X pins σ H' {s with heap:=h',toks:=t'}:=by
 obtain⟨m,⟨o,es,ep,ho,r⟩,_⟩:=id I.loc
 obtain⟨sl,hL⟩:=u.any ho I.free (by simp)
 exact I.step (g':=s.gens) (d':=s.drawn) (ch:=[]) (λ_ z=>nomatch z) (λb o _ hb _ e n=>u.keep b o e n hb (by simp)) (λb o _ hb _ e n=>u.slot b o e n hb (by simp)) (λb o _ e n=>u.free b o e n (by simp)) (λb o _ e=>u.there b o e (by simp)) u.tups u.frzs u.tbls (λm' hm=>by
  obtain⟨o',es',ep',ho',r'⟩:=hm
  rw[ho]at ho';cases ho'
  exact⟨_,es',ep',hL,r'⟩) hok I.bare
theorem Inv.call{g':Array GenState}{t':Nat}{d':Drawn}{ch:List Addr}(I:Inv X pins σ H s)(u:Un (frs X.stack) ch H H' s.heap h')(hok:HOk X.prog X.w H' h')(hg:AllBare g')
 (hch:∀b∈ch,(b∈X.ex\/X.s₀.heap.objs.size<=b)/\b≠X.env.locals/\(∀x c,X.env.cells.lookup x=some c->c≠b)/\∀p∈X.pn++pins,p.1≠b) :
 Inv X pins σ H' {s with heap:=h',gens:=g',drawn:=d',toks:=t'}:=by
 obtain⟨m,⟨o,es,ep,ho,r⟩,_⟩:=id I.loc
 obtain⟨sl,hL⟩:=u.any ho I.free λz=>(hch _ z).2.1 rfl
 exact I.step (ch:=ch) hch (λb o hL hb hc e n=>u.keep b o e n (λz=>(va5.mp (I.stkSub b z)).elim hL hb) hc) (λb o _ _ hc e n=>u.any e n hc) (λb o hc e n=>u.free b o e n hc) (λb o hc e=>u.there b o e hc) u.tups u.frzs u.tbls (λm' hm=>by
  obtain⟨o',es',ep',ho',r'⟩:=hm
  rw[ho]at ho';cases ho'
  exact⟨_,es',ep',hL,r'⟩) hok hg
theorem Inv.turned{t':Nat}{it:Addr}(I:Inv X pins σ H s)(k:∀b o,b≠it->s.heap.get? b=some o->h'.get? b=some o)(hn:H it=none)(hL:it≠X.env.locals)
 (h1:it∈X.ex\/X.s₀.heap.objs.size<=it) (h2:∀x c,X.env.cells.lookup x=some c->c≠it) (h3:∀p∈X.pn++pins,p.1≠it):Inv X pins σ H {s with heap:=h',toks:=t'}:=by
 have nit:∀b u,H b=some u->b≠it:=λb u e z=>by rw[z,hn]at e;cases e
 refine I.step (g':=s.gens) (d':=s.drawn) (ch:=[it]) (λb hb=>?_) (λb o _ _ hc e _=>k b o (λz=>hc (by simp[z])) e) (λb o _ _ hc e _=>⟨o.slots,k b o (λz=>hc (by simp[z])) e⟩) (λ_ _ _ _ n=>n)
  (λb o hc e=>⟨o,k b o (λz=>hc (by simp[z])) e⟩) (λ_ _ e=>e) (λ_ _ _ e=>e) (λb ps e=>⟨#[],by rw[e];simp⟩) (λm hm=>?_) (λb u e=>?_) I.bare
 .have e:b=it:=by simpa using hb
  subst e
  exact⟨h1,hL,h2,h3⟩
 .obtain⟨o,es,ep,ho,r⟩:=hm
  exact⟨o,es,ep,k _ o (vb3 hL) ho,r⟩
 .refine(I.hok b u e).stay (λc v hc q=>k c v ?_ q) (λ_ q=>q) λ_ _ q=>q
  rcases hc with z|z
  .rw[z];exact nit b u e
  .exact nit c _ z
theorem Inv.tok(I:Inv X pins σ H s)(t:Nat):Inv X pins σ H {s with toks:=t}:=I.un (h':=s.heap) (t':=t) Un.refl I.hok
theorem Inv.kept{t':Nat}(I:Inv X pins σ H s)(k:∀b u,s.heap.get? b=some u->h'.get? b=some u):Inv X pins σ H {s with heap:=h',toks:=t'}:=I.un (Un.kept k) (I.hok.kept k)
theorem Inv.laid{a:Addr}{o:HO}{t':Nat}(I:Inv X pins σ H s)(k:∀b u,s.heap.get? b=some u->h'.get? b=some u)(hp:s.heap.objs.size<=a)(new:ObjOk X.prog X.w (upd H a o) h' a o) :
 Inv X pins σ (upd H a o) {s with heap:=h',toks:=t'}:=I.un (Un.laid k hp (I.hok.fresh hp)) (I.hok.laid k hp new)
theorem Inv.write{x e:Addr}{o:HO}{t':Nat}(I:Inv X pins σ H s)(mu:Mut (H x))(he:e=x\/H e=some (.own x))(k:∀b u,b≠e->s.heap.get? b=some u->h'.get? b=some u)(heo:∃u,h'.get? e=some u)
 (new:ObjOk X.prog X.w (upd H x o) h' x o):Inv X pins σ (upd H x o) {s with heap:=h',toks:=t'}:=I.un (Un.write mu he k heo) (I.hok.write mu he k heo new)
theorem Inv.pins_of{pins':List (Addr×Obj)}(I:Inv X pins σ H s)(h:∀p∈pins',s.heap.get? p.1=some p.2/\H p.1=none/\p.1≠X.env.locals/\p.1∉X.fs/\∀v,p.2.data≠.cell v):Inv X pins' σ H s:=
 ⟨I.ok,I.os,I.bare,I.base,I.loc,I.cell,I.free,I.freeC,λp hp=>(List.mem_append.mp hp).elim (λz=>I.pin p (List.mem_append_left _ z)) (h p),I.hok,I.len⟩
theorem zd5{N:List Str}(hN:N.Nodup){i j:Nat}{x:Str}(a:N[i]?=some x)(b:N[j]?=some x):i=j:=by
 obtain⟨h1,e1⟩:=vak.mp a
 obtain⟨h2,e2⟩:=vak.mp b
 exact(List.getElem_inj hN).mp (e1.trans e2.symm)
theorem zey{M:Model}{A:Around}{E:Value->Shared->Prop}{i:Nat}{x:Str}{v:V}{u:Value}{Q:Unit->Shared->Prop}(I:Inv X pins σ H s)(hN:X.N.Nodup)(hi:X.N[i]?=some x)(hx:Loc X.env.scope x)(r:RelV v u)
 (h:∀s',Inv X pins (σ.set i (some v)) H s'->(∃a,Heap.SameBut a s.heap s'.heap/\(a=X.env.locals\/X.env.cells.lookup x=some a))->Q () s') (hf:X.fn x=true\/X.env.scope.names.lookup x=some .local:=by first|exact .inl rfl|exact .inr rfl|assumption):wpAny M A (storeName X.env x u) Q E s:=by
 obtain⟨m,hn,hl⟩:=id I.loc
 have hcls:(X.env.scope.kind == .class|| (X.env.scope.kind == .module&&X.env.locals != X.env.globals))=false:=by rw[I.ok.kind];rfl
 have hiσ:i<σ.length:=by rw[I.len];exact(vak.mp hi).1
 have cne:=I.cne
 have tracked:∀{a:Addr}{h':Heap},(∃o,s.heap.get? a=some o/\H a=none)->Heap.SameBut a s.heap h'->HOk X.prog X.w H h':=λ{a h'} ha hs b ob e=>by
  obtain⟨_,_,hfree⟩:=ha
  refine(I.hok b ob e).stay (λc w' hc q=>(hs.2 c ?_).trans q) (λ_ q=>q) λ_ _ q=>q
  rintro rfl
  rcases hc with rfl|hc
  .rw[hfree]at e;cases e
  .rw[hfree]at hc;cases hc
 rcases hx with hk|hk
 .refine wpAny_storeName_local hk hn (λh' hn' hs=>?_) hcls
  obtain⟨oL,_,_,hoL,_⟩:=id hn
  refine h _ ⟨I.ok,I.os,I.bare,⟨λb o e n hb hx=>?_,λb o e n hb hx=>?_,I.base.free,λb o e hx=>?_,I.base.tups,I.base.frzs,I.base.tbls⟩,⟨_,hn',λj y v' e1 e2 e3=>?_⟩,λy c e=>?_,I.free,I.freeC,λp hp=>?_,tracked ⟨oL,hoL,I.free⟩ hs,by simpa using I.len⟩ ⟨_,hs,.inl rfl⟩
  .exact(hs.2 b (vas (vae (vai e) I.ok.above))).trans (I.base.keep b o e n hb hx)
  .obtain⟨sl,e1⟩:=I.base.slot b o e n hb hx
   exact⟨sl,(hs.2 b (vas (vae (vai e) I.ok.above))).trans e1⟩
  .obtain⟨o',e1⟩:=I.base.there b o e hx
   exact⟨o',(hs.2 b (vas (vae (vai e) I.ok.above))).trans e1⟩
  .by_cases hj:j=i
   .subst hj
    rw[hi]at e1;cases e1
    rw[va0 hiσ]at e2
    cases e2
    exact⟨u,r,.inl ⟨hk,by simp⟩⟩
   .rw[vbr (vb3 hj)]at e2
    obtain⟨u',r',q⟩:=hl j y v' e1 e2 e3
    refine⟨u',r',?_⟩
    rcases q with⟨k,e⟩|⟨k,c,e,z⟩
    .refine .inl ⟨k,?_⟩
     have:y≠x:=λe=>hj (zd5 hN e1 (e▸hi))
     simp[this,e]
    .exact .inr ⟨k,c,e,z.sameBut hs (cne y c e)⟩
  .obtain⟨w',z⟩:=I.cell y c e
   exact⟨w',z.sameBut hs (cne y c e)⟩
  .obtain⟨e,n,ne,nf,d⟩:=I.pin p hp
   exact⟨(hs.2 p.1 ne).trans e,n,ne,nf,d⟩
 .have hfn:X.fn x=true:=by
   rcases hf with z|z
   .exact z
   .rw[z]at hk;cases hk
  obtain⟨c,hc⟩:=I.ok.has x (.inl hk)
  obtain⟨w',z⟩:=I.cell x c hc
  refine wpAny_storeName_cell I.ok.kind hk hc z (λh' hc' hs=>?_)
  obtain⟨oc,hoc,hocd⟩:=id z
  refine h {s with heap:=h'} ⟨I.ok,I.os,I.bare,⟨λb o e n hb hx=>?_,λb o e n hb hx=>?_,I.base.free,λb o e hx=>?_,I.base.tups,I.base.frzs,I.base.tbls⟩,⟨m,hn.sameBut hs (vb3 (cne x c hc)),λj y v' e1 e2 e3=>?_⟩,λy c' e=>?_,I.free,I.freeC,λp hp=>?_,tracked ⟨oc,hoc,I.freeC x c hc⟩ hs,by simpa using I.len⟩ ⟨c,hs,.inr hc⟩
  .exact(hs.2 b (vas (vae (vai e) (I.ok.cab x c hfn hc)))).trans (I.base.keep b o e n hb hx)
  .obtain⟨sl,e1⟩:=I.base.slot b o e n hb hx
   exact⟨sl,(hs.2 b (vas (vae (vai e) (I.ok.cab x c hfn hc)))).trans e1⟩
  .obtain⟨o',e1⟩:=I.base.there b o e hx
   exact⟨o',(hs.2 b (vas (vae (vai e) (I.ok.cab x c hfn hc)))).trans e1⟩
  .by_cases hj:j=i
   .subst hj
    rw[hi]at e1;cases e1
    rw[va0 hiσ]at e2
    cases e2
    exact⟨u,r,.inr ⟨.inl hk,c,hc,hc'⟩⟩
   .rw[vbr (vb3 hj)]at e2
    obtain⟨u',r',q⟩:=hl j y v' e1 e2 e3
    refine⟨u',r',?_⟩
    rcases q with q|⟨k,c',e,z'⟩
    .exact .inl q
    .refine .inr ⟨k,c',e,z'.sameBut hs ?_⟩
     rintro rfl
     exact hj (zd5 hN e1 (I.ok.inj _ _ _ e hc▸hi))
  .by_cases hcc:c'=c
   .subst hcc;exact⟨_,hc'⟩
   .obtain⟨w2,z2⟩:=I.cell y c' e
    exact⟨w2,z2.sameBut hs hcc⟩
  .obtain⟨e,n,ne,nf,d⟩:=I.pin p hp
   refine⟨(hs.2 p.1 ?_).trans e,n,ne,nf,d⟩
   intro q
   rw[q,hoc]at e
   have q':oc=p.2:=va6 e
   exact d w' (by rw[<-q'];exact hocd)
theorem zch{M:Model}{A:Around}{E:Value->Shared->Prop}{i:Nat}{x:Str}{v:V}{u:Value}{Q:Unit->Shared->Prop}(I:Inv X pins σ H s)(hN:X.N.Nodup)(hi:X.N[i]?=some x)(hx:Loc X.env.scope x)(r:RelV v u)
 (h:∀s',Inv X pins (σ.set i (some v)) H s'->Q () s') (hf:X.fn x=true\/X.env.scope.names.lookup x=some .local:=by first|exact .inl rfl|exact .inr rfl|assumption):wpAny M A (storeName X.env x u) Q E s:=
 zey I hN hi hx r (λs' I' _=>h s' I') hf
theorem Inv.call'{s':Shared}{ch:List Addr}(I:Inv X pins σ H s)(ho:s'.os=s.os)(u:Un (frs X.stack) ch H H' s.heap s'.heap)(hok:HOk X.prog X.w H' s'.heap)(hg:AllBare s'.gens)
 (hch:∀b∈ch,(b∈X.ex\/X.s₀.heap.objs.size<=b)/\b≠X.env.locals/\(∀x c,X.env.cells.lookup x=some c->c≠b)/\∀p∈X.pn++pins,p.1≠b):Inv X pins σ H' s':=by
 obtain⟨h',g',d',t',o'⟩:=s'
 have e:o'=s.os:=ho
 subst e
 exact I.call (g':=g') (t':=t') (d':=d') u hok hg hch
end
noncomputable abbrev XK:=Value->Option Addr->Hp->Prop
noncomputable abbrev St:=List (Option V)
noncomputable abbrev VK:=V->Hp->Prop
noncomputable abbrev TE:=St->Hp->VK->Prop
noncomputable abbrev TT:=St->Hp->(Bool->Hp->Prop)->Prop
noncomputable abbrev TA:=St->Hp->(List V->Hp->Prop)->Prop
set_option genInjectivity false in
structure Ends where
 nx:St->Hp->Prop
 rt:VK
 bk:St->Hp->Prop:=λ_ _=>False
 ct:St->Hp->Prop:=λ_ _=>False
noncomputable abbrev TS:=Ends->St->Hp->Prop
noncomputable def EP(X:Cx)(pins:List (Addr×Obj))(σ:St)(Q:VK)(u:Value)(s':Shared):Prop:=∃v H',Inv X pins σ H' s'/\RelV v u/\Q v H'
noncomputable def TP(X:Cx)(pins:List (Addr×Obj))(σ:St)(Q:Bool->Hp->Prop)(b:Bool)(s':Shared):Prop:=∃H',Inv X pins σ H' s'/\Q b H'
noncomputable def AP(X:Cx)(pins:List (Addr×Obj))(σ:St)(Q:List V->Hp->Prop)(us:List Value)(s':Shared):Prop:=∃vs H',Inv X pins σ H' s'/\Vals vs us/\Q vs H'
theorem EP.el{X:Cx}{pins:List (Addr×Obj)}{σ:St}{Q:VK}{u:Value}{s':Shared}{P:Prop}(q:EP X pins σ Q u s')(k:∀v H',Inv X pins σ H' s'->RelV v u->Q v H'->P):P:=by
 obtain⟨v,H',a,b,c⟩:=q
 exact k v H' a b c
theorem TP.el{X:Cx}{pins:List (Addr×Obj)}{σ:St}{Q:Bool->Hp->Prop}{b:Bool}{s':Shared}{P:Prop}(q:TP X pins σ Q b s')(k:∀H',Inv X pins σ H' s'->Q b H'->P):P:=by
 obtain⟨H',a,c⟩:=q
 exact k H' a c
theorem AP.el{X:Cx}{pins:List (Addr×Obj)}{σ:St}{Q:List V->Hp->Prop}{us:List Value}{s':Shared}{P:Prop}(q:AP X pins σ Q us s')(k:∀vs H',Inv X pins σ H' s'->Vals vs us->Q vs H'->P):P:=by
 obtain⟨v,H',a,b,c⟩:=q
 exact k v H' a b c
noncomputable def SP(X:Cx)(pins:List (Addr×Obj))(D:Ends)(f:Flow)(s':Shared):Prop:=
 match f with
 |.next=>∃σ' H',Inv X pins σ' H' s'/\D.nx σ' H'
 |.brk=>∃σ' H',Inv X pins σ' H' s'/\D.bk σ' H'
 |.cont=>∃σ' H',Inv X pins σ' H' s'/\D.ct σ' H'
 |.ret u=>∃v σ' H',Inv X pins σ' H' s'/\RelV v u/\D.rt v H'
noncomputable def PE(X:Cx)(e:Expr)(t:TE):Prop:=
 ∀(pins:List (Addr×Obj))(s:Shared)(σ:St)(H:Hp)(Q:VK),Inv X pins σ H s->t σ H Q->wpAny (model X.prog X.w) X.A (eval e X.env) (EP X pins σ Q) X.xe s
noncomputable def PT(X:Cx)(e:Expr)(t:TT):Prop:=
 ∀(pins:List (Addr×Obj))(s:Shared)(σ:St)(H:Hp)(Q:Bool->Hp->Prop),Inv X pins σ H s->t σ H Q->wpAny (model X.prog X.w) X.A (isTrue e X.env (eval e X.env)) (TP X pins σ Q) X.xe s
noncomputable def PW(X:Cx)(e:Expr)(t:TT):Prop:=
 ∀(whole:Sem Value)(pins:List (Addr×Obj))(s:Shared)(σ:St)(H:Hp)(Q:Bool->Hp->Prop),Inv X pins σ H s->t σ H Q->wpAny (model X.prog X.w) X.A (isTrue e X.env whole) (TP X pins σ Q) X.xe s
theorem PW.pt{X:Cx}{e:Expr}{t:TT}(h:PW X e t):PT X e t:=h _
noncomputable def PA(X:Cx)(es:List Expr)(t:TA):Prop:=
 ∀(pos:Pos)(pins:List (Addr×Obj))(s:Shared)(σ:St)(H:Hp)(Q:List V->Hp->Prop),Inv X pins σ H s->t σ H Q->wpAny (model X.prog X.w) X.A (spliced (backTo pos (starEach es X.env))) (AP X pins σ Q) X.xe s
noncomputable def PS(X:Cx)(st:Stmt)(t:TS):Prop:=
 ∀(pins:List (Addr×Obj))(s:Shared)(σ:St)(H:Hp)(D:Ends),Inv X pins σ H s->t D σ H->wpAny (model X.prog X.w) X.A (exec st X.env) (SP X pins D) X.xe s
noncomputable def PSs(X:Cx)(st:List Stmt)(t:TS):Prop:=
 ∀(pins:List (Addr×Obj))(s:Shared)(σ:St)(H:Hp)(D:Ends),Inv X pins σ H s->t D σ H->wpAny (model X.prog X.w) X.A (execs st X.env) (SP X pins D) X.xe s
theorem thn{α:Type}{t:Sem α}{Q Q':α->Shared->Prop}{M:Model}{A:Around}{E:Value->Shared->Prop}{s:Shared}(h:wpAny M A t Q E s)(hQ:∀a s,Q a s->Q' a s):wpAny M A t Q' E s:=vbm h hQ λ_ _ x=>x
section
variable{X:Cx}
noncomputable def tVar(i:Nat):TE:=λσ H Q=>∃v,σ[i]?=some (some v)/\Q v H
noncomputable def tC(v:V):TE:=λ_ H Q=>Q v H
theorem zhz{i:Nat}{x:Str}{pos:Pos}(hN:X.N[i]?=some x)(hv:Vis X.env.scope x)(hd:(x==("__debug__" : Str))=false:=by decide)(hcd:(x==("__classdict__" : Str))=false:=by decide):PE X (.Name x pos) (tVar i):=by
 intro pins s σ H Q I h
 obtain⟨v,e,h⟩:=h
 obtain⟨m,hn,hl⟩:=I.loc
 obtain⟨u,r,l⟩:=hl i x v hN e hv
 have fin:EP X pins σ Q u s:=⟨v,H,I,r,h⟩
 rcases l with⟨hk,hm⟩|⟨hk,c,hc,hcell⟩
 .exact wpAny_Name (wpAny_loadName_local I.ok.kind hk hn hm fin) hd
 .rcases hk with hk|hk
  .exact wpAny_Name (wpAny_loadName_cell I.ok.kind hk hc hcell fin) hd
  .exact wpAny_Name (wpAny_loadName_free I.ok.kind hk hc hcell fin hcd) hd
theorem zlt{i j pos}:PE X (.Constant (.int i) j pos) (tC (.int i)):=λ_ _ _ H _ I h=>wpAny_Constant_int ⟨.int i,H,I.tok _,⟨_,rfl⟩,h⟩
theorem pe_bl{b j pos}:PE X (.Constant (.bool b) j pos) (tC (.bl b)):=λ_ _ _ H _ I h=>Constant_bool ⟨.bl b,H,I,rfl,h⟩
theorem zo4{j pos}:PE X (.Constant .none j pos) (tC .non):=λ_ _ _ H _ I h=>Constant_none ⟨.non,H,I,rfl,h⟩
theorem zh0{x j pos}:PE X (.Constant (.str x) j pos) (tC (.str x)):=λ_ _ _ H _ I h=>Calls.Constant_str ⟨.str x,H,I.tok _,⟨_,rfl⟩,h⟩
noncomputable def Gl(X:Cx)(x:Str):Prop:=X.env.kindOf x=some .globalImplicit
theorem zbg{E:Value->Shared->Prop}{pins:List (Addr×Obj)}{s:Shared}{σ:St}{H:Hp}{x:Str}{u:Value}{pos:Pos}{Q:Value->Shared->Prop}(I:Inv X pins σ H s)(hg:Gl X x)(hm:X.mg x=some u)(h:Q u s)
 (hd:(x==("__debug__" : Str))=false:=by decide):wpAny (model X.prog X.w) X.A (eval (.Name x pos) X.env) Q E s:=
 Calls.Name_function_global I.ok.kind hg (Calls.loadGlobal_global (by rw[I.ok.glob];exact I.mod.glob.keeps I.bk) hm h) hd
theorem zde{E:Value->Shared->Prop}{pins:List (Addr×Obj)}{s:Shared}{σ:St}{H:Hp}{x:Str}{u:Value}{pos:Pos}{Q:Value->Shared->Prop}(I:Inv X pins σ H s)(hg:Gl X x)(hm:X.mg x=none)(hv:bootBuiltins x=some u)(h:Q u s)
 (hn:x≠"__name__":=by decide) (hd:(x==("__debug__" : Str))=false:=by decide):wpAny (model X.prog X.w) X.A (eval (.Name x pos) X.env) Q E s:=by
 obtain⟨mb,h1,h2⟩:=I.mod.blt
 exact Calls.Name_function_global I.ok.kind hg (Calls.loadGlobal_builtin (by rw[I.ok.glob];exact I.mod.glob.keeps I.bk) hm (by rw[I.ok.blt];exact h1.keeps I.bk) ((h2 x hn).trans hv) h) hd
theorem zh1{x:Str}{v:V}{u:Value}{pos:Pos}(hg:Gl X x)(hm:X.mg x=some u)(r:RelV v u)(hd:(x==("__debug__" : Str))=false:=by decide):PE X (.Name x pos) (tC v):=
 λ_ _ _ H _ I h=>zbg I hg hm ⟨v,H,I,r,h⟩ hd
theorem zh2{x:Str}{v:V}{u:Value}{pos:Pos}(hg:Gl X x)(hm:X.mg x=none)(hv:bootBuiltins x=some u)(r:RelV v u)(hn:x≠"__name__":=by decide)(hd:(x==("__debug__" : Str))=false:=by decide):PE X (.Name x pos) (tC v):=
 λ_ _ _ H _ I h=>zde I hg hm hv ⟨v,H,I,r,h⟩ hn hd
variable{a b:Expr}{ta tb:TE}{pos:Pos}
noncomputable def tB(t:TE):TT:=λσ H Q=>t σ H λx H1=>∃c,x=.bl c/\Q c H1
theorem zo5{e:Expr}{t:TE}(h:PE X e t)(he:∀whole,isTrue e X.env whole=(do let v <-whole;standAt e.pos;holding [v] (truthy v)):=by intro _;rfl):PT X e (tB t):=by
 intro pins s σ H Q I hw
 refine isTrue_plain (thn (h pins s σ H _ I hw) λv s1 z9=>z9.el λx H1 I1 r1 q1=>?_) (he _)
 obtain⟨d,rfl,q⟩:=q1
 cases r1
 exact vbe ⟨H1,I1,q⟩
variable{tA tB':TT}{rest:List Expr}
noncomputable def tAnd(t u:TT):TT:=λσ H Q=>t σ H λc H1=>if c=true then u σ H1 Q else Q false H1
noncomputable def tOr(t u:TT):TT:=λσ H Q=>t σ H λc H1=>if c=true then Q true H1 else u σ H1 Q
noncomputable def tNot(t:TT):TT:=λσ H Q=>t σ H λc H1=>Q (!c) H1
theorem zmv(ha:PT X a tA):PW X (.BoolOp .And [a] pos) tA:=by
 intro wh pins s σ H Q I h
 refine isTrue_and (thn (ha pins s σ H Q I h) λc s1 e=>?_)
 cases c with
 |true=>exact isTrue_and_nil e
 |false=>exact e
theorem zlu(ha:PT X a tA):PW X (.BoolOp .Or [a] pos) tA:=by
 intro wh pins s σ H Q I h
 refine isTrue_or (thn (ha pins s σ H Q I h) λc s1 e=>?_)
 cases c with
 |false=>exact isTrue_or_nil e
 |true=>exact e
theorem zo6(ha:PT X a tA)(hb:PW X (.BoolOp .And (b::rest) pos) tB'):PW X (.BoolOp .And (a::b::rest) pos) (tAnd tA tB'):=by
 intro wh pins s σ H Q I h
 refine isTrue_and (thn (ha pins s σ H _ I h) λc s1 z9=>z9.el λH1 I1 q1=>?_)
 cases c with
 |true=>exact hb wh pins s1 σ H1 Q I1 q1
 |false=>exact⟨H1,I1,q1⟩
theorem pw_or(ha:PT X a tA)(hb:PW X (.BoolOp .Or (b::rest) pos) tB'):PW X (.BoolOp .Or (a::b::rest) pos) (tOr tA tB'):=by
 intro wh pins s σ H Q I h
 refine isTrue_or (thn (ha pins s σ H _ I h) λc s1 z9=>z9.el λH1 I1 q1=>?_)
 cases c with
 |true=>exact⟨H1,I1,q1⟩
 |false=>exact hb wh pins s1 σ H1 Q I1 q1
theorem zlv(ha:PT X a tA):PT X (.UnaryOp .Not a pos) (tNot tA):=by
 intro pins s σ H Q I h
 exact isTrue_not (ha pins s σ H (λc H1=>Q (!c) H1) I h)
noncomputable def tAndV(ta tb:TE):TE:=λσ H Q=>ta σ H λx H1=>∃c,x=.bl c/\if c=true then tb σ H1 Q else Q (.bl false) H1
noncomputable def tOrV(ta tb:TE):TE:=λσ H Q=>ta σ H λx H1=>∃c,x=.bl c/\if c=true then Q (.bl true) H1 else tb σ H1 Q
noncomputable def tNotV(ta:TE):TE:=λσ H Q=>ta σ H λx H1=>∃c,x=.bl c/\Q (.bl (!c)) H1
theorem zo7{op}{t:TE}(h:PE X a t):PE X (.BoolOp op [a] pos) t:=λpins s σ H Q I hw=>BoolOp_one (h pins s σ H Q I hw)
theorem zo8(ha:PE X a ta)(hb:PE X (.BoolOp .And (b::rest) pos) tb):PE X (.BoolOp .And (a::b::rest) pos) (tAndV ta tb):=by
 intro pins s σ H Q I h
 refine BoolOp_and (thn (ha pins s σ H _ I h) λv s1 z9=>z9.el λx H1 I1 r1 q1=>?_)
 obtain⟨c,rfl,q1⟩:=q1
 cases r1
 refine vbe ?_
 cases c with
 |true=>exact hb pins s1 σ H1 Q I1 q1
 |false=>exact⟨.bl false,H1,I1,rfl,q1⟩
theorem pe_or(ha:PE X a ta)(hb:PE X (.BoolOp .Or (b::rest) pos) tb):PE X (.BoolOp .Or (a::b::rest) pos) (tOrV ta tb):=by
 intro pins s σ H Q I h
 refine BoolOp_or (thn (ha pins s σ H _ I h) λv s1 z9=>z9.el λx H1 I1 r1 q1=>?_)
 obtain⟨c,rfl,q1⟩:=q1
 cases r1
 refine vbe ?_
 cases c with
 |false=>exact hb pins s1 σ H1 Q I1 q1
 |true=>exact⟨.bl true,H1,I1,rfl,q1⟩
theorem zo9(ha:PE X a ta):PE X (.UnaryOp .Not a pos) (tNotV ta):=by
 intro pins s σ H Q I h
 refine UnaryOp_ (thn (ha pins s σ H _ I h) λv s1 z9=>z9.el λx H1 I1 r1 q1=>?_)
 obtain⟨c,rfl,q1⟩:=q1
 cases r1
 exact not_of (vbe ⟨.bl (!c),H1,I1,rfl,q1⟩)
noncomputable def tIf(t:TT)(ta tb:TE):TE:=λσ H Q=>t σ H λc H1=>if c=true then ta σ H1 Q else tb σ H1 Q
theorem zkd{c:Expr}(hc:PT X c tA)(ha:PE X a ta)(hb:PE X b tb):PE X (.IfExp c a b pos) (tIf tA ta tb):=by
 intro pins s σ H Q I h
 refine wpAny_IfExp (thn (hc pins s σ H _ I h) λd s1 z9=>z9.el λH1 I1 q1=>?_)
 cases d with
 |true=>exact ha pins s1 σ H1 Q I1 q1
 |false=>exact hb pins s1 σ H1 Q I1 q1
end
noncomputable def SqL(K:PySem.W.Frag)(H:Hp)(a:Addr)(xs:List V):Prop:=
 Rd H a (.lst xs)\/
  ∃(o:Obj) (its:Array Value) (n:Nat),K.lookup a=some o/\o.cls=.type "list"/\o.dict=none/\o.data=.seq its n/\its.size<=sizeLine/\Vals xs its.toList
noncomputable def SqT(K:PySem.W.Frag)(H:Hp)(a:Addr)(xs:List V):Prop:=
 Rd H a (.tup xs)\/
  ∃(o:Obj) (its:Array Value) (n:Nat),K.lookup a=some o/\o.cls=.type "tuple"/\o.dict=none/\o.data=.seq its n/\its.size<=sizeLine/\Vals xs its.toList
noncomputable def absV:Value->Option V
 |.none=>some .non
 |.bool b=>some (.bl b)
 |.int i _=>some (.int i)
 |.str x _=>some (.str x)
 |.bytes b _=>some (.byt b)
 |.float b _=>some (.flt b)
 |.ref a=>some (.ref a)
 |.type n=>some (.ty n)
 |_=>none
theorem RelV.abs{x:V}{u:Value}(r:RelV x u):absV u=some x:=by
 cases x with
 |non=>cases r;rfl
 |bl _=>cases r;rfl
 |int _=>obtain⟨t,rfl⟩:=r;rfl
 |str _=>obtain⟨t,rfl⟩:=r;rfl
 |byt _=>obtain⟨t,rfl⟩:=r;rfl
 |flt _=>obtain⟨t,rfl⟩:=r;rfl
 |ref _=>cases r;rfl
 |ty _=>cases r;rfl
theorem RelV.inj{x y:V}{u:Value}(r:RelV x u)(q:RelV y u):x=y:=va6 (r.abs.symm.trans q.abs)
theorem Vals.inj:∀{xs ys:List V} {us:List Value},Vals xs us->Vals ys us->xs=ys
 |_,_,_,.nil,.nil=>rfl
 |_,_,_,.cons r t,.cons r' t'=>by rw[r.inj r',Vals.inj t t']
section
variable{X:Cx}{pins:List (Addr×Obj)}{σ:St}{H:Hp}{s:Shared}{a:Addr}{xs ys:List V}
theorem SqL.of{K:PySem.W.Frag}(h:H a=some (.lst xs)):SqL K H a xs:=.inl (.inl h)
theorem SqT.of{K:PySem.W.Frag}(h:H a=some (.tup xs)):SqT K H a xs:=.inl (.inl h)
theorem Inv.list(I:Inv X pins σ H s)(h:SqL X.K H a xs):∃its:List Value,Vals xs its/\PlainL s.heap a its.toArray/\xs.length<=sizeLine:=by
 rcases h with h|⟨o,its,n,hk,hc,hd,hs,hz,r⟩
 .obtain⟨z,its,n,r,e⟩:=h.ok I.hok
  exact⟨its,r,⟨_,n,e,rfl,rfl,rfl⟩,z⟩
 .refine⟨its.toList,r,⟨o,n,I.kIn a o hk,hc,hd,by simpa using hs⟩,?_⟩
  have e:=r.length
  simp only[vcs]at e
  omega
theorem Inv.tupleD(I:Inv X pins σ H s)(h:SqT X.K H a xs):∃its:List Value,Vals xs its/\zbd s.heap a its.toArray/\xs.length<=sizeLine:=by
 rcases h with h|⟨o,its,n,hk,hc,hd,hs,hz,r⟩
 .obtain⟨z,its,r,p⟩:=h.ok I.hok
  exact⟨its,r,p,z⟩
 .refine⟨its.toList,r,⟨o,I.kIn a o hk,hc,⟨n,by simpa using hs⟩,hd⟩,?_⟩
  have e:=r.length
  simp only[vcs]at e
  omega
theorem Inv.tuple(I:Inv X pins σ H s)(h:SqT X.K H a xs):∃its:List Value,Vals xs its/\IsTup s.heap a its.toArray/\xs.length<=sizeLine:=by
 obtain⟨its,r,p,z⟩:=I.tupleD h
 exact⟨its,r,p.tup,z⟩
theorem Inv.list_inj(I:Inv X pins σ H s)(h:SqL X.K H a xs)(h':SqL X.K H a ys):xs=ys:=by
 obtain⟨its,r,⟨o,n,e,_,_,d⟩,_⟩:=I.list h
 obtain⟨its',r',⟨o',n',e',_,_,d'⟩,_⟩:=I.list h'
 rw[e]at e';cases e'
 rw[d]at d'
 injection d' with d1 _
 have:its=its':=by simpa using vcx Array.toList d1
 subst this
 exact r.inj r'
theorem Inv.tuple_inj(I:Inv X pins σ H s)(h:SqT X.K H a xs)(h':SqT X.K H a ys):xs=ys:=by
 obtain⟨its,r,⟨o,e,_,n,d⟩,_⟩:=I.tuple h
 obtain⟨its',r',⟨o',e',_,n',d'⟩,_⟩:=I.tuple h'
 rw[e]at e';cases e'
 rw[d]at d'
 injection d' with d1 _
 have:its=its':=by simpa using vcx Array.toList d1
 subst this
 exact r.inj r'
end
noncomputable abbrev Cx.wish(X:Cx)(E:Value->Shared->Prop):Cx:={X with xe:=E}
noncomputable abbrev Cx.nox(X:Cx):Cx:=X.wish λ_ _=>False
theorem Cx.Ok.wish{X:Cx}(ok:X.Ok)(E:Value->Shared->Prop):(X.wish E).Ok:=
 ⟨ok.mod,ok.kind,ok.glob,ok.blt,ok.above,ok.inj,ok.has,ok.cab,ok.hd,ok.frames,ok.stk,ok.exf,ok.bs,ok.bsz,ok.noex,ok.exfs,ok.funs,ok.frf⟩
theorem Cx.Ok.unwish{X:Cx}{E:Value->Shared->Prop}(ok:(X.wish E).Ok):X.Ok:=
 ⟨ok.mod,ok.kind,ok.glob,ok.blt,ok.above,ok.inj,ok.has,ok.cab,ok.hd,ok.frames,ok.stk,ok.exf,ok.bs,ok.bsz,ok.noex,ok.exfs,ok.funs,ok.frf⟩
section
variable{X:Cx}{pins:List (Addr×Obj)}{σ:St}{H:Hp}{s:Shared}{E:Value->Shared->Prop}
theorem Inv.wish(I:Inv X pins σ H s)(E:Value->Shared->Prop):Inv (X.wish E) pins σ H s:=⟨I.ok.wish E,I.os,I.bare,I.base,I.loc,I.cell,I.free,I.freeC,I.pin,I.hok,I.len⟩
theorem Inv.unwish(I:Inv (X.wish E) pins σ H s):Inv X pins σ H s:=⟨I.ok.unwish,I.os,I.bare,I.base,I.loc,I.cell,I.free,I.freeC,I.pin,I.hok,I.len⟩
theorem SP.unwish{D:Ends}{f:Flow}{s':Shared}(h:SP (X.wish E) pins D f s'):SP X pins D f s':=by
 cases f with
 |next=>obtain⟨σ',H',I,q⟩:=h;exact⟨σ',H',I.unwish,q⟩
 |brk=>obtain⟨σ',H',I,q⟩:=h;exact⟨σ',H',I.unwish,q⟩
 |cont=>obtain⟨σ',H',I,q⟩:=h;exact⟨σ',H',I.unwish,q⟩
 |ret u=>obtain⟨v,σ',H',I,r,q⟩:=h;exact⟨v,σ',H',I.unwish,r,q⟩
theorem PE.nox{e:Expr}{t:TE}(h:PE X.nox e t):PE X e t:=λpins s σ H Q I hw=>
 vbm (h pins s σ H Q (I.wish _) hw) (λ_ _ ⟨v,H',I',r,q⟩=>⟨v,H',I'.unwish,r,q⟩) λ_ _ z=>False.elim z
theorem PT.nox{e:Expr}{t:TT}(h:PT X.nox e t):PT X e t:=λpins s σ H Q I hw=>
 vbm (h pins s σ H Q (I.wish _) hw) (λ_ _ ⟨H',I',q⟩=>⟨H',I'.unwish,q⟩) λ_ _ z=>False.elim z
theorem PSs.nox{st:List Stmt}{t:TS}(h:PSs X.nox st t):PSs X st t:=λpins s σ H D I hw=>
 vbm (h pins s σ H D (I.wish _) hw) (λ_ _ q=>q.unwish) λ_ _ z=>False.elim z
end
section
variable{X:Cx}{st:Stmt}{rest:List Stmt}{t u:TS}{e:Expr}{te:TE}{pos:Pos}
noncomputable def tNext:TS:=λD σ H=>D.nx σ H
noncomputable def tSeq(t u:TS):TS:=λD σ H=>t {D with nx:=u D} σ H
theorem zd6:PSs X [] tNext:=λ_ _ σ H _ I h=>vch ⟨σ,H,I,h⟩
theorem zbw(h1:PS X st t)(h2:PSs X rest u):PSs X (st::rest) (tSeq t u):=by
 intro pins s σ H D I h
 refine wpAny_execs_cons (thn (h1 pins s σ H {D with nx:=u D} I h) λf s1 q=>?_)
 cases f with
 |next=>
  obtain⟨σ',H',I',q⟩:=q
  exact h2 pins s1 σ' H' D I' q
 |ret v=>exact q
 |brk=>exact q
 |cont=>exact q
theorem zfz(h1:PS X st t):PSs X [st] t:=by
 intro pins s σ H D I h
 refine wpAny_execs_cons (thn (h1 pins s σ H D I h) λf s1 q=>?_)
 cases f with
 |next=>exact vch q
 |ret v=>exact q
 |brk=>exact q
 |cont=>exact q
noncomputable def zpa:TS:=λD σ H=>D.bk σ H
noncomputable def tCont:TS:=λD σ H=>D.ct σ H
theorem zmw:PS X (.Pass pos) tNext:=λ_ _ σ H _ I h=>wpAny_Pass ⟨σ,H,I,h⟩
theorem zke:PS X (.Break pos) zpa:=λ_ _ σ H _ I h=>wpAny_Break ⟨σ,H,I,h⟩
theorem zf0:PS X (.Continue pos) tCont:=λ_ _ σ H _ I h=>wpAny_Continue ⟨σ,H,I,h⟩
theorem Inv.quiet{pins:List (Addr×Obj)}{σ:St}{H:Hp}{s:Shared}(I:Inv X pins σ H s):interactive X.env=false:=by simp[interactive,I.ok.kind]
noncomputable def tDrop(te:TE):TS:=λD σ H=>te σ H λ_ H1=>D.nx σ H1
theorem zmx(he:PE X e te)(hs:swapsWith e none pos.line X.env=pure false:=by rfl):PS X (.Expr e pos) (tDrop te):=by
 intro pins s σ H D I h
 exact wpAny_Expr_any (thn (he pins s σ H _ I h) λv s1 z9=>z9.el λx H1 I1 r1 q1=>⟨σ,H1,I1,q1⟩) I.quiet hs
noncomputable def tRet(te:TE):TS:=λD σ H=>te σ H D.rt
theorem zez(he:PE X e te):PS X (.Return (some e) pos) (tRet te):=by
 intro pins s σ H D I h
 exact wpAny_Return_some (thn (he pins s σ H _ I h) λv s1 z9=>z9.el λx H1 I1 r1 q1=>⟨x,σ,H1,I1,r1,q1⟩)
noncomputable def tRetN:TS:=λD _ H=>D.rt .non H
theorem zmy:PS X (.Return none pos) tRetN:=λ_ _ σ H _ I h=>wpAny_Return_none ⟨.non,σ,H,I,rfl,h⟩
noncomputable def tIfS(c:TT)(t u:TS):TS:=λD σ H=>c σ H λb H1=>if b=true then t D σ H1 else u D σ H1
theorem ps_if{c:Expr}{a b:List Stmt}{tc:TT}(hc:PT X c tc)(ha:PSs X a t)(hb:PSs X b u):PS X (.If c a b pos) (tIfS tc t u):=by
 intro pins s σ H D I h
 refine wpAny_If (thn (hc pins s σ H _ I h) λd s1 z9=>z9.el λH1 I1 q1=>?_)
 cases d with
 |true=>exact ha pins s1 σ H1 D I1 q1
 |false=>exact hb pins s1 σ H1 D I1 q1
noncomputable def zpb:TS:=λ_ _ _=>False
theorem zkf:PS X st zpb:=λ_ _ _ _ _ _ h=>h.elim
end
noncomputable abbrev TG:=V->St->Hp->(St->Hp->Prop)->Prop
noncomputable abbrev TGs:=List V->St->Hp->(St->Hp->Prop)->Prop
noncomputable def PG(X:Cx)(target:Expr)(t:TG):Prop:=
 ∀(pins:List (Addr×Obj))(s:Shared)(σ:St)(H:Hp)(v:V)(u:Value)(Q:St->Hp->Prop),Inv X pins σ H s->RelV v u->t v σ H Q->
  wpAny (model X.prog X.w) X.A (assign target X.env u) (λ_ s'=>∃σ' H',Inv X pins σ' H' s'/\Q σ' H') X.xe s
noncomputable def PGs(X:Cx)(ts:List Expr)(t:TGs):Prop:=
 ∀(pins:List (Addr×Obj))(s:Shared)(σ:St)(H:Hp)(vs:List V)(us:List Value)(Q:St->Hp->Prop),Inv X pins σ H s->Vals vs us->t vs σ H Q->
  wpAny (model X.prog X.w) X.A (assignInOrder ((assignEach ts X.env).map (·.2)) us) (λ_ s'=>∃σ' H',Inv X pins σ' H' s'/\Q σ' H') X.xe s
noncomputable abbrev TSet:=V->V->V->Hp->(Hp->Prop)->Prop
noncomputable def PSet(X:Cx)(t:TSet):Prop:=
 ∀(pins:List (Addr×Obj))(s:Shared)(σ:St)(H:Hp)(o i v:V)(ov iv u:Value)(Q:Hp->Prop),Inv X pins σ H s->RelV o ov->RelV i iv->RelV v u->t o i v H Q->
  wpAny (model X.prog X.w) X.A (setItem ov iv u) (λ_ s'=>∃H',Inv X pins σ H' s'/\Q H') X.xe s
noncomputable abbrev TIp:=V->V->Hp->VK->Prop
noncomputable def PIp(X:Cx)(op:Operator)(t:TIp):Prop:=
 ∀(pins:List (Addr×Obj))(s:Shared)(σ:St)(H:Hp)(x y:V)(v u:Value)(Q:VK),Inv X pins σ H s->RelV x v->RelV y u->t x y H Q->
  wpAny (model X.prog X.w) X.A (inplaceOp op v u) (EP X pins σ Q) X.xe s
section
variable{X:Cx}{pos:Pos}
noncomputable def gName(i:Nat):TG:=λv σ H Q=>Q (σ.set i (some v)) H
theorem zh3{i:Nat}{x:Str}(hN:X.N.Nodup)(hi:X.N[i]?=some x)(hx:Loc X.env.scope x)(hf:X.fn x=true\/X.env.scope.names.lookup x=some .local:=by first|exact .inl rfl|exact .inr rfl|assumption):PG X (.Name x pos) (gName i):=by
 intro pins s σ H v u Q I r h
 exact wpAny_assign_Name (zch I hN hi hx r (λs' I'=>⟨_,H,I',h⟩) hf)
noncomputable def gNil:TGs:=λvs σ H Q=>vs=[]/\Q σ H
noncomputable def gCons(t:TG)(u:TGs):TGs:=λvs σ H Q=>∃v r,vs=v::r/\t v σ H λσ' H'=>u r σ' H' Q
theorem zmz:PGs X [] gNil:=by
 intro pins s σ H vs us Q I r h
 obtain⟨e,h⟩:=h
 subst e
 cases r
 exact assignInOrder_nil ⟨σ,H,I,h⟩
theorem zkg{e:Expr}{es:List Expr}{t:TG}{u:TGs}(h1:PG X e t)(h2:PGs X es u)
 (hs:(assignEach (e::es) X.env).map (·.2)=assign e X.env:: (assignEach es X.env).map (·.2):=by rfl):PGs X (e::es) (gCons t u):=by
 intro pins s σ H vs us Q I r h
 obtain⟨v,vr,e1,h⟩:=h
 subst e1
 cases r with
 |cons r rr=>
  rw[hs]
  refine assignInOrder_cons (thn (h1 pins s σ H _ _ _ I r h) λ_ s1 hq0=>?_)
  obtain⟨σ1,H1,I1,q1⟩:=hq0
  exact h2 pins s1 σ1 H1 _ _ Q I1 rr q1
noncomputable def gTup(K:PySem.W.Frag)(n:Nat)(t:TGs):TG:=λv σ H Q=>∃a xs,v=.ref a/\SqT K H a xs/\xs.length=n/\t xs σ H Q
theorem zpc{es:List Expr}{k:Nat}{t:TGs}{n:Nat}(hc:X.calm=true)(h:PGs X es t)
 (hn:(assignEach es X.env).length=n:=by rfl) (hst:(assignEach es X.env).findIdx? (·.1)=none:=by rfl):PG X (.Tuple es k pos) (gTup X.K n t):=by
 intro pins s σ H v u Q I r hw
 obtain⟨a,xs,e1,hq,hl,hw⟩:=hw
 subst e1
 cases r
 obtain⟨its,rv,ht,hz⟩:=I.tuple hq
 refine assign_Tuple_tuple (I.ok.hd hc) ht (by simp[hn,<-hl,rv.length]) hst λh' hx=>?_
 have I1:Inv X pins σ H {s with heap:=h'}:=I.kept (t':=s.toks) λb o e=>hx b o (vas (vai e)) e
 exact h pins _ σ H xs _ Q I1 (by simpa using rv) hw
noncomputable def gSub(to ti:TE)(t:TSet):TG:=λv σ H Q=>to σ H λo H1=>ti σ H1 λi H2=>t o i v H2 λH3=>Q σ H3
theorem zpd{o i:Expr}{to ti:TE}{t:TSet}(ho:PE X o to)(hi:PE X i ti)(hs:PSet X t)
 (ha:∀v,assign (.Subscript o i pos) X.env v=(do
   let ov <-holding [v] (eval o X.env)
   let iv <-holding [v,ov] (eval i X.env)
   standAt pos
   holding [v,ov,iv] (setItem ov iv v)
   release [v,ov,iv] []):=by intro _;rfl):PG X (.Subscript o i pos) (gSub to ti t):=by
 intro pins s σ H v u Q I r h
 rw[ha]
 refine vab (vbd (thn (ho pins s σ H _ I h) λov s1 z9=>z9.el λx H1 I1 r1 q1=>?_))
 refine vab (vbd (thn (hi pins s1 σ H1 _ I1 q1) λiv s2 z9=>z9.el λy H2 I2 r2 q2=>?_))
 refine vab (vbz (vab (vbd (thn (hs pins s2 σ H2 x y v ov iv u _ I2 r1 r2 r q2) λ_ s3 hq0=>?_))))
 obtain⟨H3,I3,q3⟩:=hq0
 exact wpAny_release ⟨σ,H3,I3,q3⟩
noncomputable def tAsg(te:TE)(g:TG):TS:=λD σ H=>te σ H λx H1=>g x σ H1 D.nx
theorem zlw{tg e:Expr}{te:TE}{g:TG}(he:PE X e te)(hg:PG X tg g)(hs:swapsWithSole [tg] e pos.line X.env=pure false:=by rfl)(hw:swappedStores [tg] e X.env=pure none:=by rfl)
 (h1:(assignEach [tg] X.env).map (·.2)=[assign tg X.env]:=by rfl):PS X (.Assign [tg] e pos) (tAsg te g):=by
 intro pins s σ H D I h
 refine wpAny_Assign_stores (thn (he pins s σ H _ I h) λv s1 z9=>z9.el λx H1 I1 r1 q1=>?_) hs hw
 rw[h1]
 exact thn (hg pins s1 σ H1 x v _ I1 r1 q1) λ_ s2 q=>q
theorem zlx{i:Nat}{x:Str}{e:Expr}{te:TE}{pos':Pos}(hN:X.N.Nodup)(hi:X.N[i]?=some x)(hx:Loc X.env.scope x)(he:PE X e te)(hs:swapsWith e (some (.Name x pos')) pos.line X.env=pure false:=by rfl)(hf:X.fn x=true\/X.env.scope.names.lookup x=some .local:=by first|exact .inl rfl|exact .inr rfl|assumption) :
 PS X (.Assign [.Name x pos'] e pos) (tAsg te (gName i)):=by
 intro pins s σ H D I h
 refine wpAny_Assign_Name (thn (he pins s σ H _ I h) λv s1 z9=>z9.el λy H1 I1 r1 q1=>?_) hs
 exact zch I1 hN hi hx r1 (λs2 I2=>⟨_,H1,I2,q1⟩) hf
noncomputable def tAug(i:Nat)(te:TE)(ti:TIp):TS:=λD σ H=>∃x,σ[i]?=some (some x)/\te σ H λy H1=>ti x y H1 λz H2=>D.nx (σ.set i (some z)) H2
theorem zpe{i:Nat}{x:Str}{e:Expr}{te:TE}{op:Operator}{ti:TIp}{pos':Pos}(hN:X.N.Nodup)(hi:X.N[i]?=some x)(hx:Loc X.env.scope x)(he:PE X e te)(ho:PIp X op ti)(hf:X.fn x=true\/X.env.scope.names.lookup x=some .local:=by first|exact .inl rfl|exact .inr rfl|assumption) :
 PS X (.AugAssign (.Name x pos') op e pos) (tAug i te ti):=by
 intro pins s σ H D I h
 obtain⟨v,e1,h⟩:=h
 obtain⟨m,hn,hl⟩:=I.loc
 have vis:Vis X.env.scope x:=by rcases hx with k|k;exact .inl k;exact .inr (.inl k)
 obtain⟨u,r,l⟩:=hl i x v hi e1 vis
 refine wpAny_AugAssign_Name ?_
 have go:wpAny (model X.prog X.w) X.A (eval e X.env) (λw s₂=>wpAny (model X.prog X.w) X.A (inplaceOp op u w) (λr s₃=>wpAny (model X.prog X.w) X.A (storeName X.env x r) (λ_=>SP X pins D .next) X.xe s₃) X.xe s₂) X.xe s:=by
  refine thn (he pins s σ H _ I h) λw s1 z9=>z9.el λy H1 I1 r1 q1=>?_
  refine thn (ho pins s1 σ H1 v y u w _ I1 r r1 q1) λz s2 z9=>z9.el λzv H2 I2 r2 q2=>?_
  exact zch I2 hN hi hx r2 (λs3 I3=>⟨_,H2,I3,q2⟩) hf
 rcases l with⟨hk,hm⟩|⟨hk,c,hc,hcell⟩
 .exact wpAny_loadName_local I.ok.kind hk hn hm go
 .rcases hk with hk|hk
  .exact wpAny_loadName_cell I.ok.kind hk hc hcell go
  .rcases hx with k|k
   .have:X.env.scope.names.lookup x=some .free:=hk
    rw[k]at this;cases this
   .have:X.env.scope.names.lookup x=some .free:=hk
    rw[k]at this;cases this
noncomputable def ipI(f:Int->Int->Int):TIp:=λx y H Q=>∃i j,x=.int i/\y=.int j/\Q (.int (f i j)) H
theorem zpf:PIp X .Add (ipI λi j=>i+j):=by
 intro pins s σ H x y v u Q I r1 r2 h
 obtain⟨i,j,e1,e2,q⟩:=h
 subst e1;subst e2
 obtain⟨t,rfl⟩:=r1
 obtain⟨t',rfl⟩:=r2
 exact iadd_int ⟨.int _,H,I.tok _,⟨_,rfl⟩,q⟩
theorem zpg:PIp X .Sub (ipI λi j=>i-j):=by
 intro pins s σ H x y v u Q I r1 r2 h
 obtain⟨i,j,e1,e2,q⟩:=h
 subst e1;subst e2
 obtain⟨t,rfl⟩:=r1
 obtain⟨t',rfl⟩:=r2
 exact isub_int ⟨.int _,H,I.tok _,⟨_,rfl⟩,q⟩
end
section
variable{X:Cx}{pos:Pos}
noncomputable def zph(c:TT)(tb:TS):TS:=λD σ H=>∃W:Nat->St->Hp->Prop,(∃m,W m σ H)/\∀m σ H,W m σ H->
 c σ H λb H1=>if b=true then ∃N:St->Hp->Prop,(∀σ' H',N σ' H'->∃m',m'<m/\W m' σ' H')/\tb {D with nx:=N,ct:=N,bk:=D.nx} σ H1 else D.nx σ H1
theorem zkh{c:Expr}{body:List Stmt}{tc:TT}{tb:TS}(hp:PassesOwn (model X.prog X.w) X.A X.env X.xe)(hc:PT X c tc)(hb:PSs X body tb):PS X (.While c body [] pos) (zph tc tb):=by
 intro pins s σ H D I h
 obtain⟨W,⟨m0,w0⟩,turn⟩:=h
 refine wpAny_While (codeAny_whileLoop (λn s'=>∃σ' H',Inv X pins σ' H' s'/\W n σ' H') ?_ m0 ⟨σ,H,I,w0⟩)
 rintro n s1 ⟨σ1,H1,I1,w1⟩
 refine vb9 hp (thn (hc pins s1 σ1 H1 _ I1 (turn n σ1 H1 w1)) λb s2 z9=>z9.el λH2 I2 q2=>?_)
 cases b with
 |true=>
  obtain⟨N,hN,q2⟩:=q2
  rw[if_pos rfl]
  refine vb9 hp (thn (hb pins s2 σ1 H2 _ I2 q2) λf s3 q3=>?_)
  cases f with
  |next=>
   obtain⟨σ3,H3,I3,n3⟩:=q3
   obtain⟨m',hm,w3⟩:=hN σ3 H3 n3
   exact⟨m',hm,σ3,H3,I3,w3⟩
  |cont=>
   obtain⟨σ3,H3,I3,n3⟩:=q3
   obtain⟨m',hm,w3⟩:=hN σ3 H3 n3
   exact⟨m',hm,σ3,H3,I3,w3⟩
  |brk=>exact q3
  |ret v=>exact q3
 |false=>
  rw[if_neg vao]
  exact vch ⟨σ1,H2,I2,q2⟩
end
set_option genInjectivity false in
structure It where
 go:Nat->Hp->Prop
 yld:Nat->Hp->V->Hp->Prop
 stop:Nat->Hp->Prop
noncomputable def FpOk(X:Cx)(pins:List (Addr×Obj))(H:Hp)(b:Addr):Prop:=
 H b=none/\b≠X.env.locals/\b∉X.fs/\(b∈X.ex\/X.s₀.heap.objs.size<=b)/\(∀x c,X.env.cells.lookup x=some c->c≠b)/\∀p∈X.pn++pins,p.1≠b
theorem Inv.fpOk{X:Cx}{pins:List (Addr×Obj)}{σ:St}{H H':Hp}{s:Shared}{b:Addr}(I:Inv X pins σ H s)(hb:s.heap.objs.size<=b)(hn:H' b=none):FpOk X pins H' b:=by
 refine⟨hn,vci (vae I.lt hb),I.nofs hb,.inr (va3 I.sz hb),λx c e z=>?_,λp hp z=>?_⟩
 .obtain⟨v,q⟩:=I.cell x c e
  exact absurd (vae q.lt (by rw[z];exact hb)) (vby _)
 .exact absurd (vae (vai (I.pin p hp).1) (by rw[z];exact hb)) (vby _)
structure Turn(P:Program)(w:World)(K:PySem.W.Frag)(tg:Expr)(J:It)(fp:List Addr)(it:Addr)(tn:Nat->Heap->Prop):Prop where
 mem:it∈fp
 obj:∀i h,tn i h->∀b∈fp,∃o,h.get? b=some o/\∀v,o.data≠.cell v
 keep:∀i h h',tn i h->(∀b∈fp,∀o,h.get? b=some o->h'.get? b=some o)->tn i h'
 item:∀(X:Cx),X.prog=P->X.w=w->X.K=K->X.calm=true->∀(i:Nat)(pins:List (Addr×Obj))(s:Shared)(σ:St)(H:Hp)(E:Value->Shared->Prop),Inv X pins σ H s->(∀b∈fp,FpOk X pins H b)->tn i s.heap->J.go i H->
  wpAny (model P w) X.A (pyNext (.ref it)) (λr s1=>∃u,r=some u/\
   wpAny (model P w) X.A (letOwnedTupleGo tg (.ref it) u) (λ_ s2=>∃x H',Inv X pins σ H' s2/\RelV x u/\J.yld i H x H'/\tn (i+1) s2.heap/\∀b∈fp,H' b=none) E s1) E s
 done:∀(X:Cx),X.prog=P->X.w=w->X.K=K->X.calm=true->∀(i:Nat)(pins:List (Addr×Obj))(s:Shared)(σ:St)(H:Hp)(E:Value->Shared->Prop),Inv X pins σ H s->(∀b∈fp,FpOk X pins H b)->tn i s.heap->J.stop i H->
  wpAny (model P w) X.A (pyNext (.ref it)) (λr s1=>r=none/\Inv X pins σ H s1) E s
 self:∀(A:Around)(i:Nat)(s:Shared)(Q:Value->Shared->Prop)(E:Value->Shared->Prop),tn i s.heap->Q (.ref it) s->wpAny (model P w) A (pyIter (.ref it)) Q E s
noncomputable abbrev TI:=St->Hp->(It->Hp->Prop)->Prop
noncomputable def PIE(X:Cx)(pins:List (Addr×Obj))(σ:St)(tg:Expr)(R:It->Hp->Prop)(itv:Value)(s2:Shared):Prop:=
 ∃(it:Addr) (fp:List Addr) (tn:Nat->Heap->Prop) (J:It) (H':Hp),itv=.ref it/\Inv X pins σ H' s2/\Turn X.prog X.w X.K tg J fp it tn/\tn 0 s2.heap/\(∀b∈fp,FpOk X pins H' b)/\R J H'
noncomputable def PI(X:Cx)(tg iter:Expr)(wi:TI):Prop:=
 ∀(pins:List (Addr×Obj))(s:Shared)(σ:St)(H:Hp)(R:It->Hp->Prop),Inv X pins σ H s->wi σ H R->
  wpAny (model X.prog X.w) X.A (eval iter X.env) (λv s1=>wpAny (model X.prog X.w) X.A (pyIter v) (PIE X pins σ tg R) X.xe s1) X.xe s
theorem go_of{M:Model}{A:Around}{E:Value->Shared->Prop}{s:Shared}{tg:Expr}{it:Addr}{u:Value}{o:Obj}{n:String}{vs:Array Value}{Q:Unit->Shared->Prop}(ho:s.heap.get? it=some o)(hc:o.cls=.type n)(hd:o.data=.fields vs)
 (hn:["enumerate","zip","dict_itemiterator","dict_reverseitemiterator","odict_iterator","itertools.zip_longest","itertools.pairwise"].contains n=false) (hQ:Q () s):wpAny M A (letOwnedTupleGo tg (.ref it) u) Q E s:=by
 unfold letOwnedTupleGo
 cases tg<;>first
  |exact vag hQ
  |(cases u<;>first
     |exact vag hQ
     |(refine vab (wpAny_load ho ?_)
       rw[hc,hd]
       show wpAny M A (if(["enumerate","zip","dict_itemiterator","dict_reverseitemiterator","odict_iterator","itertools.zip_longest","itertools.pairwise"].contains n&&vs[0]? == some (rawInt _))=true then _ else _) Q E s
       rw[if_neg (by intro h;rw[hn,vcp]at h;cases h)]
       exact vag hQ))
noncomputable def Itl(K:PySem.W.Frag)(a:Addr):It:=
 ⟨λi H=>∃xs x,SqL K H a xs/\xs[i]?=some x,λi H x H'=>H'=H/\∀xs,SqL K H a xs->xs[i]?=some x,λi H=>∃xs,SqL K H a xs/\xs.length<=i⟩
noncomputable def Itt(K:PySem.W.Frag)(a:Addr):It:=
 ⟨λi H=>∃xs x,SqT K H a xs/\xs[i]?=some x,λi H x H'=>H'=H/\∀xs,SqT K H a xs->xs[i]?=some x,λi H=>∃xs,SqT K H a xs/\xs.length<=i⟩
noncomputable def Itr(lo:Int)(n:Nat):It:=⟨λi _=>i<n,λi H x H'=>H'=H/\x=.int (lo+i),λi _=>n<=i⟩
theorem zh4{P:Program}{w:World}{K:PySem.W.Frag}{tg:Expr}(a it:Addr):Turn P w K tg (Itl K a) [it] it (λi h=>h.IsListIter it a i)where
 mem:=by simp
 obj:=λi h st b hb=>by
  have e:b=it:=by simpa using hb
  subst e
  obtain⟨o,e,c,d⟩:=st
  exact⟨o,e,λv z=>by rw[d]at z;cases z⟩
 keep:=λi h h' st k=>st.at λo e=>k it (by simp) o e
 item:=by
  intro X hP hw hK hc i pins s σ H E I hf st hg
  subst hP hw hK
  obtain⟨xs,x,hq,hx⟩:=hg
  obtain⟨its,rv,p,hz⟩:=I.list hq
  obtain⟨u,hu,ru⟩:=rv.get hx
  obtain⟨f0,f1,f2,f3,f4,f5⟩:=hf it (by simp)
  refine wpAny_pyNext_list_item st p.isList (x:=u) (by simpa using hu) λh' st' sb=>?_
  have I1:Inv X pins σ H {s with heap:=h'}:=I.turned (t':=s.toks) (λb o hb e=>(sb.2 b hb).trans e) f0 f1 f3 f4 f5
  obtain⟨o,e,c,d⟩:=id st'
  exact⟨u,rfl,go_of (s:={s with heap:=h'}) e c d (by decide) ⟨x,H,I1,ru,⟨rfl,λys hy=>by rw[I.list_inj hy hq];exact hx⟩,st',λb hb=>(hf b hb).1⟩⟩
 done:=by
  intro X hP hw hK hc i pins s σ H E I hf st hg
  subst hP hw hK
  obtain⟨xs,hq,hx⟩:=hg
  obtain⟨its,rv,p,hz⟩:=I.list hq
  obtain⟨f0,f1,f2,f3,f4,f5⟩:=hf it (by simp)
  have hl:=rv.length
  exact wpAny_pyNext_list_end (I.ok.hd hc) st p.isList (by simp;omega) λh' eb=>⟨rfl,I.turned (t':=s.toks) (λb o hb e=>eb b o hb e) f0 f1 f3 f4 f5⟩
 self:=λ_ _ _ _ _ st h=>wpAny_pyIter_listiter st h
theorem zg8{P:Program}{w:World}{K:PySem.W.Frag}{tg:Expr}(a it:Addr):Turn P w K tg (Itt K a) [it] it (λi h=>h.IsTupleIter it a i)where
 mem:=by simp
 obj:=λi h st b hb=>by
  have e:b=it:=by simpa using hb
  subst e
  obtain⟨o,e,c,d⟩:=st
  exact⟨o,e,λv z=>by rw[d]at z;cases z⟩
 keep:=λi h h' st k=>st.at λo e=>k it (by simp) o e
 item:=by
  intro X hP hw hK hc i pins s σ H E I hf st hg
  subst hP hw hK
  obtain⟨xs,x,hq,hx⟩:=hg
  obtain⟨its,rv,p,hz⟩:=I.tuple hq
  obtain⟨u,hu,ru⟩:=rv.get hx
  obtain⟨f0,f1,f2,f3,f4,f5⟩:=hf it (by simp)
  refine wpAny_pyNext_tuple_item st (show s.heap.IsTuple a its.toArray from p) (x:=u) (by simpa using hu) λh' st' sb=>?_
  have I1:Inv X pins σ H {s with heap:=h'}:=I.turned (t':=s.toks) (λb o hb e=>(sb.2 b hb).trans e) f0 f1 f3 f4 f5
  obtain⟨o,e,c,d⟩:=id st'
  exact⟨u,rfl,go_of (s:={s with heap:=h'}) e c d (by decide) ⟨x,H,I1,ru,⟨rfl,λys hy=>by rw[I.tuple_inj hy hq];exact hx⟩,st',λb hb=>(hf b hb).1⟩⟩
 done:=by
  intro X hP hw hK hc i pins s σ H E I hf st hg
  subst hP hw hK
  obtain⟨xs,hq,hx⟩:=hg
  obtain⟨its,rv,p,hz⟩:=I.tuple hq
  obtain⟨f0,f1,f2,f3,f4,f5⟩:=hf it (by simp)
  have hl:=rv.length
  exact wpAny_pyNext_tuple_end (I.ok.hd hc) st (show s.heap.IsTuple a its.toArray from p) (by simp;omega) λh' eb=>⟨rfl,I.turned (t':=s.toks) (λb o hb e=>eb b o hb e) f0 f1 f3 f4 f5⟩
 self:=λ_ _ _ _ _ st h=>wpAny_pyIter_tupleiter st h
theorem zg9{P:Program}{w:World}{K:PySem.W.Frag}{tg:Expr}(it:Addr)(lo:Int)(n:Nat):Turn P w K tg (Itr lo n) [it] it (λi h=>IsRangeIter h it (lo+ (i:Nat)*1) ((n:Int)- (i:Nat)) 1)where
 mem:=by simp
 obj:=λi h st b hb=>by
  have e:b=it:=by simpa using hb
  subst e
  exact⟨_,st,λv z=>by
   have z':Data.fields _=Data.cell v:=z
   cases z'⟩
 keep:=λi h h' st k=>k it (by simp) _ st
 item:=by
  intro X hP hw hK hc i pins s σ H E I hf st hg
  subst hP hw hK
  obtain⟨f0,f1,f2,f3,f4,f5⟩:=hf it (by simp)
  have W:=Walks.range (prog:=X.prog) (w:=X.w) (I.ok.hd hc) it lo 1 n
  refine W.item i s _ _ hg st λv h' tk hv st' kk=>?_
  obtain⟨t,rfl⟩:=hv
  have I1:Inv X pins σ H {s with heap:=h',toks:=tk}:=I.turned (λb o hb e=>kk b o (by simpa using hb) e) f0 f1 f3 f4 f5
  refine⟨_,rfl,go_of (s:={s with heap:=h',toks:=tk}) (n:="range_iterator") st' rfl rfl (by decide) ⟨.int (lo+i),H,I1,⟨t,?_⟩,⟨rfl,rfl⟩,st',λb hb=>(hf b hb).1⟩⟩
  rw[Int.mul_one]
 done:=by
  intro X hP hw hK hc i pins s σ H E I hf st hg
  subst hP hw hK
  obtain⟨f0,f1,f2,f3,f4,f5⟩:=hf it (by simp)
  exact wpAny_pyNext_range_end (I.ok.hd hc) st (by have:n<=i:=hg;omega) λh' eb=>⟨rfl,I.turned (t':=s.toks) (λb o hb e=>eb b o hb e) f0 f1 f3 f4 f5⟩
 self:=λ_ _ _ _ _ st h=>wpAny_pyIter_rangeiter st h
section
variable{X:Cx}{tg:Expr}
noncomputable def iList(K:PySem.W.Frag)(tl:TE):TI:=λσ H R=>tl σ H λx H1=>∃a,x=.ref a/\(∃xs,SqL K H1 a xs)/\R (Itl K a) H1
noncomputable def iTup(K:PySem.W.Frag)(tl:TE):TI:=λσ H R=>tl σ H λx H1=>∃a,x=.ref a/\(∃xs,SqT K H1 a xs)/\R (Itt K a) H1
theorem zh5{l:Expr}{tl:TE}(hl:PE X l tl):PI X tg l (iList X.K tl):=by
 intro pins s σ H R I h
 refine thn (hl pins s σ H _ I h) λv s1 z9=>z9.el λx H1 I1 r1 q1=>?_
 obtain⟨a,e,⟨xs,hq⟩,q⟩:=q1
 subst e
 cases r1
 obtain⟨its,rv,p,hz⟩:=I1.list hq
 refine wpAny_pyIter_list p.isList ?_
 refine⟨s1.heap.objs.size,[s1.heap.objs.size],_,_,H1,rfl,I1.kept (t':=s1.toks) λb o e=>vac _ e,zh4 a _,⟨_,vav _ rfl,rfl,rfl⟩,λb hb=>?_,q⟩
 have e:b=s1.heap.objs.size:=by simpa using hb
 subst e
 exact I1.fpOk (vad _) (I1.hok.fresh (vad _))
theorem zpi{l:Expr}{tl:TE}(hl:PE X l tl):PI X tg l (iTup X.K tl):=by
 intro pins s σ H R I h
 refine thn (hl pins s σ H _ I h) λv s1 z9=>z9.el λx H1 I1 r1 q1=>?_
 obtain⟨a,e,⟨xs,hq⟩,q⟩:=q1
 subst e
 cases r1
 obtain⟨its,rv,p,hz⟩:=I1.tuple hq
 refine wpAny_pyIter_tuple (show s1.heap.IsTuple a its.toArray from p) ?_
 refine⟨s1.heap.objs.size,[s1.heap.objs.size],_,_,H1,rfl,I1.kept (t':=s1.toks) λb o e=>vac _ e,zg8 a _,⟨_,vav _ rfl,rfl,rfl⟩,λb hb=>?_,q⟩
 have e:b=s1.heap.objs.size:=by simpa using hb
 subst e
 exact I1.fpOk (vad _) (I1.hok.fresh (vad _))
theorem zgm{pins:List (Addr×Obj)}{σ:St}{H:Hp}{s:Shared}{R:It->Hp->Prop}{E:Value->Shared->Prop}{lo hi:Int}{t u v:Tok}{tk:Nat}(I:Inv X pins σ H s)(h1:-(2 ^ 62)<=lo)(h2:lo<2 ^ 62)(h3:-(2 ^ 62)<=hi)(h4:hi<2 ^ 62)
 (q:R (Itr lo (hi-lo).toNat) H):wpAny (model X.prog X.w) X.A (pyIter (.ref s.heap.objs.size)) (PIE X pins σ tg R) E {s with heap:=s.heap.push {cls:=.type "range",data:=.fields #[.int lo t,.int hi u,.int 1 v]},toks:=tk}:=by
 refine wpAny_pyIter_range (IsRange.new ..) (small_one h1 h2 h3 h4) ?_
 have I1:Inv X pins σ H {s with heap:=s.heap.push {cls:=.type "range",data:=.fields #[.int lo t,.int hi u,.int 1 v]},toks:=tk}:=I.kept λb o e=>vac _ e
 refine⟨(s.heap.push {cls:=.type "range",data:=.fields #[.int lo t,.int hi u,.int 1 v]}).objs.size,[(s.heap.push {cls:=.type "range",data:=.fields #[.int lo t,.int hi u,.int 1 v]}).objs.size],_,_,H,rfl,
  I1.kept (t':=tk) λb o e=>vac _ e,zg9 _ lo (hi-lo).toNat,?_,λb hb=>?_,q⟩
 .have e1:lo+ ((0:Nat):Int)*1=lo:=by simp
  have e2:(((hi-lo).toNat:Nat):Int)- ((0:Nat):Int)=Builtin.Range.rangeSize lo hi 1:=by rw[rangeSize_one];split<;>omega
  show IsRangeIter _ _ (lo+ ((0:Nat):Int)*1) ((((hi-lo).toNat:Nat):Int)- ((0:Nat):Int)) 1
  rw[e1,e2]
  exact vav _ rfl
 .have e:b=(s.heap.push {cls:=.type "range",data:=.fields #[.int lo t,.int hi u,.int 1 v]}).objs.size:=by simpa using hb
  subst e
  exact I1.fpOk (vad _) (I1.hok.fresh (vad _))
noncomputable def iRng1(ta:TA):TI:=λσ H R=>ta σ H λvs H1=>∃j:Int,vs=[.int j]/\-(2 ^ 62)<=j/\j<2 ^ 62/\R (Itr 0 j.toNat) H1
noncomputable def iRng2(ta:TA):TI:=λσ H R=>ta σ H λvs H1=>∃i j:Int,vs=[.int i,.int j]/\(-(2 ^ 62)<=i/\i<2 ^ 62/\-(2 ^ 62)<=j/\j<2 ^ 62)/\R (Itr i (j-i).toNat) H1
theorem zh6{a:Expr}{ta:TA}{p pos:Pos}(hg:Gl X "range")(hm:X.mg "range" = none)(ha:PA X [a] ta)(hs:starEach [a] X.env=[(false,eval a X.env)]:=by rfl):PI X tg (.Call (.Name "range" p) [a] [] pos) (iRng1 ta):=by
 intro pins s σ H R I h
 refine Call_ (zde I hg hm boot_range (vb1 (thn (ha pos pins s σ H _ I h) λus s1 z9=>z9.el λvs H1 I1 r1 q1=>?_) hs rfl))
 obtain⟨j,e,q1,q2,q⟩:=q1
 subst e
 cases r1 with
 |cons r rr=>
  cases rr
  obtain⟨t,rfl⟩:=r
  exact call_range_1 (zgm I1 (by omega) (by omega) q1 q2 (by simpa using q))
theorem zh7{a b:Expr}{ta:TA}{p pos:Pos}(hg:Gl X "range")(hm:X.mg "range" = none)(ha:PA X [a,b] ta)(hs:starEach [a,b] X.env=[(false,eval a X.env),(false,eval b X.env)]:=by rfl)(hs2:starEach [b] X.env=[(false,eval b X.env)]:=by rfl) :
 PI X tg (.Call (.Name "range" p) [a,b] [] pos) (iRng2 ta):=by
 intro pins s σ H R I h
 refine Call_ (zde I hg hm boot_range (vb1 (thn (ha pos pins s σ H _ I h) λus s1 z9=>z9.el λvs H1 I1 r1 q1=>?_) (by rw[hs,hs2]) (by rw[hs2];rfl)))
 obtain⟨i,j,e,⟨q1,q2,q3,q4⟩,q⟩:=q1
 subst e
 cases r1 with
 |cons r rr=>
  cases rr with
  |cons r' rr=>
   cases rr
   obtain⟨t,rfl⟩:=r
   obtain⟨t',rfl⟩:=r'
   exact call_range_2 (zgm I1 q1 q2 q3 q4 q)
noncomputable def tFor(wi:TI)(g:TG)(tb:TS):TS:=λD σ H=>wi σ H λJ H1=>∃W:Nat->Nat->St->Hp->Prop,(∃m,W 0 m σ H1)/\∀i m σ H,W i m σ H->
 (J.stop i H/\D.nx σ H)\/(J.go i H/\∃N:St->Hp->Prop,(∀σ' H',N σ' H'->∃m',m'<m/\W (i+1) m' σ' H')/\∀x H',J.yld i H x H'->g x σ H' λσ2 H2=>tb {D with nx:=N,ct:=N,bk:=D.nx} σ2 H2)
noncomputable def ze0(fp:List Addr)(h:Heap):List (Addr×Obj):=fp.filterMap λb=>(h.get? b).map λo=>(b,o)
theorem zbn{fp:List Addr}{h:Heap}{b:Addr}{o:Obj}(hb:b∈fp)(e:h.get? b=some o):(b,o)∈ze0 fp h:=List.mem_filterMap.mpr ⟨b,hb,by rw[e];rfl⟩
theorem zh8{fp:List Addr}{h:Heap}{p:Addr×Obj}(hp:p∈ze0 fp h):p.1∈fp/\h.get? p.1=some p.2:=by
 obtain⟨b,hb,e⟩:=List.mem_filterMap.mp hp
 cases q:h.get? b with
 |none=>rw[q]at e;cases e
 |some o=>
  rw[q]at e
  have e':(b,o)=p:=va6 e
  subst e'
  exact⟨hb,q⟩
theorem Inv.pinned{pins:List (Addr×Obj)}{σ:St}{H:Hp}{s:Shared}{fp:List Addr}(I:Inv X pins σ H s)(hf:∀b∈fp,FpOk X pins H b)(ho:∀b∈fp,∃o,s.heap.get? b=some o/\∀v,o.data≠.cell v):Inv X (pins++ze0 fp s.heap) σ H s:=
 I.pins_of λp hp=>(List.mem_append.mp hp).elim (λz=>I.pin p (vay _ z)) λz=>by
  obtain⟨hb,e⟩:=zh8 z
  obtain⟨f0,f1,f2,_⟩:=hf p.1 hb
  obtain⟨o,e',d⟩:=ho p.1 hb
  rw[e]at e';cases e'
  exact⟨e,f0,f1,f2,d⟩
theorem Inv.unpinned{pins pl:List (Addr×Obj)}{σ:St}{H:Hp}{s:Shared}(I:Inv X (pins++pl) σ H s):Inv X pins σ H s:=I.pins_of λp hp=>I.pin p (vay _ (List.mem_append_left _ hp))
theorem zpj{iter:Expr}{body:List Stmt}{wi:TI}{g:TG}{tb:TS}{pos:Pos}(hp:PassesOwn (model X.prog X.w) X.A X.env X.xe)(hc:X.calm=true)(hi:PI X tg iter wi)(hg:PG X tg g)(hb:PSs X body tb)
 (hs:∀x,foldedSetIterable iter X.env x=pure x:=by intro _;rfl):PS X (.For tg iter body [] pos) (tFor wi g tb):=by
 intro pins s σ H D I h
 refine wpAny_For (thn (hi pins s σ H _ I h) λv s1 h1=>thn h1 λitv s2 h2=>?_) hs
 obtain⟨it,fp,tn,J,H2,e,I2,T,st2,f2,W,⟨m0,w0⟩,turn⟩:=h2
 subst e
 have stat:∀{H':Hp},(∀b∈fp,H' b=none)->∀b∈fp,FpOk X pins H' b:=λhn b hb=>⟨hn b hb,(f2 b hb).2⟩
 refine codeAny_forLoop_any (λn s'=>∃i σ' H',Inv X pins σ' H' s'/\tn i s'.heap/\(∀b∈fp,H' b=none)/\W i n σ' H') ?_ m0 ⟨0,σ,H2,I2,st2,λb hb=>(f2 b hb).1,w0⟩
 rintro n s3 ⟨i,σ3,H3,I3,st3,fr3,w3⟩
 rcases turn i n σ3 H3 w3 with⟨stop,qn⟩|⟨go,N,hN,step⟩
 .refine vb9 hp (thn (T.done X rfl rfl rfl hc i pins s3 σ3 H3 X.xe I3 (stat fr3) st3 stop) λr s4 hq0=>?_)
  obtain⟨hr,I4⟩:=hq0
  subst hr
  exact vch ⟨σ3,H3,I4,qn⟩
 .refine vb9 hp (thn (T.item X rfl rfl rfl hc i pins s3 σ3 H3 X.xe I3 (stat fr3) st3 go) λr s4 hq0=>?_)
  obtain⟨u,hr,h4⟩:=hq0
  subst hr
  refine vb9 hp (thn h4 λ_ s5 hq0=>?_)
  obtain⟨x,H5,I5,r5,y5,st5,fr5⟩:=hq0
  have I5':=I5.pinned (stat fr5) (T.obj _ _ st5)
  refine vb9 hp (thn (hg _ s5 σ3 H5 x u _ I5' r5 (step x H5 y5)) λ_ s6 hq0=>?_)
  obtain⟨σ6,H6,I6,q6⟩:=hq0
  refine vb9 hp (thn (hb _ s6 σ6 H6 _ I6 q6) λf s7 q7=>?_)
  have again:∀{σ7:St}{H7:Hp},Inv X (pins++ze0 fp s5.heap) σ7 H7 s7->N σ7 H7->∃m,m<n/\∃i σ' H',Inv X pins σ' H' s7/\tn i s7.heap/\(∀b∈fp,H' b=none)/\W i m σ' H':=λ{σ7 H7} I7 n7=>by
   obtain⟨m',hm,w7⟩:=hN σ7 H7 n7
   refine⟨m',hm,i+1,σ7,H7,I7.unpinned,T.keep _ _ _ st5 λb hb o e=>(I7.pin (b,o) (vay _ (vay _ (zbn hb e)))).1,λb hb=>?_,w7⟩
   obtain⟨o,e,d⟩:=T.obj _ _ st5 b hb
   exact(I7.pin (b,o) (vay _ (vay _ (zbn hb e)))).2.1
  cases f with
  |next=>obtain⟨σ7,H7,I7,n7⟩:=q7;exact again I7 n7
  |cont=>obtain⟨σ7,H7,I7,n7⟩:=q7;exact again I7 n7
  |brk=>obtain⟨σ7,H7,I7,q7⟩:=q7;exact⟨σ7,H7,I7.unpinned,q7⟩
  |ret v=>obtain⟨x7,σ7,H7,I7,r7,q7⟩:=q7;exact⟨x7,σ7,H7,I7.unpinned,r7,q7⟩
end
noncomputable abbrev R2:=V->V->Hp->VK->Prop
noncomputable def OpR(X:Cx)(f:Value->Value->Sem Value)(r:R2):Prop:=
 ∀(pins:List (Addr×Obj))(s:Shared)(σ:St)(H:Hp)(x y:V)(v u:Value)(Q:VK),Inv X pins σ H s->RelV x v->RelV y u->r x y H Q->
  wpAny (model X.prog X.w) X.A (f v u) (EP X pins σ Q) X.xe s
noncomputable def UnR(X:Cx)(f:Value->Sem Value)(r:V->Hp->VK->Prop):Prop:=
 ∀(pins:List (Addr×Obj))(s:Shared)(σ:St)(H:Hp)(x:V)(v:Value)(Q:VK),Inv X pins σ H s->RelV x v->r x H Q->
  wpAny (model X.prog X.w) X.A (f v) (EP X pins σ Q) X.xe s
noncomputable def CallR(X:Cx)(f:Value)(r:List V->Hp->VK->Prop):Prop:=
 ∀(pins:List (Addr×Obj))(s:Shared)(σ:St)(H:Hp)(xs:List V)(us:List Value)(Q:VK),Inv X pins σ H s->Vals xs us->r xs H Q->
  wpAny (model X.prog X.w) X.A (call f us) (EP X pins σ Q) X.xe s
noncomputable def TruR(X:Cx)(r:V->Hp->(Bool->Hp->Prop)->Prop):Prop:=
 ∀(pins:List (Addr×Obj))(s:Shared)(σ:St)(H:Hp)(x:V)(v:Value)(Q:Bool->Hp->Prop),Inv X pins σ H s->RelV x v->r x H Q->
  wpAny (model X.prog X.w) X.A (truthy v) (TP X pins σ Q) X.xe s
noncomputable def tOp(r:R2)(ta tb:TE):TE:=λσ H Q=>ta σ H λx H1=>tb σ H1 λy H2=>r x y H2 Q
noncomputable def tUn(r:V->Hp->VK->Prop)(ta:TE):TE:=λσ H Q=>ta σ H λx H1=>r x H1 Q
noncomputable def rI(C:Int->Int->Prop)(g:Int->Int->V):R2:=λx y H Q=>∃i j,x=.int i/\y=.int j/\C i j/\Q (g i j) H
noncomputable def rI0(g:Int->Int->V):R2:=λx y H Q=>∃i j,x=.int i/\y=.int j/\Q (g i j) H
noncomputable def rU(g:Int->V):V->Hp->VK->Prop:=λx H Q=>∃i,x=.int i/\Q (g i) H
section
variable{X:Cx}{a b c:Expr}{ta tb tc:TE}{pos:Pos}
theorem binT(ha:PE X a ta)(hb:PE X b tb){pins:List (Addr×Obj)}{s:Shared}{σ:St}{H:Hp}{R:V->V->Hp->Prop}(I:Inv X pins σ H s)
 (h:ta σ H λx H1=>tb σ H1 λy H2=>R x y H2) {Q:Value->Shared->Prop} {f:Value->Value->Sem Value}
 (hf:∀v u s2 x y H2,Inv X pins σ H2 s2->RelV x v->RelV y u->R x y H2->wpAny (model X.prog X.w) X.A (f v u) Q X.xe s2) :
 wpAny (model X.prog X.w) X.A (eval a X.env) (λv s₁=>wpAny (model X.prog X.w) X.A (eval b X.env) (λu s₂=>wpAny (model X.prog X.w) X.A (f v u) Q X.xe s₂) X.xe s₁) X.xe s:=by
 refine thn (ha pins s σ H _ I h) λv s1 z9=>z9.el λx H1 I1 r1 q1=>?_
 refine thn (hb pins s1 σ H1 _ I1 q1) λu s2 z9=>z9.el λy H2 I2 r2 q2=>?_
 exact hf v u s2 x y H2 I2 r1 r2 q2
theorem pe_op{op:Operator}{r:R2}(ho:OpR X (binaryOp op) r)(ha:PE X a ta)(hb:PE X b tb):PE X (.BinOp a op b pos) (tOp r ta tb):=by
 intro pins s σ H Q I h
 exact wpAny_BinOp (binT ha hb I h λv u s2 x y H2 I2 rx ry q=>ho pins s2 σ H2 x y v u Q I2 rx ry q)
theorem pe_un{op:UnaryOp}{r:V->Hp->VK->Prop}(ho:UnR X (unaryOp op) r)(ha:PE X a ta):PE X (.UnaryOp op a pos) (tUn r ta):=by
 intro pins s σ H Q I h
 exact UnaryOp_ (thn (ha pins s σ H _ I h) λv s1 z9=>z9.el λx H1 I1 r1 q1=>ho pins s1 σ H1 x v Q I1 r1 q1)
theorem opI{f:Value->Value->Sem Value}{C:Int->Int->Prop}{g:Int->Int->Int}
 (rule:∀(i j:Int)(t u:Tok)(s:Shared)(Q:Value->Shared->Prop)(E:Value->Shared->Prop),C i j->Q (.int (g i j) s.toks) {s with toks:=s.toks+1}->wpAny (model X.prog X.w) X.A (f (.int i t) (.int j u)) Q E s) :
 OpR X f (rI C λi j=>.int (g i j)):=by
 intro pins s σ H x y v u Q I rx ry h
 obtain⟨i,j,rfl,rfl,hc,q⟩:=h
 obtain⟨t,rfl⟩:=rx
 obtain⟨t',rfl⟩:=ry
 exact rule i j t t' s _ _ hc ⟨.int (g i j),H,I.tok _,⟨_,rfl⟩,q⟩
theorem opI0{f:Value->Value->Sem Value}{g:Int->Int->Int}
 (rule:∀(i j:Int)(t u:Tok)(s:Shared)(Q:Value->Shared->Prop)(E:Value->Shared->Prop),Q (.int (g i j) s.toks) {s with toks:=s.toks+1}->wpAny (model X.prog X.w) X.A (f (.int i t) (.int j u)) Q E s) :
 OpR X f (rI0 λi j=>.int (g i j)):=by
 intro pins s σ H x y v u Q I rx ry h
 obtain⟨i,j,rfl,rfl,q⟩:=h
 obtain⟨t,rfl⟩:=rx
 obtain⟨t',rfl⟩:=ry
 exact rule i j t t' s _ _ ⟨.int (g i j),H,I.tok _,⟨_,rfl⟩,q⟩
theorem opB0{f:Value->Value->Sem Value}{g:Int->Int->Bool}
 (rule:∀(i j:Int)(t u:Tok)(s:Shared)(Q:Value->Shared->Prop)(E:Value->Shared->Prop),Q (.bool (g i j)) s->wpAny (model X.prog X.w) X.A (f (.int i t) (.int j u)) Q E s) :
 OpR X f (rI0 λi j=>.bl (g i j)):=by
 intro pins s σ H x y v u Q I rx ry h
 obtain⟨i,j,rfl,rfl,q⟩:=h
 obtain⟨t,rfl⟩:=rx
 obtain⟨t',rfl⟩:=ry
 exact rule i j t t' s _ _ ⟨.bl (g i j),H,I,rfl,q⟩
noncomputable def CDiv(i j:Int):Prop:=0<j/\j<1073741824
noncomputable def CPow(i j:Int):Prop:=0<=j/\j<=1000000/\i.natAbs<2 ^ 64
noncomputable def CMul(i j:Int):Prop:=(-(2 ^ 64)<i/\i<2 ^ 64)\/(-(2 ^ 64)<j/\j<2 ^ 64)
theorem CMul.ok{i j:Int}(h:CMul i j):IntMulOk i j:=by
 rcases h with⟨h1,h2⟩|⟨h1,h2⟩
 .exact .of_left (intBits_le_64 h1 h2)
 .exact .of_right (intBits_le_64 h1 h2)
theorem zpk:OpR X (binaryOp .Add) (rI0 λi j=>.int (i+j)):=opI0 λ_ _ _ _ _ _ _ q=>add_int q
theorem zpl:OpR X (binaryOp .Sub) (rI0 λi j=>.int (i-j)):=opI0 λ_ _ _ _ _ _ _ q=>sub_int q
theorem zpm:OpR X (binaryOp .Mult) (rI CMul λi j=>.int (i*j)):=opI λ_ _ _ _ _ _ _ hc q=>mul_int q hc.ok
theorem zm0:OpR X (binaryOp .FloorDiv) (rI CDiv λi j=>.int (i/j)):=opI λi j _ _ _ _ _ hc q=>by
 have h1:(0:Int)<j:=hc.1
 have h2:j<1073741824:=hc.2
 exact floordiv_int (by omega) (by rw[Int.fdiv_eq_ediv_of_nonneg i (by omega)];exact q) (.inl (PyProof.noPylong_small (by omega)))
theorem zpn:OpR X (binaryOp .Mod) (rI (λ_ j=>0<j) λi j=>.int (i % j)):=opI λi j _ _ _ _ _ hc q=>by
 have h1:(0:Int)<j:=hc
 exact mod_int' (by omega) (by rw[Int.fmod_eq_emod_of_nonneg i (by omega)];exact q)
theorem zpo:OpR X (binaryOp .Pow) (rI CPow λi j=>.int (i ^ j.toNat)):=opI λ_ _ _ _ _ _ _ hc q=>pow_int_small hc.1 hc.2.1 hc.2.2 q
theorem zm1:OpR X (inplaceOp .Mult) (rI CMul λi j=>.int (i*j)):=opI λ_ _ _ _ _ _ _ hc q=>imul_int q hc.ok
theorem zki:OpR X (inplaceOp .FloorDiv) (rI CDiv λi j=>.int (i/j)):=opI λi j _ _ _ _ _ hc q=>by
 have h1:(0:Int)<j:=hc.1
 have h2:j<1073741824:=hc.2
 exact ifloordiv_int (by omega) (by rw[Int.fdiv_eq_ediv_of_nonneg i (by omega)];exact q) (.inl (PyProof.noPylong_small (by omega)))
theorem unI{f:Value->Sem Value}{g:Int->Int}
 (rule:∀(i:Int)(t:Tok)(s:Shared)(Q:Value->Shared->Prop)(E:Value->Shared->Prop),Q (.int (g i) s.toks) {s with toks:=s.toks+1}->wpAny (model X.prog X.w) X.A (f (.int i t)) Q E s) :
 UnR X f (rU λi=>.int (g i)):=by
 intro pins s σ H x v Q I rx h
 obtain⟨i,rfl,q⟩:=h
 obtain⟨t,rfl⟩:=rx
 exact rule i t s _ _ ⟨.int (g i),H,I.tok _,⟨_,rfl⟩,q⟩
theorem zpp:UnR X (unaryOp .USub) (rU λi=>.int (-i)):=unI λ_ _ _ _ _ q=>neg_int q
end
noncomputable def scal:V->V->Bool
 |.non,.non=>true|.non,.int _=>true|.int _,.non=>true|.non,.bl _=>true|.bl _,.non=>true|.non,.str _=>true|.str _,.non=>true
 |.int _,.int _=>true|.bl _,.bl _=>true|.str _,.str _=>true|.byt _,.byt _=>true
 |.int _,.str _=>true|.str _,.int _=>true|.bl _,.str _=>true|.str _,.bl _=>true
 |_,_=>false
noncomputable def rEq:R2:=λx y H Q=>scal x y=true/\Q (.bl (decide (x=y))) H
noncomputable def rNe:R2:=λx y H Q=>scal x y=true/\Q (.bl (!decide (x=y))) H
theorem zh9{i j:Int}:decide (V.int i=V.int j)=(i==j):=by
 rw[Bool.eq_iff_iff]
 simp
theorem zly{i j:Bool}:decide (V.bl i=V.bl j)=(i==j):=by
 rw[Bool.eq_iff_iff]
 simp
theorem zia{i j:Str}:decide (V.str i=V.str j)=(i==j):=by
 rw[Bool.eq_iff_iff]
 simp
theorem zib{i j:Array UInt8}:decide (V.byt i=V.byt j)=(i.toList==j.toList):=by
 rw[Bool.eq_iff_iff]
 cases i
 cases j
 simp
section
variable{X:Cx}{a b c:Expr}{ta tb tc:TE}{pos:Pos}
theorem zag{pins:List (Addr×Obj)}{σ:St}{H:Hp}{s:Shared}{Q:VK}{k k':Bool}(I:Inv X pins σ H s)(q:Q (.bl k) H)(e:k=k'):EP X pins σ Q (.bool k') s:=by
 subst e
 exact⟨.bl k,H,I,rfl,q⟩
theorem op_eq:OpR X (compareOp .Eq) rEq:=by
 intro pins s σ H x y v u Q I rx ry h
 obtain⟨hs,q⟩:=h
 cases x with
 |non=>
  cases rx
  cases y with
  |non=>cases ry;exact PySem.EqNone.eq_none_none (zag I q (by simp))
  |bl j=>cases ry;exact PySem.EqNone.eq_none_bool (zag I q (by simp))
  |int j=>obtain⟨t',rfl⟩:=ry;exact PySem.EqNone.eq_none_int (zag I q (by simp))
  |str j=>obtain⟨t',rfl⟩:=ry;exact PySem.EqNone.eq_none_str (zag I q (by simp))
  |_=>exact absurd (show false=true from hs) vao
 |bl i=>
  cases rx
  cases y with
  |non=>cases ry;exact PySem.EqNone.eq_bool_none (zag I q (by simp))
  |bl j=>cases ry;exact eq_bool (zag I q zly)
  |str j=>obtain⟨t',rfl⟩:=ry;exact PySem.EqMixed.eq_bool_str (zag I q (by simp))
  |_=>exact absurd (show false=true from hs) vao
 |int i=>
  obtain⟨t,rfl⟩:=rx
  cases y with
  |non=>cases ry;exact PySem.EqNone.eq_int_none (zag I q (by simp))
  |int j=>obtain⟨t',rfl⟩:=ry;exact eq_int (zag I q zh9)
  |str j=>obtain⟨t',rfl⟩:=ry;exact PySem.EqMixed.eq_int_str (zag I q (by simp))
  |_=>exact absurd (show false=true from hs) vao
 |str i=>
  obtain⟨t,rfl⟩:=rx
  cases y with
  |non=>cases ry;exact PySem.EqNone.eq_str_none (zag I q (by simp))
  |bl j=>cases ry;exact PySem.EqMixed.eq_str_bool (zag I q (by simp))
  |int j=>obtain⟨t',rfl⟩:=ry;exact PySem.EqMixed.eq_str_int (zag I q (by simp))
  |str j=>obtain⟨t',rfl⟩:=ry;exact eq_str (zag I q zia)
  |_=>exact absurd (show false=true from hs) vao
 |byt i=>
  obtain⟨t,rfl⟩:=rx
  cases y with
  |byt j=>obtain⟨t',rfl⟩:=ry;exact PySem.W.eq_bytes (zag I q zib)
  |_=>exact absurd (show false=true from hs) vao
 |_=>cases y<;>exact absurd (show false=true from hs) vao
theorem op_ne:OpR X (compareOp .NotEq) rNe:=by
 intro pins s σ H x y v u Q I rx ry h
 obtain⟨hs,q⟩:=h
 cases x with
 |non=>
  cases rx
  cases y with
  |non=>cases ry;exact PySem.EqNone.ne_none_none (zag I q (by simp))
  |bl j=>cases ry;exact PySem.EqNone.ne_none_bool (zag I q (by simp))
  |int j=>obtain⟨t',rfl⟩:=ry;exact PySem.EqNone.ne_none_int (zag I q (by simp))
  |str j=>obtain⟨t',rfl⟩:=ry;exact PySem.EqNone.ne_none_str (zag I q (by simp))
  |_=>exact absurd (show false=true from hs) vao
 |bl i=>
  cases rx
  cases y with
  |non=>cases ry;exact PySem.EqNone.ne_bool_none (zag I q (by simp))
  |bl j=>cases ry;exact ne_bool (zag I q (vcx not zly))
  |str j=>obtain⟨t',rfl⟩:=ry;exact PySem.EqMixed.ne_bool_str (zag I q (by simp))
  |_=>exact absurd (show false=true from hs) vao
 |int i=>
  obtain⟨t,rfl⟩:=rx
  cases y with
  |non=>cases ry;exact PySem.EqNone.ne_int_none (zag I q (by simp))
  |int j=>obtain⟨t',rfl⟩:=ry;exact ne_int (zag I q (vcx not zh9))
  |str j=>obtain⟨t',rfl⟩:=ry;exact PySem.EqMixed.ne_int_str (zag I q (by simp))
  |_=>exact absurd (show false=true from hs) vao
 |str i=>
  obtain⟨t,rfl⟩:=rx
  cases y with
  |non=>cases ry;exact PySem.EqNone.ne_str_none (zag I q (by simp))
  |bl j=>cases ry;exact PySem.EqMixed.ne_str_bool (zag I q (by simp))
  |int j=>obtain⟨t',rfl⟩:=ry;exact PySem.EqMixed.ne_str_int (zag I q (by simp))
  |str j=>obtain⟨t',rfl⟩:=ry;exact ne_str (zag I q (vcx not zia))
  |_=>exact absurd (show false=true from hs) vao
 |byt i=>
  obtain⟨t,rfl⟩:=rx
  cases y with
  |byt j=>obtain⟨t',rfl⟩:=ry;exact PySem.W.ne_bytes (zag I q (vcx not zib))
  |_=>exact absurd (show false=true from hs) vao
 |_=>cases y<;>exact absurd (show false=true from hs) vao
theorem op_lt:OpR X (compareOp .Lt) (rI0 λi j=>.bl (decide (i<j))):=opB0 λ_ _ _ _ _ _ _ q=>lt_int q
theorem op_le:OpR X (compareOp .LtE) (rI0 λi j=>.bl (decide (i<=j))):=opB0 λ_ _ _ _ _ _ _ q=>le_int q
theorem op_gt:OpR X (compareOp .Gt) (rI0 λi j=>.bl (decide (j<i))):=opB0 λ_ _ _ _ _ _ _ q=>gt_int q
theorem op_ge:OpR X (compareOp .GtE) (rI0 λi j=>.bl (decide (j<=i))):=opB0 λ_ _ _ _ _ _ _ q=>ge_int q
theorem zpq:OpR X (compareOp .Is) (λx y H Q=>y=.non/\Q (.bl (decide (x=.non))) H):=by
 intro pins s σ H x y v u Q I rx ry h
 obtain⟨rfl,q⟩:=h
 cases ry
 refine is_none_gen (zag I q ?_)
 cases x<;>first
  |(cases rx;rfl)
  |(obtain⟨t,rfl⟩:=rx;rfl)
theorem zm2:OpR X (compareOp .IsNot) (λx y H Q=>y=.non/\Q (.bl (!decide (x=.non))) H):=by
 intro pins s σ H x y v u Q I rx ry h
 obtain⟨rfl,q⟩:=h
 cases ry
 refine isnot_none_gen (zag I q ?_)
 cases x<;>first
  |(cases rx;rfl)
  |(obtain⟨t,rfl⟩:=rx;rfl)
theorem OpR.or{f:Value->Value->Sem Value}{r r':R2}(h:OpR X f r)(h':OpR X f r'):OpR X f (λx y H Q=>r x y H Q\/r' x y H Q):=by
 intro pins s σ H x y v u Q I rx ry q
 rcases q with q|q
 .exact h pins s σ H x y v u Q I rx ry q
 .exact h' pins s σ H x y v u Q I rx ry q
theorem zic{op:CmpOp}{r:R2}(ho:OpR X (compareOp op) r)(ha:PE X a ta)(hb:PE X b tb)(hm:behindInMarks op b=false):PE X (.Compare a [op] [b] pos) (tOp r ta tb):=by
 intro pins s σ H Q I h
 exact wpAny_Compare1 (binT ha hb I h λv u s2 x y H2 I2 rx ry q=>ho pins s2 σ H2 x y v u Q I2 rx ry q) hm
noncomputable def tTest(t:TE):TT:=λσ H Q=>t σ H λx H'=>∃k,x=.bl k/\Q k H'
theorem zid{op:CmpOp}{r:R2}(ho:OpR X (compareOp op) r)(ha:PE X a ta)(hb:PE X b tb)(hm:behindInMarks op b=false):PT X (.Compare a [op] [b] pos) (tTest (tOp r ta tb)):=by
 intro pins s σ H Q I h
 refine wpAny_isTrue_Compare1 (thn (ha pins s σ H _ I h) λv s1 z9=>z9.el λx H1 I1 r1 q1=>thn (hb pins s1 σ H1 _ I1 q1) λu s2 z9=>z9.el λy H2 I2 r2 q2=>
  thn (ho pins s2 σ H2 x y v u _ I2 r1 r2 q2) λc s3 z9=>z9.el λz H3 I3 r3 ⟨k,e,q3⟩=>?_) hm
 subst e
 cases r3
 exact vbe ⟨H3,I3,q3⟩
noncomputable def zie(r r':R2)(ta tb tc:TE):TE:=λσ H Q=>ta σ H λx H1=>tb σ H1 λy H2=>r x y H2 λz H3=>∃k,z=.bl k/\
 (if k=true then tc σ H3 λw' H4=>r' y w' H4 Q else Q (.bl false) H3)
theorem zkj{op op':CmpOp}{r r':R2}(ho:OpR X (compareOp op) r)(ho':OpR X (compareOp op') r')(ha:PE X a ta)(hb:PE X b tb)(hc:PE X c tc)
 (hm:lastMarks [op,op'] [b,c]=false:=by with_unfolding_all rfl):PE X (.Compare a [op,op'] [b,c] pos) (zie r r' ta tb tc):=by
 intro pins s σ H Q I h
 refine Compare_chain (thn (ha pins s σ H _ I h) λv s1 z9=>z9.el λx H1 I1 r1 q1=>chain_link (thn (hb pins s1 σ H1 _ I1 q1) λu s2 z9=>z9.el λy H2 I2 r2 q2=>
  thn (ho pins s2 σ H2 x y v u _ I2 r1 r2 q2) λd s3 z9=>z9.el λz H3 I3 r3 ⟨k,e,q3⟩=>?_)) hm
 subst e
 cases r3
 refine vbe ?_
 cases k with
 |false=>exact ite_ff ⟨.bl false,H3,I3,rfl,q3⟩
 |true=>exact ite_tt (chain_last (thn (hc pins s3 σ H3 _ I3 q3) λw' s4 z9=>z9.el λz' H4 I4 r4 q4=>ho' pins s4 σ H4 y z' u w' Q I4 r2 r4 q4))
theorem zkk{op op':CmpOp}{r r':R2}(ho:OpR X (compareOp op) r)(ho':OpR X (compareOp op') r')(ha:PE X a ta)(hb:PE X b tb)(hc:PE X c tc)
 (hm:lastMarks [op,op'] [b,c]=false:=by with_unfolding_all rfl):PT X (.Compare a [op,op'] [b,c] pos) (tTest (zie r r' ta tb tc)):=by
 intro pins s σ H Q I h
 refine isTrue_chain (thn (ha pins s σ H _ I h) λv s1 z9=>z9.el λx H1 I1 r1 q1=>test_link (thn (hb pins s1 σ H1 _ I1 q1) λu s2 z9=>z9.el λy H2 I2 r2 q2=>
  thn (ho pins s2 σ H2 x y v u _ I2 r1 r2 q2) λd s3 z9=>z9.el λz H3 I3 r3 ⟨k,e,q3⟩=>?_)) hm
 subst e
 cases r3
 refine vbe ?_
 cases k with
 |false=>
  obtain⟨k',e',q'⟩:=q3
  cases e'
  exact ite_ff ⟨H3,I3,q'⟩
 |true=>
  refine ite_tt (test_last (thn (hc pins s3 σ H3 _ I3 q3) λw' s4 z9=>z9.el λz' H4 I4 r4 q4=>thn (ho' pins s4 σ H4 y z' u w' _ I4 r2 r4 q4) λd' s5 z9=>z9.el λz2 H5 I5 r5 hq0=>?_))
  obtain⟨k2,e2,q5⟩:=hq0
  subst e2
  cases r5
  exact vbe ⟨H5,I5,q5⟩
noncomputable def TruV(K:PySem.W.Frag)(x:V)(H:Hp)(k:Bool):Prop:=
 match x with
 |.non=>k=false
 |.bl b=>k=b
 |.int i=>k=(i != 0)
 |.str y=>y.length<=sizeLine/\k=((y.length:Int) != 0)
 |.byt y=>y.size<=sizeLine/\k=((y.size:Int) != 0)
 |.ref p=>(∃xs,SqL K H p xs/\k=!xs.isEmpty)\/(∃xs,SqT K H p xs/\k=!xs.isEmpty)\/∃kvs,H p=some (.dK kvs)/\k=!kvs.isEmpty
 |_=>False
theorem zha{κ:Type}{kvs:List (κ×V)}{vs:List (κ×Value)}(r:KV kvs vs):(!vs.isEmpty)=!kvs.isEmpty:=by
 cases r<;>rfl
theorem zdf{xs:List V}{its:List Value}(r:Vals xs its):(!its.toArray.isEmpty)=!xs.isEmpty:=by
 cases r<;>simp
theorem ze1:(sizeLine:Nat)<2 ^ 63:=by rw[vc4];decide
theorem zpr:TruR X (λx H Q=>∃k,TruV X.K x H k/\Q k H):=by
 intro pins s σ H x v Q I rx h
 obtain⟨k,e,q⟩:=h
 have hl:=ze1
 have hs:sizeLine=16777216:=vc4
 cases x with
 |non=>
  cases rx
  have e':k=false:=e
  subst e'
  exact truthy_none ⟨H,I,q⟩
 |bl b=>
  cases rx
  have e':k=b:=e
  subst e'
  exact vbe ⟨H,I,q⟩
 |int i=>
  obtain⟨t,rfl⟩:=rx
  have e':k=(i != 0):=e
  subst e'
  exact PySem.P.truthy_int ⟨H,I,q⟩
 |str y=>
  obtain⟨t,rfl⟩:=rx
  obtain⟨hy,e'⟩:y.length<=sizeLine/\k=((y.length:Int) != 0):=e
  subst e'
  exact PySem.P.truthy_str (by omega) ⟨H,I.tok _,q⟩
 |byt y=>
  obtain⟨t,rfl⟩:=rx
  obtain⟨hy,e'⟩:y.size<=sizeLine/\k=((y.size:Int) != 0):=e
  subst e'
  exact PySem.W.truthy_bytes (by omega) ⟨H,I.tok _,q⟩
 |ref p=>
  cases rx
  have e':(∃xs,SqL X.K H p xs/\k=!xs.isEmpty)\/(∃xs,SqT X.K H p xs/\k=!xs.isEmpty)\/∃kvs,H p=some (.dK kvs)/\k=!kvs.isEmpty:=e
  rcases e' with⟨xs,hx,e'⟩|⟨xs,hx,e'⟩|⟨kvs,hx,e'⟩
  .subst e'
   obtain⟨its,r,pl,hz⟩:=I.list hx
   have hlen:=r.length
   exact wpAny_truthy_list pl.isList (by simp only[vah];omega) ⟨H,I.tok _,by rw[zdf r];exact q⟩
  .subst e'
   obtain⟨its,r,pl,hz⟩:=I.tuple hx
   have hlen:=r.length
   exact truthy_tuple pl (by simp only[vah];omega) ⟨H,I.tok _,by rw[zdf r];exact q⟩
  .subst e'
   obtain⟨hz,hS,vs,r,m⟩:kvs.length<=sizeLine/\(p==sysModules)=false/\∃vs,KV kvs vs/\s.heap.DictOf (zam X.prog X.w) p vs:=I.hok p _ hx
   have hlen:kvs.length=vs.length:=Paired.length r
   exact wpAny_truthy_dict hS m (by omega) ⟨H,I.tok _,by rw[zha r];exact q⟩
 |_=>exact(show False from e).elim
theorem zkl(ha:PE X a ta)(he:∀whole,isTrue a X.env whole=(do let v <-whole;standAt a.pos;holding [v] (truthy v))) :
 PT X a (λσ H Q=>ta σ H λx H'=>∃k,TruV X.K x H' k/\Q k H'):=by
 intro pins s σ H Q I h
 exact isTrue_plain (thn (ha pins s σ H _ I h) λv s1 z9=>z9.el λx H1 I1 r1 q1=>zpr pins s1 σ H1 x v Q I1 r1 q1) (he _)
theorem vals1{x:V}{us:List Value}(r:Vals [x] us):∃u,us=[u]/\RelV x u:=by
 cases r with
 |cons r1 r2=>cases r2;exact⟨_,rfl,r1⟩
theorem vals2{x y:V}{us:List Value}(r:Vals [x,y] us):∃u w',us=[u,w']/\RelV x u/\RelV y w':=by
 cases r with
 |cons r1 r2=>
  cases r2 with
  |cons r3 r4=>cases r4;exact⟨_,_,rfl,r1,r3⟩
theorem zkm:CallR X (.builtin "abs") (λxs H Q=>∃i,xs=[.int i]/\Q (.int (if i<0 then -i else i)) H):=by
 intro pins s σ H xs us Q I r h
 obtain⟨i,rfl,q⟩:=h
 obtain⟨u,rfl,t,rfl⟩:=vals1 r
 exact call_abs_int λu tk=>⟨.int (if i<0 then -i else i),H,I.tok _,⟨_,rfl⟩,q⟩
theorem zif(hc:X.calm=true):CallR X (.builtin "max") (λxs H Q=>∃i j,xs=[.int i,.int j]/\Q (.int (if j>i then j else i)) H):=by
 intro pins s σ H xs us Q I r h
 obtain⟨i,j,rfl,q⟩:=h
 obtain⟨u,w',rfl,⟨t,rfl⟩,⟨t',rfl⟩⟩:=vals2 r
 refine max_two_ints (I.ok.hd hc) λh' tk k=>⟨_,H,I.kept k,?_,q⟩
 by_cases hj:j>i
 .rw[if_pos hj,if_pos hj];exact⟨_,rfl⟩
 .rw[if_neg hj,if_neg hj];exact⟨_,rfl⟩
theorem zig(hc:X.calm=true):CallR X (.builtin "min") (λxs H Q=>∃i j,xs=[.int i,.int j]/\Q (.int (if j<i then j else i)) H):=by
 intro pins s σ H xs us Q I r h
 obtain⟨i,j,rfl,q⟩:=h
 obtain⟨u,w',rfl,⟨t,rfl⟩,⟨t',rfl⟩⟩:=vals2 r
 refine min_two_ints (I.ok.hd hc) λh' tk k=>⟨_,H,I.kept k,?_,q⟩
 by_cases hj:j<i
 .rw[if_pos hj,if_pos hj];exact⟨_,rfl⟩
 .rw[if_neg hj,if_neg hj];exact⟨_,rfl⟩
theorem zih:CallR X (.type "int") (λxs H Q=>(∃i,xs=[.int i]/\Q (.int i) H)\/∃k,xs=[.bl k]/\Q (.int (if k then 1 else 0)) H):=by
 intro pins s σ H xs us Q I r h
 rcases h with⟨i,rfl,q⟩|⟨k,rfl,q⟩
 .obtain⟨u,rfl,t,rfl⟩:=vals1 r
  exact call_int_int ⟨.int i,H,I,⟨_,rfl⟩,q⟩
 .obtain⟨u,rfl,r1⟩:=vals1 r
  cases r1
  exact call_int_bool ⟨.int (if k then 1 else 0),H,I.tok _,⟨_,rfl⟩,q⟩
end
structure ObjM(h:Heap)(x dx C:Addr)(mA:Str->Option Value):Prop where
 obj:h.get? x=some (PySem.W.instObj C dx)
 ns:h.Ns1 dx mA
 ne:dx≠x
theorem zii{h:Heap}{dx:Addr}{mA:Str->Option Value}(n:h.Ns1 dx mA):∃od,h.get? dx=some od/\∀name,PySem.W.lookIn name od=some (mA name):=by
 obtain⟨o,es,ep,ho,hd,hk,_,hm⟩:=n
 refine⟨o,ho,λname=>?_⟩
 have e:=hm name
 unfold nsFind findBy at e
 rw[<-Array.find?_toList]at e
 unfold PySem.W.lookIn
 rw[hd]
 dsimp only
 split
 .rename_i y q
  rw[q]at e
  exact vcx some e
 .rename_i q
  rw[q]at e
  have a:es.toList.any (·.refKey)=false:=by
   rw[List.any_eq_false]
   intro y hy
   obtain⟨z,t,hkey⟩:=hk y (Array.mem_toList_iff.mp hy)
   simp[DictEntry.refKey,hkey]
  have a':¬es.toList.any (·.refKey)=true:=by rw[a];exact vao
  rw[if_neg a']
  exact vcx some e
theorem ObjM.look{h:Heap}{x dx C:Addr}{mA:Str->Option Value}(I:ObjM h x dx C mA):∃od,PySem.W.InstAt h x (PySem.W.instObj C dx) C (some od)/\∀name,PySem.W.lookIn name od=some (mA name):=
 let⟨od,ho,hl⟩:=zii I.ns
 ⟨od,⟨I.obj,rfl,rfl,ho⟩,hl⟩
section
variable{prog:Program}{w:World}{A:Around}{E:Value->Shared->Prop}{s:Shared}{K:PySem.W.Frag}{x dx C f:Addr}{mA:Str->Option Value}{name:Str}{v:Value}
theorem zm3{expr:Bool}{Q:Value->Shared->Prop}(X:K.In s.heap)(I:ObjM s.heap x dx C mA)(hg:PySem.W.plainGet K C name=true)(hh:PySem.W.hasDictIn K C=true)
 (ha:PySem.W.findIn K (.ref C) name=some none) (hv:mA name=some v) (hv':PySem.W.handedIn v=true) (h:Q v {s with toks:=s.toks+1}) :
 wpAny (model prog w) A (getAttr (.ref x) name expr) Q E s:=by
 obtain⟨od,J,hl⟩:=I.look
 exact PySem.W.get_value X J (PySem.W.plainGet_of hg).1 (PySem.W.findObj_own hh ha rfl (by rw[hl,hv])) hv' h
theorem zkn{pl:Sem Bool}{Q:Value×List Value->Shared->Prop}(X:K.In s.heap)(I:ObjM s.heap x dx C mA)(hg:PySem.W.plainGet K C name=true)
 (hf:PySem.W.findIn K (.ref C) name=some (some (.ref f))) (ht:PySem.W.isFn K (.ref f)=true) (hv:mA name=none) (h:Q (.ref f,[.ref x]) s) :
 wpAny (model prog w) A (getMethod (.ref x) name pl) Q E s:=by
 obtain⟨od,J,hl⟩:=I.look
 exact PySem.W.method_fn X J (PySem.W.plainGet_of hg).1 (PySem.W.plainGet_of hg).2 hf (vbx.mp ht) (by show(PySem.W.lookIn name od).map (·.isSome)=some false;rw[hl,hv];rfl) h
theorem zm4{ns:List Str}{Q:Unit->Shared->Prop}(X:K.In s.heap)(I:ObjM s.heap x dx C mA)
 (hs:PySem.W.findIn K (.ref C) "__setattr__" = some (some (.builtin "object.__setattr__"))) (hp:PySem.W.plainOver K C=true) (ht:PySem.W.takerIn K C name=some none) (hh:PySem.W.hasDictIn K C=true)
 (hw:PySem.Within mA ns) (hsz:ns.length<=sizeLine)
 (h:∀h',ObjM h' x dx C (λy=>if y=name then some v else mA y)->Heap.SameBut dx s.heap h'->Q () {s with heap:=h',toks:=s.toks+2}) :
 wpAny (model prog w) A (setAttr (.ref x) name v) Q E s:=by
 obtain⟨od,J,hl⟩:=I.look
 refine PySem.W.set_plain X J hs (PySem.W.osa_open (s:={s with toks:=s.toks+1}) (r:=none) X J hp ht λb=>?_)
 obtain⟨cd,hc,hd'⟩:=PySem.W.any_some hh
 have hx:s.heap.get? x=some ⟨.ref C,some dx,.plain,#[]⟩:=I.obj
 refine vab (vag (vab (vab (wpAny_loadPart hx (vab (PySem.W.Looks.here (s:={s with toks:=s.toks+1}) (PySem.W.looks_clsIn X hc) ?_))))))
 rw[hd']
 refine vag (a:=some dx) (vab (vag (vab ?_)))
 refine wpAny_nsSet1 (s:={s with toks:=s.toks+1}) I.ns λh' hn2 hs2=>?_
 obtain⟨oD,esD,epD,hoD,hdD,hcD⟩:=hn2.count (PySem.Within.cons name v hw)
 refine vab (wpAny_lookBehind hoD (by rw[hdD];exact pastItsLine_dict (va3 hcD (by rw[vam];omega))) ?_)
 exact vag (h _ ⟨(hs2.2 _ (vb3 I.ne)).trans I.obj,hn2,I.ne⟩ hs2)
theorem zko{R:Result->Shared->Prop}{vs:List Value}{kw:List (Str×Value)}(X:K.In s.heap)(hm:PySem.W.makesIn K C=true)
 (hi:PySem.W.findIn K (.ref C) "__init__" = some (some (.ref f))) (hf:PySem.W.typeIn K (.ref f)=some (.type "function"))
 (h:codeAny (model prog w) (A.under (.builtin "type.__call__" ⟨.ref C::vs,kw⟩)) (.call (.ref f) ⟨.ref (s.heap.objs.size+1)::vs,kw⟩) (PySem.W.InitBack (s.heap.objs.size+1) R)
   {s with heap:=(s.heap.push PySem.W.emptyDict).push (PySem.W.instObj C s.heap.objs.size)}) :
 codeAny (model prog w) A (.call (.ref C) ⟨vs,kw⟩) R s:=by
 obtain⟨hh,g,d,t,os⟩:=s
 exact PySem.W.make_core (PySem.W.makes_of X hm) (PySem.W.looks_findIn X hi) (λself=>PySem.W.bind_fn X self hf) (.inl rfl) h
end
noncomputable def putF(f:Str)(v:V):List (Str×V)->List (Str×V)
 |[]=>[(f,v)]
 |(g,x)::r=>if g=f then(g,v)::r else(g,x)::putF f v r
theorem zcu(f g:Str)(v:V):∀fs:List (Str×V),(putF f v fs).lookup g=if g=f then some v else fs.lookup g
 |[]=>by
  show List.lookup g [(f,v)]=_
  by_cases h:g=f
  .have hb:(g==f)=true:=vbx.mpr h
   simp only[List.lookup,hb,if_pos h]
  .have hb:(g==f)=false:=vbs.mpr h
   simp only[List.lookup,hb,if_neg h]
 |(k,x)::r=>by
  have ih:=zcu f g v r
  rw[show putF f v ((k,x)::r)=(if k=f then(k,v)::r else(k,x)::putF f v r)from rfl]
  by_cases hk:k=f
  .rw[if_pos hk]
   by_cases h:g=k
   .have hb:(g==k)=true:=vbx.mpr h
    simp only[List.lookup,hb,if_pos (h.trans hk)]
   .have hb:(g==k)=false:=vbs.mpr h
    simp only[List.lookup,hb,if_neg (λe:g=f=>h (e.trans hk.symm))]
  .rw[if_neg hk]
   by_cases h:g=k
   .have hb:(g==k)=true:=vbx.mpr h
    simp only[List.lookup,hb,if_neg (λe:g=f=>hk (h.symm.trans e))]
   .have hb:(g==k)=false:=vbs.mpr h
    simp only[List.lookup,hb]
    exact ih
theorem zcv(f:Str)(v:V):∀fs:List (Str×V),f∈(putF f v fs).map (·.1)/\∀g,g∈fs.map (·.1)->g∈(putF f v fs).map (·.1)
 |[]=>⟨by simp[putF],λg h=>by simp at h⟩
 |(k,x)::r=>by
  obtain⟨i1,i2⟩:=zcv f v r
  rw[show putF f v ((k,x)::r)=(if k=f then(k,v)::r else(k,x)::putF f v r)from rfl]
  by_cases hk:k=f
  .rw[if_pos hk]
   subst hk
   exact⟨by simp,λg h=>by simpa using h⟩
  .rw[if_neg hk]
   refine⟨?_,λg h=>?_⟩
   .rw[vaj]
    exact van _ i1
   .rw[vaj]at h ⊢
    rcases va5.mp h with e|e
    .exact va5.mpr (.inl e)
    .exact van _ (i2 g e)
theorem zcw(f:Str)(v:V):∀fs:List (Str×V),(putF f v fs).length<=fs.length+1
 |[]=>by simp[putF]
 |(k,x)::r=>by
  have ih:=zcw f v r
  rw[show putF f v ((k,x)::r)=(if k=f then(k,v)::r else(k,x)::putF f v r)from rfl]
  by_cases hk:k=f
  .rw[if_pos hk,vam,vam];omega
  .rw[if_neg hk,vam,vam];omega
theorem RelO.some_of{v:V}{o:Option Value}(r:RelO (some v) o):∃u,o=some u/\RelV v u:=by
 cases o with
 |none=>exact(show False from r).elim
 |some u=>exact⟨u,rfl,r⟩
theorem RelO.none_of{o:Option Value}(r:RelO none o):o=none:=by
 cases o with
 |none=>rfl
 |some u=>exact(show False from r).elim
theorem zij{v:V}{u:Value}(r:RelV v u):PySem.W.handedIn u=true:=by
 cases v with
 |non=>cases(show u=Value.none from r);rfl
 |bl b=>cases(show u=Value.bool b from r);rfl
 |int i=>obtain⟨t,e⟩:=(show ∃t,u=Value.int i t from r);cases e;rfl
 |str x=>obtain⟨t,e⟩:=(show ∃t,u=Value.str x t from r);cases e;rfl
 |byt b=>obtain⟨t,e⟩:=(show ∃t,u=Value.bytes b t from r);cases e;rfl
 |flt b=>obtain⟨t,e⟩:=(show ∃t,u=Value.float b t from r);cases e;rfl
 |ref a=>cases(show u=Value.ref a from r);rfl
 |ty n=>cases(show u=Value.type n from r);rfl
section
variable{P:Program}{w:World}{H H':Hp}{h h':Heap}{a C dx:Addr}{fs fs':List (Str×V)}
theorem zd7(hok:HOk P w H h)(e:H a=some (.ins C dx fs)):∃mA,ObjM h a dx C mA/\(∀f,RelO (fs.lookup f) (mA f))/\PySem.Within mA (fs.map (·.1))/\fs.length<=1000/\H dx=some (.own a):=by
 obtain⟨d,z,ne,ob,mA,n,r,q⟩:=(show ObjOk P w H h a (.ins C dx fs)from hok a _ e)
 exact⟨mA,⟨ob,n,ne⟩,r,q,z,d⟩
end
structure Cls(K:PySem.W.Frag)(C:Addr):Prop where
 pg:PySem.W.plainGet K C Str.empty=true
 hd:PySem.W.hasDictIn K C=true
 po:PySem.W.plainOver K C=true
 sa:PySem.W.findIn K (.ref C) "__setattr__" = some (some (.builtin "object.__setattr__"))
theorem Cls.get{K:PySem.W.Frag}{C:Addr}(c:Cls K C)(f:Str):PySem.W.plainGet K C f=true:=c.pg
noncomputable def zbx(K:PySem.W.Frag)(C:Addr)(f:Str):Prop:=PySem.W.findIn K (.ref C) f=some none
theorem zbx.taker{K:PySem.W.Frag}{C:Addr}{f:Str}(n:zbx K C f):PySem.W.takerIn K C f=some none:=by
 unfold PySem.W.takerIn
 rw[show PySem.W.findIn K (.ref C) f=some none from n]
 rfl
structure Meth(K:PySem.W.Frag)(C:Addr)(m:Str)(f:Addr):Prop where
 at_:PySem.W.findIn K (.ref C) m=some (some (.ref f))
 fn:PySem.W.isFn K (.ref f)=true
 kp:PySem.W.keepIn K (.ref f)=true
section
variable{X:Cx}{pins:List (Addr×Obj)}{σ:St}{H:Hp}{s:Shared}{a C dx:Addr}{fs:List (Str×V)}{f:Str}{v:V}{A:Around}{E:Value->Shared->Prop}
theorem zhb{b:Bool}{Q:Value->Shared->Prop}(I:Inv X pins σ H s)(e:H a=some (.ins C dx fs))(c:Cls X.K C)(n:zbx X.K C f)(l:fs.lookup f=some v)
 (h:∀u s',Inv X pins σ H s'->RelV v u->Q u s'):wpAny (model X.prog X.w) A (getAttr (.ref a) f b) Q E s:=by
 obtain⟨mA,O,r,_,_,_⟩:=zd7 I.hok e
 obtain⟨u,hu,ru⟩:=RelO.some_of (v:=v) (o:=mA f) (by rw[<-l];exact r f)
 exact zm3 I.kIn O (c.get f) c.hd n hu (zij ru) (h u _ (I.tok _) ru)
theorem zdg{m:Str}{g:Addr}{pl:Sem Bool}{Q:Value×List Value->Shared->Prop}(I:Inv X pins σ H s)(e:H a=some (.ins C dx fs))(c:Cls X.K C)(k:Meth X.K C m g)(l:fs.lookup m=none)
 (h:Q (.ref g,[.ref a]) s):wpAny (model X.prog X.w) A (getMethod (.ref a) m pl) Q E s:=by
 obtain⟨mA,O,r,_,_,_⟩:=zd7 I.hok e
 have hn:mA m=none:=RelO.none_of (by rw[<-l];exact r m)
 exact zkn I.kIn O (c.get m) k.at_ k.fn hn h
theorem zhc{y:V}{u:Value}{Q:Unit->Shared->Prop}(I:Inv X pins σ H s)(e:H a=some (.ins C dx fs))(c:Cls X.K C)(n:zbx X.K C f)(hl:fs.length<1000)(ry:RelV y u)
 (h:∀s',Inv X pins σ (upd H a (.ins C dx (putF f y fs))) s'->Q () s'):wpAny (model X.prog X.w) A (setAttr (.ref a) f u) Q E s:=by
 obtain⟨mA,O,r,wi,_,ho⟩:=zd7 I.hok e
 have hz:(fs.map (·.1)).length<=sizeLine:=by rw[vap,vc4];omega
 refine zm4 I.kIn O c.sa c.po n.taker c.hd wi hz λh' O' sb=>h _ ?_
 have hd:∃o,h'.get? dx=some o:=let⟨o,_,_,e',_⟩:=O'.ns;⟨o,e'⟩
 refine I.write (x:=a) (e:=dx) (by rw[e];exact True.intro) (.inr ho) (λb q hb z=>(sb.2 b hb).trans z) hd ?_
 refine⟨by rw[zac O.ne];exact ho,?_,O.ne,O'.obj,_,O'.ns,λg=>?_,λg hg=>?_⟩
 .have:=zcw f y fs;omega
 .show RelO ((putF f y fs).lookup g) (if g=f then some u else mA g)
  rw[zcu]
  by_cases q:g=f
  .rw[if_pos q,if_pos q];exact ry
  .rw[if_neg q,if_neg q];exact r g
 .by_cases q:g=f
  .rw[q];exact(zcv f y fs).1
  .refine(zcv f y fs).2 g (wi g λz=>hg ?_)
   show(if g=f then some u else mA g)=none
   rw[if_neg q];exact z
theorem Inv.made(I:Inv X pins σ H s):Inv X pins σ (upd (upd H s.heap.objs.size (.own (s.heap.objs.size+1))) (s.heap.objs.size+1) (.ins C s.heap.objs.size []))
 {s with heap:=(s.heap.push PySem.W.emptyDict).push (PySem.W.instObj C s.heap.objs.size)}:=by
 have e1:(s.heap.push PySem.W.emptyDict).get? s.heap.objs.size=some PySem.W.emptyDict:=vav s.heap rfl
 have e2:((s.heap.push PySem.W.emptyDict).push (PySem.W.instObj C s.heap.objs.size)).get? (s.heap.objs.size+1)=some (PySem.W.instObj C s.heap.objs.size):=by
  have:=vav (s.heap.push PySem.W.emptyDict) (o:=PySem.W.instObj C s.heap.objs.size) rfl
  rwa [vce]at this
 have e3:(s.heap.push PySem.W.emptyDict).Ns s.heap.objs.size (λ_=>none):=⟨PySem.W.emptyDict,#[],_,e1,rfl,(λe he=>absurd he (by simp)),λ_=>rfl⟩
 have I1:=I.laid (a:=s.heap.objs.size) (o:=.own (s.heap.objs.size+1)) (h':=s.heap.push PySem.W.emptyDict) (t':=s.toks) (λb u q=>vac _ q) (vad _) ⟨_,e1⟩
 refine I1.laid (a:=s.heap.objs.size+1) (o:=.ins C s.heap.objs.size []) (t':=s.toks) (λb u q=>vac _ q) (Nat.le_of_eq (vce _ _)) ?_
 have ne:s.heap.objs.size≠s.heap.objs.size+1:=vas (va2 _)
 refine⟨by rw[zac ne,zad],vct _,ne,e2,λ_=>none,(Heap.Ns1.of_empty e3).at λo q=>vac _ q,λ_=>True.intro,λy hy=>absurd rfl hy⟩
theorem zm5{prog:Program}{w:World}{env:Env}{e:Expr}{f:Str}{pos:Pos}{s:Shared}{Q:Value->Shared->Prop}(hb:attributeBase e f env (eval e env)=eval e env)
 (h:wpAny (model prog w) A (eval e env) (λo s₁=>wpAny (model prog w) A (getAttr o f true) Q E s₁) E s):wpAny (model prog w) A (eval (.Attribute e f pos) env) Q E s:=
 Attribute_any_ h (by rw[arm_eval_Attribute,hb])
end
noncomputable def tFld(K:PySem.W.Frag)(ta:TE)(f:Str):TE:=λσ H Q=>ta σ H λx H1=>∃a C dx fs v,x=.ref a/\H1 a=some (.ins C dx fs)/\Cls K C/\zbx K C f/\fs.lookup f=some v/\Q v H1
noncomputable def sFld(K:PySem.W.Frag)(ta tv:TE)(f:Str):TS:=λD σ H=>tv σ H λy H1=>ta σ H1 λx H2=>∃a C dx fs,x=.ref a/\H2 a=some (.ins C dx fs)/\Cls K C/\zbx K C f/\fs.length<1000/\
 D.nx σ (upd H2 a (.ins C dx (putF f y fs)))
section
variable{X:Cx}{o e value:Expr}{f:Str}{pos pos' tpos:Pos}{ta tv:TE}
theorem zps(he:PE X e ta)(hb:attributeBase e f X.env (eval e X.env)=eval e X.env):PE X (.Attribute e f pos) (tFld X.K ta f):=by
 intro pins s σ H Q I h
 refine zm5 hb (thn (he pins s σ H _ I h) λu s1 z9=>z9.el λx H1 I1 rx hq0=>?_)
 obtain⟨a,C,dx,fs,v,ex,ea,c,n,l,q⟩:=hq0
 subst ex
 obtain rfl:u=Value.ref a:=rx
 exact zhb I1 ea c n l λu' s2 I2 ru=>⟨v,H1,I2,ru,q⟩
theorem zpt(ha:PE X o ta)(hv:PE X value tv)(hs:swapsWith value (some (.Attribute o f pos')) pos.line X.env=pure false):PS X (.Assign [.Attribute o f pos'] value pos) (sFld X.K ta tv f):=by
 intro pins s σ H D I h
 refine plainObj_wpAny_Assign_Attribute (thn (hv pins s σ H _ I h) λu s1 z9=>z9.el λy H1 I1 ry q=>thn (ha pins s1 σ H1 _ I1 q) λov s2 z9=>z9.el λx H2 I2 rx ⟨a,C,dx,fs,ex,ea,c,n,l,q2⟩=>?_) hs
 subst ex
 obtain rfl:ov=Value.ref a:=rx
 exact zhc I2 ea c n l ry λs3 I3=>⟨σ,_,I3,q2⟩
theorem zm6{pl:Sem Bool}{m:Str}{apos:Pos}{args:List Expr}{pins:List (Addr×Obj)}{s:Shared}{σ:St}{H:Hp}{Q:Value->Shared->Prop}{te:TE}(he:PE X e te)(I:Inv X pins σ H s)
 (h:te σ H λx H1=>∃a C dx fs g,x=.ref a/\H1 a=some (.ins C dx fs)/\Cls X.K C/\Meth X.K C m g/\fs.lookup m=none/\
   ∀s1,Inv X pins σ H1 s1->wpAny (model X.prog X.w) X.A (callWith pos (.ref g) [.ref a] (backTo pos (starEach args X.env)) (backToKw pos (keywordEach [] X.env))) Q X.xe s1)
 (ht:eval (.Call (.Attribute e m apos) args [] pos) X.env=(do
   let ov <-eval e X.env
   standAt apos.atName
   let (f,first) <-holding [ov] (getMethod ov m pl)
   callWith pos f first (backTo pos (starEach args X.env)) (backToKw pos (keywordEach [] X.env)))) :
 wpAny (model X.prog X.w) X.A (eval (.Call (.Attribute e m apos) args [] pos) X.env) Q X.xe s:=by
 refine PySem.W.methodCall_KW (pl:=pl) (thn (he pins s σ H _ I h) λu s1 z9=>z9.el λx H1 I1 rx ⟨a,C,dx,fs,g,ex,ea,c,k,l,q⟩=>?_) ht
 subst ex
 obtain rfl:u=Value.ref a:=rx
 exact zdg I1 ea c k l (q s1 I1)
end
section
variable{X:Cx}{pins:List (Addr×Obj)}{σ:St}{H:Hp}{s:Shared}{A:Around}{E:Value->Shared->Prop}{Q:Value->Shared->Prop}{c:Value}{b:Bool}
inductive TyOf(K:PySem.W.Frag)(H:Hp):V->Value->Prop where
 |non:TyOf K H .non (.type "NoneType")
 |bl (x:Bool):TyOf K H (.bl x) (.type "bool")
 |int (i:Int):TyOf K H (.int i) (.type "int")
 |str (x:Str):TyOf K H (.str x) (.type "str")
 |flt (x:UInt64):TyOf K H (.flt x) (.type "float")
 |lst {a:Addr} {xs:List V} (e:H a=some (.lst xs)):TyOf K H (.ref a) (.type "list")
 |frz {a:Addr} {o:Obj} {xs:List V} (e:H a=some (.frz o (.lst xs))):TyOf K H (.ref a) (.type "list")
 |tup {a:Addr} {xs:List V} (e:H a=some (.tup xs)):TyOf K H (.ref a) (.type "tuple")
 |dK {a:Addr} {kvs:List (Key×V)} (e:H a=some (.dK kvs)):TyOf K H (.ref a) (.type "dict")
 |dT {a:Addr} {kvs:List (List Key×V)} (e:H a=some (.dT kvs)):TyOf K H (.ref a) (.type "dict")
 |ins {a C dx:Addr} {fs:List (Str×V)} (e:H a=some (.ins C dx fs)) (cl:Cls K C) (ha:PySem.W.findIn K (.ref C) "__class__" = some (some (.builtin "object.__class__")))
   (hn:PySem.W.specialIn K (.builtin "object.__class__") "__get__" = some (some (.builtin "getset_descriptor.__get__"))) (htk:PySem.W.takesIn K (.builtin "object.__class__")=some true)
   (hm:PySem.W.mroIn K C (.type "object")=some true):TyOf K H (.ref a) (.ref C)
theorem zik{x:V}{u t:Value}(I:Inv X pins σ H s)(rx:RelV x u)(ty:TyOf X.K H x t)(e:PySem.W.kitOne X.K t c=some b)(h:∀tk,Q (.bool b) {s with toks:=tk}) :
 wpAny (model X.prog X.w) A (call (.builtin "isinstance") [u,c]) Q E s:=by
 cases ty with
 |non=>cases(show u=Value.none from rx);exact va7 PySem.W.kitx_none I.kIn True.intro e (λz=>nomatch z) h
 |bl y=>cases(show u=Value.bool y from rx);exact va7 PySem.W.kitx_bool I.kIn True.intro e (λz=>nomatch z) h
 |int i=>obtain⟨t,q⟩:=(show ∃t,u=Value.int i t from rx);cases q;exact va7 PySem.W.kitx_int I.kIn True.intro e (λz=>nomatch z) h
 |str y=>obtain⟨t,q⟩:=(show ∃t,u=Value.str y t from rx);cases q;exact va7 PySem.W.kitx_str I.kIn True.intro e (λz=>nomatch z) h
 |flt y=>obtain⟨t,q⟩:=(show ∃t,u=Value.float y t from rx);cases q;exact va7 PySem.W.kitx_float I.kIn True.intro e (λz=>nomatch z) h
 | @lst a xs ea=>
  cases(show u=Value.ref a from rx)
  obtain⟨_,_,n,_,h1⟩:=(show ObjOk X.prog X.w H s.heap a (.lst xs)from I.hok a _ ea)
  exact va7 PySem.W.kitx_list I.kIn ⟨_,h1,rfl⟩ e (λz=>nomatch z) h
 | @frz a ob xs ea=>
  cases(show u=Value.ref a from rx)
  obtain⟨_,_,_,n,_,h1⟩:=(show ObjOk X.prog X.w H s.heap a (.frz ob (.lst xs))from I.hok a _ ea)
  exact va7 PySem.W.kitx_list I.kIn ⟨_,h1,rfl⟩ e (λz=>nomatch z) h
 | @tup a xs ea=>
  cases(show u=Value.ref a from rx)
  obtain⟨_,_,_,p⟩:=(show ObjOk X.prog X.w H s.heap a (.tup xs)from I.hok a _ ea)
  obtain⟨o,h1,h2,_⟩:=p
  exact va7 PySem.W.kitx_tuple I.kIn ⟨o,h1,h2⟩ e (λz=>nomatch z) h
 | @dK a kvs ea=>
  cases(show u=Value.ref a from rx)
  obtain⟨_,_,vs,_,p⟩:=(show ObjOk X.prog X.w H s.heap a (.dK kvs)from I.hok a _ ea)
  obtain⟨o,es,ep,h1,h2,_⟩:=p
  exact va7 PySem.W.kitx_dict I.kIn ⟨o,h1,h2.1⟩ e (λz=>nomatch z) h
 | @dT a kvs ea=>
  cases(show u=Value.ref a from rx)
  obtain⟨_,_,xs,_,o,es,ep,h1,h2,_⟩:=(show ObjOk X.prog X.w H s.heap a (.dT kvs)from I.hok a _ ea)
  exact va7 PySem.W.kitx_dict I.kIn ⟨o,h1,h2.1⟩ e (λz=>nomatch z) h
 | @ins a C dx fs ea cl ha hn htk hm=>
  cases(show u=Value.ref a from rx)
  obtain⟨mA,O,_⟩:=zd7 I.hok ea
  obtain⟨od,J,_⟩:=O.look
  exact va7 (PySem.W.kitx_own (cl.get _) cl.hd ha hn htk hm) I.kIn J e (λz=>nomatch z) h
end
structure Room(k:Nat)(A:Around):Prop where
 hd:A.handled=none
 dp:A.depth+3*k+5<recursionLimit
 un:A.units+16*k+200<cLine
theorem Room.deeper{k:Nat}{A:Around}(r:Room (k+1) A)(env:Env):Room k (A.deeper env):=
 ⟨r.hd,by have:=r.dp;show A.depth+1+3*k+5<_;omega,by have:=r.un;show A.units+3+16*k+200<_;omega⟩
theorem zhd{A:Around}{C:Addr}{us:List Value}{kw:List (Str×Value)}:(A.under (.builtin "type.__call__" ⟨.ref C::us,kw⟩)).depth=A.depth+1:=by
 first|rfl|simp[Around.under,Code.weight,Code.isCreation,Code.isGuard,Code.isCaller,Code.frames,Code.isFrame,guardIds]
theorem zhe{A:Around}{C:Addr}{us:List Value}{kw:List (Str×Value)}:(A.under (.builtin "type.__call__" ⟨.ref C::us,kw⟩)).units=A.units+1:=by
 first|rfl|simp[Around.under,Code.cUnits,Code.frames,Code.isFrame]
theorem Room.make{k:Nat}{A:Around}(r:Room (k+1) A)(C:Addr)(us:List Value)(kw:List (Str×Value)):Room k (A.under (.builtin "type.__call__" ⟨.ref C::us,kw⟩)):=
 ⟨r.hd,by have:=r.dp;rw[zhd];omega,by have:=r.un;rw[zhe];omega⟩
theorem Room.depth{k:Nat}{A:Around}(r:Room k A):A.depth<recursionLimit:=by have:=r.dp;omega
theorem Room.units{k:Nat}{A:Around}(r:Room k A):A.units+64<cLine:=by have:=r.un;omega
noncomputable def tNil:TA:=λ_ H Q=>Q [] H
noncomputable def tCons(ta:TE)(tr:TA):TA:=λσ H Q=>ta σ H λx H1=>tr σ H1 λxs H2=>Q (x::xs) H2
section
variable{X:Cx}{e:Expr}{es:List Expr}{te:TE}{t:TA}{pos:Pos}
theorem zbs:PA X [] tNil:=λ_ _ _ _ H Q I h=>Calls.spliced_nil ⟨[],H,I,.nil,h⟩
theorem zaw(ha:PE X e te)(hr:PA X es t)(hs:starEach (e::es) X.env=(false,eval e X.env)::starEach es X.env:=by rfl):PA X (e::es) (tCons te t):=by
 intro pos pins s σ H Q I h
 rw[hs]
 show wpAny _ _ (spliced ((false,eval e X.env)::backTo pos (starEach es X.env))) _ _ s
 refine Calls.spliced_cons (thn (ha pins s σ H _ I h) λu s1 z9=>z9.el λx H1 I1 r1 q1=>?_)
 exact thn (hr pos pins s1 σ H1 _ I1 q1) λus s2 z9=>z9.el λxs H2 I2 r2 q2=>⟨x::xs,H2,I2,.cons r1 r2,q2⟩
noncomputable def tTup(t:TA):TE:=λσ H Q=>t σ H λxs H1=>xs.length<=sizeLine/\∀p,H1 p=none->Q (.ref p) (upd H1 p (.tup xs))
noncomputable def tLst(t:TA):TE:=λσ H Q=>t σ H λxs H1=>xs.length<=sizeLine/\∀p,H1 p=none->Q (.ref p) (upd H1 p (.lst xs))
theorem zpu{x1}(h:PA X es t):PE X (.Tuple es x1 pos) (tTup t):=by
 intro pins s σ H Q I hq
 refine wpAny_Tuple_spliced (thn (h pos pins s σ H _ I hq) λus s1 z9=>z9.el λxs H1 I1 r ⟨z,q⟩=>⟨by rw[<-r.length];exact z,?_⟩)
 have hf:H1 s1.heap.objs.size=none:=I1.hok.fresh (vad _)
 refine⟨.ref s1.heap.objs.size,upd H1 s1.heap.objs.size (.tup xs),I1.laid (t':=s1.toks) (λb u e=>vac _ e) (vad _) ?_,rfl,q _ hf⟩
 exact⟨z,us,r,zbd.new _ _⟩
theorem zil(h:PA X es t):PE X (.List es pos) (tLst t):=by
 intro pins s σ H Q I hq
 refine wpAny_List_spliced (thn (h pos pins s σ H _ I hq) λus s1 z9=>z9.el λxs H1 I1 r ⟨z,q⟩=>⟨by rw[<-r.length];exact z,?_⟩)
 have hf:H1 s1.heap.objs.size=none:=I1.hok.fresh (vad _)
 refine⟨.ref s1.heap.objs.size,upd H1 s1.heap.objs.size (.lst xs),I1.laid (t':=s1.toks) (λb u e=>vac _ e) (vad _) ?_,rfl,q _ hf⟩
 exact⟨z,us,0,r,vav _ rfl⟩
end
noncomputable abbrev Sp:=List V->Hp->VK->XK->Prop
noncomputable abbrev CXT:=List Env->Hp->Shared->XK->Value->Shared->Prop
structure Env0(P:Program)(w:World)(K:PySem.W.Frag)(mg:Str->Option Value)(base:Heap)(A:Around)(outer:List Env)(s:Shared)(H:Hp):Prop where
 frames:A.frames=some outer
 mod:Mod K mg base
 bs:∀b o,base.get? b=some o->s.heap.get? b=some o/\H b=none
 bsz:base.objs.size<=s.heap.objs.size
 funs:s.heap.FunFrames base outer
 frf:∀b∈frs outer,H b=none
 hok:HOk P w H s.heap
 bare:AllBare s.gens
noncomputable def CE(outer:List Env)(P:Program)(w:World)(H:Hp)(s:Shared)(Q:VK)(u:Value)(s':Shared):Prop:=
 ∃v H',s'.os=s.os/\AllBare s'.gens/\Un (frs outer) [] H H' s.heap s'.heap/\HOk P w H' s'.heap/\RelV v u/\Q v H'
noncomputable def CR(CX:CXT)(outer:List Env)(P:Program)(w:World)(H:Hp)(s:Shared)(Q:VK)(E:XK)(r:Result)(s':Shared):Prop:=
 match r with
 |.ok (.ret u)=>CE outer P w H s Q u s'
 |.ok _=>False
 |.error e=>CX outer H s E e s'
structure FnOk(P:Program)(w:World)(K:PySem.W.Frag)(mg:Str->Option Value)(base:Heap)(CX:CXT)(k:Nat)(f:Addr)(fd:FuncData)(ps:List Str)(sp:Sp):Prop where
 len:∀vs H Q E,sp vs H Q E->vs.length=ps.length
 run:∀(A:Around)(outer:List Env)(s:Shared)(H:Hp)(args:Args)(us:List Value)(vs:List V)(Q:VK)(E:XK),Room k A->Env0 P w K mg base A outer s H->BindsTo s fd args (ps.zip us)->Vals vs us->sp vs H Q E->
  codeAny (model P w) A (.call (.ref f) args) (CR CX outer P w H s Q E) s
theorem Env0.make{P:Program}{w:World}{K:PySem.W.Frag}{mg:Str->Option Value}{base:Heap}{A:Around}{outer:List Env}{s:Shared}{H:Hp}(e:Env0 P w K mg base A outer s H)(C:Addr)(us:List Value)(kw:List (Str×Value)) :
 Env0 P w K mg base (A.under (.builtin "type.__call__" ⟨.ref C::us,kw⟩)) outer s H:=⟨by first|exact e.frames|(simpa[Around.under,Code.envs,Code.isFrame,pushEnvs]using e.frames),e.mod,e.bs,e.bsz,e.funs,e.frf,e.hok,e.bare⟩
section
variable{X:Cx}{pins:List (Addr×Obj)}{σ:St}{H:Hp}{s s':Shared}
theorem Inv.env0(I:Inv X pins σ H s):Env0 X.prog X.w X.K X.mg X.base X.A X.stack s H:=
 ⟨I.ok.frames,I.ok.mod,I.bs,va3 I.ok.bsz I.sz,I.stack,I.stkFree,I.hok,I.bare⟩
theorem Inv.after{Q:VK}{u:Value}(I:Inv X pins σ H s)(h:CE X.stack X.prog X.w H s Q u s'):EP X pins σ Q u s':=by
 obtain⟨v,H',os,bare,un,hok,r,q⟩:=h
 obtain⟨hh,g,d,t,os'⟩:=s'
 obtain rfl:os'=s.os:=os
 exact⟨v,H',I.call (h':=hh) (g':=g) (d':=d) (t':=t) (ch:=[]) un hok bare (λb z=>absurd z (by simp)),r,q⟩
end
noncomputable def tCall(sp:Sp)(dvs:List V)(E:XK)(t:TA):TE:=λσ H Q=>t σ H λvs H1=>sp (vs++dvs) H1 Q E
noncomputable def tMeth(C:Addr)(m:Str)(sp:Sp)(dvs:List V)(E:XK)(ta:TE)(t:TA):TE:=λσ H Q=>ta σ H λx H1=>∃a dx fs,x=.ref a/\H1 a=some (.ins C dx fs)/\fs.lookup m=none/\
 t σ H1 λvs H2=>sp (x:: (vs++dvs)) H2 Q E
noncomputable def tMake(C:Addr)(sp:Sp)(dvs:List V)(E:XK)(t:TA):TE:=λσ H Q=>t σ H λvs H1=>∀x dx,H1 x=none->H1 dx=none->dx≠x->
 sp (.ref x:: (vs++dvs)) (upd (upd H1 dx (.own x)) x (.ins C dx [])) (λv H2=>v=.non/\Q (.ref x) H2) E
noncomputable def Binds(K:PySem.W.Frag)(fd:FuncData)(ps:List Str)(ds:List Value):Prop:=
 ∀(s:Shared)(us:List Value),K.In s.heap->(us++ds).length=ps.length->BindsTo s fd ⟨us,[]⟩ (ps.zip (us++ds))
theorem Binds.all{K:PySem.W.Frag}{fd:FuncData}{ps:List Str}(h:∀us:List Value,us.length=ps.length->bindArgs fd ⟨us,[]⟩=pure (ps.zip us)):Binds K fd ps []:=λs us _ hl=>by
 rw[va8]at hl ⊢
 exact .of_eq (h us hl)
noncomputable def zcx(CX:CXT)(X:Cx)(E:XK):Prop:=∀(pins:List (Addr×Obj)) (σ:St) (H:Hp) (s:Shared) (e:Value) (s':Shared),Inv X pins σ H s->CX X.stack H s E e s'->X.xe e s'
section
variable{X:Cx}{CX:CXT}{k:Nat}{f C:Addr}{fd:FuncData}{ps:List Str}{sp:Sp}{dvs:List V}{ds:List Value}{E:XK}{x m:Str}{p pos apos:Pos}{e o:Expr}{es:List Expr}{ta:TE}{t:TA}
theorem zim{pins:List (Addr×Obj)}{σ:St}{H:Hp}{s:Shared}{Q:VK}{us:List Value}{vs:List V}(F:FnOk X.prog X.w X.K X.mg X.base CX k f fd ps sp)(hr:Room k X.A)(hb:Binds X.K fd ps ds)(hd:Vals dvs ds)(hx:zcx CX X E)
 (I:Inv X pins σ H s) (r:Vals vs us) (h:sp (vs++dvs) H Q E):wpAny (model X.prog X.w) X.A (call (.ref f) us) (EP X pins σ Q) X.xe s:=by
 have r2:Vals (vs++dvs) (us++ds):=r.append hd
 have hl:(us++ds).length=ps.length:=by rw[<-r2.length];exact F.len _ _ _ _ h
 refine vcv (vcw (F.run X.A X.stack s H ⟨us,[]⟩ (us++ds) (vs++dvs) Q E hr I.env0 (hb s us I.kIn hl) r2 h) λr s' hq=>?_)
 cases r with
 |error e=>exact hx pins σ H s e s' I hq
 |ok fl=>
  cases fl with
  |ret u=>exact I.after hq
  |next=>exact False.elim hq
  |brk=>exact False.elim hq
  |cont=>exact False.elim hq
theorem zin(F:FnOk X.prog X.w X.K X.mg X.base CX k f fd ps sp)(hr:Room k X.A)(hg:Gl X x)(hm:X.mg x=some (.ref f))(hk:PySem.W.keepIn X.K (.ref f)=true)(hb:Binds X.K fd ps ds)(hd:Vals dvs ds)(hx:zcx CX X E)
 (ha:PA X (e::es) t) (hdb:(x==("__debug__" : Str))=false:=by decide) (he:starEach (e::es) X.env=(false,eval e X.env)::starEach es X.env:=by rfl) (hpl:(backTo pos (starEach es X.env)).any (·.1)=false:=by rfl) :
 PE X (.Call (.Name x p) (e::es) [] pos) (tCall sp dvs E t):=by
 intro pins s σ H Q I h
 refine vbq (zbg I hg hm ?_ hdb)
 refine vcg (h₀:=X.base) I.ok.mod.kin hk (thn (ha pos pins s σ H _ I h) λus s1 z9=>z9.el λvs H1 I1 r q=>⟨I1.kIn,?_⟩) he hpl
 exact zim F hr hb hd hx I1 r q
theorem zkp(F:FnOk X.prog X.w X.K X.mg X.base CX k f fd ps sp)(hr:Room k X.A)(hg:Gl X x)(hm:X.mg x=some (.ref f))(hk:PySem.W.keepIn X.K (.ref f)=true)(hb:Binds X.K fd ps ds)(hd:Vals dvs ds)(hx:zcx CX X E)
 (hdb:(x==("__debug__" : Str))=false:=by decide):PE X (.Call (.Name x p) [] [] pos) (tCall sp dvs E tNil):=by
 intro pins s σ H Q I h
 refine vbq (zbg I hg hm ?_ hdb)
 exact PySem.W.callWith_K0 I.kIn hk (zim (us:=[]) F hr hb hd hx I .nil h)
theorem zm7{pl:Sem Bool}(he:PE X o ta)(c:Cls X.K C)(hm:Meth X.K C m f)(F:FnOk X.prog X.w X.K X.mg X.base CX k f fd ps sp)(hr:Room k X.A)(hb:Binds X.K fd ps ds)(hd:Vals dvs ds)(hx:zcx CX X E)(ha:PA X (e::es) t)
 (hst:starEach (e::es) X.env=(false,eval e X.env)::starEach es X.env:=by rfl) (hpl:(backTo pos (starEach es X.env)).any (·.1)=false:=by rfl)
 (ht:eval (.Call (.Attribute o m apos) (e::es) [] pos) X.env=(do
   let ov <-eval o X.env
   standAt apos.atName
   let (f,first) <-holding [ov] (getMethod ov m pl)
   callWith pos f first (backTo pos (starEach (e::es) X.env)) (backToKw pos (keywordEach [] X.env))):=by rfl) :
 PE X (.Call (.Attribute o m apos) (e::es) [] pos) (tMeth C m sp dvs E ta t):=by
 intro pins s σ H Q I h
 refine PySem.W.methodCall_KW (pl:=pl) (thn (he pins s σ H _ I h) λu s1 z9=>z9.el λx H1 I1 rx ⟨a,dx,fs,ex,ea,l,q⟩=>?_) ht
 subst ex
 obtain rfl:u=Value.ref a:=rx
 refine zdg I1 ea c hm l ?_
 refine vcg (first:=[.ref a]) (h₀:=X.base) I.ok.mod.kin hm.kp (thn (ha pos pins s1 σ H1 _ I1 q) λus s2 z9=>z9.el λvs H2 I2 r q2=>⟨I2.kIn,?_⟩) hst hpl
 exact zim (us:=.ref a::us) (vs:=.ref a::vs) F hr hb hd hx I2 (.cons rfl r) q2
structure Mk(K:PySem.W.Frag)(C f:Addr):Prop where
 makes:PySem.W.makesIn K C=true
 init:PySem.W.findIn K (.ref C) "__init__" = some (some (.ref f))
 fn:PySem.W.isFn K (.ref f)=true
 kp:PySem.W.keepIn K (.ref C)=true
theorem zkq{pins:List (Addr×Obj)}{σ:St}{H:Hp}{s:Shared}{Q:VK}{us:List Value}{vs:List V}(M:Mk X.K C f)(F:FnOk X.prog X.w X.K X.mg X.base CX k f fd ps sp)(hr:Room (k+1) X.A)(hb:Binds X.K fd ps ds)(hd:Vals dvs ds)
 (hx:zcx CX X E) (I:Inv X pins σ H s) (r:Vals vs us)
 (h:∀x dx,H x=none->H dx=none->dx≠x->sp (.ref x:: (vs++dvs)) (upd (upd H dx (.own x)) x (.ins C dx [])) (λv H2=>v=.non/\Q (.ref x) H2) E) :
 wpAny (model X.prog X.w) X.A (call (.ref C) us) (EP X pins σ Q) X.xe s:=by
 have hq:=h (s.heap.objs.size+1) s.heap.objs.size (I.hok.fresh (Nat.le_succ _)) (I.hok.fresh (vad _)) (vas (va2 _))
 have I2:=Inv.made (C:=C) I
 have r2:Vals (V.ref (s.heap.objs.size+1):: (vs++dvs)) (Value.ref (s.heap.objs.size+1):: (us++ds)):=.cons rfl (r.append hd)
 have hl:(Value.ref (s.heap.objs.size+1)::us++ds).length=ps.length:=by
  have e:=r2.length
  rw[F.len _ _ _ _ hq]at e
  exact e.symm
 refine vcv (zko (f:=f) I.kIn M.makes M.init (vbx.mp M.fn) (vcw (F.run _ X.stack _ _ ⟨Value.ref (s.heap.objs.size+1)::us,[]⟩ (Value.ref (s.heap.objs.size+1):: (us++ds)) _ _ E (hr.make C us [])
  (I2.env0.make C us []) (hb _ (Value.ref (s.heap.objs.size+1)::us) I2.kIn hl) r2 hq) λr s' hq'=>?_))
 cases r with
 |error e=>exact hx pins σ _ _ e s' I2 hq'
 |ok fl=>
  cases fl with
  |ret u=>
   obtain⟨v,H',I3,rv,ev,q3⟩:=I2.after hq'
   subst ev
   exact⟨rv,⟨V.ref (s.heap.objs.size+1),H',I3,rfl,q3⟩⟩
  |next=>exact False.elim hq'
  |brk=>exact False.elim hq'
  |cont=>exact False.elim hq'
theorem zio(M:Mk X.K C f)(F:FnOk X.prog X.w X.K X.mg X.base CX k f fd ps sp)(hr:Room (k+1) X.A)(hg:Gl X x)(hm:X.mg x=some (.ref C))(hb:Binds X.K fd ps ds)(hd:Vals dvs ds)(hx:zcx CX X E)
 (ha:PA X (e::es) t) (hdb:(x==("__debug__" : Str))=false:=by decide) (he:starEach (e::es) X.env=(false,eval e X.env)::starEach es X.env:=by rfl) (hpl:(backTo pos (starEach es X.env)).any (·.1)=false:=by rfl) :
 PE X (.Call (.Name x p) (e::es) [] pos) (tMake C sp dvs E t):=by
 intro pins s σ H Q I h
 refine vbq (zbg I hg hm ?_ hdb)
 refine vcg (h₀:=X.base) I.ok.mod.kin M.kp (thn (ha pos pins s σ H _ I h) λus s1 z9=>z9.el λvs H1 I1 r q=>⟨I1.kIn,?_⟩) he hpl
 exact zkq M F hr hb hd hx I1 r q
end
structure FnScope(N P:List Str)(sc:Scope):Prop where
 kind:sc.kind=.function
 co:sc.isCoroutine=false
 gen:sc.isGenerator=false
 nd:N.Nodup
 pre:N.take P.length=P
 par:∀x∈P,sc.names.lookup x=some .local\/sc.names.lookup x=some .cell
 nofree:∀y∈sc.names,y.2≠.free
theorem ze2{kindOf:Str->Option NameKind}{x:Str}:∀{binds:List (Str×Value)} {m:Str->Option Value},(∀v,(x,v)∉binds)->bindL kindOf binds m x=m x
 |[],_,_=>rfl
 |(n,v)::r,m,h=>by
  unfold bindL
  rw[ze2 λw hw=>h w (van _ hw)]
  split
  .have:x≠n:=by rintro rfl;exact h v vaz
   simp[this]
  .rfl
theorem ze3{kindOf:Str->Option NameKind}{x:Str}:∀{binds:List (Str×Value)} {m:Str->Option Value},(∀v,(x,v)∉binds)->bindC kindOf binds m x=m x
 |[],_,_=>rfl
 |(n,v)::r,m,h=>by
  unfold bindC
  rw[ze3 λw hw=>h w (van _ hw)]
  split
  .rfl
  .have:x≠n:=by rintro rfl;exact h v vaz
   simp[this]
theorem ze4{kindOf:Str->Option NameKind}{x:Str}{v:Value}:∀{P:List Str} {vs:List Value} {i:Nat} {m:Str->Option Value},P.Nodup->P[i]?=some x->vs[i]?=some v->kindOf x=some .local->
 bindL kindOf (P.zip vs) m x=some v
 |[],_,_,_,_,h,_,_=>by simp at h
 |_::_,[],_,_,_,_,h,_=>by simp at h
 |p::P,w::vs,0,m,nd,h1,h2,hk=>by
  simp at h1 h2;subst h1;subst h2
  show bindL kindOf ((p,w)::P.zip vs) m p=_
  unfold bindL
  rw[ze2 λv hv=>(vcy.mp nd).1 (List.of_mem_zip hv).1,if_pos hk]
  simp
 |p::P,w::vs,i+1,m,nd,h1,h2,hk=>by
  show bindL kindOf ((p,w)::P.zip vs) m x=_
  unfold bindL
  exact ze4 (i:=i) (vcy.mp nd).2 (by simpa using h1) (by simpa using h2) hk
theorem ze5{kindOf:Str->Option NameKind}{x:Str}{v:Value}:∀{P:List Str} {vs:List Value} {i:Nat} {m:Str->Option Value},P.Nodup->P[i]?=some x->vs[i]?=some v->kindOf x≠some .local->
 bindC kindOf (P.zip vs) m x=some v
 |[],_,_,_,_,h,_,_=>by simp at h
 |_::_,[],_,_,_,_,h,_=>by simp at h
 |p::P,w::vs,0,m,nd,h1,h2,hk=>by
  simp at h1 h2;subst h1;subst h2
  show bindC kindOf ((p,w)::P.zip vs) m p=_
  unfold bindC
  rw[ze3 λv hv=>(vcy.mp nd).1 (List.of_mem_zip hv).1,if_neg hk]
  simp
 |p::P,w::vs,i+1,m,nd,h1,h2,hk=>by
  show bindC kindOf ((p,w)::P.zip vs) m x=_
  unfold bindC
  exact ze5 (i:=i) (vcy.mp nd).2 (by simpa using h1) (by simpa using h2) hk
noncomputable def start(N:List Str)(vs:List V):St:=vs.map some++List.replicate (N.length-vs.length) none
noncomputable def cxOf(CX:CXT)(P:Program)(w:World)(K:PySem.W.Frag)(mg:Str->Option Value)(base:Heap)(N:List Str)(qual:Str)(scope:Scope)(f:Addr)(cd:Value)(A:Around)(outer:List Env)(s:Shared)(H:Hp)(E:XK):Cx where
 prog:=P
 w:=w
 K:=K
 mg:=mg
 base:=base
 A:=A.deeper (envOfC qual scope s.heap.objs.size f cd)
 N:=N
 s₀:=s
 H₀:=H
 env:=envOfC qual scope s.heap.objs.size f cd
 outer:=outer
 stack:=envOfC qual scope s.heap.objs.size f cd::outer
 ex:=[]
 calm:=true
 fn:=λ_=>true
 pn:=[]
 xe:=λe s'=>wpAny (model P w) (A.deeper (envOfC qual scope s.heap.objs.size f cd)) (leaving (envOfC qual scope s.heap.objs.size f cd) e) (λ_ s''=>CX outer H s E e s'') (λe' s''=>CX outer H s E e' s'') s'
theorem zgn{sc:Scope}{n:Nat}{x:Str}(h:sc.names.lookup x=some .cell):∃c,(cellsFrom n sc.names []).lookup x=some c:=by
 have q:=PySem.W.cellsFrom_some sc.names n [] (.inl h)
 exact Option.isSome_iff_exists.mp q
theorem ze6{CX:CXT}{P:Program}{w:World}{K:PySem.W.Frag}{mg:Str->Option Value}{base:Heap}{N ps:List Str}{qual:Str}{scope:Scope}{f:Addr}{cd:Value}{A:Around}{outer:List Env}{s s1:Shared}{H:Hp}{E:XK}{us:List Value}{vs:List V}
 (S:FnScope N ps scope) (hd:A.handled=none) (e0:Env0 P w K mg base A outer s H) (hl:vs.length=ps.length) (r:Vals vs us)
 (x:InCallC s s.heap.objs.size (bindL (envOfC qual scope s.heap.objs.size f cd).kindOf (ps.zip us) λ_=>none) (cellsFrom (s.heap.objs.size+1) scope.names []) (bindC (envOfC qual scope s.heap.objs.size f cd).kindOf (ps.zip us) λ_=>none) s1) :
 Inv (cxOf CX P w K mg base N qual scope f cd A outer s H E) [] (start N vs) H s1:=by
 have hpl:ps.length<=N.length:=by have:=vcx List.length S.pre;rw[List.length_take]at this;omega
 obtain⟨h1,tk,rfl,hk⟩:=x.done
 have noA:∀b:Addr,b∉(cxOf CX P w K mg base N qual scope f cd A outer s H E).ex:=λb z=>absurd (show b∈([]:List Addr)from z) (by simp)
 refine⟨⟨e0.mod,S.kind,rfl,rfl,vad _,λy z c h1 h2=>?_,λy hy=>?_,λy c _ h=>?_,λ_=>hd,Around.frames_deeper e0.frames,.inr ⟨rfl,rfl⟩,λb z=>absurd z (noA b),e0.bs,e0.bsz,λb _ _=>noA b,λb z=>absurd z (noA b),e0.funs,e0.frf⟩,
  rfl,e0.bare,Un.kept hk,⟨_,x.toInCall.ns,λi y v h1 h2 h3=>?_⟩,λy c h=>⟨_,x.cell y c h⟩,e0.hok.fresh (vad _),λy c h=>?_,λp hp=>absurd (show p∈([]:List (Addr×Obj))from hp) (by simp),e0.hok.kept hk,?_⟩
 .exact name_of_addr x.apart (vcb h1) (vcb h2)
 .have hy:scope.names.lookup y=some .cell\/scope.names.lookup y=some .free:=hy
  rcases hy with hy|hy
  .exact zgn hy
  .exact absurd rfl (S.nofree _ (vcb hy))
 .exact vcu (x.above y c (vcb h))
 .have hi:i<vs.length:=by
   unfold start at h2
   by_cases hi:i<vs.length
   .exact hi
   .rw[vbc (by simpa using hi)]at h2
    rw[vcc]at h2
    split at h2<;>cases h2
  have ha:vs[i]?=some v:=by
   unfold start at h2
   rw[vbj (by simpa using hi),vbn]at h2
   cases e:vs[i]? with
   |none=>rw[e]at h2;cases h2
   |some a=>rw[e]at h2;cases h2;rfl
  obtain⟨u,hu,rv⟩:=r.get ha
  have hp:ps[i]?=some y:=by
   rw[<-S.pre,List.getElem?_take_of_lt (by omega)];exact h1
  have ndP:ps.Nodup:=by rw[<-S.pre];exact S.nd.sublist (List.take_sublist _ _)
  refine⟨u,rv,?_⟩
  rcases S.par y (vcn hp)with k|k
  .exact .inl ⟨k,ze4 ndP hp hu k⟩
  .obtain⟨c,e⟩:=zgn (n:=s.heap.objs.size+1) k
   refine .inr ⟨.inl k,c,e,?_⟩
   have q:=x.cell y c e
   rw[ze5 ndP hp hu (by show scope.names.lookup y≠_;rw[k];decide)]at q
   exact q
 .exact e0.hok.fresh (vcu (x.above y c (vcb h)))
 .unfold start
  show _=N.length
  rw[vat,vap,List.length_replicate]
  omega
theorem fn_of{CX:CXT}{P:Program}{w:World}{K:PySem.W.Frag}{mg:Str->Option Value}{base:Heap}{k:Nat}{f:Addr}{name qual:Str}{params:Arguments}{body:List Stmt}{scope:Scope}{dV kV doc pm cdv ct oc:Value}{an od:Option Addr}
 {osl:Array (Option Value)} {N ps:List Str} {sp:Sp} (lk:K.lookup f=some ⟨oc,od,.func (PySem.W.fnOf name qual params body scope dV kV doc pm an cdv ct),osl⟩) (hcd:PySem.W.codeIn K cdv qual=true) (S:FnScope N ps scope)
 (len:∀vs H Q E,sp vs H Q E->vs.length=ps.length)
 (hbody:∀(A:Around)(outer:List Env)(s:Shared)(H:Hp)(vs:List V)(Q:VK)(E:XK),Room k (A.deeper (envOfC qual scope s.heap.objs.size f cdv))->sp vs H Q E->
   ∃t,PSs (cxOf CX P w K mg base N qual scope f cdv A outer s H E) body t/\t {nx:=λ_ H'=>Q .non H',rt:=Q} (start N vs) H) :
 FnOk P w K mg base CX (k+1) f (PySem.W.fnOf name qual params body scope dV kV doc pm an cdv ct) ps sp:=by
 refine⟨len,λA outer s H args us vs Q E hr e0 hb r hsp=>?_⟩
 have hl:=len _ _ _ _ hsp
 have KX:K.In s.heap:=e0.mod.kin.keeps λb o e=>(e0.bs b o e).1
 have lim:s.heap.NoLimit:=e0.mod.nolimit.keeps λb o e=>(e0.bs b o e).1
 have hkind:∀y∈ps.zip us,scope.names.lookup y.1=some .local\/(scope.names.lookup y.1=some .cell/\((cellsFrom (s.heap.objs.size+1) scope.names []).lookup y.1).isSome=true):=λhq0 hy=>by
  obtain⟨n,v⟩:=hq0
  rcases S.par n (List.of_mem_zip hy).1 with q|q
  .exact .inl q
  .exact .inr ⟨q,PySem.W.cellsFrom_some _ _ _ (.inl q)⟩
 refine codeAny_call_function hr.depth (KX _ _ lk) rfl S.co S.gen rfl (PySem.W.codeRec_of KX hcd) (hb _ _ _ _ ?_)
 refine wpAny_newFunctionEnv_cells S.kind hkind λenv he s1 x=>?_
 subst he
 refine⟨lim.keeps x.toInCall.keep,codeAny_func ?_⟩
 obtain⟨t,ht,hq⟩:=hbody A outer s H vs Q E (hr.deeper _) hsp
 have I:Inv (cxOf CX P w K mg base N qual scope f cdv A outer s H E) [] (start N vs) H s1:=ze6 S hr.hd e0 hl r x
 refine vbm (ht [] s1 (start N vs) H _ I hq) (λfl s' hs=>?_) λe s' hs=>hs
 have fin:∀{σ':St}{H':Hp}{v:V}{u:Value},Inv (cxOf CX P w K mg base N qual scope f cdv A outer s H E) [] σ' H' s'->RelV v u->Q v H'->CE outer P w H s Q u s':=
  λ{σ' H' v u} J rv q=>⟨v,H',J.os,J.bare,J.base,J.hok,rv,q⟩
 cases fl with
 |ret u=>
  obtain⟨v,σ',H',J,rv,q⟩:=hs
  exact fin J rv q
 |next=>
  obtain⟨σ',H',J,q⟩:=hs
  exact fin (v:=V.non) (u:=Value.none) J rfl q
 |brk=>
  obtain⟨_,_,_,q⟩:=hs
  exact False.elim q
 |cont=>
  obtain⟨_,_,_,q⟩:=hs
  exact False.elim q
section
variable{X:Cx}{x:Str}{p pos:Pos}{e:Expr}{es:List Expr}{t:TA}{id T:String}{r:List V->Hp->VK->Prop}
noncomputable def tCB(r:List V->Hp->VK->Prop)(t:TA):TE:=λσ H Q=>t σ H λvs H1=>r vs H1 Q
theorem zd8(hc:CallR X (.builtin id) r)(hg:Gl X x)(hm:X.mg x=none)(hv:bootBuiltins x=some (.builtin id))(ha:PA X (e::es) t)(hn:x≠"__name__":=by decide)(hdb:(x==("__debug__" : Str))=false:=by decide)
 (he:starEach (e::es) X.env=(false,eval e X.env)::starEach es X.env:=by rfl) (hpl:(backTo pos (starEach es X.env)).any (·.1)=false:=by rfl):PE X (.Call (.Name x p) (e::es) [] pos) (tCB r t):=by
 intro pins s σ H Q I h
 refine vbq (zde I hg hm hv ?_ hn hdb)
 exact PyProof.Rows.callWith_builtin1 (thn (ha pos pins s σ H _ I h) λus s1 z9=>z9.el λvs H1 I1 r1 q1=>hc pins s1 σ H1 vs us Q I1 r1 q1) he hpl
theorem ziq(hc:CallR X (.type T) r)(hg:Gl X x)(hm:X.mg x=none)(hv:bootBuiltins x=some (.type T))(ha:PA X (e::es) t)(hn:x≠"__name__":=by decide)(hdb:(x==("__debug__" : Str))=false:=by decide)
 (he:starEach (e::es) X.env=(false,eval e X.env)::starEach es X.env:=by rfl) (hpl:(backTo pos (starEach es X.env)).any (·.1)=false:=by rfl):PE X (.Call (.Name x p) (e::es) [] pos) (tCB r t):=by
 intro pins s σ H Q I h
 refine vbq (zde I hg hm hv ?_ hn hdb)
 exact vb1 (thn (ha pos pins s σ H _ I h) λus s1 z9=>z9.el λvs H1 I1 r1 q1=>hc pins s1 σ H1 vs us Q I1 r1 q1) he hpl
end
end L2
namespace HT
open PySem PyProof.Rows
section
variable{prog:Program}{w:World}{A:Around}{E:Value->Shared->Prop}{s:Shared}
theorem cat_tup{t b:Addr}{vs ws:List Value}{Q:Value->Shared->Prop}(ht:IsTup s.heap t vs.toArray)(hb:IsTup s.heap b ws.toArray)(hv:vs≠[])
 (h1:ws=[]->Q (.ref t) s) (h2:ws≠[]->Q (.ref s.heap.objs.size) {s with heap:=s.heap.push {cls:=.type "tuple",data:=.seq (vs++ws).toArray}})
 (hsz:vs.length+ws.length<=sizeLine):wpAny (model prog w) A (binaryOp .Add (.ref t) (.ref b)) Q E s:=by
 obtain⟨⟨cls,dd,data,sl⟩,ho,hc,n,hd⟩:=id ht
 obtain⟨⟨cls2,dd2,data2,sl2⟩,ho2,hc2,n2,hd2⟩:=id hb
 simp only at hc hd hc2 hd2
 subst hc hd hc2 hd2
 have e:vs.toArray++ws.toArray=(vs++ws).toArray:=by simp
 by_cases hw:ws=[]
 .exact concat_meets ⟨_,ho,rfl⟩ ⟨_,ho2,rfl⟩ noFill_tuple_add seq_tuple_add PySem.F.slot_tuple_add PySem.F.entry_tuple_add (PySem.F.args_tuple_add_2 _ _)
   (tuple_addW1 t b vs.toArray ws.toArray n n2 dd dd2 sl sl2 (by simpa using hv) (by simp[hw])) ⟨ho,ho2,h1 hw⟩
 .refine concat_meets ⟨_,ho,rfl⟩ ⟨_,ho2,rfl⟩ noFill_tuple_add seq_tuple_add PySem.F.slot_tuple_add PySem.F.entry_tuple_add (PySem.F.args_tuple_add_2 _ _)
   (tuple_addW2 t b vs.toArray ws.toArray n n2 dd dd2 sl sl2 (by simpa using hv) (by simpa using hw) (by rw[vah,vah];exact hsz)) ⟨ho,ho2,?_⟩
  rw[e]
  exact h2 hw
noncomputable def sIx(n d:Nat):Option Int->Nat
 |none=>d
 |some v=>if v<0 then(v+ (n:Int)).toNat else min v.toNat n
theorem zpv(n d:Nat)(hd:d<=n)(o:Option Int):sIx n d o<=n:=by
 cases o with
 |none=>exact hd
 |some v=>
  show(if v<0 then(v+ (n:Int)).toNat else min v.toNat n)<=n
  by_cases hv:v<0
  .rw[if_pos hv];omega
  .rw[if_neg hv];exact Nat.min_le_right _ _
theorem zir(v:Int)(n d:Nat):(if v<0 then max (v+ (n:Int)) 0 else min v (n:Int))=((sIx n d (some v):Nat):Int):=by
 show(if v<0 then max (v+ (n:Int)) 0 else min v (n:Int))=(((if v<0 then(v+ (n:Int)).toNat else min v.toNat n):Nat):Int)
 by_cases hv:v<0
 .simp only[if_pos hv];omega
 .simp only[if_neg hv];omega
theorem zhf(lo hi:Option Int)(n:Nat):Builtin.Slice.sliceAdjust lo hi 1 (n:Int)=(((sIx n 0 lo:Nat):Int),((sIx n n hi:Nat):Int)):=by
 have h1:¬((1:Int)<0):=by omega
 unfold Builtin.Slice.sliceAdjust
 simp only[h1,va1]
 refine Prod.ext ?_ ?_
 .cases lo with
  |none=>rfl
  |some v=>exact zir v n 0
 .cases hi with
  |none=>rfl
  |some v=>exact zir v n n
theorem zhg(i j:Nat):Builtin.Slice.slicePlaces (i:Int) (j:Int) 1=j-i:=by
 unfold Builtin.Slice.slicePlaces
 have h1:(1:Int)>0:=by omega
 simp only[h1,vbb,Int.ediv_one]
 split<;>omega
theorem zdh{v:Value}{o:Option Int}{Q:Option Int->Shared->Prop}(p:IsPart v o)(h:Q o s):wpAny (model prog w) A (Builtin.Slice.slicePartIndex v) Q E s:=by
 cases p with
 |none=>exact slicePart_none h
 |int i t=>exact slicePart_int h
theorem zbe{sl:Addr}{vl vu:Value}{lo hi:Option Int}{n:Nat}{Q:Int×Int×Nat->Shared->Prop}(hs:s.heap.IsSliceOf sl vl vu .none)(pl:IsPart vl lo)(pu:IsPart vu hi)
 (h:Q (((sIx n 0 lo:Nat):Int),1,sIx n n hi-sIx n 0 lo) s):wpAny (model prog w) A (Builtin.Slice.sliceApplied (.ref sl) (pure (n:Int))) Q E s:=by
 obtain⟨os,hos,hcs,hds⟩:=id hs
 unfold Builtin.Slice.sliceApplied Builtin.Slice.sliceFields
 refine vab (vab (vb7 hos hds (x:=vl) rfl (vab (vb7 hos hds (x:=vu) rfl (vab (vb7 hos hds (x:=.none) rfl (vag ?_)))))))
 refine vab (slicePart_none ?_)
 show wpAny _ _ (if((1:Int)==0)=true then _ else _) _ _ s
 rw[if_neg (by decide)]
 refine vab (zdh pl (vab (zdh pu (vab (vag ?_)))))
 show wpAny _ _ (match Builtin.Slice.sliceAdjust lo hi 1 (n:Int)with|(lo,hi)=>pure (lo,(1:Int),Builtin.Slice.slicePlaces lo hi 1)) _ _ s
 rw[zhf lo hi n]
 show wpAny _ _ (pure (((sIx n 0 lo:Nat):Int),(1:Int),Builtin.Slice.slicePlaces ((sIx n 0 lo:Nat):Int) ((sIx n n hi:Nat):Int) 1)) _ _ s
 rw[zhg]
 exact vag h
theorem zkr(xs:Array Value)(i k:Nat):((List.range k).filterMap λ(m:Nat)=>xs[((i:Int)+ (m:Int)*1).toNat]?).toArray=((xs.toList.drop i).take k).toArray:=by
 have e:(λ(m:Nat)=>xs[((i:Int)+ (m:Int)*1).toNat]?)=λm=>xs[i+m]?:=by
  funext m
  have:((i:Int)+ (m:Int)*1).toNat=i+m:=by omega
  rw[this]
 rw[e]
 have:=pick_run xs i k
 rw[List.filterMap_map]at this
 have e2:((λx=>xs[x]?)∘λx=>i+x)=λm=>xs[i+m]?:=rfl
 rw[e2]at this
 rw[this]
theorem getItem_tuple_cut{t sl:Addr}{items:Array Value}{vl vu:Value}{lo hi:Option Int}{Q:Value->Shared->Prop}(ht:IsTup s.heap t items)(hs:s.heap.IsSliceOf sl vl vu .none)(pl:IsPart vl lo)(pu:IsPart vu hi)
 (hw:¬(sIx items.size 0 lo=0/\sIx items.size items.size hi=items.size))
 (h:Q (.ref s.heap.objs.size) {s with heap:=s.heap.push {cls:=.type "tuple",data:=.seq ((items.toList.drop (sIx items.size 0 lo)).take (sIx items.size items.size hi-sIx items.size 0 lo)).toArray}})
 (hsz:items.size<=sizeLine):wpAny (model prog w) A (getItem (.ref t) (.ref sl)) Q E s:=by
 have htake:sizeOk (.seq ((items.toList.drop (sIx items.size 0 lo)).take (sIx items.size items.size hi-sIx items.size 0 lo)).toArray):=by
  show((items.toList.drop (sIx items.size 0 lo)).take (sIx items.size items.size hi-sIx items.size 0 lo)).toArray.size<=sizeLine
  rw[vah,List.length_take,List.length_drop,vcs]
  omega
 have hj:sIx items.size items.size hi<=items.size:=zpv _ _ (vad _) hi
 obtain⟨os,hos,hcs,hds⟩:=id hs
 have hTs:s.TypeIs (.ref sl) "slice":=⟨os,hos,hcs⟩
 unfold getItem
 try with_reducible refine vbd ?_
 first|refine vab (vag ?_)|skip
 refine vab (wpAny_sequenceKey ht.typeIs (by decide) ?_)
 refine vab (vcd (name:=Str.ofString "__getitem__") ht.typeIs va9
  (vb5 va9 ht.typeIs entry_tuple_getitem ?_ (args_tuple_getitem _ _)))
 show wpAny _ _ (Builtin.Tuple.tupleItemsOf (.ref t) >>= _) _ _ s
 refine vab (tupleItemsOf_ ht ?_)
 refine vab (wpAny_typeOf hTs ?_)
 rw[if_pos (by decide)]
 refine vab (zbe hs pl pu ?_)
 have hno:¬((((sIx items.size 0 lo:Nat):Int)==0&& (1:Int)==1&& (sIx items.size items.size hi-sIx items.size 0 lo)==items.size)=true):=by
  intro q
  rw[vaa,vaa]at q
  have q1:((sIx items.size 0 lo:Nat):Int)=0:=eq_of_beq q.1.1
  have q2:sIx items.size items.size hi-sIx items.size 0 lo=items.size:=eq_of_beq q.2
  exact hw ⟨by omega,by omega⟩
 show wpAny _ _ (if(((sIx items.size 0 lo:Nat):Int)==0&& (1:Int)==1&& (sIx items.size items.size hi-sIx items.size 0 lo)==items.size)=true then _ else _) _ _ s
 rw[if_neg hno,zkr]
 first
  |exact vab (m:=Builtin.Tuple.tupleExact _) (vbu (vag ⟨_,rfl,vag h⟩) htake)
  |exact vab (m:=Builtin.Tuple.tupleExact _) (vbu (vab (vag (vag ⟨_,rfl,vag h⟩))) htake)
  |exact vab (vab (m:=Builtin.Tuple.tupleExact _) (vbu (vag (vag ⟨_,rfl,vag h⟩)) htake))
  |exact vab (vab (m:=Builtin.Tuple.tupleExact _) (vbu (vag ⟨_,rfl,vag h⟩) htake))
end
end HT
namespace L2
open PySem PySem.Spec PyProof.Rows
noncomputable abbrev TO:=St->Hp->(Option Int->Hp->Prop)->Prop
noncomputable def PO(X:Cx)(e:Option Expr)(t:TO):Prop:=
 ∀(pins:List (Addr×Obj))(s:Shared)(σ:St)(H:Hp)(Q:Option Int->Hp->Prop),Inv X pins σ H s->t σ H Q->
  wpAny (model X.prog X.w) X.A (evalPart e X.env) (λu s'=>∃o H',Inv X pins σ H' s'/\IsPart u o/\Q o H') X.xe s
noncomputable def zm8:TO:=λ_ H Q=>Q none H
noncomputable def tPart(t:TE):TO:=λσ H Q=>t σ H λx H1=>∃i,x=.int i/\Q (some i) H1
section
variable{X:Cx}{e:Expr}{te:TE}{lo hi:Option Expr}{tl th:TO}{pos p2:Pos}
theorem zm9:PO X none zm8:=by
 intro pins s σ H Q I h
 rw[evalPart_none]
 exact vag ⟨none,H,I,.none,h⟩
theorem zna(h:PE X e te):PO X (some e) (tPart te):=by
 intro pins s σ H Q I hw
 rw[evalPart_some]
 refine thn (h pins s σ H _ I hw) λu s1 z9=>z9.el λx H1 I1 r1 q1=>?_
 obtain⟨i,rfl,q⟩:=q1
 obtain⟨t,rfl⟩:=r1
 exact⟨some i,H1,I1,.int i t,q⟩
noncomputable def SlR(X:Cx)(r:V->Option Int->Option Int->Hp->VK->Prop):Prop:=
 ∀(pins:List (Addr×Obj))(s:Shared)(σ:St)(H:Hp)(x:V)(v vl vu:Value)(lo hi:Option Int)(sl:Addr)(Q:VK),Inv X pins σ H s->RelV x v->s.heap.IsSliceOf sl vl vu .none->IsPart vl lo->IsPart vu hi->r x lo hi H Q->
  ∃T id,typeLookup (.type T) "__getitem__" = pure (some (.builtin id))/\s.TypeIs v T/\wpAny (model X.prog X.w) X.A (getItem v (.ref sl)) (EP X pins σ Q) X.xe s
theorem SlR.or{r r':V->Option Int->Option Int->Hp->VK->Prop}(h:SlR X r)(h':SlR X r'):SlR X (λx lo hi H Q=>r x lo hi H Q\/r' x lo hi H Q):=by
 intro pins s σ H x v vl vu lo hi sl Q I rx hs pl pu q
 rcases q with q|q
 .exact h pins s σ H x v vl vu lo hi sl Q I rx hs pl pu q
 .exact h' pins s σ H x v vl vu lo hi sl Q I rx hs pl pu q
noncomputable def tSl(r:V->Option Int->Option Int->Hp->VK->Prop)(te:TE)(tl th:TO):TE:=λσ H Q=>te σ H λx H1=>tl σ H1 λl H2=>th σ H2 λu H3=>r x l u H3 Q
theorem zks{r:V->Option Int->Option Int->Hp->VK->Prop}(hr:SlR X r)(he:PE X e te)(hl:PO X lo tl)(hu:PO X hi th):PE X (.Subscript e (.Slice lo hi none p2) pos) (tSl r te tl th):=by
 intro pins s σ H Q I h
 refine Subscript_ (thn (he pins s σ H _ I h) λv s1 z9=>z9.el λx H1 I1 r1 q1=>?_)
 refine wpAny_Slice (thn (hl pins s1 σ H1 _ I1 q1) λvl s2 ⟨l,H2,I2,pl,q2⟩=>thn (hu pins s2 σ H2 _ I2 q2) λvu s3 hq0=>?_)
 obtain⟨u,H3,I3,pu,q3⟩:=hq0
 rw[evalPart_none]
 refine vag ?_
 have I4:Inv X pins σ H3 {s3 with heap:=s3.heap.push {cls:=.type "slice",data:=.fields #[vl,vu,.none]}}:=I3.kept (t':=s3.toks) λb ob q=>vac _ q
 obtain⟨T,id,hT,ht,hg⟩:=hr pins {s3 with heap:=s3.heap.push {cls:=.type "slice",data:=.fields #[vl,vu,.none]}} σ H3 x v vl vu l u s3.heap.objs.size Q I4 r1 (Heap.IsSliceOf.new ..) pl pu q3
 show wpAny (model X.prog X.w) X.A (subscriptTail e (.Slice lo hi none p2) v (.ref s3.heap.objs.size)) (EP X pins σ Q) X.xe {s3 with heap:=s3.heap.push {cls:=.type "slice",data:=.fields #[vl,vu,.none]}}
 exact tail_any (ops:=[.ref s3.heap.objs.size,v]) ht hT hg (by with_unfolding_all rfl)
noncomputable def cutV(xs:List V)(lo hi:Option Int):List V:=(xs.drop (HT.sIx xs.length 0 lo)).take (HT.sIx xs.length xs.length hi-HT.sIx xs.length 0 lo)
theorem zcy(xs:List V)(lo hi:Option Int):(cutV xs lo hi).length<=xs.length:=by
 unfold cutV
 rw[List.length_take,List.length_drop]
 omega
noncomputable def rSlT(K:PySem.W.Frag):V->Option Int->Option Int->Hp->VK->Prop:=λx lo hi H Q=>∃a xs,x=.ref a/\SqT K H a xs/\
 ¬(HT.sIx xs.length 0 lo=0/\HT.sIx xs.length xs.length hi=xs.length)/\∀p,H p=none->Q (.ref p) (upd H p (.tup (cutV xs lo hi)))
theorem zpw:SlR X (rSlT X.K):=by
 intro pins s σ H x v vl vu lo hi sl Q I rx hs pl pu h
 obtain⟨a,xs,rfl,hx,hw,q⟩:=h
 cases rx
 obtain⟨its,r,ht,hz⟩:=I.tuple hx
 have hlen:its.toArray.size=xs.length:=by rw[vah];exact r.length.symm
 refine⟨"tuple",_,va9.lookup,ht.typeIs,?_⟩
 refine HT.getItem_tuple_cut ht hs pl pu (by rw[hlen];exact hw) ?_ (by rw[hlen];exact hz)
 rw[hlen]
 refine⟨.ref s.heap.objs.size,_,I.laid (t':=s.toks) (o:=.tup (cutV xs lo hi)) (λb ob q=>vac _ q) (vad _) ?_,rfl,q _ (I.hok.fresh (vad _))⟩
 exact⟨va3 (zcy xs lo hi) hz,_,(r.drop (HT.sIx xs.length 0 lo)).take (HT.sIx xs.length xs.length hi-HT.sIx xs.length 0 lo),zbd.new _ _⟩
noncomputable def rCatT(K:PySem.W.Frag):R2:=λx y H Q=>∃a b xs ys,x=.ref a/\y=.ref b/\SqT K H a xs/\SqT K H b ys/\xs≠[]/\xs.length+ys.length<=sizeLine/\
 (ys=[]->Q (.ref a) H)/\(ys≠[]->∀p,H p=none->Q (.ref p) (upd H p (.tup (xs++ys))))
theorem Vals.nil_iff{xs:List V}{us:List Value}(r:Vals xs us):us=[]↔xs=[]:=by
 cases r with
 |nil=>simp
 |cons _ _=>simp
theorem znb:OpR X (binaryOp .Add) (rCatT X.K):=by
 intro pins s σ H x y v u Q I rx ry h
 obtain⟨a,b,xs,ys,rfl,rfl,ha,hb,hx,hz,q1,q2⟩:=h
 cases rx
 cases ry
 obtain⟨its,r1,p1,_⟩:=I.tuple ha
 obtain⟨its2,r2,p2,_⟩:=I.tuple hb
 refine HT.cat_tup p1 p2 (λz=>hx (r1.nil_iff.mp z)) (λz=>⟨.ref a,H,I,rfl,q1 (r2.nil_iff.mp z)⟩) (λz=>?_) (by rw[<-r1.length,<-r2.length];exact hz)
 refine⟨.ref s.heap.objs.size,_,I.laid (t':=s.toks) (o:=.tup (xs++ys)) (λb ob q=>vac _ q) (vad _) ?_,rfl,q2 (λw=>z (r2.nil_iff.mpr w)) _ (I.hok.fresh (vad _))⟩
 exact⟨by rw[vat];exact hz,_,r1.append r2,zbd.new _ _⟩
end
noncomputable def ixN(n:Nat)(i:Int):Option Nat:=if 0<=i then(if i<n then some i.toNat else none)else if -(n:Int)<=i then some (i+n).toNat else none
noncomputable def atI{α:Type}(xs:List α)(i:Int):Option α:=(ixN xs.length i).bind λj=>xs[j]?
theorem zis{n:Nat}{i:Int}{j:Nat}(h:ixN n i=some j):seqIndex? i n=some j/\j<n/\-(n:Int)<=i/\i<n:=by
 unfold ixN at h
 by_cases h0:0<=i
 .rw[if_pos h0]at h
  by_cases h1:i<n
  .rw[if_pos h1]at h
   have e:i.toNat=j:=va6 h
   exact⟨by rw[seqIndex_of h0 h1,e],by omega,by omega,h1⟩
  .rw[if_neg h1]at h;cases h
 .rw[if_neg h0]at h
  by_cases h1:-(n:Int)<=i
  .rw[if_pos h1]at h
   have e:(i+n).toNat=j:=va6 h
   exact⟨by rw[seqIndex_neg (by omega) h1,e],by omega,h1,by omega⟩
  .rw[if_neg h1]at h;cases h
theorem zit{α:Type}{xs:List α}{i:Int}{v:α}(h:atI xs i=some v):∃j,seqIndex? i xs.length=some j/\xs[j]?=some v/\j<xs.length/\-(xs.length:Int)<=i/\i<xs.length:=by
 unfold atI at h
 cases e:ixN xs.length i with
 |none=>rw[e]at h;cases h
 |some j=>
  rw[e]at h
  obtain⟨h1,h2,h3,h4⟩:=zis e
  exact⟨j,h1,h,h2,h3,h4⟩
theorem zf1{α:Type}{xs:List α}{j:Nat}{v:α}(h:xs[j]?=some v):atI xs (j:Int)=some v:=by
 have hj:j<xs.length:=(vak.mp h).1
 have e:ixN xs.length (j:Int)=some j:=by
  unfold ixN
  rw[if_pos (by omega),if_pos (by omega)];simp
 unfold atI;rw[e];exact h
noncomputable def zd9(b:Expr):Prop:=∀o i,subscripted b false o i=operate [o,i] (getItem o i)
noncomputable def IxR(X:Cx)(r:R2):Prop:=
 ∀(value slice:Expr)(pins:List (Addr×Obj))(s:Shared)(σ:St)(H:Hp)(x y:V)(v u:Value)(Q:VK),Inv X pins σ H s->RelV x v->RelV y u->r x y H Q->
  subscripted slice false v u=operate [v,u] (getItem v u)->wpAny (model X.prog X.w) X.A (subscriptTail value slice v u) (EP X pins σ Q) X.xe s
noncomputable def MtR(X:Cx)(id:String)(r:V->List V->Hp->VK->Prop):Prop:=
 ∀(pins:List (Addr×Obj))(s:Shared)(σ:St)(H:Hp)(x:V)(xs:List V)(v:Value)(us:List Value)(Q:VK),Inv X pins σ H s->RelV x v->Vals xs us->r x xs H Q->
  wpAny (model X.prog X.w) X.A (call (.builtin id) (v::us)) (EP X pins σ Q) X.xe s
section
variable{X:Cx}{a b:Expr}{ta tb:TE}{pos:Pos}
theorem IxR.or{r r':R2}(h:IxR X r)(h':IxR X r'):IxR X (λx y H Q=>r x y H Q\/r' x y H Q):=by
 intro value slice pins s σ H x y v u Q I rx ry q hs
 rcases q with q|q
 .exact h value slice pins s σ H x y v u Q I rx ry q hs
 .exact h' value slice pins s σ H x y v u Q I rx ry q hs
theorem pe_ix{r:R2}(hr:IxR X r)(ha:PE X a ta)(hb:PE X b tb)(hs:zd9 b):PE X (.Subscript a b pos) (tOp r ta tb):=by
 intro pins s σ H Q I h
 exact Subscript_ (binT ha hb I h λv u s2 x y H2 I2 rx ry q=>hr a b pins s2 σ H2 x y v u Q I2 rx ry q (hs _ _))
noncomputable def rIxL(K:PySem.W.Frag):R2:=λx y H Q=>∃p xs i v,x=.ref p/\y=.int i/\SqL K H p xs/\atI xs i=some v/\Q v H
noncomputable def rIxT(K:PySem.W.Frag):R2:=λx y H Q=>∃p xs i v,x=.ref p/\y=.int i/\SqT K H p xs/\atI xs i=some v/\Q v H
theorem ziu:IxR X (rIxL X.K):=by
 intro value slice pins s σ H x y v u Q I rx ry h hs
 obtain⟨p,xs,i,z,rfl,rfl,hq,he,q⟩:=h
 cases rx
 obtain⟨t,rfl⟩:=ry
 obtain⟨its,r,pl,hz⟩:=I.list hq
 obtain⟨j,h1,h2,h3,h4,h5⟩:=zit he
 obtain⟨w,ew,rw'⟩:=r.get h2
 have hl:=r.length
 have hn:=ze1
 have fin:EP X pins σ Q w s:=⟨z,H,I,rw',q⟩
 by_cases h0:0<=i
 .have hj:i.toNat=j:=by
   rw[seqIndex_of h0 h5]at h1
   exact va6 h1
  exact item_listR pl.isList h0 (by omega) (by rw[hj];simpa using ew) fin hs
 .have hj:(i+ (its.toArray.size:Int)).toNat=j:=by
   rw[seqIndex_neg (by omega) h4]at h1
   rw[vah,<-hl]
   exact va6 h1
  exact subscriptTail_builtinR (x:=w) pl.isList.typeIs slot_list_getitem.lookup
   (wpAny_getItem_list_neg (Q:=λr s'=>r=w/\EP X pins σ Q r s') pl.isList (by omega) (by rw[vah]<;>omega) (by omega) (by rw[hj];simpa using ew) ⟨rfl,fin⟩) hs
theorem zpx:IxR X (rIxT X.K):=by
 intro value slice pins s σ H x y v u Q I rx ry h hs
 obtain⟨p,xs,i,z,rfl,rfl,hq,he,q⟩:=h
 cases rx
 obtain⟨t,rfl⟩:=ry
 obtain⟨its,r,pl,hz⟩:=I.tuple hq
 obtain⟨j,h1,h2,h3,h4,h5⟩:=zit he
 obtain⟨w,ew,rw'⟩:=r.get h2
 have hl:=r.length
 have hn:=ze1
 have fin:EP X pins σ Q w s:=⟨z,H,I,rw',q⟩
 exact subscriptTail_builtinR (x:=w) pl.typeIs slot_tuple_getitem.lookup
  (getItem_tuple (j:=j) (Q:=λr s'=>r=w/\EP X pins σ Q r s') pl (by omega) (by omega) (by rw[vah,<-hl];exact h1) (by simpa using ew) ⟨rfl,fin⟩) hs
theorem zhh(its:List Value)(n j:Nat)(u:Value):Obj.mapSeq (·.setIfInBounds j u) {cls:=.type "list",data:=.seq its.toArray n} ={cls:=.type "list",data:=.seq (its.set j u).toArray n}:=by
 simp[Obj.mapSeq]
theorem Inv.lst{pins:List (Addr×Obj)}{σ:St}{H:Hp}{s:Shared}{p:Addr}{xs:List V}(I:Inv X pins σ H s)(h:H p=some (.lst xs)) :
 ∃(its:List Value) (n:Nat),Vals xs its/\s.heap.get? p=some {cls:=.type "list",data:=.seq its.toArray n}/\xs.length<=sizeLine:=by
 obtain⟨z,its,n,r,e⟩:=I.hok p _ h
 exact⟨its,n,r,e,z⟩
theorem Inv.lstUpd{pins:List (Addr×Obj)}{σ:St}{H:Hp}{s:Shared}{p:Addr}{xs ys:List V}{its its':List Value}{n n':Nat}{f:Obj->Obj}(I:Inv X pins σ H s)(h:H p=some (.lst xs))
 (ho:s.heap.get? p=some {cls:=.type "list",data:=.seq its.toArray n}) (hf:f {cls:=.type "list",data:=.seq its.toArray n} ={cls:=.type "list",data:=.seq its'.toArray n'}) (r:Vals ys its') (hz:ys.length<=sizeLine) (t:Nat) :
 Inv X pins σ (upd H p (.lst ys)) {s with heap:=s.heap.update p f,toks:=t}:=by
 have e:(s.heap.update p f).get? p=some {cls:=.type "list",data:=.seq its'.toArray n'}:=by
  rw[vcj f ho (by rw[hf]<;>rfl),hf]
 refine I.write (x:=p) (e:=p) (by rw[h];trivial) (.inl rfl) (λb u hb q=>(vbi _ _ (vb3 hb)).trans q) ⟨_,e⟩ ?_
 exact⟨hz,its',n',r,e⟩
noncomputable def rSetL:V->V->V->Hp->(Hp->Prop)->Prop:=λo i v H Q=>∃p xs k j,o=.ref p/\i=.int k/\H p=some (.lst xs)/\ixN xs.length k=some j/\Q (upd H p (.lst (xs.set j v)))
theorem zkt:PSet X rSetL:=by
 intro pins s σ H o i v ov iv u Q I ro ri rv h
 obtain⟨p,xs,k,j,rfl,rfl,hp,hj,q⟩:=h
 cases ro
 obtain⟨t,rfl⟩:=ri
 obtain⟨its,n,r,ho,hz⟩:=I.lst hp
 obtain⟨h1,h2,h3,h4⟩:=zis hj
 have hl:=r.length
 have hn:=ze1
 have I':Inv X pins σ (upd H p (.lst (xs.set j v))) {s with heap:=s.heap.update p (Obj.mapSeq (·.setIfInBounds j u))}:=
  I.lstUpd hp ho (zhh its n j u) (r.set rv j) (by rw[vck];exact hz) s.toks
 by_cases h0:0<=k
 .have hk:k.toNat=j:=by
   rw[seqIndex_of h0 h4]at h1
   exact va6 h1
  exact PySem.W.ki_setAt ho h0 (by omega) (by rw[vah,<-hl];exact h4) (by rw[hk];exact⟨_,I',q⟩)
 .have hk:(k+ (its.toArray.size:Int)).toNat=j:=by
   rw[seqIndex_neg (by omega) h3]at h1
   rw[vah,<-hl]
   exact va6 h1
  exact PySem.W.ki_setBack ho (by omega) (by rw[vah,<-hl];exact h3) (by omega) (by rw[hk];exact⟨_,I',q⟩)
theorem ze7(lo hi:Option Int)(n:Nat):(sliceBounds lo hi none n).1=((HT.sIx n 0 lo:Nat):Int)/\(sliceBounds lo hi none n).2.1=((HT.sIx n n hi:Nat):Int)/\(sliceBounds lo hi none n).2.2=1:=by
 refine⟨?_,?_,rfl⟩
 .cases lo with
  |none=>simp[sliceBounds,HT.sIx]
  |some i=>
   simp only[sliceBounds,HT.sIx,Option.getD_none,show(1:Int)>0 by decide,vbb]
   by_cases h:i<0
   .simp only[h,vbb]<;>omega
   .simp only[h,va1]<;>omega
 .cases hi with
  |none=>simp[sliceBounds,HT.sIx]
  |some i=>
   simp only[sliceBounds,HT.sIx,Option.getD_none,show(1:Int)>0 by decide,vbb]
   by_cases h:i<0
   .simp only[h,vbb]<;>omega
   .simp only[h,va1]<;>omega
theorem zea(its:List Value)(lo hi:Option Int):slicePick its.toArray lo hi none=((its.drop (HT.sIx its.length 0 lo)).take (HT.sIx its.length its.length hi-HT.sIx its.length 0 lo)).toArray:=by
 obtain⟨h1,h2,h3⟩:=ze7 lo hi its.toArray.size
 unfold slicePick
 rw[h1,h2,h3]
 simp only[sliceRange_one,pick_run,vah]<;>rfl
noncomputable def rSlL(K:PySem.W.Frag):V->Option Int->Option Int->Hp->VK->Prop:=λx lo hi H Q=>∃a xs,x=.ref a/\SqL K H a xs/\∀p,H p=none->Q (.ref p) (upd H p (.lst (cutV xs lo hi)))
theorem znc:SlR X (rSlL X.K):=by
 intro pins s σ H x v vl vu lo hi sl Q I rx hs pl pu h
 obtain⟨a,xs,rfl,hx,q⟩:=h
 cases rx
 obtain⟨its,r,ht,hz⟩:=I.list hx
 have hlen:=r.length
 refine⟨"list",_,slot_list_getitem.lookup,ht.isList.typeIs,?_⟩
 refine wpAny_getItem_list_slice ht.isList hs pl pu .none (by simp) ?_ (by rw[vah]<;>omega)
 rw[zea,<-hlen]
 refine⟨.ref s.heap.objs.size,_,I.laid (t':=s.toks) (o:=.lst (cutV xs lo hi)) (λb ob q=>vac _ q) (vad _) ?_,rfl,q _ (I.hok.fresh (vad _))⟩
 exact⟨va3 (zcy xs lo hi) hz,_,0,(r.drop (HT.sIx xs.length 0 lo)).take (HT.sIx xs.length xs.length hi-HT.sIx xs.length 0 lo),vav _ rfl⟩
theorem ze8:CallR X (.builtin "len") (λxs H Q=>∃p ys,xs=[.ref p]/\(SqL X.K H p ys\/SqT X.K H p ys)/\Q (.int ys.length) H):=by
 intro pins s σ H xs us Q I r h
 obtain⟨p,ys,rfl,hq,q⟩:=h
 obtain⟨u,rfl,rx⟩:=vals1 r
 cases rx
 have hn:=ze1
 rcases hq with hq|hq
 .obtain⟨its,r',pl,hz⟩:=I.list hq
  have hlen:=r'.length
  exact Calls.call_len_list pl.isList (by simp only[vah]<;>omega) ⟨.int ys.length,H,I.tok _,⟨s.toks+1,by rw[vah,hlen]⟩,q⟩
 .obtain⟨its,r',pl,hz⟩:=I.tuple hq
  have hlen:=r'.length
  exact len_tuple pl (by simp only[vah]<;>omega) ⟨.int ys.length,H,I.tok _,⟨s.toks+1,by rw[vah,hlen]⟩,q⟩
theorem ze9:CallR X (.type "list") (λxs H Q=>∃p ys,xs=[.ref p]/\(SqL X.K H p ys\/SqT X.K H p ys)/\∀l,H l=none->Q (.ref l) (upd H l (.lst ys))):=by
 intro pins s σ H xs us Q I r h
 obtain⟨p,ys,rfl,hq,q⟩:=h
 obtain⟨u,rfl,rx⟩:=vals1 r
 cases rx
 have fin:∀(its:List Value),Vals ys its->ys.length<=sizeLine->∀(h':Heap)(c':Nat),(∀b o',s.heap.get? b=some o'->h'.get? b=some o')->
  h'.get? s.heap.objs.size=some {cls:=.type "list",dict:=none,data:=.seq its.toArray c',slots:=#[]}->EP X pins σ Q (.ref s.heap.objs.size) {s with heap:=h'}:=λits r' hz h' c' kp e=>
  ⟨.ref s.heap.objs.size,_,I.laid (t':=s.toks) kp (vad _) (show ObjOk X.prog X.w _ h' _ (.lst ys)from⟨hz,its,c',r',e⟩),rfl,q _ (I.hok.fresh (vad _))⟩
 rcases hq with hq|hq
 .obtain⟨its,r',pl,hz⟩:=I.list hq
  have hlen:=r'.length
  obtain⟨o,ho,hc,n,hd⟩:=pl.isList
  exact call_list_seq p (.inl rfl) ho hc hd (λh' c' kp e=>fin its r' hz h' c' kp e) (by simp only[vah]<;>omega)
 .obtain⟨its,r',pl,hz⟩:=I.tuple hq
  have hlen:=r'.length
  obtain⟨o,ho,hc,n,hd⟩:=pl
  exact call_list_seq p (.inr rfl) ho hc hd (λh' c' kp e=>fin its r' hz h' c' kp e) (by simp only[vah]<;>omega)
theorem zeb:CallR X (.type "tuple") (λxs H Q=>∃p ys,xs=[.ref p]/\((SqL X.K H p ys/\∀l,H l=none->Q (.ref l) (upd H l (.tup ys)))\/(SqT X.K H p ys/\Q (.ref p) H))):=by
 intro pins s σ H xs us Q I r h
 obtain⟨p,ys,rfl,h⟩:=h
 obtain⟨u,rfl,rx⟩:=vals1 r
 cases rx
 rcases h with⟨hq,q⟩|⟨hq,q⟩
 .obtain⟨its,r',pl,hz⟩:=I.list hq
  have hlen:=r'.length
  refine call_tuple_list pl.isList (λh' kp=>?_) (by simp only[vah]<;>omega)
  have I1:Inv X pins σ H {s with heap:=h'}:=I.kept (t':=s.toks) kp
  have I2:Inv X pins σ (upd H h'.objs.size (.tup ys)) {s with heap:=h'.push {cls:=.type "tuple",data:=.seq its.toArray}}:=
   I1.laid (t':=s.toks) (λb o e=>vac _ e) (vad _) (show ObjOk X.prog X.w _ _ _ (.tup ys)from⟨hz,its,r',zbd.new _ _⟩)
  exact⟨.ref h'.objs.size,_,I2,rfl,q _ (I1.hok.fresh (vad _))⟩
 .obtain⟨its,r',pl,hz⟩:=I.tuple hq
  exact call_tuple_same pl ⟨.ref p,H,I,rfl,q⟩
noncomputable def tyV(K:PySem.W.Frag)(T:String)(x:V)(H:Hp):Prop:=match x with
 |.str _=>T = "str"
 |.int _=>T = "int"
 |.ref p=>(T = "list"/\∃xs,SqL K H p xs)\/(T = "tuple"/\∃xs,SqT K H p xs)\/
  (T = "dict"/\((∃kvs,H p=some (.dK kvs))\/∃kvs,H p=some (.dT kvs)))\/(T = "set"/\∃S n,H p=some (.set S n))
 |_=>False
theorem zpy{pins:List (Addr×Obj)}{σ:St}{H:Hp}{s:Shared}{T:String}{x:V}{v:Value}(I:Inv X pins σ H s)(r:RelV x v)(ty:tyV X.K T x H) :
 s.TypeIs v T/\∀a,v=.ref a->∃ob,s.heap.get? a=some ob/\ob.dict=none:=by
 cases x with
 |str z=>
  obtain⟨t,rfl⟩:=r
  cases(show T = "str"from ty)
  exact⟨typeIs_str s z t,λ_ e=>nomatch e⟩
 |int i=>
  obtain⟨t,rfl⟩:=r
  cases(show T = "int"from ty)
  exact⟨typeIs_int s i t,λ_ e=>nomatch e⟩
 |ref p=>
  cases r
  rcases ty with⟨rfl,xs,hq⟩|⟨rfl,xs,hq⟩|⟨rfl,hk⟩|⟨rfl,S,n,hk⟩
  .obtain⟨its,_,pl,_⟩:=I.list hq
   refine⟨pl.isList.typeIs,λa e=>?_⟩
   cases e
   obtain⟨o,n,e,c,hd,_⟩:=pl
   exact⟨o,e,hd⟩
  .obtain⟨its,_,⟨o,h1,h2,_,h3⟩,_⟩:=I.tupleD hq
   refine⟨⟨o,h1,h2⟩,λa e=>?_⟩
   cases e
   exact⟨o,h1,h3⟩
  .have z:∃o,s.heap.get? p=some o/\o.ExactDict:=by
    rcases hk with⟨kvs,hk⟩|⟨kvs,hk⟩
    .obtain⟨_,_,_,_,o,_,_,e,ex,_⟩:=I.hok p _ hk
     exact⟨o,e,ex⟩
    .obtain⟨_,_,_,_,o,_,_,e,ex,_⟩:=I.hok p _ hk
     exact⟨o,e,ex⟩
   obtain⟨o,e,ex⟩:=z
   refine⟨⟨o,e,ex.1⟩,λa e2=>?_⟩
   cases e2
   exact⟨o,e,ex.2.1⟩
  .obtain⟨o,_,_,_,e,ex,_⟩:=I.hok p _ hk
   refine⟨⟨o,e,ex.1⟩,λa e2=>?_⟩
   cases e2
   exact⟨o,e,ex.2.1⟩
 |_=>exact False.elim ty
noncomputable def tBM(K:PySem.W.Frag)(T:String)(r:V->List V->Hp->VK->Prop)(to:TE)(t:TA):TE:=λσ H Q=>to σ H λx H1=>tyV K T x H1/\t σ H1 λxs H2=>r x xs H2 Q
variable{o e:Expr}{es:List Expr}{to:TE}{t:TA}{name:Str}{apos cpos:Pos}{T id:String}{r:V->List V->Hp->VK->Prop}
theorem pe_bm(pa:PlainAttrs T)(slot:Slot T name id)(hty:typeOf (.builtin id)=pure (.type "method_descriptor"))(hm:MtR X id r)(ho:PE X o to)(ha:PA X (e::es) t)
 (hbase:attributeBase o name X.env (eval o X.env)=eval o X.env:=by rfl)
 (hfew:((backTo cpos (starEach (e::es) X.env)).all (λx=>!x.1)&& (backToKw cpos (keywordEach [] X.env)).all (λx=>x.1.isSome)
   && decide ((e::es).length+ ([]:List Keyword).length+ (if([]:List Keyword).isEmpty then 0 else 1)<30))=true:=by rfl)
 (hline:(apos.endLine==cpos.line)=true:=by rfl) (hs:starEach (e::es) X.env=(false,eval e X.env)::starEach es X.env:=by rfl) (hplain:(backTo cpos (starEach es X.env)).any (·.1)=false:=by rfl) :
 PE X (.Call (.Attribute o name apos) (e::es) [] cpos) (tBM X.K T r to t):=by
 intro pins s σ H Q I h
 refine wpAny_Call_method_late hbase hfew hline rfl (thn (ho pins s σ H _ I h) λv s1 z9=>z9.el λx H1 I1 r1 hq0=>?_)
 obtain⟨ty,q1⟩:=hq0
 obtain⟨h1,h2⟩:=zpy I1 r1 ty
 refine⟨T,id,pa,slot,hty,h1,h2,?_⟩
 have hA:=ha cpos pins s1 σ H1 _ I1 q1
 rw[hs]at hA ⊢
 refine Calls.callWith_builtin (by show(false|| (backTo cpos (starEach es X.env)).any (·.1))=false;rw[hplain]<;>rfl) (Calls.evalArgs_plain ?_)
 exact thn hA λus s2 z9=>z9.el λvs H2 I2 r2 q2=>hm pins s2 σ H2 x vs v us Q I2 r1 r2 q2
/- xs.append(e),list.index on a module's tuple .. are MtR facts of 06m -/
end
noncomputable def MtM(X:Cx)(id:String)(r:V->List V->Hp->VK->Prop):Prop:=
 ∀(pins:List (Addr×Obj))(s:Shared)(σ:St)(H:Hp)(x:V)(xs:List V)(v:Value)(us:List Value)(Q:VK),Inv X pins σ H s->RelV x v->Vals xs us->r x xs H Q->
  wpAny (model X.prog X.w) X.A (call (.builtin id) (v::us)) (EP X pins σ Q) X.xe s
theorem Vals.one:∀{x:V} {us:List Value},Vals [x] us->∃u,us=[u]/\RelV x u
 |_,_,.cons r .nil=>⟨_,rfl,r⟩
section
variable{X:Cx}{pins:List (Addr×Obj)}{σ:St}{H:Hp}{s:Shared}{l b:Addr}{xs ys zs:List V}
theorem Inv.lset{its its':List Value}{n:Nat}{f:Array Value->Array Value}{t':Nat}(I:Inv X pins σ H s)(hH:H l=some (.lst xs))
 (e:s.heap.get? l=some {cls:=.type "list",data:=.seq its.toArray n}) (hf:f its.toArray=its'.toArray) (hv:Vals ys its') (hz:ys.length<=sizeLine) :
 Inv X pins σ (upd H l (.lst ys)) {s with heap:=s.heap.update l (Obj.mapSeq f),toks:=t'}:=by
 have q:=PySem.IsL.update e f
 rw[hf]at q
 refine I.write (x:=l) (e:=l) (by rw[hH];exact trivial) (.inl rfl) (λb' u hb hu=>(vbi s.heap (Obj.mapSeq f) (vb3 hb)).trans hu) ⟨_,q⟩ ?_
 exact⟨hz,its',_,hv,q⟩
theorem Inv.lnew{its:List Value}{t':Nat}(I:Inv X pins σ H s)(hv:Vals ys its)(hz:ys.length<=sizeLine) :
 Inv X pins σ (upd H s.heap.objs.size (.lst ys)) {s with heap:=s.heap.push {cls:=.type "list",data:=.seq its.toArray},toks:=t'}:=
 I.laid (λ_ _ q=>vac _ q) (vad _) ⟨hz,its,0,hv,vav _ rfl⟩
theorem Inv.fresh(I:Inv X pins σ H s):H s.heap.objs.size=none:=I.hok.fresh (vad _)
theorem Inv.lstM(I:Inv X pins σ H s)(hH:H l=some (.lst xs)):xs.length<=sizeLine/\∃(its:List Value) (n:Nat),Vals xs its/\xs.length=its.length/\s.heap.get? l=some {cls:=.type "list",data:=.seq its.toArray n}:=by
 obtain⟨z,its,n,r,e⟩:=I.hok l _ hH
 exact⟨z,its,n,r,r.length,e⟩
theorem zgo{n:Nat}(h:n<=sizeLine):Builtin.List.listTooLong n=false:=by
 unfold Builtin.List.listTooLong
 exact vaw (by omega)
end
section
variable{X:Cx}
noncomputable def znd:V->List V->Hp->VK->Prop:=λx vs H Q=>∃l xs y,x=.ref l/\vs=[y]/\H l=some (.lst xs)/\xs.length<sizeLine/\Q .non (upd H l (.lst (xs++[y])))
theorem zfa:MtM X "list.append" znd:=by
 intro pins s σ H x vs v us Q I rx rv h
 obtain⟨l,xs,y,rfl,rfl,hH,hz,q⟩:=h
 cases rx
 obtain⟨u,rfl,ru⟩:=rv.one
 obtain⟨z,its,n,r,hl,e⟩:=I.lstM hH
 refine call_meets F.slot_list_append ⟨_,e,rfl⟩ F.entry_list_append (F.args_list_append_2 _ _) (PySem.list_append l its.toArray n u (by rw[vah];omega)) ⟨e,?_⟩
 refine⟨.non,_,I.lset (its':=its++[u]) hH e (by simp) (r.append (.cons ru .nil)) ?_,rfl,q⟩
 rw[vat,vcl]
 omega
noncomputable def zne:V->List V->Hp->VK->Prop:=λx vs H Q=>∃l b xs zs,x=.ref l/\vs=[.ref b]/\H l=some (.lst xs)/\H b=some (.lst zs)/\xs.length+zs.length<=sizeLine/\Q .non (upd H l (.lst (xs++zs)))
theorem zpz:MtM X "list.extend" zne:=by
 intro pins s σ H x vs v us Q I rx rv h
 obtain⟨l,b,xs,zs,rfl,rfl,hH,hB,hz,q⟩:=h
 cases rx
 obtain⟨u,rfl,ru⟩:=rv.one
 cases ru
 obtain⟨z,its,n,r,hl,e⟩:=I.lstM hH
 obtain⟨z2,its2,n2,r2,hl2,e2⟩:=I.lstM hB
 have hsz:its.toArray.size+its2.toArray.size<=sizeLine:=by rw[vah,vah];omega
 have hlong:¬(!its.toArray.isEmpty&&Builtin.List.listTooLong (its.toArray.size+its2.toArray.size))=true:=by
  rw[zgo hsz,Bool.and_false]
  exact vao
 refine call_meets F.slot_list_extend ⟨_,e,rfl⟩ F.entry_list_extend (F.args_list_extend_2 _ _)
  (AutoSeq1.list_extend_list_list_0 l its.toArray n b its2.toArray n2 hlong (by rw[vah];omega) (by omega)) ⟨e,e2,?_⟩
 refine⟨.non,_,I.lset (its':=its++its2) hH e (by simp) (r.append r2) ?_,rfl,q⟩
 rw[vat]
 omega
noncomputable def rCat:R2:=λx y H Q=>∃l b xs zs,x=.ref l/\y=.ref b/\H l=some (.lst xs)/\H b=some (.lst zs)/\xs.length+zs.length<=sizeLine/\∀p,H p=none->Q (.ref p) (upd H p (.lst (xs++zs)))
theorem ziv:OpR X (binaryOp .Add) rCat:=by
 intro pins s σ H x y v u Q I rx ry h
 obtain⟨l,b,xs,zs,rfl,rfl,hH,hB,hz,q⟩:=h
 cases rx
 cases ry
 obtain⟨z,its,n,r,hl,e⟩:=I.lstM hH
 obtain⟨z2,its2,n2,r2,hl2,e2⟩:=I.lstM hB
 refine PySem.P.add_list e e2 ?_ (by rw[vah,vah];omega)
 have ea:its.toArray++its2.toArray=(its++its2).toArray:=by simp
 rw[ea]
 exact⟨.ref _,_,I.lnew (t':=s.toks) (r.append r2) (by rw[vat];omega),rfl,q _ I.fresh⟩
end
end L2
namespace Att
open PySem PySem.W PySem.Calls PyProof.Rows
theorem zcz{P:Params}{h:Heap}:∀(ns:List Int) (vs:List Value),WellAll P h vs (ns.map WData.int)->IntsAre vs ns:=by
 intro ns
 induction ns with
 |nil=>
  intro vs w
  rw[vc7]at w
  cases w
  exact .nil
 |cons n ns ih=>
  intro vs w
  rw[vaj]at w
  cases w with
  |cons a b=>
   cases a
   exact .cons _ _ (ih _ b)
theorem ziw{l:OpenLaw}{n:Nat}(hn:l.most=some n){P:Params}{h:Heap}{args:List WData}{vals:List Value}
 (hpre:l.row.toRowW.claim.pre args=true) (hwl:WellAll P h vals args) :
 ∃a vs ns,vals=[Value.ref a]/\args=[WData.list (ns.map WData.int)]/\h.get? a=some {cls:=.type "list",data:=.seq vs.toArray}/\IntsAre vs ns/\ns.length<=n:=by
 have hsh:WShape.hasAll [] args [.list .int]=true:=(pre_splitW hpre).1
 have hc:l.pre.holds [] {args:=args}=true:=(pre_splitW hpre).2
 obtain⟨d,r,rfl,h1,h2⟩:=hasAllW_cons hsh
 obtain rfl:=hasAllW_nil h2
 obtain⟨xs,rfl,h3⟩:=hasW_list h1
 obtain⟨ns,rfl⟩:=items_int h3
 have hlen:ns.length<=n:=by
  unfold OpenLaw.pre at hc
  have h4:(WTm.not (.lt (.lit (.int (n:Int))) (.len (.arg 0)))).holds [] {args:=[.list (ns.map .int)]}=true:=by
   have h4:=(holds_andW hc).1
   rw[hn]at h4
   exact h4
  have h5:=condW_of h4 (w_not (w_lt w_lit (w_len_list (w_arg rfl))))
  rw[vap]at h5
  refine Nat.le_of_not_lt λq=>?_
  have q':(n:Int)< ((ns.length:Nat):Int):=by omega
  first
   |(rw[vb8 q']at h5;exact absurd h5 (by decide))
   |(simp at h5;omega)
 cases hwl with
 |cons w1 w2=>
  cases w2
  cases w1 with
  |list ho hall=>exact⟨_,_,ns,rfl,rfl,ho,zcz ns _ hall,hlen⟩
theorem zix(l:OpenLaw)(args:List WData):l.row.toRowW.claim.post args (.bool true) args=true:=
 postW_of (r:=l.row.toRowW) (X:=(true==true))
  (show WShape.has [] (.bool true) .bool=true by first|rfl|decide|simp[WShape.has,WShape.arms,WShape.armsAll])
  (show(WTm.eq .res (.lit (.bool true))).value [] {args:=args,res:=some (.bool true),after:=args}=some (.bool (true==true))from w_eq_bool (w_res rfl) w_lit) rfl
theorem attach_call{l:OpenLaw}{n:Nat}{q:Program}{loose:List Str}{XP:(Str->Option Value)->Heap->Prop}{YP:World->Heap->Prop}{d:DefRec}
 (hn:l.most=some n) (hdf:d.params.defaults=[])
 (call:∀(w:World)(s₀ s₁:Shared)(mg mb:Str->Option Value)(fa:Addr)(o:Obj)(pm cd doc:Value)(a:Addr)(vs:List Value)(ns:List Int),
   Ground q loose [] XP w s₀ mg mb s₁.heap->YP w s₁.heap->
   s₁.heap.get? fa=some o->o.data=.func (docDef d.name d.params d.body d.scope pm cd doc)->s₁.heap.CodeRec cd d.name->mg d.name=some (.ref fa)->
   s₁.heap.get? a=some {cls:=.type "list",data:=.seq vs.toArray}->IntsAre vs ns->ns.length<=n->s₁.gens = #[]->
   codeAny (model l.prog w) callerA (.call (.ref fa) ⟨[.ref a],[]⟩) (λr s'=>r=.ok (.ret (.bool true))/\OldK s₁.heap s'.heap/\s'.os=s₁.os/\AllBare s'.gens) s₁) :
 WalkO q loose XP YP l.row.toRowW d [] (λf vs=>PySem.call f vs):=by
 intro w s₀ s₁ mg mb G Y fa o pm cd doc dV kV ho hd hcd hD hmg hg args vals as hpre hlay hrd hwl hlo
 obtain rfl:dV=.none:=Dflts.none hD hdf
 obtain rfl:kV=.none:=Dflts.noKw hD
 obtain⟨a,vs,ns,rfl,rfl,hobj,hints,hlen⟩:=ziw hn hpre hwl
 refine enter_call (vcw (call w s₀ s₁ mg mb fa o pm cd doc a vs ns G Y ho (fd_plain hd) hcd hmg hobj hints hlen hg) λr s' hq=>?_)
 obtain⟨rfl,h2,h3,h4⟩:=hq
 exact⟨.inl ⟨.bool true,.bool true,[],rfl,λ_=>rfl,.bool true,zix l _,λ_=>⟨List.Pairwise.nil,λ_ hm=>(nomatch hm)⟩⟩,h2,h3,h4⟩
end Att
namespace L2
open PySem PySem.Spec PyProof.Rows
theorem zfb:∀{vs:List Value} {ns:List Int},IntsAre vs ns->Vals (ns.map V.int) vs
 |_,_,.nil=>.nil
 |_,_,.cons n t h=>.cons ⟨t,rfl⟩ (zfb h)
noncomputable def Only(H:Hp):Prop:=∀b,H b=none\/∃o xs,H b=some (.frz o (.lst xs))
theorem zku{P:Program}{w:World}{K:PySem.W.Frag}{mg mb:Str->Option Value}{CX:CXT}{k:Nat}{fa a:Addr}{fd:FuncData}{x:Str}{sp:Sp}{s₁:Shared}{vs:List Value}{ns:List Int}
 (KX:K.In s₁.heap) (hns:s₁.heap.Ns mainGlobals mg) (hb:s₁.heap.Ns builtinsNs mb) (hbb:∀x:Str,x≠"__name__"->mb x=bootBuiltins x) (hlim:s₁.heap.NoLimit) (hg:s₁.gens = #[])
 (ha:s₁.heap.get? a=some {cls:=.type "list",data:=.seq vs.toArray}) (hi:IntsAre vs ns) (hl:ns.length<=sizeLine) (hr:Room k callerA)
 (F:∀base:Heap,K.In base->base.Ns mainGlobals mg->FnOk P w K mg base CX k fa fd [x] sp) (hbind:∀(s:Shared)(u:Value),BindsTo s fd ⟨[u],[]⟩ [(x,u)])
 (hsp:∀H:Hp,Only H->SqL K H a (ns.map V.int)->sp [.ref a] H (λv _=>v=.bl true) λ_ _ _=>False)
 (hCX:∀H e s',CX [] H s₁ (λ_ _ _=>False) e s'->False) :
 codeAny (model P w) callerA (.call (.ref fa) ⟨[.ref a],[]⟩) (λr s'=>r=.ok (.ret (.bool true))/\OldK s₁.heap s'.heap/\s'.os=s₁.os/\AllBare s'.gens) s₁:=by
 have rv:=zfb hi
 have lenV:=hi.length
 have core:∀H:Hp,Only H->SqL K H a (ns.map V.int)->HOk P w H s₁.heap->(∀b,H b≠none->b=a)->(H a≠none->K.lookup a=none)->
  codeAny (model P w) callerA (.call (.ref fa) ⟨[.ref a],[]⟩) (λr s'=>r=.ok (.ret (.bool true))/\OldK s₁.heap s'.heap/\s'.os=s₁.os/\AllBare s'.gens) s₁:=by
  intro H hO hS hok hA hK
  have base_of:∀{b:Addr}{o:Obj},s₁.heap.get? b=some o->H b=none->(hidT s₁.heap H).get? b=some o:=λe n=>zkc e n
  have noA:∀{b:Addr}{o:Obj}{es:Array DictEntry}{ep:Nat},s₁.heap.get? b=some o->o.data=.dict es ep->H b=none:=λ{b o es ep} e d=>by
   cases q:H b with
   |none=>rfl
   |some u=>
    have e':b=a:=hA b (by rw[q];simp)
    subst e'
    rw[ha]at e;cases e
    have d':Data.seq vs.toArray _=Data.dict es ep:=d
    cases d'
  have nsK:∀{b:Addr}{m:Str->Option Value},s₁.heap.Ns b m->(hidT s₁.heap H).Ns b m:=λ{b m}⟨o,es,ep,e,d,r⟩=>⟨o,es,ep,base_of e (noA e d),d,r⟩
  have hKb:K.In (hidT s₁.heap H):=λb o e=>base_of (KX b o e) (by
   cases q:H b with
   |none=>rfl
   |some u=>
    have e':b=a:=hA b (by rw[q];simp)
    subst e'
    rw[hK (by rw[q];simp)]at e;cases e)
  have hM:Mod K mg (hidT s₁.heap H):=⟨hKb,nsK hns,⟨mb,nsK hb,hbb⟩,let⟨mc,h1,h2⟩:=hlim;⟨mc,nsK h1,h2⟩⟩
  have e0:Env0 P w K mg (hidT s₁.heap H) callerA [] s₁ H:=⟨rfl,hM,λb o e=>zmu e,Nat.le_of_eq (zhy _ _),trivial,λb hb=>absurd (show b∈([]:List Addr)from hb) (by simp),hok,.of_eq hg⟩
  refine vcw ((F _ hKb (nsK hns)).run callerA [] s₁ H ⟨[.ref a],[]⟩ [.ref a] [.ref a] _ _ hr e0 (hbind s₁ (.ref a)) (.cons rfl .nil) (hsp H hO hS)) λr s' h=>?_
  cases r with
  |error e=>exact(hCX H e s' h).elim
  |ok fl=>
   cases fl with
   |next=>exact False.elim h
   |brk=>exact False.elim h
   |cont=>exact False.elim h
   |ret u=>
    obtain⟨v,H',os,bare,un,hok',r',q⟩:=h
    have q':v=.bl true:=q
    subst q'
    obtain rfl:u=Value.bool true:=r'
    refine⟨rfl,OldK.of_keep λb o e=>?_,os,bare⟩
    cases q:H b with
    |none=>exact un.keep b o e q (by intro z;exact absurd (show b∈([]:List Addr)from z) (by simp)) (by simp)
    |some u=>
     rcases hO b with z|⟨ob,xs,z⟩
     .rw[q]at z;cases z
     .have z2:=un.frzs b ob _ z
      obtain⟨e1,_⟩:=hok b _ z
      obtain⟨e2,_⟩:=hok' b _ z2
      rw[e]at e1;cases e1
      exact e2
 cases hk:K.lookup a with
 |some o=>
  have e:=KX a o hk
  rw[ha]at e
  cases e
  refine core (λ_=>none) (λ_=>.inl rfl) (.inr ⟨_,vs.toArray,_,hk,rfl,rfl,rfl,by rw[vah,lenV];exact hl,by simpa using rv⟩) (λb u z=>by have z':(none:Option HO)=some u:=z;cases z') (λb z=>absurd rfl z) λz=>absurd rfl z
 |none=>
  refine core (λb=>if b=a then some (.frz {cls:=.type "list",data:=.seq vs.toArray} (.lst (ns.map V.int)))else none) (λb=>?_) (.inl (.inr ⟨{cls:=.type "list",data:=.seq vs.toArray},if_pos rfl⟩)) (λb u z=>?_) (λb z=>?_) λ_=>hk
  .by_cases hb:b=a
   .exact .inr ⟨_,_,if_pos hb⟩
   .exact .inl (if_neg hb)
  .by_cases hb:b=a
   .have z':=(if_pos hb).symm.trans z
    cases z'
    subst hb
    exact⟨ha,by rw[vap];exact hl,vs,_,rv,ha⟩
   .have z':=(if_neg hb).symm.trans z
    cases z'
  .by_cases hb:b=a
   .exact hb
   .exact absurd (if_neg hb) z
theorem znf{l:PySem.W.OpenLaw}{n k:Nat}{q:Program}{loose:List Str}{XP:(Str->Option Value)->Heap->Prop}{YP:World->Heap->Prop}{d:DefRec}{K:Params->PySem.W.Frag}{CX:World->CXT}{sp:World->Sp}{x:Str}
 (hn:l.most=some n) (hn2:n<=sizeLine) (hdf:d.params.defaults=[]) (hr:Room k callerA)
 (hY:∀(w:World)(h:Heap),YP w h->(K w.params).In h)
 (F:∀(w:World)(mg:Str->Option Value)(fa:Addr)(h:Heap),(K w.params).In h->h.Ns mainGlobals mg->mg d.name=some (.ref fa)->
   ∃fd:FuncData,(∀(s:Shared)(u:Value),BindsTo s fd ⟨[u],[]⟩ [(x,u)])/\
    ∀base:Heap,(K w.params).In base->base.Ns mainGlobals mg->FnOk l.prog w (K w.params) mg base (CX w) k fa fd [x] (sp w))
 (hsp:∀(w:World)(H:Hp)(a:Addr)(ns:List Int),ns.length<=n->Only H->SqL (K w.params) H a (ns.map V.int)->sp w [.ref a] H (λv _=>v=.bl true) λ_ _ _=>False)
 (hCX:∀(w:World)(H:Hp)(s:Shared)(e:Value)(s':Shared),CX w [] H s (λ_ _ _=>False) e s'->False) :
 PySem.W.WalkO q loose XP YP l.row.toRowW d [] (λf vs=>PySem.call f vs):=by
 refine Att.attach_call hn hdf λw s₀ s₁ mg mb fa o pm cd doc a vs ns G Y ho hd hcd hmg hobj hints hlen hg=>?_
 have KX:=hY w _ Y
 obtain⟨fd,hb,hF⟩:=F w mg fa _ KX G.T.g hmg
 exact zku KX G.T.g G.T.b G.T.builtins G.T.nolimit hg hobj hints (va3 hlen hn2) hr hF hb (λH hO hS=>hsp w H a ns hlen hO hS) λH e s'=>hCX w H s₁ e s'
noncomputable def zng(s:Stmt):Arguments:=match s with
 |.FunctionDef _ a _ _ _ _ _ _ _ _=>a
 |_=>{posonlyargs:=[],args:=[],vararg:=none,kwonlyargs:=[],kw_defaults:=[],kwarg:=none,defaults:=[]}
noncomputable def zb2(s:Stmt):List Stmt:=match s with
 |.FunctionDef _ _ b _ _ _ _ _ _ _=>b
 |_=>[]
noncomputable def zaf(s:Stmt):Scope:=match s with
 |.FunctionDef _ _ _ _ _ _ sc _ _ _=>sc
 |_=>{kind:=.function,names:=[],isGenerator:=false,isCoroutine:=false}
noncomputable abbrev CX0:CXT:=λ_ _ _ _ _ _=>False
noncomputable abbrev E0:XK:=λ_ _ _=>False
theorem pass0{X:Cx}:zcx CX0 X E0:=λ_ _ _ _ _ _ _ h=>h.elim
theorem zc0{n:Nat}(h:n<=1000):n<sizeLine:=Nat.lt_of_le_of_lt h (by decide)
theorem iteF{A B:Prop}(h:B):if false=true then A else B:=by
 rw[if_neg vao]
 exact h
theorem iteT{A B:Prop}(h:A):if true=true then A else B:=by
 rw[if_pos rfl]
 exact h
noncomputable def zbh(cells:List (Str×Addr)):List (Str×NameKind)->List (Str×Addr)->List (Str×Addr)
 |[],cs=>cs
 |(n,k)::r,cs=>zbh cells r (if k == .free then(match cells.lookup n with|some c=>(n,c)::cs|none=>cs)else cs)
theorem zby{scope:Scope}{env:Env}(hf:∀y∈scope.names,y.2=.free->∃c,env.cells.lookup y.1=some c):closureFor scope env=pure (zbh env.cells scope.names []):=by
 have go:∀(l:List (Str×NameKind))(cs:List (Str×Addr)),(∀y∈l,y.2=.free->∃c,env.cells.lookup y.1=some c)->
  (forIn l cs λ(x:Str×NameKind)(r:List (Str×Addr))=>(match x with
    |(name,kind)=>if(kind==NameKind.free)=true then(do let a <-cellOf env name;pure (ForInStep.yield ((name,a)::r)))else pure (ForInStep.yield r):Sem (ForInStep (List (Str×Addr)))))=(pure (zbh env.cells l cs):Sem (List (Str×Addr))):=by
  intro l
  induction l with
  |nil=>intro cs _;rfl
  |cons x r ih=>
   intro cs h
   obtain⟨n,k⟩:=x
   rw[List.forIn_cons]
   by_cases hk:(k==NameKind.free)=true
   .have hk':k=.free:=by simpa using hk
    obtain⟨c,hc⟩:=h (n,k) vaz hk'
    have hc':env.cells.lookup n=some c:=hc
    simp only[hk,vbb,cellOf,hc',zbh]
    exact ih _ λy hy=>h y (van _ hy)
   .have hk':(k==NameKind.free)=false:=by simpa using hk
    simp only[hk',vaf,va1,zbh]
    exact ih _ λy hy=>h y (van _ hy)
 have e:=go scope.names [] hf
 unfold closureFor
 refine Eq.trans (vcx (λt=>t >>= λcs=>pure cs) e) ?_
 rfl
theorem zdi{cells:List (Str×Addr)}:∀(l:List (Str×NameKind)) (cs:List (Str×Addr)),(∀x c,cs.lookup x=some c->cells.lookup x=some c)->∀x c,(zbh cells l cs).lookup x=some c->cells.lookup x=some c
 |[],cs,h=>h
 |(n,k)::r,cs,h=>zdi r _ λx c e=>by
  by_cases hk:(k==NameKind.free)=true
  .simp only[hk,vbb]at e
   cases hc:cells.lookup n with
   |none=>rw[hc]at e;exact h x c e
   |some d=>
    rw[hc]at e
    simp only[vaq]at e
    by_cases hx:(x==n)=true
    .simp only[hx]at e
     cases e
     rw[show x=n by simpa using hx];exact hc
    .have hx':(x==n)=false:=by simpa using hx
     simp only[hx']at e
     exact h x c e
  .have hk':(k==NameKind.free)=false:=by simpa using hk
   simp only[hk',vaf,va1]at e
   exact h x c e
theorem zc1{cells:List (Str×Addr)}{x:Str}{c:Addr}(hc:cells.lookup x=some c):∀(l:List (Str×NameKind)) (cs:List (Str×Addr)),cs.lookup x=some c->(zbh cells l cs).lookup x=some c
 |[],cs,h=>h
 |(n,k)::r,cs,h=>zc1 hc r _ (by
  by_cases hk:(k==NameKind.free)=true
  .simp only[hk,vbb]
   cases hn:cells.lookup n with
   |none=>exact h
   |some d=>
    simp only[vaq]
    by_cases hx:(x==n)=true
    .have:x=n:=by simpa using hx
     subst this
     rw[hc]at hn;cases hn
     simp
    .have hx':(x==n)=false:=by simpa using hx
     simp only[hx'];exact h
  .have hk':(k==NameKind.free)=false:=by simpa using hk
   simp only[hk',vaf,va1]
   exact h)
theorem zb3{cells:List (Str×Addr)}{x:Str}{c:Addr}(hc:cells.lookup x=some c):∀(l:List (Str×NameKind)) (cs:List (Str×Addr)),(x,NameKind.free)∈l->(zbh cells l cs).lookup x=some c
 |[],cs,h=>by cases h
 |(n,k)::r,cs,h=>by
  rcases va5.mp h with e|e
  .cases e
   refine zc1 hc r _ ?_
   rw[hc]
   simp[vaq]
  .exact zb3 hc r _ e
noncomputable abbrev Cx.comp(X:Cx)(N:List Str)(scope:Scope)(C:Addr)(s₀:Shared)(H₀:Hp)(ex:List Addr):Cx:=
 {X with N:=N,s₀:=s₀,H₀:=H₀,env:=compEnvC scope (zbh X.env.cells scope.names []) C X.env,outer:=X.stack,stack:=X.stack,ex:=ex,fn:=λ_=>false,pn:=[],xe:=λ_ _=>False}
structure CompScope(X:Cx)(ow fr:List Str)(ix:List Nat)(scope:Scope):Prop where
 kind:scope.kind=.function
 nocell:∀y∈scope.names,y.2≠.cell
 names:∀y∈scope.names,y.2=.local->scope.names.lookup y.1=some .local
 own:∀x∈ow,scope.names.lookup x=some .local
 free:∀y∈scope.names,y.2=.free->X.env.kindOf y.1=some .cell\/X.env.kindOf y.1=some .free
 at_:∀(k:Nat)(x:Str),fr[k]?=some x->∃j,ix[k]?=some j/\X.N[j]?=some x/\scope.names.lookup x=some .free
 len:ix.length=fr.length
noncomputable def cσ(ow fr:List Str)(ix:List Nat)(σ:St):St:=ow.map (λ_=>none)++ix.map λj=>(σ[j]?).join
theorem zdj{x:Str}{k:NameKind}:∀{l:List (Str×NameKind)},l.lookup x=some k->(x,k)∈l
 |[],h=>by cases h
 |(n,j)::r,h=>by
  simp only[vaq]at h
  by_cases hx:(x==n)=true
  .simp only[hx]at h
   cases h
   rw[show x=n by simpa using hx];exact vaz
  .have hx':(x==n)=false:=by simpa using hx
   simp only[hx']at h
   exact van _ (zdj h)
theorem zbi{env:Env}:∀{l:List (Str×NameKind)} {x:Str} {k:NameKind},
 (l.map λ(n,k)=>if(k==NameKind.free&&env.scope.kind == .function&&env.kindOf n==some .cell)then(n,NameKind.cell)else(n,k)).lookup x=some k->k≠.local->(∀y∈l,y.2≠.cell)->k=.cell\/k=.free->(x,NameKind.free)∈l
 |[],x,k,h,_,_,_=>by cases h
 |(n,j)::r,x,k,h,hk,hc,hh=>by
  have ih:=@zbi env r x k
  rw[vaj]at h
  by_cases hc':(j==NameKind.free&&env.scope.kind == .function&&env.kindOf n==some .cell)=true
  .simp only[hc',vbb,vaq]at h
   have hj:j=.free:=by
    simp only[vaa,vbx]at hc'
    exact hc'.1.1
   by_cases hx:(x==n)=true
   .rw[show x=n by simpa using hx,hj];exact vaz
   .have hx':(x==n)=false:=by simpa using hx
    simp only[hx']at h
    exact van _ (ih h hk (λy hy=>hc y (van _ hy)) hh)
  .have hcf:(j==NameKind.free&&env.scope.kind == .function&&env.kindOf n==some .cell)=false:=by simpa using hc'
   simp only[hcf,vaf,va1,vaq]at h
   by_cases hx:(x==n)=true
   .simp only[hx]at h
    cases h
    rcases hh with z|z
    .exact absurd z (hc _ vaz)
    .rw[show x=n by simpa using hx,z];exact vaz
   .have hx':(x==n)=false:=by simpa using hx
    simp only[hx']at h
    exact van _ (ih h hk (λy hy=>hc y (van _ hy)) hh)
theorem za3{env:Env}(hkf:env.scope.kind=.function):∀{l:List (Str×NameKind)} {x:Str},l.lookup x=some .free->
 (l.map λ(n,k)=>if(k==NameKind.free&&env.scope.kind == .function&&env.kindOf n==some .cell)then(n,NameKind.cell)else(n,k)).lookup x=some (if env.kindOf x=some .cell then .cell else .free)
 |[],x,h=>by cases h
 |(n,j)::r,x,h=>by
  have ih:=@za3 env hkf r x
  rw[vaj]
  simp only[vaq]at h
  by_cases hx:(x==n)=true
  .simp only[hx]at h
   cases h
   have e:x=n:=by simpa using hx
   subst e
   by_cases hq:env.kindOf x=some .cell
   .simp[hkf,hq,vaq]
   .simp[hq,vaq]
  .have hx':(x==n)=false:=by simpa using hx
   simp only[hx']at h
   by_cases hc':(j==NameKind.free&&env.scope.kind == .function&&env.kindOf n==some .cell)=true
   .simp only[hc',vbb,vaq,hx'];exact ih h
   .have hcf:(j==NameKind.free&&env.scope.kind == .function&&env.kindOf n==some .cell)=false:=by simpa using hc'
    simp only[hcf,vaf,va1,vaq,hx'];exact ih h
section
variable{X:Cx}{pins:List (Addr×Obj)}{σ:St}{H:Hp}{s:Shared}{ow fr:List Str}{ix:List Nat}{scope:Scope}{fp:List Addr}
theorem zkv(S:CompScope X ow fr ix scope)(I:Inv X pins σ H s)(hfp:∀b∈fp,FpOk X pins H b)(hlt:∀b∈fp,b<s.heap.objs.size){h':Heap}{tk:Nat}{m:Str->Option Value}(hn:h'.Ns s.heap.objs.size m)(hk:∀b o,s.heap.get? b=some o->h'.get? b=some o) :
 Inv (X.comp (ow++fr) scope s.heap.objs.size s H fp) [] (cσ ow fr ix σ) H {s with heap:=h',toks:=tk}:=by
 have sub:=zdi (cells:=X.env.cells) scope.names [] (λx c e=>by cases e)
 have kf:=I.ok.kind
 have ncell:∀x c,X.env.cells.lookup x=some c->c≠s.heap.objs.size:=λx c e z=>by
  obtain⟨v,q⟩:=I.cell x c e
  exact absurd q.lt (by rw[z];exact vby _)
 have hasC:∀x,(x,NameKind.free)∈scope.names->∃c,(zbh X.env.cells scope.names []).lookup x=some c/\X.env.cells.lookup x=some c:=λx hx=>by
  obtain⟨c,hc⟩:=I.ok.has x (S.free _ hx rfl)
  exact⟨c,zb3 hc _ _ hx,hc⟩
 refine⟨⟨I.ok.mod,?_,I.ok.glob,I.ok.blt,vad _,λx y c a b=>I.ok.inj x y c (sub x c a) (sub y c b),λx hx=>?_,λx c e=>?_,I.ok.hd,I.ok.frames,.inl rfl,λb hb=>?_,λb o e=>?_,?_,λb o e hb=>?_,λb hb hz=>?_,I.stack,λb hb=>I.stkFree b hb⟩,
  rfl,I.bare,Un.kept hk,⟨m,hn,λi x v e1 e2 e3=>?_⟩,λx c e=>?_,I.hok.fresh (vad _),λx c e=>I.freeC x c (sub x c e),λp hp=>?_,I.hok.kept hk,?_⟩
 .exact S.kind
 .have hx':(relabel scope X.env).names.lookup x=some .cell\/(relabel scope X.env).names.lookup x=some .free:=hx
  have hm:(x,NameKind.free)∈scope.names:=by
   rcases hx' with z|z
   .exact zbi (env:=X.env) z (by decide) S.nocell (.inl rfl)
   .exact zbi (env:=X.env) z (by decide) S.nocell (.inr rfl)
  obtain⟨c,hc,_⟩:=hasC x hm
  exact⟨c,hc⟩
 .cases e
 .obtain⟨f0,f1,f2,f3,f4,f5⟩:=hfp b hb
  refine⟨λz=>?_,λx c e=>f4 x c (sub x c e)⟩
  have q:=hlt b hb
  rw[z]at q
  exact absurd q (vby _)
 .exact⟨(I.bs b o e).1,(I.bs b o e).2⟩
 .exact va3 I.ok.bsz I.sz
 .obtain⟨f0,f1,f2,f3,f4,f5⟩:=hfp b hb
  rcases f3 with z|z
  .exact I.ok.noex b o e z
  .exact absurd (vae (vai (I.ok.bs b o e).1) z) (vby _)
 .obtain⟨f0,f1,f2,f3,f4,f5⟩:=hfp b hb
  rcases va5.mp (I.stkSub b hz)with z|z
  .exact f1 z
  .exact f2 z
 .have hlen:ow.length<=i:=by
   by_cases hi:i<ow.length
   .unfold cσ at e2
    rw[vbj (by simpa using hi),vbn]at e2
    cases q:ow[i]? with
    |none=>rw[q]at e2;cases e2
    |some y=>rw[q]at e2;cases e2
   .omega
  have e1':fr[i-ow.length]?=some x:=by
   have e1:(ow++fr)[i]?=some x:=e1
   rw[vbc hlen]at e1
   exact e1
  have e2':(ix.map λj=>(σ[j]?).join)[i-ow.length]?=some (some v):=by
   unfold cσ at e2
   rw[vbc (by simpa using hlen)]at e2
   simpa using e2
  obtain⟨j,hj,hN,hl⟩:=S.at_ _ _ e1'
  rw[vbn,hj]at e2'
  have e2'':(σ[j]?).join=some v:=va6 e2'
  have hσ:σ[j]?=some (some v):=by
   cases q:σ[j]? with
   |none=>rw[q]at e2'';cases e2''
   |some o=>rw[q]at e2'';cases o with
    |none=>cases e2''
    |some w=>cases e2'';rfl
  obtain⟨m0,hm0,hl0⟩:=I.loc
  have hmem:=zdj hl
  have hkf:=S.free _ hmem rfl
  have hvis:Vis X.env.scope x:=hkf.elim (λz=>.inr (.inl z)) λz=>.inr (.inr z)
  obtain⟨u,ru,lk⟩:=hl0 j x v hN hσ hvis
  refine⟨u,ru,.inr ?_⟩
  have hcell:∃c,X.env.cells.lookup x=some c/\s.heap.IsCell c (some u):=by
   rcases lk with⟨z,_⟩|⟨_,c,e,z⟩
   .rcases hkf with q|q
    .rw[show X.env.kindOf x=some .local from z]at q;cases q
    .rw[show X.env.kindOf x=some .local from z]at q;cases q
   .exact⟨c,e,z⟩
  obtain⟨c,hc,o,ho,hd⟩:=hcell
  refine⟨?_,c,zb3 hc _ _ hmem,o,hk _ _ ho,hd⟩
  show(relabel scope X.env).names.lookup x=some .cell\/(relabel scope X.env).names.lookup x=some .free
  have q:=za3 (env:=X.env) kf hl
  by_cases z:X.env.kindOf x=some .cell
  .rw[if_pos z]at q;exact .inl q
  .rw[if_neg z]at q;exact .inr q
 .obtain⟨v,q⟩:=I.cell x c (sub x c e)
  obtain⟨o,ho,hd⟩:=q
  exact⟨v,o,hk _ _ ho,hd⟩
 .cases(show p∈([]:List (Addr×Obj))from hp)
 .show(cσ ow fr ix σ).length=(ow++fr).length
  unfold cσ
  rw[vat,vap,vap,vat,S.len]
end
theorem ziy{α:Type}{M:Model}{A:Around}{t:Sem α}{Q:α->Shared->Prop}{E:Value->Shared->Prop}{s:Shared}(h:wpAny M A t Q (λ_ _=>False) s):wpAny M A t Q E s:=vbm h (λ_ _ q=>q) λ_ _ z=>z.elim
noncomputable abbrev noX:Value->Shared->Prop:=λ_ _=>False
noncomputable abbrev ziz(ifs:List Expr)(env:Env):Sem Bool:=forIn ifs true λc r=>if r=true then do let ok <-isTrue c env (eval c env);pure (ForInStep.yield ok)else pure (ForInStep.yield r)
theorem zbr{prog:Program}{w:World}{A:Around}{R:Result->Shared->Prop}{s:Shared}{elt target iter:Expr}{ifs:List Expr}{scope:Scope}{pos:Pos}{it acc:Value}{env:Env}(I:Nat->Shared->Prop)
 (turn:∀n s,I n s->wpAny (model prog w) A (pyNext it) (λr s₁=>match r with
   |none=>R (.ok .next) s₁
   |some v=>wpAny (model prog w) A (letOwnedTupleGo target it v) (λ_ s₀=>wpAny (model prog w) A (assign target env v) (λ_ s₂=>
    wpAny (model prog w) A (ziz ifs env) (λok s₃=>
     if ok=true then wpAny (model prog w) A (eval elt env) (λx s₄=>
      wpAny (model prog w) A (call (.builtin "list.append") [acc,x]) (λ_ s₅=>∃m,m<n/\I m s₅) noX s₄) noX s₃
     else ∃m,m<n/\I m s₃) noX s₂) noX s₀) noX s₁) noX s)
 (n:Nat) (h:I n s) :
 codeAny (model prog w) A (.compLoop (.ListComp elt [⟨target,iter,ifs,0⟩] scope pos) 0 it acc env) R s:=by
 refine codeAny_loop rfl I (λn s hI=>?_) n h
 show wpAny _ A ((compTurn (.ListComp elt [⟨target,iter,ifs,0⟩] scope pos) 0 it acc env).onRaise (λx=>do noteFrame x env;theTreesLotGoes x)) _ _ s
 refine wpAny_noted (ziy ?_)
 rw[compTurn_list]
 refine vab (vbz (vab (vbm (turn n s hI) (λr s₁ h₁=>?_) λ_ _ h'=>h')))
 cases r with
 |none=>exact vag h₁
 |some v=>
  refine vab (vbm h₁ (λ_ s₀ h₀=>?_) λ_ _ h'=>h')
  refine vab (vbm h₀ (λ_ s₂ h₂=>vab (vbm h₂ (λok s₃ h₃=>?_) λ_ _ h'=>h')) λ_ _ h'=>h')
  cases ok with
  |true=>
   simp only[vbb]at h₃ ⊢
   exact vab (vab (vbm h₃ (λx s₄ h₄=>vab (vbm h₄ (λ_ s₅ h₅=>vag (vag ⟨rfl,h₅⟩)) λ_ _ h'=>h')) λ_ _ h'=>h'))
  |false=>
   simp only[vaf,va1]at h₃ ⊢
   exact vag ⟨rfl,h₃⟩
noncomputable def PTs(X:Cx)(ifs:List Expr)(t:TT):Prop:=
 ∀(pins:List (Addr×Obj))(s:Shared)(σ:St)(H:Hp)(Q:Bool->Hp->Prop),Inv X pins σ H s->t σ H Q->wpAny (model X.prog X.w) X.A (ziz ifs X.env) (TP X pins σ Q) X.xe s
noncomputable def tYes:TT:=λ_ H Q=>Q true H
theorem znh{X:Cx}:PTs X [] tYes:=λpins s σ H Q I h=>wpAny_tests_nil ⟨H,I,h⟩
theorem zni{X:Cx}{c:Expr}{t:TT}(h:PT X c t):PTs X [c] t:=λpins s σ H Q I q=>wpAny_tests_one (h pins s σ H Q I q)
noncomputable def tLC(K:PySem.W.Frag)(f:St->St)(wi:TI)(g:TG)(tc:TT)(te:TE):TE:=λσ H Q=>wi σ H λJ H1=>∀D,H1 D=none->K.lookup D=none->
 ∃W:Nat->Nat->St->Hp->List V->Prop,(∃m,W 0 m (f σ) (upd H1 D (.lst [])) [])/\∀i m σ' H' ys,W i m σ' H' ys->H' D=some (.lst ys)/\
  ((J.stop i H'/\Q (.ref D) H')\/(J.go i H'/\∀x H2,J.yld i H' x H2->g x σ' H2 λσ2 H3=>tc σ2 H3 λb H4=>
    if b=true then te σ2 H4 λy H5=>H5 D=some (.lst ys)/\ys.length<sizeLine/\∃m',m'<m/\W (i+1) m' σ2 (upd H5 D (.lst (ys++[y]))) (ys++[y])
    else ∃m',m'<m/\W (i+1) m' σ2 H4 ys))
section
variable{X:Cx}{ow fr:List Str}{ix:List Nat}{scope:Scope}{tg iter elt:Expr}{ifs:List Expr}{pos:Pos}{wi:TI}{g:TG}{tc:TT}{te:TE}
theorem zdk{pins:List (Addr×Obj)}{s:Shared}{σ:St}{Q:VK}{RR:Value->Addr->Result->Shared->Prop}(S:CompScope X ow fr ix scope)(hc:X.calm=true)
 (hg:∀C s₀ H₀ ex,PG (X.comp (ow++fr) scope C s₀ H₀ ex) tg g) (ht:∀C s₀ H₀ ex,PTs (X.comp (ow++fr) scope C s₀ H₀ ex) ifs tc) (he:∀C s₀ H₀ ex,PE (X.comp (ow++fr) scope C s₀ H₀ ex) elt te)
 {itv:Value} {E:Value->Shared->Prop}
 (h:PIE X pins σ tg (λJ H1=>∀D,H1 D=none->X.K.lookup D=none->
   ∃W:Nat->Nat->St->Hp->List V->Prop,(∃m,W 0 m (cσ ow fr ix σ) (upd H1 D (.lst [])) [])/\∀i m σ' H' ys,W i m σ' H' ys->H' D=some (.lst ys)/\
    ((J.stop i H'/\Q (.ref D) H')\/(J.go i H'/\∀x H2,J.yld i H' x H2->g x σ' H2 λσ2 H3=>tc σ2 H3 λb H4=>
      if b=true then te σ2 H4 λy H5=>H5 D=some (.lst ys)/\ys.length<sizeLine/\∃m',m'<m/\W (i+1) m' σ2 (upd H5 D (.lst (ys++[y]))) (ys++[y])
      else ∃m',m'<m/\W (i+1) m' σ2 H4 ys))) itv s)
 (fin:∀D C H' s' m,FpOk X pins H' C->s'.heap.Ns C m->(∀h'',Heap.SameBut C s'.heap h''->Inv X pins σ H' {s' with heap:=h''})->Q (.ref D) H'->RR (.ref D) C (.ok .next) s') :
 wpAny (model X.prog X.w) X.A (newList []) (λacc s₃=>wpAny (model X.prog X.w) X.A (newFunctionEnv scope X.env.globals (zbh X.env.cells scope.names []) [] X.env.qual none .none (some X.env)) (λcenv s₄=>
  codeAny (model X.prog X.w) X.A (.compStart (.ListComp elt [⟨tg,iter,ifs,0⟩] scope pos) 0 itv acc {cenv with scope:=relabel scope X.env}) (RR acc cenv.locals) s₄) E s₃) E s:=by
 obtain⟨it,fp,tn,J,H1,e,I1,T,st1,f1,hq⟩:=h
 subst e
 have hD:H1 s.heap.objs.size=none:=I1.hok.fresh (vad _)
 have hKD:X.K.lookup s.heap.objs.size=none:=by
  cases e:X.K.lookup s.heap.objs.size with
  |none=>rfl
  |some o=>exact absurd (vai (I1.kIn _ _ e)) (vby _)
 obtain⟨W,⟨m0,w0⟩,turn⟩:=hq _ hD hKD
 have I3:Inv X pins σ (upd H1 s.heap.objs.size (.lst [])) {s with heap:=s.heap.push {cls:=.type "list",dict:=none,data:=.seq ([]:List Value).toArray}}:=
  I1.laid (t':=s.toks) (o:=.lst []) (λb u q=>vac _ q) (vad _) ⟨vct _,[],0,.nil,vav _ rfl⟩
 have hlt1:∀b∈fp,b<s.heap.objs.size:=λb hb=>by
  obtain⟨o,ho,_⟩:=T.obj _ _ st1 b hb
  exact vai ho
 have f3:∀b∈fp,FpOk X pins (upd H1 s.heap.objs.size (.lst [])) b:=λb hb=>⟨by rw[zac (vas (hlt1 b hb))];exact(f1 b hb).1,(f1 b hb).2⟩
 refine vbu (wpAny_newFunctionEnv S.nocell (by intro y hy;simp at hy) (λh₁ hns hsb=>?_) S.kind)
 dsimp only at hns hsb ⊢
 generalize hS3:({s with heap:=s.heap.push {cls:=.type "list",dict:=none,data:=.seq ([]:List Value).toArray}}:Shared)=s3 at I3
 have hh3:s3.heap=s.heap.push {cls:=.type "list",dict:=none,data:=.seq ([]:List Value).toArray}:=by rw[<-hS3]
 rw[<-hh3]at hns hsb ⊢
 have hk:∀b o,s3.heap.get? b=some o->h₁.get? b=some o:=λb o e=>hsb.extBut b o (vas (vai e)) (vac _ e)
 have hlt3:∀b∈fp,b<s3.heap.objs.size:=λb hb=>by rw[hh3,vce];exact Nat.lt_succ_of_lt (hlt1 b hb)
 have J3:=zkv S I3 f3 hlt3 (tk:=s.toks) hns hk
 have st3:tn 0 h₁:=T.keep _ _ _ st1 λb hb o e=>hk b o (by rw[hh3];exact vac _ e)
 have ex3:∀b∈fp,(X.comp (ow++fr) scope s3.heap.objs.size s3 (upd H1 s.heap.objs.size (.lst [])) fp).Ok->∀{H':Hp},H' b=none->FpOk (X.comp (ow++fr) scope s3.heap.objs.size s3 (upd H1 s.heap.objs.size (.lst [])) fp) [] H' b:=λb hb ok H' hn=>
  ⟨hn,(ok.exf b hb).1,ok.exfs b hb,.inl hb,(ok.exf b hb).2,λp hp=>by cases(show p∈([]:List (Addr×Obj))from hp)⟩
 have back:∀{σ':St}{H':Hp}{s':Shared},Inv (X.comp (ow++fr) scope s3.heap.objs.size s3 (upd H1 s.heap.objs.size (.lst [])) fp) [] σ' H' s'->∀h'',Heap.SameBut s3.heap.objs.size s'.heap h''->Inv X pins σ H' {s' with heap:=h''}:=λ{σ' H' s'} I' h'' hs=>by
  have neC:∀b o,s3.heap.get? b=some o->b≠s3.heap.objs.size:=λb o e=>vas (vai e)
  have un:Un (frs X.stack) fp (upd H1 s.heap.objs.size (.lst [])) H' s3.heap h'':=
   ⟨λb o e n hb hx=>(hs.2 b (neC b o e)).trans (I'.base.keep b o e n hb hx),λb o e n hb hx=>by
    obtain⟨sl,q⟩:=I'.base.slot b o e n hb hx
    exact⟨sl,(hs.2 b (neC b o e)).trans q⟩,I'.base.free,λb o e hx=>by
    obtain⟨o',q⟩:=I'.base.there b o e hx
    exact⟨o',(hs.2 b (neC b o e)).trans q⟩,I'.base.tups,I'.base.frzs,I'.base.tbls⟩
  have hok:HOk X.prog X.w H' h'':=λb ob e=>by
   refine(I'.hok b ob e).stay (λc w' hcc q=>(hs.2 c ?_).trans q) (λ_ q=>q) λ_ _ q=>q
   rintro rfl
   have hfree:=I'.free
   rcases hcc with rfl|hcc
   .rw[show H' s3.heap.objs.size=none from hfree]at e;cases e
   .rw[show H' s3.heap.objs.size=none from hfree]at hcc;cases hcc
  have hos:s'.os=s3.os:=I'.os
  exact I3.call' (s':={s' with heap:=h''}) (ch:=fp) hos un hok I'.bare λb hb=>by
   obtain⟨_,a1,a2,a3,a4,a5⟩:=f1 b hb
   exact⟨a3,a1,a4,a5⟩
 have loop:∀s4:Shared,Inv (X.comp (ow++fr) scope s3.heap.objs.size s3 (upd H1 s.heap.objs.size (.lst [])) fp) [] (cσ ow fr ix σ) (upd H1 s.heap.objs.size (.lst [])) s4->tn 0 s4.heap->
  codeAny (model X.prog X.w) X.A (.compLoop (.ListComp elt [⟨tg,iter,ifs,0⟩] scope pos) 0 (.ref it) (.ref s.heap.objs.size) (X.comp (ow++fr) scope s3.heap.objs.size s3 (upd H1 s.heap.objs.size (.lst [])) fp).env)
   (RR (.ref s.heap.objs.size) s3.heap.objs.size) s4:=by
  intro s4 I4 st4
  refine zbr (λn s'=>∃i σ' H' ys,Inv (X.comp (ow++fr) scope s3.heap.objs.size s3 (upd H1 s.heap.objs.size (.lst [])) fp) [] σ' H' s'/\tn i s'.heap/\(∀b∈fp,H' b=none)/\W i n σ' H' ys) ?_ m0 ⟨0,_,_,[],I4,st4,λb hb=>(f3 b hb).1,w0⟩
  rintro n s5 ⟨i,σ5,H5,ys,I5,st5,fr5,w5⟩
  obtain⟨hDl,alt⟩:=turn i n σ5 H5 ys w5
  rcases alt with⟨stop,q⟩|⟨go,step⟩
  .refine thn (T.done (X.comp (ow++fr) scope s3.heap.objs.size s3 (upd H1 s.heap.objs.size (.lst [])) fp) rfl rfl rfl hc i [] s5 σ5 H5 noX I5 (λb hb=>ex3 b hb I5.ok (fr5 b hb)) st5 stop) λr s6 hq0=>?_
   obtain⟨hr,I6⟩:=hq0
   subst hr
   obtain⟨m6,hn6,_⟩:=I6.loc
   exact fin _ _ H5 s6 m6 (I3.fpOk (vad _) I6.free) hn6 (back I6) q
  .refine thn (T.item (X.comp (ow++fr) scope s3.heap.objs.size s3 (upd H1 s.heap.objs.size (.lst [])) fp) rfl rfl rfl hc i [] s5 σ5 H5 noX I5 (λb hb=>ex3 b hb I5.ok (fr5 b hb)) st5 go) λr s6 hq0=>?_
   obtain⟨u,hr,h6⟩:=hq0
   subst hr
   refine thn h6 λ_ s7 hq0=>?_
   obtain⟨x,H7,I7,r7,y7,st7,fr7⟩:=hq0
   have I7':=I7.pinned (λb hb=>ex3 b hb I7.ok (fr7 b hb)) (T.obj _ _ st7)
   have again:∀{σ8:St}{H8:Hp}{s8:Shared}{zs:List V}{m':Nat},Inv (X.comp (ow++fr) scope s3.heap.objs.size s3 (upd H1 s.heap.objs.size (.lst [])) fp) ([]++ze0 fp s7.heap) σ8 H8 s8->m'<n->W (i+1) m' σ8 H8 zs->
    ∃m,m<n/\∃i σ' H' ys,Inv (X.comp (ow++fr) scope s3.heap.objs.size s3 (upd H1 s.heap.objs.size (.lst [])) fp) [] σ' H' s8/\tn i s8.heap/\(∀b∈fp,H' b=none)/\W i m σ' H' ys:=λ{σ8 H8 s8 zs m'} I8 hm w8=>by
    refine⟨m',hm,i+1,σ8,H8,zs,I8.unpinned,T.keep _ _ _ st7 λb hb o e=>(I8.pin (b,o) (vay _ (vay _ (zbn hb e)))).1,λb hb=>?_,w8⟩
    obtain⟨o,e,d⟩:=T.obj _ _ st7 b hb
    exact(I8.pin (b,o) (vay _ (vay _ (zbn hb e)))).2.1
   refine thn (hg _ _ _ _ _ s7 σ5 H7 x u _ I7' r7 (step x H7 y7)) λ_ s8 hq0=>?_
   obtain⟨σ8,H8,I8,q8⟩:=hq0
   refine thn (ht _ _ _ _ _ s8 σ8 H8 _ I8 q8) λok s9 z9=>z9.el λH9 I9 q9=>?_
   cases ok with
   |false=>
    simp only[vaf,va1]at q9 ⊢
    obtain⟨m',hm,w9⟩:=q9
    exact again I9 hm w9
   |true=>
    simp only[vbb]at q9 ⊢
    refine thn (he _ _ _ _ _ s9 σ8 H9 _ I9 q9) λy s10 hq0=>?_
    obtain⟨vy,H10,I10,ry,hD10,hz,m',hm,w10⟩:=hq0
    refine thn (zfa _ s10 σ8 H10 (.ref s.heap.objs.size) [vy] (.ref s.heap.objs.size) [y] (λv H'=>H'=upd H10 s.heap.objs.size (.lst (ys++[vy]))) I10 rfl (.cons ry .nil) ⟨_,ys,vy,rfl,rfl,hD10,hz,rfl⟩) λ_ s11 hq0=>?_
    obtain⟨v11,H11,I11,_,e11⟩:=hq0
    subst e11
    exact again I11 hm w10
 have J3':Inv (X.comp (ow++fr) scope s3.heap.objs.size s3 (upd H1 s.heap.objs.size (.lst [])) fp) [] (cσ ow fr ix σ) (upd H1 s.heap.objs.size (.lst [])) {s with heap:=h₁,toks:=s.toks}:=by
  rw[<-hS3]at J3 ⊢
  exact J3
 exact codeAny_compStart_list (loop _ J3' st3) (T.self _ 0 _ _ _ st3 (loop _ J3' st3))
theorem pe_lc(S:CompScope X ow fr ix scope)(hc:X.calm=true)(hi:PI X tg iter wi)
 (hg:∀C s₀ H₀ ex,PG (X.comp (ow++fr) scope C s₀ H₀ ex) tg g) (ht:∀C s₀ H₀ ex,PTs (X.comp (ow++fr) scope C s₀ H₀ ex) ifs tc) (he:∀C s₀ H₀ ex,PE (X.comp (ow++fr) scope C s₀ H₀ ex) elt te)
 (hs:∀x,foldedSetIterable iter X.env x=pure x:=by intro _;rfl):PE X (.ListComp elt [⟨tg,iter,ifs,0⟩] scope pos) (tLC X.K (cσ ow fr ix) wi g tc te):=by
 intro pins s σ H Q I h
 rw[eval_ListComp]
 refine wpAny_comprehension_free (use:=none) rfl hs (zby λy hy e=>I.ok.has _ (S.free y hy e)) S.kind S.names (thn (hi pins s σ H _ I h) λv s1 h1=>thn h1 λitv s2 h2=>?_)
 exact zdk (RR:=λacc C=>compPost (model X.prog X.w) X.A X.xe none (EP X pins σ Q) acc C) S hc hg ht he h2 λD C H' s' m _ hn hI q=>⟨m,hn,λh'' hs''=>⟨.ref D,H',hI h'' hs'',rfl,q⟩⟩
theorem zkw{i:Nat}{y:Str}{py spos:Pos}(hN:X.N.Nodup)(hiy:X.N[i]?=some y)(hy:Loc X.env.scope y)(S:CompScope X ow fr ix scope)(hc:X.calm=true)(hi:PI X tg iter wi)
 (hg:∀C s₀ H₀ ex,PG (X.comp (ow++fr) scope C s₀ H₀ ex) tg g) (ht:∀C s₀ H₀ ex,PTs (X.comp (ow++fr) scope C s₀ H₀ ex) ifs tc) (he:∀C s₀ H₀ ex,PE (X.comp (ow++fr) scope C s₀ H₀ ex) elt te)
 (hsw:swapsWith (.ListComp elt [⟨tg,iter,ifs,0⟩] scope pos) (some (.Name y py)) spos.line X.env=pure true:=by rfl)
 (hf:X.fn y=true\/X.env.scope.names.lookup y=some .local:=by first|exact .inl rfl|exact .inr rfl|assumption)
 (hs:∀x,foldedSetIterable iter X.env x=pure x:=by intro _;rfl):PS X (.Assign [.Name y py] (.ListComp elt [⟨tg,iter,ifs,0⟩] scope pos) spos) (tAsg (tLC X.K (cσ ow fr ix) wi g tc te) (gName i)):=by
 intro pins s σ H D I h
 rw[exec_Assign_Name_used _ _ _ _ hsw]
 refine vab (vbz (vab ?_))
 show wpAny _ X.A (do let _ <-comprehension (.ListComp elt [⟨tg,iter,ifs,0⟩] scope pos) scope X.env _ (newList []) false (eval iter X.env) (some (assign (.Name y py) X.env))) _ _ s
 refine vab (vbm (wpAny_comprehension_free (use:=some (assign (.Name y py) X.env)) (Q:=λ_ s'=>SP X pins D .next s') rfl hs (zby λy hy e=>I.ok.has _ (S.free y hy e)) S.kind S.names
  (thn (hi pins s σ H _ I h) λv s1 h1=>thn h1 λitv s2 h2=>?_)) (λ_ s' hq=>vag (vag hq)) λ_ _ e=>e)
 refine zdk (Q:=λx H1=>gName i x σ H1 D.nx) (RR:=λacc C=>compPost (model X.prog X.w) X.A X.xe (some (assign (.Name y py) X.env)) (λ_ s'=>SP X pins D .next s') acc C) S hc hg ht he h2 λd C H' s' m hC hn hI q=>?_
 show wpAny _ X.A (assign (.Name y py) X.env (.ref d)) _ _ _
 have I':Inv X pins σ H' s':=by
  have z:=hI s'.heap (.refl ..)
  exact z
 refine wpAny_assign_Name (zey I' hN hiy hy (v:=.ref d) rfl (λs'' I'' ⟨a,hsb,ha⟩=>?_) hf)
 obtain⟨c0,c1,c2,c3,c4,c5⟩:=hC
 have hCa:C≠a:=by
  rcases ha with rfl|ha
  .exact c1
  .exact λz=>c4 _ _ ha z.symm
 refine⟨m,hn.sameBut hsb hCa,λh'' hs''=>⟨_,H',I''.turned (t':=s''.toks) (it:=C) (λb o hb e=>(hs''.2 b hb).trans e) c0 c1 c3 c4 c5,q⟩⟩
end
end L2
set_option maxHeartbeats 4000000
namespace XL
open PySem PySem.W PySem.Spec PyProof.Rows
noncomputable def zcb:List Value->Bool
 |[.type a,.type b,.type c,.type d]=>a == "ValueError" && b == "Exception" && c == "BaseException" && d == "object"
 |.ref _::r=>zcb r
 |_=>false
theorem zc2{l:List Value}{n:String}(h:zcb (.type n::l)=true):Value.type n::l=[.type "ValueError",.type "Exception",.type "BaseException",.type "object"]:=by
 unfold zcb at h
 split at h
 .rename_i a b c d e
  cases e
  simp only[vaa,vbx]at h
  obtain⟨⟨⟨rfl,rfl⟩,rfl⟩,rfl⟩:=h
  rfl
 .rename_i e;cases e
 .cases h
theorem zi0(self:Value):∀{l:List Value},zcb l=true->refuseLoop self "__setattr__" l=pure ()
 |.ref c::r,e=>by rw[refuseLoop_ref];exact zi0 self (by unfold zcb at e;exact e)
 |.type n::r,e=>by rw[zc2 e];exact PySem.F.store_ValueError.passes self
theorem zi1{T:String}(hT:([.type "ValueError",.type "Exception",.type "BaseException",.type "object"]:List Value).contains (.type T)=true):∀{l:List Value},zcb l=true->l.contains (.type T)=true
 |.ref c::r,e=>by rw[List.contains_cons,zi1 hT (l:=r) (by unfold zcb at e;exact e),Bool.or_true]
 |.type n::r,e=>by rw[zc2 e];exact hT
structure ExcK(K:Frag)(C:Addr):Prop where
 ov:(clsIn K C).any (λcd=>zcb cd.mro)=true
 ga:findIn K (.ref C) "__getattribute__" = some (some (.builtin "BaseException.__getattribute__"))
 gt:findIn K (.ref C) "__getattr__" = some none
 sa:findIn K (.ref C) "__setattr__" = some (some (.builtin "object.__setattr__"))
 hd:hasDictIn K C=true
section
variable{prog:Program}{w:World}{A:Around}{E:Value->Shared->Prop}{s:Shared}{K:Frag}{x C:Addr}{ox:Obj}{od:Option Obj}{name:Str}{expr:Bool}
theorem znj(k:ExcK K C)(X:K.In s.heap)(I:InstAt s.heap x ox C od){T:String}(hT:([.type "ValueError",.type "Exception",.type "BaseException",.type "object"]:List Value).contains (.type T)=true) :
 Looks (model prog w) s.heap (isInstance (.ref x) (.type T)) true:=by
 obtain⟨cd,hc,ho⟩:=any_some k.ov
 have ne:cd.mro.isEmpty=false:=by cases q:cd.mro with|nil=>rw[q]at ho;cases ho|cons _ _=>rfl
 exact I.type.andThen (looks_mroIn X (by unfold mroIn;rw[hc,vcq,if_neg (by rw[ne];decide),zi1 hT ho]))
end
end XL
namespace XL
open PySem PySem.W PySem.Spec PyProof.Rows
noncomputable abbrev bmV:List Value:=[.type "ValueError",.type "Exception",.type "BaseException",.type "object"]
noncomputable abbrev excObj(C:Addr)(dx:Option Addr)(t:Addr):Obj:={cls:=.ref C,dict:=dx,data:=.fields #[.ref t,.none,.none,.none,.bool false,.none]}
noncomputable def excCls(K:Frag)(C:Addr):Bool:=match K.lookup C with
 |some ⟨.type "type",_,.cls cd,sl⟩=>(match cd.mro,sl.toList with
  |.ref C'::bm,[_,_,_,_,some (.builtin n),_]=>C'==C&&n == "ValueError.__new__" && !cd.hasDel&&tailIn K bmV bm
  |_,_=>false)
 |_=>false
theorem excCls_of{K:Frag}{C:Addr}{h:Heap}(X:K.In h)(q:excCls K C=true) :
 ∃nm qn N bs bm hd sn sub ab col dd k0 k1 k2 k3 k5,h.get? C=some (excClassObj nm qn C N bs bm hd sn sub ab col dd k0 k1 k2 k3 k5 "ValueError.__new__")/\OwnTail h bmV bm:=by
 unfold excCls at q
 split at q
 .rename_i dd cd sl ho
  split at q
  .rename_i C' bm k0 k1 k2 k3 n k5 hm hs
   simp only[vaa,vbx,Bool.not_eq_true']at q
   obtain⟨⟨⟨rfl,rfl⟩,hdel⟩,ht⟩:=q
   obtain⟨nm,bs,mro,ns,qn,hd,sn,sub,ab,col,del⟩:=cd
   dsimp only at hm hdel
   subst hm hdel
   have hsl:sl = #[k0,k1,k2,k3,some (.builtin "ValueError.__new__"),k5]:=by
    obtain⟨l⟩:=sl
    simp only at hs
    rw[hs]
   subst hsl
   exact⟨nm,qn,ns,bs,bm,hd,sn,sub,ab,col,dd,k0,k1,k2,k3,k5,X _ _ ho,tail_of_in X ht⟩
  .cases q
 .cases q
section
variable{prog:Program}{w:World}{A:Around}{s:Shared}{K:Frag}{C f:Addr}{rest:List Value}{R:Result->Shared->Prop}
theorem zp0(X:K.In s.heap)(hc:excCls K C=true)(hi:findIn K (.ref C) "__init__" = some (some (.ref f)))(hf:typeIn K (.ref f)=some (.type "function"))(hz:rest.length<=sizeLine)
 (hq:codeAny (model prog w) (A.under (.builtin "type.__call__" ⟨.ref C::rest,[]⟩)) (.call (.ref f) ⟨.ref (s.heap.objs.size+1)::rest,[]⟩) (InitBack (s.heap.objs.size+1) R)
   {s with heap:=(s.heap.push {cls:=.type "tuple",data:=.seq rest.toArray}).push (excObj C none s.heap.objs.size)}) :
 codeAny (model prog w) A (.call (.ref C) ⟨rest,[]⟩) R s:=by
 obtain⟨h,g,d,t,os⟩:=s
 obtain⟨nm,qn,N,bs,bm,hdd,sn,sub,ab,col,dd,k0,k1,k2,k3,k5,hC,T⟩:=excCls_of X hc
 have F:=PySem.F.excBase_ValueError
 have f1:=tc_lookup
 have f2:=tc_bind (.ref C)
 have hT:(⟨h,g,d,t,os⟩:Shared).TypeIs (.ref C) "type":=⟨_,hC,rfl⟩
 refine codeAny_of_tree ?_
 show wpAny _ _ (callAny (.ref C) _) _ _ _
 repeat(any_goals (first|assumption|with_reducible refine vbv hC ?_|wp_step))
 refine⟨rfl,?_⟩
 refine codeAny_call_builtin_at (vcz _ (by decide +kernel)) entry_typeCall (wpAny_check_type_call_sub hC ?_)
 repeat(first|with_reducible refine vbv hC ?_|with_reducible refine wpAny_madeBy_exc hC ?_|wp_step)
 refine codeAny_call_builtin_code (vcz _ F.quiet) (wpAny_check_new_subT F T hC ?_)
 refine codeAny_exc_new_subT F T hC ?_ hz
 have kk:∀b o,h.get? b=some o->((h.push {cls:=.type "tuple",data:=.seq rest.toArray}).push (excObj C none h.objs.size)).get? b=some o:=λb o e=>vac _ (vac _ e)
 have i1:=(looks_findIn (M:=model prog w) X hi).keeps kk
 have b1:=(bind_fn (M:=model prog w) X (.ref (h.objs.size+1)) hf).keeps kk
 have hC1:=kk _ _ hC
 have hget:((h.push {cls:=.type "tuple",data:=.seq rest.toArray}).push (excObj C none h.objs.size)).get? (h.objs.size+1)=some (excObj C none h.objs.size):=by heap_get
 have hcC:(Value.ref C::bm).contains (.ref C)=true:=by simp
 show wpAny _ _ _ _ _ _
 unfold isInstance
 repeat(first|with_reducible refine vbv hget ?_|(with_reducible refine vb2 hC1 ?_;rw[hcC])|wp_step)
 have t1:Looks (model prog w) ((h.push {cls:=.type "tuple",data:=.seq rest.toArray}).push (excObj C none h.objs.size)) (typeOf (.ref (h.objs.size+1))) (.ref C):=(Looks.ld hget).andThen .now
 refine vb2 (h:=(h.push {cls:=.type "tuple",data:=.seq rest.toArray}).push (excObj C none h.objs.size)) hC1 ?_
 rw[hcC]
 simp only[vbf,vaf,va1]
 refine vab (vbd ?_)
 unfold callSpecial? specialOf
 refine vab (vab (t1.at (i1.at (vbd ?_))))
 refine vab (b1.at (vab (vcv (vcw hq λr s' z=>?_))))
 rcases r with e|(v|_|_|_)<;>first|exact z|exact z.elim|skip
 obtain⟨e,z⟩:=z
 subst e
 exact vag (vag z)
theorem make_exc0{Q:Value->Shared->Prop}{E:Value->Shared->Prop}(X:K.In s.heap)(hc:excCls K C=true)(hi:findIn K (.ref C) "__init__" = some (some (.builtin "ValueError.__init__")))(hz:rest.length<=sizeLine)
 (hq:∀h' t,(∀b o,s.heap.get? b=some o->h'.get? b=some o)->h'.get? (s.heap.objs.size+1)=some (excObj C none t)->Q (.ref (s.heap.objs.size+1)) {s with heap:=h'}) :
 wpAny (model prog w) A (call (.ref C) rest) Q E s:=by
 refine vcv ?_
 obtain⟨h,g,d,t,os⟩:=s
 obtain⟨nm,qn,N,bs,bm,hdd,sn,sub,ab,col,dd,k0,k1,k2,k3,k5,hC,T⟩:=excCls_of X hc
 have F:=PySem.F.excBase_ValueError
 have f1:=tc_lookup
 have f2:=tc_bind (.ref C)
 have hT:(⟨h,g,d,t,os⟩:Shared).TypeIs (.ref C) "type":=⟨_,hC,rfl⟩
 refine codeAny_of_tree ?_
 show wpAny _ _ (callAny (.ref C) _) _ _ _
 repeat(any_goals (first|assumption|with_reducible refine vbv hC ?_|wp_step))
 refine⟨rfl,?_⟩
 refine codeAny_call_builtin_at (vcz _ (by decide +kernel)) entry_typeCall (wpAny_check_type_call_sub hC ?_)
 repeat(first|with_reducible refine vbv hC ?_|with_reducible refine wpAny_madeBy_exc hC ?_|wp_step)
 refine codeAny_call_builtin_code (vcz _ F.quiet) (wpAny_check_new_subT F T hC ?_)
 refine codeAny_exc_new_subT F T hC ?_ hz
 have kk:∀b o,h.get? b=some o->((h.push {cls:=.type "tuple",data:=.seq rest.toArray}).push (excObj C none h.objs.size)).get? b=some o:=λb o e=>vac _ (vac _ e)
 have i1:=(looks_findIn (M:=model prog w) X hi).keeps kk
 have hC1:=kk _ _ hC
 have hget:((h.push {cls:=.type "tuple",data:=.seq rest.toArray}).push (excObj C none h.objs.size)).get? (h.objs.size+1)=some (excObj C none h.objs.size):=by heap_get
 have hcC:(Value.ref C::bm).contains (.ref C)=true:=by simp
 show wpAny _ _ _ _ _ _
 unfold isInstance
 repeat(first|with_reducible refine vbv hget ?_|(with_reducible refine vb2 hC1 ?_;rw[hcC])|wp_step)
 have t1:Looks (model prog w) ((h.push {cls:=.type "tuple",data:=.seq rest.toArray}).push (excObj C none h.objs.size)) (typeOf (.ref (h.objs.size+1))) (.ref C):=(Looks.ld hget).andThen .now
 refine vb2 (h:=(h.push {cls:=.type "tuple",data:=.seq rest.toArray}).push (excObj C none h.objs.size)) hC1 ?_
 rw[hcC]
 simp only[vbf,vaf,va1]
 refine vab (vbd ?_)
 unfold callSpecial? specialOf
 refine vab (vab (t1.at (i1.at (vbd ?_))))
 refine vab (wpAny_of_eq (F.init.bind _) ?_)
 refine vab (vcv (codeAny_call_builtin F.init.plain F.initEntry (wpAny_check_init_subT F (T.keeps kk) hC1 hget rfl ?_)))
 wp_walk
 refine hq _ (h.objs.size+2) (λb o hb=>?_) ?_
 .rw[vbi _ _ (vci (Nat.lt_succ_of_lt (vai hb)))]
  exact vac _ (kk b o hb)
 .rw[vcj _ (vac _ hget) rfl]
  simp only[vce]
  rfl
end
end XL
namespace XL
open PySem PySem.W PySem.Spec PyProof.Rows
structure ExcI(K:Frag)(C:Addr):Prop extends ExcK K C where
 ca:findIn K (.ref C) "__class__" = some (some (.builtin "object.__class__"))
 hn:specialIn K (.builtin "object.__class__") "__get__" = some (some (.builtin "getset_descriptor.__get__"))
 htk:takesIn K (.builtin "object.__class__")=some true
section
variable{prog:Program}{w:World}{A:Around}{E:Value->Shared->Prop}{s:Shared}{K:Frag}{x C:Addr}{ox:Obj}{od:Option Obj}{name:Str}{expr:Bool}
theorem ExcI.mro(k:ExcI K C):mroIn K C (.type "object")=some true:=by
 obtain⟨cd,hc,ho⟩:=any_some k.ov
 have ne:cd.mro.isEmpty=false:=by cases q:cd.mro with|nil=>rw[q]at ho;cases ho|cons _ _=>rfl
 unfold mroIn
 rw[hc,vcq,if_neg (by rw[ne];decide),zi1 (by decide +kernel) ho]
theorem zi2{Q:Option Value->Shared->Prop}(k:ExcI K C)(X:K.In s.heap)(I:InstAt s.heap x ox C od)(h:Q (some (.ref C)) {s with toks:=s.toks+1}):wpAny (model prog w) A (getAttr? (.ref x) "__class__") Q E s:=by
 have hf:findObj K C od "__class__" = some (.bind (.builtin "getset_descriptor.__get__") (.builtin "object.__class__")):=by
  obtain⟨cd,hc,_⟩:=any_some k.hd
  unfold findObj
  rw[hc,vcq,k.ca,vcq]
  simp only[k.hn,k.htk,vcq]
 have S:=znj (prog:=prog) (w:=w) k.toExcK X I (T:="BaseException") (by decide +kernel)
 obtain⟨h0,g,d,t,os⟩:=s
 have L0:=I.type (M:=model prog w)
 have L1:=looks_findIn (M:=model prog w) X k.ga
 have L2:=looks_findIn (M:=model prog w) X k.gt
 have L3:=looks_find (M:=model prog w) X I hf
 have hx1:(onTheHeap (Value.ref C)&&Value.builtin "BaseException.__getattribute__" == Value.builtin "object.__getattribute__")=false:=by
  rw[show(Value.builtin "BaseException.__getattribute__" == Value.builtin "object.__getattribute__")=false from by decide +kernel];rfl
 unfold getAttr?
 refine vab (wpAny_mkText ?_)
 unfold getAttrBy?
 refine vab (wpAny_attempt ?_)
 unfold getAttrBy
 refine vbd (vab (L0.at (vab (L1.at ?_))))
 dsimp only
 rw[hx1]
 simp only[vaf,va1]
 unfold getAttrByItsOwn hookBefore
 refine vab ?_
 rw[if_pos (show onTheHeap (Value.ref C)=true from rfl)]
 refine L2.at ?_
 refine vab (wpAny_attempt (vbd ?_))
 unfold callGetattribute
 simp only[vcp,vaf,va1]
 unfold boundAndCalled
 rw[PySem.F.excAttr_ValueError.ga.bind (.ref x)]
 refine vab (vag ?_)
 show wpAny (model prog w) A (call (.builtin "BaseException.__getattribute__") [.ref x,.str "__class__" t]) _ _ _
 have hk:builtinKind "BaseException.__getattribute__" = some .slot:=by decide +kernel
 have hsp:splitId "BaseException.__getattribute__" = some ("BaseException","__getattribute__"):=by decide +kernel
 refine vcv (codeAny_call_builtin PySem.F.excAttr_ValueError.ga.plain PySem.F.entry_bexc_ga ?_)
 refine @check_slot (model prog w) _ _ ⟨h0,g,d,t+1,os⟩ "BaseException.__getattribute__" "BaseException" "__getattribute__" (.ref x) [.str "__class__" t] [] _ hk hsp S (PySem.F.args_bexc_ga _ _) ?_
 unfold Builtin.«object.__getattribute__»
 refine vab (wpAny_of_eq (a:=(Value.ref x,[Value.str "__class__" t])) rfl ?_)
 dsimp only
 refine vab (wpAny_of_eq (a:=("__class__" : Str)) rfl ?_)
 refine vab (L0.at (vab (L3.at ?_)))
 dsimp only
 show wpAny _ _ (holding [.builtin "object.__class__"] (call (.builtin "getset_descriptor.__get__") [.builtin "object.__class__",.ref x,.ref C]) >>= ret) _ _ _
 refine vab (vbd (vcv (class_get (s:=⟨h0,g,d,t+1,os⟩) (ox:=ox) (od:=od) X I k.mro ?_)))
 dsimp only
 refine vag ?_
 dsimp only
 exact handed_on rfl (vag h)
theorem kitx_exc(k:ExcI K C):KitX K (.ref x) (.ref C) (λh=>InstAt h x ox C od)where
 ty:=λ_ _ _ I=>I.type
 it:=λ_ _ X _=>by
  obtain⟨cdD,hcD,_⟩:=any_some k.hd
  unfold clsIn at hcD
  split at hcD
  .rename_i c' d' cd' sl' ho
   intro A' Q' E' s' kk q
   unfold isType loadHead
   exact vab (wpAny_loadPart (kk _ _ (X _ _ ho)) (vag q))
  .cases hcD
 ne:=λh tp dd its n sl X htp=>by
  obtain⟨cdD,hcD,_⟩:=any_some k.hd
  refine Bool.eq_false_iff.mpr λq=>?_
  have e:C=tp:=Value.ref.inj (vbx.mp q)
  subst e
  unfold clsIn at hcD
  split at hcD
  .rename_i c' d' cd' sl' ho
   have z:=(X _ _ ho).symm.trans htp
   cases z
  .cases hcD
 ca:=λX I q=>zi2 k X I q
end
end XL
namespace L2
open PySem PySem.Spec PyProof.Rows
section
variable{X:Cx}{CX:CXT}{k:Nat}{f C:Addr}{fd:FuncData}{ps:List Str}{sp:Sp}{E:XK}{x:Str}{p pos:Pos}{e:Expr}{es:List Expr}{t:TA}
structure MkE(K:PySem.W.Frag)(C:Addr):Prop where
 cls:XL.excCls K C=true
 init:PySem.W.findIn K (.ref C) "__init__" = some (some (.builtin "ValueError.__init__"))
 kp:PySem.W.keepIn K (.ref C)=true
end
section
variable{X:Cx}{o e value:Expr}{f:Str}{pos pos':Pos}{ta tv:TE}
noncomputable def tyVal:V->Option Value
 |.ty n=>some (.type n)
 |.ref a=>some (.ref a)
 |_=>none
end
mutual
inductive Rp(K:PySem.W.Frag)(M:Addr->Prop)(H:Hp):V->PyData->Prop
 |non:Rp K M H .non .none
 |bl (b:Bool):Rp K M H (.bl b) (.bool b)
 |int (i:Int):Rp K M H (.int i) (.int i)
 |str (x:Str):Rp K M H (.str x) (.str x)
 |tup {a:Addr} {xs:List V} {ds:List PyData}:SqT K H a xs->¬M a->Rps K M H xs ds->Rp K M H (.ref a) (.tuple ds)
 |lst {a:Addr} {xs:List V} {ds:List PyData}:SqL K H a xs->¬M a->Rps K M H xs ds->Rp K M H (.ref a) (.list ds)
inductive Rps(K:PySem.W.Frag)(M:Addr->Prop)(H:Hp):List V->List PyData->Prop
 |nil:Rps K M H [] []
 |cons {x:V} {d:PyData} {xs:List V} {ds:List PyData}:Rp K M H x d->Rps K M H xs ds->Rps K M H (x::xs) (d::ds)
end
section
variable{X:Cx}{pins:List (Addr×Obj)}{σ:St}{H:Hp}{s:Shared}{M:Addr->Prop}
mutual
theorem Rp.reads(I:Inv X pins σ H s):∀{x:V} {d:PyData} {u:Value},Rp X.K M H x d->RelV x u->∃as,Reads s.heap u d as
 |_,_,_,.non,r=>by cases r;exact⟨_,.none⟩
 |_,_,_,.bl b,r=>by cases r;exact⟨_,.bool b⟩
 |_,_,_,.int i,r=>by obtain⟨t,rfl⟩:=r;exact⟨_,.int i t⟩
 |_,_,_,.str x,r=>by obtain⟨t,rfl⟩:=r;exact⟨_,.str x t⟩
 |_,_,_,.tup h n rr,r=>by
  cases r
  obtain⟨its,rv,p,_⟩:=I.tuple h
  obtain⟨o,ho,hc,m,hd⟩:=p
  obtain⟨as,ra⟩:=Rps.reads I rr rv
  exact⟨_,.tuple ho hc hd (by simpa using ra)⟩
 |_,_,_,.lst h n rr,r=>by
  cases r
  obtain⟨its,rv,p,_⟩:=I.list h
  obtain⟨o,m,ho,hc,_,hd⟩:=p
  obtain⟨as,ra⟩:=Rps.reads I rr rv
  exact⟨_,.list ho hc hd (by simpa using ra)⟩
theorem Rps.reads(I:Inv X pins σ H s):∀{xs:List V} {ds:List PyData} {us:List Value},Rps X.K M H xs ds->Vals xs us->∃as,ReadsAll s.heap us ds as
 |_,_,_,.nil,.nil=>⟨_,.nil⟩
 |_,_,_,.cons r t,.cons q v=>by
  obtain⟨as,h1⟩:=Rp.reads I r q
  obtain⟨bs,h2⟩:=Rps.reads I t v
  exact⟨_,.cons h1 h2⟩
end
noncomputable def rEqD(K:PySem.W.Frag):R2:=λx y H Q=>∃d e,Rp K (λ_=>False) H x d/\Rp K (λ_=>False) H y e/\SeqAt.shaped d=true/\SeqAt.shaped e=true/\Q (.bl (PyData.eqv d e)) H
noncomputable def rNeD(K:PySem.W.Frag):R2:=λx y H Q=>∃d e,Rp K (λ_=>False) H x d/\Rp K (λ_=>False) H y e/\SeqAt.shaped d=true/\SeqAt.shaped e=true/\Q (.bl (!PyData.eqv d e)) H
theorem zp1(hu:X.A.units+64<cLine):OpR X (compareOp .Eq) (rEqD X.K):=by
 intro pins s σ H x y v u Q I rx ry h
 obtain⟨d,e,r1,r2,s1,s2,q⟩:=h
 obtain⟨as,ra⟩:=r1.reads I rx
 obtain⟨bs,rb⟩:=r2.reads I ry
 exact PyProof.Rows.eq_dataH ra rb s1 s2 hu ⟨.bl _,H,I,rfl,q⟩
theorem zp2(hu:X.A.units+64<cLine):OpR X (compareOp .NotEq) (rNeD X.K):=by
 intro pins s σ H x y v u Q I rx ry h
 obtain⟨d,e,r1,r2,s1,s2,q⟩:=h
 obtain⟨as,ra⟩:=r1.reads I rx
 obtain⟨bs,rb⟩:=r2.reads I ry
 exact PyProof.Rows.ne_dataH ra rb s1 s2 hu ⟨.bl _,H,I,rfl,q⟩
end
section
variable{prog:Program}{w:World}{A:Around}{E:Value->Shared->Prop}{s:Shared}
theorem zhi{I t:Addr}{k:Nat}{its:Array Value}{y:Value}{Q:Value->Shared->Prop}(hi:s.heap.IsTupleIter I t k)(ht:s.heap.IsTuple t its)(hy:its[k]?=some y)
 (q:∀g,g.IsTupleIter I t (k+1)->Heap.SameBut I s.heap g->Q y {s with heap:=g}):wpAny (model prog w) A (Builtin.SmallTypes.nextOf (.ref I)) Q E s:=by
 obtain⟨oi,e1,e2,e3⟩:=id hi
 obtain⟨ot,e4,_,kt,e5⟩:=ht
 unfold Builtin.SmallTypes.nextOf
 refine vab (vcd (name:=Str.ofString "__next__") hi.typeIs vb4 (vb5 vb4 hi.typeIs F.entry_tuple_iterator_next ?_ (F.args_tuple_iterator_next_1 _)))
 show wpAny _ _ (field (.ref I) 0 >>= _) _ _ s
 refine vab (vb7 e1 e3 (x:=.ref t) rfl ?_)
 show wpAny _ _ (if(Value.ref t==Value.none)=true then _ else _) _ _ s
 rw[if_neg (show ¬((Value.ref t==Value.none)=true)from λz=>nomatch z)]
 show wpAny _ _ (field (.ref I) 1 >>= _) _ _ s
 refine vab (vb7 e1 e3 (x:=.int k 0) rfl ?_)
 show wpAny _ _ (seqItems? (.ref t) >>= _) _ _ s
 refine vab (wpAny_seqItems e4 e5 ?_)
 simp only[Int.toNat_natCast,hy]
 refine vab (vc5 e1 e3 (by simp) (vag ⟨y,rfl,vag (q _ ?_ (Heap.SameBut.update ..))⟩))
 refine⟨_,vcj _ e1 (Obj.isFreed_of_fields (Obj.data_mapFields e3 _)),(Obj.cls_mapFields ..).trans e2,?_⟩
 rw[Obj.data_mapFields e3]
 simp[rawInt]
theorem zfc{I t:Addr}{k:Nat}{its:Array Value}{Q:Value->Shared->Prop}(hA:A.handled=none)(hi:s.heap.IsTupleIter I t k)(ht:s.heap.IsTuple t its)(hy:its[k]?=none)
 (q:∀g e,Heap.ExtBut I s.heap g->(∃o,g.get? e=some o/\o.cls=.type "StopIteration")->E (.ref e) {s with heap:=g}):wpAny (model prog w) A (Builtin.SmallTypes.nextOf (.ref I)) Q E s:=by
 obtain⟨oi,e1,e2,e3⟩:=id hi
 obtain⟨ot,e4,_,kt,e5⟩:=ht
 unfold Builtin.SmallTypes.nextOf
 refine vab (vcd (name:=Str.ofString "__next__") hi.typeIs vb4 (vb5 vb4 hi.typeIs F.entry_tuple_iterator_next ?_ (F.args_tuple_iterator_next_1 _)))
 show wpAny _ _ (field (.ref I) 0 >>= _) _ _ s
 refine vab (vb7 e1 e3 (x:=.ref t) rfl ?_)
 show wpAny _ _ (if(Value.ref t==Value.none)=true then _ else _) _ _ s
 rw[if_neg (show ¬((Value.ref t==Value.none)=true)from λz=>nomatch z)]
 show wpAny _ _ (field (.ref I) 1 >>= _) _ _ s
 refine vab (vb7 e1 e3 (x:=.int k 0) rfl ?_)
 show wpAny _ _ (seqItems? (.ref t) >>= _) _ _ s
 refine vab (wpAny_seqItems e4 e5 ?_)
 simp only[Int.toNat_natCast,hy]
 refine vab (wpAny_rule (vab (vc5 e1 e3 (by simp) ?_)))
 show wpAny _ _ (newExc (.type "StopIteration") [] >>= _) _ _ _
 refine vab ?_
 simp only[newExc,newTuple]
 refine vab (vbu ?_ (by size_fits))
 refine vab (m:=firstArgMember _ _) (wpAny_of_eq (a:=Value.none) (by first|rfl|(simp only[firstArgMember];rfl)) ?_)
 refine vbu ?_ (by size_fits)
 simp only[raiseNew]
 refine vab (wpAny_handled ?_)
 first|rw[show A.in1.handled=none from hA]|rw[hA]
 refine vab (vag (wpAny_throw ?_))
 exact q _ _ (((Heap.SameBut.update ..).extBut.push _).push _) ⟨_,vav _ rfl,rfl⟩
end
theorem zgp{h h':Heap}{a:Addr}{its:Array Value}(x:h.IsTuple a its)(e:∀o,h.get? a=some o->h'.get? a=some o):h'.IsTuple a its:=let⟨o,ho,r⟩:=x;⟨o,e _ ho,r⟩
theorem zp3{prog:Program}{w:World}{A:Around}(hA:A.handled=none)(I t:Addr)(hne:t≠I)(its:Array Value) :
 Draws prog w A I [I,t] its.size (λi v=>its[i]?=some v) (λi h=>h.IsTupleIter I t i/\h.IsTuple t its)where
 live:=λ_ _ st=>let⟨o,ho,_⟩:=st.1;⟨o,ho⟩
 frame:=λ_ _ _ st hk=>⟨st.1.at λo e=>hk I (by simp) o e,zgp st.2 λo e=>hk t (by simp) o e⟩
 item:=λi s Q E hi st q=>zhi st.1 st.2 (y:=its[i]) (by simp[hi]) λg a b=>q _ g s.toks (by simp[hi]) ⟨a,st.2.extBut b.extBut hne⟩ b
 done:=λs Q E st q=>zfc hA st.1 st.2 (by simp) q
theorem zf2(l:Addr)(its:Array Value)(n:Nat)(dc:Option Addr)(sl:Array (Option Value)) :
 Meets (Builtin.«enumerate.__new__» ⟨[.type "enumerate",.ref l],[]⟩) (λ_ R s=>s.heap.get? l=some {cls:=.type "tuple",dict:=dc,data:=.seq its n,slots:=sl}/\
  R (.ok (.ret (.ref (s.heap.push {cls:=.type "tuple_iterator",data:=.fields #[.ref l,.int 0 0]}).objs.size)))
   {s with heap:=(s.heap.push {cls:=.type "tuple_iterator",data:=.fields #[.ref l,.int 0 0]}).push {cls:=.type "enumerate",data:=.fields #[.none,.bool false,.ref s.heap.objs.size,rawInt 0,.none,.none]}}):=
 .of_wp λprog w A R s h=>by
  obtain⟨hp,g,d,tk,os⟩:=s
  obtain⟨e,h⟩:=h
  have hsub:=sub_enumerate
  have hT:Heap.IsTuple (Shared.heap ⟨hp,g,d,tk,os⟩) l its:=⟨_,e,rfl,n,rfl⟩
  wp_walk using AutoSeq1.wpAny_loadPart' e
  refine wpAny_stack_any λst=>vag ?_
  split
  .rename_i c _ _ _ _ _
   cases(c==Value.type "enumerate")<;> (wp_walk using AutoSeq1.wpAny_loadPart' e,wpAny_pyIter_tuple hT;exact⟨_,rfl,h⟩)
  .wp_walk using AutoSeq1.wpAny_loadPart' e,wpAny_pyIter_tuple hT
   exact⟨_,rfl,h⟩
theorem zhj{prog:Program}{w:World}{A:Around}{E:Value->Shared->Prop}{s:Shared}{l:Addr}{its:Array Value}{Q:Value->Shared->Prop}(hL:s.heap.IsTuple l its)
 (h:∀g,IsEnum g (s.heap.objs.size+1) s.heap.objs.size 0 .none->g.IsTupleIter s.heap.objs.size l 0->g.objs.size=s.heap.objs.size+2->(∀b o,s.heap.get? b=some o->g.get? b=some o)->Q (.ref (s.heap.objs.size+1)) {s with heap:=g}) :
 wpAny (model prog w) A (call (.type "enumerate") [.ref l]) Q E s:=by
 obtain⟨⟨c,dc,dt,sl⟩,e1,e2,n,e3⟩:=hL
 replace e2:c=.type "tuple":=e2
 replace e3:dt=.seq its n:=e3
 subst e2 e3
 refine callType_new F.called_enumerate (by decide) (F.typeCall_enumerate_1 _) (F.newCall_enumerate_1 _) (λobj=>F.args_object_init_2 obj _) F.entry_enumerate_new (zf2 l its n dc sl) ⟨e1,?_⟩
 have hz:(s.heap.push {cls:=.type "tuple_iterator",data:=.fields #[.ref l,.int 0 0]}).objs.size=s.heap.objs.size+1:=vce ..
 show _/\_
 rw[hz]
 have he:IsEnum ((s.heap.push {cls:=.type "tuple_iterator",data:=.fields #[.ref l,.int 0 0]}).push {cls:=.type "enumerate",data:=.fields #[.none,.bool false,.ref s.heap.objs.size,rawInt 0,.none,.none]}) (s.heap.objs.size+1) s.heap.objs.size 0 .none:=by
  rw[<-hz]
  exact vav _ rfl
 exact⟨⟨_,he,rfl⟩,h _ he ⟨_,vac _ (vav _ rfl),rfl,rfl⟩ (by rw[vce,hz]) λb o x=>vac _ (vac _ x)⟩
noncomputable def IteT(K:PySem.W.Frag)(a:Addr):It:=
 ⟨λi H=>∃xs x,SqT K H a xs/\xs[i]?=some x,λi H x H'=>∃T v,x=.ref T/\H T=none/\H'=upd H T (.tup [.int i,v])/\∀xs,SqT K H a xs->xs[i]?=some v,λi H=>∃xs,SqT K H a xs/\xs.length<=i⟩
theorem zhk{P:Program}{w:World}{K:PySem.W.Frag}{elts:List Expr}{kx:Nat}{tp:Pos}(a e it:Addr)(hei:e≠it)(hae:a≠e)(hai:a≠it) :
 Turn P w K (.Tuple elts kx tp) (IteT K a) [e,it] e (λi h=>(∃old,IsEnum h e it i old)/\h.IsTupleIter it a i)where
 mem:=by simp
 obj:=λi h st b hb=>by
  obtain⟨⟨old,he⟩,o,ho,hc,hd⟩:=st
  rcases va5.mp hb with rfl|hb
  .exact⟨_,he,λv z=>by
    have z':Data.fields _=Data.cell v:=z
    cases z'⟩
  .have e':b=it:=by simpa using hb
   subst e'
   exact⟨o,ho,λv z=>by rw[hd]at z;cases z⟩
 keep:=λi h h' st k=>by
  obtain⟨⟨old,he⟩,st⟩:=st
  exact⟨⟨old,k e (by simp) _ he⟩,st.at λo q=>k it (by simp) o q⟩
 item:=by
  intro X hP hw hK hc i pins s σ H E I hf st hg
  subst hP hw hK
  obtain⟨xs,x,hq,hx⟩:=hg
  obtain⟨⟨old,he⟩,st⟩:=st
  obtain⟨its,rv,p,hz⟩:=I.tuple hq
  obtain⟨u,hu,ru⟩:=rv.get hx
  have hd:X.A.in1.handled=none:=I.ok.hd hc
  have p:s.heap.IsTuple a its.toArray:=p
  refine wpAny_pyNext_enum_itemD (zp3 hd it a hai its.toArray) he ⟨st,p⟩ (by
   have:i<its.length:=by
    rw[<-rv.length]
    exact(vak.mp hx).1
   simpa using this) hei (by simp[hei,vb3 hae]) λx' h1 tk hx' ho hit hT hsz hk=>?_
  obtain rfl:u=x':=by
   have:its[i]?=some x':=by simpa using hx'
   rw[hu]at this
   cases this;rfl
  refine⟨_,rfl,wpAny_letOwnedTupleGo_enum ho λh2 he2 hs2=>?_⟩
  have hTn:H s.heap.objs.size=none:=I.hok.fresh (vad _)
  have hTe:s.heap.objs.size≠e:=vci (vai he)
  have hTi:s.heap.objs.size≠it:=by
   obtain⟨o,q,_⟩:=st
   exact vci (vai q)
  have hs2:Heap.SameBut e h1 h2:=hs2
  have kk:∀b o,b≠e->b≠it->s.heap.get? b=some o->h2.get? b=some o:=λb o h1 h2 q=>(hs2.2 b h1).trans (hk b o h1 h2 q)
  have f0:=λb hb=>(hf b hb).1
  have nE:∀b o,H b=some o->b≠e/\b≠it:=λb o q=>⟨λz=>(by rw[z,f0 e (by simp)]at q;cases q),λz=>(by rw[z,f0 it (by simp)]at q;cases q)⟩
  have hT2:h2.get? s.heap.objs.size=some {cls:=.type "tuple",data:=.seq #[.int i tk,u]}:=(hs2.2 _ hTe).trans hT
  have I2:Inv X pins σ (upd H s.heap.objs.size (.tup [.int i,x])) {s with heap:=h2,gens:=s.gens,drawn:=s.drawn,toks:=tk+1}:=by
   refine I.step (ch:=[e,it]) (λb hb=>?_) (λb o _ _ hc e1 _=>kk b o (λz=>hc (by simp[z])) (λz=>hc (by simp[z])) e1) (λb o _ _ hc e1 _=>⟨o.slots,kk b o (λz=>hc (by simp[z])) (λz=>hc (by simp[z])) e1⟩)
    (λb o hc e1 n=>by rw[zac (vas (vai e1))];exact n) (λb o hc e1=>⟨o,kk b o (λz=>hc (by simp[z])) (λz=>hc (by simp[z])) e1⟩)
    (λb ys q=>by rw[zac (zae q hTn)];exact q) (λb o u q=>by rw[zac (zae q hTn)];exact q) (λb ps q=>⟨#[],by rw[zac (zae q hTn),q];simp⟩) (λm hm=>?_) (λb ob q=>?_) I.bare
   .obtain⟨_,a1,a2,a3,a4,a5⟩:=hf b hb
    exact⟨a3,a1,a4,a5⟩
   .obtain⟨o,es,ep,ho',r⟩:=hm
    exact⟨o,es,ep,kk _ o (vb3 (hf e (by simp)).2.1) (vb3 (hf it (by simp)).2.1) ho',r⟩
   .by_cases hb:b=s.heap.objs.size
    .subst hb
     rw[zad]at q;cases q
     exact⟨by show 2<=sizeLine;decide,[.int i tk,u],.cons ⟨_,rfl⟩ (.cons ru .nil),⟨_,hT2,rfl,⟨_,rfl⟩,rfl⟩⟩
    .rw[zac hb]at q
     refine(I.hok b ob q).stay (λc v hc z=>kk c v ?_ ?_ z) (λc z=>by rw[zac (zae z hTn)];exact z) λc ys z=>by rw[zac (zae z hTn)];exact z
     .rcases hc with rfl|hc
      .exact(nE c ob q).1
      .exact(nE c _ hc).1
     .rcases hc with rfl|hc
      .exact(nE c ob q).2
      .exact(nE c _ hc).2
  refine⟨.ref s.heap.objs.size,_,I2,rfl,⟨_,x,rfl,hTn,rfl,λys hy=>by rw[I.tuple_inj hy hq];exact hx⟩,⟨⟨u,by simpa using he2⟩,hit.1.at λo q=>(hs2.2 it (vb3 hei)).trans q⟩,λb hb=>?_⟩
  rw[zac ?_]
  .exact f0 b hb
  .rcases va5.mp hb with rfl|hb
   .exact vb3 hTe
   .have e':b=it:=by simpa using hb
    subst e'
    exact vb3 hTi
 done:=by
  intro X hP hw hK hc i pins s σ H E I hf st hg
  subst hP hw hK
  obtain⟨xs,hq,hx⟩:=hg
  obtain⟨⟨old,he⟩,st⟩:=st
  obtain⟨its,rv,p,hz⟩:=I.tuple hq
  obtain⟨f0,f1,f2,f3,f4,f5⟩:=hf it (by simp)
  have hl:=rv.length
  have hd:X.A.in1.handled=none:=I.ok.hd hc
  have p:s.heap.IsTuple a its.toArray:=p
  refine PySem.wpAny_pyNext_enum_endD (n:=0) (P:=λ_ _=>True) (St:=λ_ h=>h.IsTupleIter it a i/\h.IsTuple a its.toArray) (fp:=[it,a]) ⟨?_,?_,?_,?_⟩ he ⟨st,p⟩ λh' eb=>⟨rfl,I.turned (t':=s.toks) (λb o hb q=>eb b o hb q) f0 f1 f3 f4 f5⟩
  .exact λ_ _ st=>let⟨o,ho,_⟩:=st.1;⟨o,ho⟩
  .exact λ_ _ _ st hk=>⟨st.1.at λo e=>hk it (by simp) o e,zgp st.2 λo e=>hk a (by simp) o e⟩
  .exact λj s' Q' E' hj=>absurd hj (Nat.not_lt_zero _)
  .exact λs' Q' E' st' q'=>zfc hd st'.1 st'.2 (by simp;omega) q'
 self:=λ_ _ _ _ _ st h=>by
  obtain⟨⟨old,he⟩,_⟩:=st
  exact wpAny_pyIter_enum he h
section
variable{κ:Type}[DecidableEq κ]
noncomputable def valV(kvs:List (κ×V))(k:κ):Option V:=(kvs.find? λkv=>decide (kv.1=k)).map (·.2)
noncomputable def putK(kvs:List (κ×V))(k:κ)(v:V):List (κ×V):=
 if(kvs.any λkv=>decide (kv.1=k))=true then kvs.map (λkv=>if kv.1=k then(kv.1,v)else kv)else kvs++[(k,v)]
theorem zec{p:κ×V}{r:List (κ×V)}{k:κ}(e:p.1=k):valV (p::r) k=some p.2:=by simp[valV,va4,e]
theorem zci{p:κ×V}{r:List (κ×V)}{k:κ}(e:¬p.1=k):valV (p::r) k=valV r k:=by simp[valV,va4,e]
theorem zf3(kvs:List (κ×V))(k:κ)(v:V):(putK kvs k v).length<=kvs.length+1:=by
 unfold putK
 split
 .rw[vap];omega
 .rw[vat,vam,vc0];omega
theorem KV.val{kvs:List (κ×V)}{vs:List (κ×Value)}(r:KV kvs vs)(k:κ):RelO (valV kvs k) (valueAt vs k):=by
 unfold KV at r
 induction r with
 |nil=>exact True.intro
 | @cons p q ps qs h t ih=>
  obtain⟨h1,h2⟩:=h
  by_cases e:p.1=k
  .have e':q.1=k:=h1.symm.trans e
   have b:valueAt (q::qs) k=some q.2:=by simp[valueAt,va4,e']
   rw[zec e,b];exact h2
  .have e':¬q.1=k:=λz=>e (h1.trans z)
   have b:valueAt (q::qs) k=valueAt qs k:=by simp[valueAt,va4,e']
   rw[zci e,b];exact ih
theorem KV.any{kvs:List (κ×V)}{vs:List (κ×Value)}(r:KV kvs vs)(k:κ):(kvs.any λkv=>decide (kv.1=k))=vs.any λkv=>decide (kv.1=k):=by
 unfold KV at r
 induction r with
 |nil=>rfl
 |cons h t ih=>rw[List.any_cons,List.any_cons,ih,h.1]
theorem KV.repl{kvs:List (κ×V)}{vs:List (κ×Value)}(r:KV kvs vs)(k:κ){y:V}{u:Value}(ry:RelV y u) :
 KV (kvs.map λkv=>if kv.1=k then(kv.1,y)else kv) (vs.map λkv=>if kv.1=k then(kv.1,u)else kv):=by
 unfold KV at r ⊢
 induction r with
 |nil=>exact .nil
 | @cons p q ps qs h t ih=>
  rw[vaj,vaj]
  refine .cons ?_ ih
  obtain⟨h1,h2⟩:=h
  by_cases e:p.1=k
  .rw[if_pos e,if_pos (h1.symm.trans e)];exact⟨h1,ry⟩
  .rw[if_neg e,if_neg (λz=>e (h1.trans z))];exact⟨h1,h2⟩
theorem KV.put{kvs:List (κ×V)}{vs:List (κ×Value)}(r:KV kvs vs)(k:κ){y:V}{u:Value}(ry:RelV y u):KV (putK kvs k y) (stored vs k u):=by
 unfold putK stored
 rw[r.any k]
 by_cases e:(vs.any λkv=>decide (kv.1=k))=true
 .rw[if_pos e,if_pos e];exact r.repl k ry
 .rw[if_neg e,if_neg e];exact Paired.snoc r ⟨rfl,ry⟩
end
theorem kV_is{P:Program}{w:World}{k:Key}{u:Value}(r:RelV (kV k) u):(zam P w).is k u=true:=by
 cases k with
 |inl i=>obtain⟨t,e⟩:=(show ∃t,u=Value.int i t from r);subst e;exact zfx P w i t
 |inr x=>obtain⟨t,e⟩:=(show ∃t,u=Value.str x t from r);subst e;exact zfy P w x t
theorem zfd{P:Program}{w:World}:∀{ks:List Key} {us:List Value},Vals (ks.map kV) us->ItemsAre (zam P w) ks us
 |[],_,r=>by rw[vc7]at r;cases r;exact .nil
 |k::ks,_,r=>by
  rw[vaj]at r
  cases r with
  |cons h t=>exact .cons (kV_is h) (zfd t)
noncomputable abbrev KT(H:Hp):List (List Key×V)->List (List Key×Addr×Value)->Prop:=Paired λp q=>p.1=q.1/\H q.2.1=some (.tup (p.1.map kV))/\RelV p.2 q.2.2
theorem KT.val{H:Hp}{kvs:List (List Key×V)}{xs:List (List Key×Addr×Value)}(r:KT H kvs xs)(k:List Key):RelO (valV kvs k) ((atKey xs k).map (·.2)):=by
 induction r with
 |nil=>exact True.intro
 | @cons p q ps qs h t ih=>
  obtain⟨h1,_,h2⟩:=h
  by_cases e:p.1=k
  .have e':q.1=k:=h1.symm.trans e
   have b:atKey (q::qs) k=some q.2:=by simp[atKey,va4,e']
   rw[zec e,b];exact h2
  .have e':¬q.1=k:=λz=>e (h1.trans z)
   have b:atKey (q::qs) k=atKey qs k:=by simp[atKey,va4,e']
   rw[zci e,b];exact ih
section
variable{P:Program}{w:World}{H:Hp}{h:Heap}{a:Addr}
theorem rd_of{u:HO}(ok:HOk P w H h)(e:Rd H a u):ObjOk P w H h a u:=e.ok ok
theorem dk_rd{kvs:List (Key×V)}(ok:HOk P w H h)(e:Rd H a (.dK kvs)):kvs.length<=sizeLine/\(a==sysModules)=false/\∃vs,KV kvs vs/\h.DictOf (zam P w) a vs:=
 show ObjOk P w H h a (.dK kvs)from rd_of ok e
theorem dk_of{kvs:List (Key×V)}(ok:HOk P w H h)(e:H a=some (.dK kvs)):kvs.length<=sizeLine/\(a==sysModules)=false/\∃vs,KV kvs vs/\h.DictOf (zam P w) a vs:=dk_rd ok (.inl e)
theorem zlz{ks:List Key}(ok:HOk P w H h)(e:H a=some (.tup (ks.map kV))):(tupleKind (zam P w)).is h ks a:=by
 obtain⟨_,its,r,o,h1,h2,⟨n,h3⟩,_⟩:=(show ObjOk P w H h a (.tup (ks.map kV))from ok a _ e)
 exact⟨o,its.toArray,n,h1,h2,h3,by simpa using zfd r⟩
theorem dt_rd{kvs:List (List Key×V)}(ok:HOk P w H h)(e:Rd H a (.dT kvs)):kvs.length<=sizeLine/\(a==sysModules)=false/\
 ∃xs,KT H kvs xs/\h.DictOfH (tupleKind (zam P w)) a xs:=by
 obtain⟨z,y,xs,r,o,es,ep,h1,h2,h3,h4,h5⟩:=(show ObjOk P w H h a (.dT kvs)from rd_of ok e)
 refine⟨z,y,xs,r,o,es,ep,h1,h2,h3,h4,λx hx=>?_,h5⟩
 have all:∀{l:List (List Key×V)}{m:List (List Key×Addr×Value)},KT H l m->∀x∈m,(tupleKind (zam P w)).is h x.1 x.2.1:=by
  intro l m q
  induction q with
  |nil=>intro x hx;exact nomatch hx
  | @cons p q ps qs hq t ih=>
   intro x hx
   rcases va5.mp hx with e|hx
   .subst e
    exact zlz ok (by rw[<-hq.1];exact hq.2.1)
   .exact ih x hx
 exact all r x hx
end
noncomputable def DGet(H:Hp)(a:Addr)(y:V)(r:Option V):Prop:=
 (∃kvs k,Rd H a (.dK kvs)/\y=kV k/\r=valV kvs k)\/∃kvs k b,Rd H a (.dT kvs)/\y=.ref b/\H b=some (.tup (k.map kV))/\r=valV kvs k
section
variable{X:Cx}{pins:List (Addr×Obj)}{σ:St}{H:Hp}{s:Shared}{a:Addr}{y v:V}{u r:Value}{o:Option V}{A:Around}{E:Value->Shared->Prop}
theorem Inv.big(I:Inv X pins σ H s):sysModules<s.heap.objs.size:=by
 have h:mainGlobals<s.heap.objs.size:=(I.mod.glob.keeps I.bk).lt
 exact Nat.lt_trans (by decide) h
theorem zi3{Q:Value->Shared->Prop}(hu:A.units+1<cLine)(I:Inv X pins σ H s)(g:DGet H a y (some v))(ry:RelV y u)(h:∀w' s',Inv X pins σ H s'->RelV v w'->Q w' s') :
 wpAny (model X.prog X.w) A (getItem (.ref a) u) Q E s:=by
 rcases g with⟨kvs,k,e,ey,l⟩|⟨kvs,k,b,e,ey,eb,l⟩
 .subst ey
  obtain⟨z,hd,vs,rel,dd⟩:=dk_rd I.hok e
  obtain⟨w',hw,rw'⟩:=RelO.some_of (v:=v) (o:=valueAt vs k) (by rw[l];exact rel.val k)
  exact wpAny_getItem_of (kV_is ry) dd.mapOf hw (h w' _ (I.tok _) rw')
 .subst ey
  cases(show u=Value.ref b from ry)
  obtain⟨z,hd,xs,rel,dd⟩:=dt_rd I.hok e
  obtain⟨w',hw,rw'⟩:=RelO.some_of (v:=v) (o:=(atKey xs k).map (·.2)) (by rw[l];exact rel.val k)
  obtain⟨p,hp,hp2⟩:=Option.map_eq_some_iff.mp hw
  refine wpAny_getItem_heap (tupleKind_room_in1 hu) (zlz I.hok eb) dd hp ?_
  rw[hp2]
  exact h w' _ (I.tok _) rw'
theorem zf4{h':Heap}{t':Nat}{ob:HO}(I:Inv X pins σ H s)(mu:Mut (H a))(hs:Heap.SameBut a s.heap h')(he:∃q,h'.get? a=some q)(new:ObjOk X.prog X.w (upd H a ob) h' a ob) :
 Inv X pins σ (upd H a ob) {s with heap:=h',toks:=t'}:=
 I.write (x:=a) (e:=a) mu (.inl rfl) (λb q hb z=>(hs.2 b hb).trans z) he new
theorem zp4{P:Program}{w:World}{H':Hp}{h':Heap}{kvs:List (Key×V)}{vs:List (Key×Value)}(z:kvs.length<=sizeLine)(hd:(a==sysModules)=false)(rel:KV kvs vs)(dd:h'.DictOf (zam P w) a vs) :
 ObjOk P w H' h' a (.dK kvs):=⟨z,hd,vs,rel,dd⟩
end
theorem zf5{X:Cx}{pins:List (Addr×Obj)}{σ:St}{H:Hp}{s:Shared}{a:Addr}{y:V}{o:Option V}(I:Inv X pins σ H s)(g:DGet H a y o):s.TypeIs (.ref a) "dict":=by
 rcases g with⟨kvs,k,e,_,_⟩|⟨kvs,k,b,e,_,_,_⟩
 .obtain⟨_,_,vs,_,dd⟩:=dk_rd I.hok e
  exact dd.typeIs
 .obtain⟨_,_,xs,_,dd⟩:=dt_rd I.hok e
  exact dd.typeIs
theorem zgq{P:Program}{w:World}{H:Hp}(h:Heap)(hb:sysModules<h.objs.size):ObjOk P w H (h.push {cls:=.type "dict",data:=.dict #[]}) h.objs.size (.dK []):=
 ⟨vct _,vbs.mpr (vb3 (vas hb)),[],.nil,Heap.DictOf.new h⟩
noncomputable def zp5:TE:=λ_ H Q=>∀p,H p=none->Q (.ref p) (upd H p (.dK []))
section
variable{X:Cx}{pos:Pos}
theorem zkx:PE X (.Dict [] [] pos) zp5:=λpins s σ H Q I h=>
 wpAny_Dict_empty ⟨.ref s.heap.objs.size,_,I.laid (a:=s.heap.objs.size) (o:=.dK []) (t':=s.toks) (λ_ _ q=>vac _ q) (vad _) (zgq s.heap I.big),rfl,h _ (I.hok.fresh (vad _))⟩
end
noncomputable def zgr:List (TE×TE)->St->Hp->(List (V×V)->Hp->Prop)->Prop
 |[],_,H,Q=>Q [] H
 |(tk,tv)::r,σ,H,Q=>tk σ H λx H1=>tv σ H1 λy H2=>zgr r σ H2 λps H3=>Q ((x,y)::ps) H3
noncomputable abbrev VV:List (V×V)->List (Value×Value)->Prop:=Paired λp q=>RelV p.1 q.1/\RelV p.2 q.2
noncomputable def PPs(X:Cx)(pos:Pos)(keys:List (Option Expr))(values:List Expr)(trs:List (TE×TE)):Prop:=
 ∀(pins:List (Addr×Obj))(s:Shared)(σ:St)(H:Hp)(Q:List (V×V)->Hp->Prop),Inv X pins σ H s->zgr trs σ H Q->
  wpAny (model X.prog X.w) X.A (evalPairs (pairTrees keys values X.env pos)) (λvs s'=>∃ps H',Inv X pins σ H' s'/\VV ps vs/\Q ps H') X.xe s
theorem znk{X:Cx}{pos:Pos}:PPs X pos [] [] []:=λpins s σ H Q I h=>pairTrees_nil_walk ⟨[],H,I,.nil,h⟩
theorem zky{X:Cx}{pos:Pos}{k v:Expr}{ks:List (Option Expr)}{vs:List Expr}{tk tv:TE}{trs:List (TE×TE)}(hk:PE X k tk)(hv:PE X v tv)(hr:PPs X pos ks vs trs) :
 PPs X pos (some k::ks) (v::vs) ((tk,tv)::trs):=λpins s σ H Q I h=>
 pairTrees_cons_walk (thn (hk pins s σ H _ I h) λu s1 z9=>z9.el λx H1 I1 rx q1=>thn (hv pins s1 σ H1 _ I1 q1) λw2 s2 z9=>z9.el λy H2 I2 ry q2=>
  thn (hr pins s2 σ H2 _ I2 q2) λws s3 ⟨ps,H3,I3,rel,q3⟩=>⟨(x,y)::ps,H3,I3,.cons ⟨rx,ry⟩ rel,q3⟩)
noncomputable def zcc(kvs more:List (Key×V)):List (Key×V):=more.foldl (λacc kv=>putK acc kv.1 kv.2) kvs
theorem KV.merge:∀{more:List (Key×V)} {rs:List (Key×Value)} {kvs:List (Key×V)} {vs:List (Key×Value)},KV more rs->KV kvs vs->KV (zcc kvs more) (merged vs rs):=by
 intro more rs kvs vs r
 unfold KV at r
 induction r generalizing kvs vs with
 |nil=>intro q;exact q
 | @cons p q ps qs h t ih=>
  intro r0
  have e:KV (putK kvs p.1 p.2) (stored vs q.1 q.2):=by
   have:=r0.put p.1 h.2
   rw[<-h.1];exact this
  exact ih e
theorem zbz:∀(more kvs:List (Key×V)),(zcc kvs more).length<=kvs.length+more.length
 |[],kvs=>by show kvs.length<=kvs.length+0;omega
 |p::r,kvs=>by
  have h1:=zbz r (putK kvs p.1 p.2)
  have h2:=zf3 kvs p.1 p.2
  show(zcc (putK kvs p.1 p.2) r).length<=_
  rw[vam];omega
theorem zdl{P:Program}{w:World}:∀{kvs:List (Key×V)} {ws:List (Value×Value)},VV (kvs.map λkv=>(kV kv.1,kv.2)) ws->∃rs,Carries (zam P w) ws rs/\KV kvs rs
 |[],_,r=>by rw[vc7]at r;cases r;exact⟨[],True.intro,.nil⟩
 |p::kvs,_,r=>by
  rw[vaj]at r
  cases r with
  | @cons a b as bs h t=>
   obtain⟨rs,c,q⟩:=zdl (P:=P) (w:=w) t
   obtain⟨b1,b2⟩:=b
   exact⟨(p.1,b2)::rs,⟨kV_is h.1,rfl,c⟩,.cons ⟨rfl,h.2⟩ q⟩
section
variable{X:Cx}
noncomputable def zl0(K:PySem.W.Frag):R2:=λx y H Q=>∃a b ys,x=.ref a/\y=.ref b/\SqT K H a []/\SqT K H b ys/\Q (.ref b) H
theorem zkz:OpR X (binaryOp .Add) (zl0 X.K):=by
 intro pins s σ H x y v u Q I rx ry h
 obtain⟨a,b,ys,rfl,rfl,ha,hb,q⟩:=h
 cases rx
 cases ry
 obtain⟨its,r1,p1,_⟩:=I.tuple ha
 obtain⟨its2,r2,p2,_⟩:=I.tuple hb
 cases r1
 obtain⟨⟨c,dd,dt,sl⟩,e1,e2,n,e3⟩:=p1
 obtain⟨⟨c2,dd2,dt2,sl2⟩,f1,f2,n2,f3⟩:=p2
 replace e2:c=.type "tuple":=e2
 replace e3:dt=.seq ([]:List Value).toArray n:=e3
 replace f2:c2=.type "tuple":=f2
 replace f3:dt2=.seq its2.toArray n2:=f3
 subst e2 e3 f2 f3
 exact concat_meets ⟨_,e1,rfl⟩ ⟨_,f1,rfl⟩ noFill_tuple_add seq_tuple_add PySem.F.slot_tuple_add PySem.F.entry_tuple_add (PySem.F.args_tuple_add_2 _ _) (tuple_addW0 a b ([]:List Value).toArray its2.toArray n n2 dd dd2 sl sl2 rfl) ⟨e1,f1,⟨.ref b,H,I,rfl,q⟩⟩
noncomputable def anyEq(ds:List PyData)(d:PyData):Bool:=ds.any λe=>PyData.eqv e d
noncomputable def rInD(K:PySem.W.Frag)(neg:Bool):R2:=λx y H Q=>∃p xs ds d,y=.ref p/\(SqL K H p xs\/SqT K H p xs)/\Rps K (λ_=>False) H xs ds/\Rp K (λ_=>False) H x d/\ds.all SeqAt.shaped=true/\SeqAt.shaped d=true/\Q (.bl (if neg then !anyEq ds d else anyEq ds d)) H
theorem zat{h:Heap}:∀{us:List Value} {ds:List PyData} {as:List Addr} {i:Nat} {u:Value},ReadsAll h us ds as->us[i]?=some u->∃d bs,ds[i]?=some d/\Reads h u d bs
 |_,_,_,i,u,.nil,e=>by simp at e
 |_,_,_,0,u,.cons r _,e=>by simp at e;subst e;exact⟨_,_,rfl,r⟩
 |_,_,_,i+1,u,.cons _ rs,e=>by
  obtain⟨d,bs,h1,h2⟩:=zat rs (by simpa using e)
  exact⟨d,bs,by simpa using h1,h2⟩
open Classical in
noncomputable def eqOf(us:List Value)(ds:List PyData)(d:PyData)(u:Value):Bool:=decide (∃(i:Nat) (e:PyData),us[i]?=some u/\ds[i]?=some e/\PyData.eqv e d=true)
open Classical in
theorem zbo{us:List Value}{ds:List PyData}{d:PyData}{u:Value}:eqOf us ds d u=true↔∃(i:Nat) (e:PyData),us[i]?=some u/\ds[i]?=some e/\PyData.eqv e d=true:=by
 unfold eqOf
 exact decide_eq_true_iff
theorem zcj{us:List Value}{ds:List PyData}{d:PyData}(hl:us.length=ds.length):us.any (eqOf us ds d)=anyEq ds d:=by
 cases q:anyEq ds d with
 |true=>
  unfold anyEq at q
  rw[List.any_eq_true]at q
  obtain⟨e,h1,h2⟩:=q
  obtain⟨i,hi,h3⟩:=List.mem_iff_getElem.mp h1
  rw[List.any_eq_true]
  refine⟨us[i]'(by omega),List.getElem_mem _,?_⟩
  rw[zbo]
  exact⟨i,e,by simp,by rw[vba hi,h3],h2⟩
 |false=>
  unfold anyEq at q
  rw[List.any_eq_false]at q ⊢
  intro u hu z
  rw[zbo]at z
  obtain⟨i,e,h1,h2,h3⟩:=z
  exact q e (vcn h2) h3
theorem zaz{h:Heap}:∀{us:List Value} {ds:List PyData} {as:List Addr},ReadsAll h us ds as->us.length=ds.length
 |_,_,_,.nil=>rfl
 |_,_,_,.cons _ r=>by rw[vam,vam,zaz r]
theorem zb4{A:Around}{s:Shared}{us:List Value}{ds:List PyData}{as bs:List Addr}{d:PyData}{v:Value}(hu:A.units+64<cLine)(ra:ReadsAll s.heap us ds as)(rb:Reads s.heap v d bs)(s1:ds.all SeqAt.shaped=true)(s2:SeqAt.shaped d=true) :
 ∀u∈us,SeqAt.EqAt A s u v (eqOf us ds d u):=by
 intro u hm
 have sh:∀(i:Nat)(e:PyData),ds[i]?=some e->SeqAt.shaped e=true:=λi e q=>vcr.mp s1 e (vcn q)
 cases q:eqOf us ds d u with
 |true=>
  rw[zbo]at q
  obtain⟨i,e,h1,h2,h3⟩:=q
  obtain⟨e',cs,h4,h5⟩:=zat ra h1
  rw[h2]at h4;cases h4
  have:=SeqAt.eqAt_reads e d A s u v cs bs h5 rb (vcf (sh i e h2)) (vcf s2) (SeqAt.room_of_shaped (sh i e h2) hu)
  rw[h3]at this;exact this
 |false=>
  obtain⟨i,hi,h1⟩:=List.mem_iff_getElem.mp hm
  have h1:us[i]?=some u:=by rw[vba hi,h1]
  obtain⟨e,cs,h4,h5⟩:=zat ra h1
  have h3:PyData.eqv e d=false:=by
   cases z:PyData.eqv e d with
   |false=>rfl
   |true=>
    rw[zbo.mpr ⟨i,e,h1,h4,z⟩]at q
    cases q
  have:=SeqAt.eqAt_reads e d A s u v cs bs h5 rb (vcf (sh i e h4)) (vcf s2) (SeqAt.room_of_shaped (sh i e h4) hu)
  rw[h3]at this;exact this
theorem zp6(hu:X.A.in1.units+64<cLine):OpR X (compareOp .In) (rInD X.K false):=by
 intro pins s σ H x y v u Q I rx ry h
 obtain⟨p,xs,ds,d,rfl,hq,r1,r2,s1,s2,q⟩:=h
 cases ry
 obtain⟨bs,rb⟩:=r2.reads I rx
 rcases hq with hq|hq
 .obtain⟨its,r,pl,hz⟩:=I.list hq
  obtain⟨as,ra⟩:=r1.reads I r
  refine SeqAt.in_listAt (eqOf its ds d) pl.isList (λw hw=>zb4 hu ra rb s1 s2 w (by simpa using hw)) ⟨.bl _,H,I,rfl,?_⟩
  rw[show its.toArray.any (eqOf its ds d)=its.any (eqOf its ds d) by simp,zcj (zaz ra)]
  exact q
 .obtain⟨its,r,pl,hz⟩:=I.tuple hq
  obtain⟨as,ra⟩:=r1.reads I r
  refine SeqAt.in_tupleAt (eqOf its ds d) pl (λw hw=>zb4 hu ra rb s1 s2 w (by simpa using hw)) ⟨.bl _,H,I,rfl,?_⟩
  rw[show its.toArray.any (eqOf its ds d)=its.any (eqOf its ds d) by simp,zcj (zaz ra)]
  exact q
theorem zi4(hu:X.A.in1.units+64<cLine):OpR X (compareOp .NotIn) (rInD X.K true):=by
 intro pins s σ H x y v u Q I rx ry h
 obtain⟨p,xs,ds,d,rfl,hq,r1,r2,s1,s2,q⟩:=h
 cases ry
 obtain⟨bs,rb⟩:=r2.reads I rx
 rcases hq with hq|hq
 .obtain⟨its,r,pl,hz⟩:=I.list hq
  obtain⟨as,ra⟩:=r1.reads I r
  refine SeqAt.notIn_listAt (eqOf its ds d) pl.isList (λw hw=>zb4 hu ra rb s1 s2 w (by simpa using hw)) ⟨.bl _,H,I,rfl,?_⟩
  rw[show its.toArray.any (eqOf its ds d)=its.any (eqOf its ds d) by simp,zcj (zaz ra)]
  exact q
 .obtain⟨its,r,pl,hz⟩:=I.tuple hq
  obtain⟨as,ra⟩:=r1.reads I r
  refine SeqAt.notIn_tupleAt (eqOf its ds d) pl (λw hw=>zb4 hu ra rb s1 s2 w (by simpa using hw)) ⟨.bl _,H,I,rfl,?_⟩
  rw[show its.toArray.any (eqOf its ds d)=its.any (eqOf its ds d) by simp,zcj (zaz ra)]
  exact q
end
end L2
namespace HT
open PySem PySem.Spec PyProof.Rows
section
variable{prog:Program}{w:World}{A:Around}{E:Value->Shared->Prop}{s:Shared}
theorem getItem_tuple_whole{t sl:Addr}{items:Array Value}{vl vu:Value}{lo hi:Option Int}{Q:Value->Shared->Prop}(ht:IsTup s.heap t items)(hs:s.heap.IsSliceOf sl vl vu .none)(pl:IsPart vl lo)(pu:IsPart vu hi)
 (hw:sIx items.size 0 lo=0/\sIx items.size items.size hi=items.size)
 (h:Q (.ref t) s):wpAny (model prog w) A (getItem (.ref t) (.ref sl)) Q E s:=by
 obtain⟨os,hos,hcs,hds⟩:=id hs
 have hTs:s.TypeIs (.ref sl) "slice":=⟨os,hos,hcs⟩
 unfold getItem
 try with_reducible refine vbd ?_
 first|refine vab (vag ?_)|skip
 refine vab (wpAny_sequenceKey ht.typeIs (by decide) ?_)
 refine vab (vcd (name:=Str.ofString "__getitem__") ht.typeIs va9
  (vb5 va9 ht.typeIs entry_tuple_getitem ?_ (args_tuple_getitem _ _)))
 show wpAny _ _ (Builtin.Tuple.tupleItemsOf (.ref t) >>= _) _ _ s
 refine vab (tupleItemsOf_ ht ?_)
 refine vab (wpAny_typeOf hTs ?_)
 rw[if_pos (by decide)]
 refine vab (zbe hs pl pu ?_)
 have hyes:((((sIx items.size 0 lo:Nat):Int)==0&& (1:Int)==1&& (sIx items.size items.size hi-sIx items.size 0 lo)==items.size)=true):=by
  rw[hw.1,hw.2];simp
 show wpAny _ _ (if(((sIx items.size 0 lo:Nat):Int)==0&& (1:Int)==1&& (sIx items.size items.size hi-sIx items.size 0 lo)==items.size)=true then _ else _) _ _ s
 rw[if_pos hyes]
 unfold Builtin.Tuple.tupleIsExact
 refine vab (vab (wpAny_typeOf ht.typeIs (vag ?_)))
 rw[if_pos (by decide)]
 refine vab (wpAny_rule ?_)
 exact vag ⟨_,rfl,vag h⟩
end
end HT
namespace L2
open PySem PySem.Spec PyProof.Rows
variable{X:Cx}
noncomputable def rSlW(K:PySem.W.Frag):V->Option Int->Option Int->Hp->VK->Prop:=λx lo hi H Q=>∃a xs,x=.ref a/\SqT K H a xs/\
 (HT.sIx xs.length 0 lo=0/\HT.sIx xs.length xs.length hi=xs.length)/\Q (.ref a) H
theorem znl:SlR X (rSlW X.K):=by
 intro pins s σ H x v vl vu lo hi sl Q I rx hs pl pu h
 obtain⟨a,xs,rfl,hx,hw,q⟩:=h
 cases rx
 obtain⟨its,r,ht,hz⟩:=I.tuple hx
 have hlen:its.toArray.size=xs.length:=by rw[vah];exact r.length.symm
 refine⟨"tuple",_,va9.lookup,ht.typeIs,?_⟩
 refine HT.getItem_tuple_whole ht hs pl pu (by rw[hlen];exact hw) ?_
 exact⟨.ref a,_,I,rfl,q⟩
noncomputable def rSlA(K:PySem.W.Frag):V->Option Int->Option Int->Hp->VK->Prop:=λx lo hi H Q=>(rSlT K x lo hi H Q\/rSlW K x lo hi H Q)\/rSlL K x lo hi H Q
theorem zp7:SlR X (rSlA X.K):=(zpw.or znl).or znc
theorem zed{h:Heap}{us:List Value}{ds:List PyData}{as:List Addr}{d e:PyData}{u:Value}{i:Nat}(ra:ReadsAll h us ds as)(s1:ds.all SeqAt.shaped=true)(h1:us[i]?=some u)(h2:ds[i]?=some e):eqOf us ds d u=PyData.eqv e d:=by
 cases q:PyData.eqv e d with
 |true=>exact zbo.mpr ⟨i,e,h1,h2,q⟩
 |false=>
  refine Bool.eq_false_iff.mpr λz=>?_
  obtain⟨j,e',h3,h4,h5⟩:=zbo.mp z
  obtain⟨e1,cs1,g1,g2⟩:=zat ra h1
  obtain⟨e2,cs2,g3,g4⟩:=zat ra h3
  rw[h2]at g1;cases g1
  rw[h4]at g3;cases g3
  have:e=e':=(Reads.unique g2 _ _ g4).1
  subst this
  rw[q]at h5;cases h5
theorem zdm{α β:Type}{p:α->Bool}{q:β->Bool}:∀{us:List α} {ds:List β},us.length=ds.length->(∀(i:Nat) (u:α) (e:β),us[i]?=some u->ds[i]?=some e->p u=q e)->us.countP p=ds.countP q
 |[],[],_,_=>rfl
 |[],_::_,h,_=>by cases h
 |_::_,[],h,_=>by cases h
 |u::us,e::ds,h,k=>by
  rw[List.countP_cons,List.countP_cons,k 0 u e rfl rfl,zdm (us:=us) (ds:=ds) (by simpa using h) λi u e h1 h2=>k (i+1) u e (by simpa using h1) (by simpa using h2)]
theorem zhl{h:Heap}{us:List Value}{ds:List PyData}{as:List Addr}{d:PyData}(ra:ReadsAll h us ds as)(s1:ds.all SeqAt.shaped=true):us.countP (eqOf us ds d)=ds.countP λe=>PyData.eqv e d:=
 zdm (zaz ra) λi u e h1 h2=>zed ra s1 h1 h2
section
variable{X:Cx}
noncomputable def zp8(K:PySem.W.Frag)(tup:Bool):V->List V->Hp->VK->Prop:=λx vs H Q=>∃p xs y ds d,x=.ref p/\vs=[y]/\(if tup then SqT K H p xs else SqL K H p xs)/\Rps K (λ_=>False) H xs ds/\Rp K (λ_=>False) H y d/\ds.all SeqAt.shaped=true/\SeqAt.shaped d=true/\
 Q (.int (ds.countP λe=>PyData.eqv e d:Nat)) H
theorem zi5(hu:X.A.in1.units+64<cLine):MtR X "list.count" (zp8 X.K false):=by
 intro pins s σ H x vs v us Q I rx rv h
 obtain⟨p,xs,y,ds,d,rfl,rfl,hq,r1,r2,s1,s2,q⟩:=h
 cases rx
 obtain⟨u,rfl,ru⟩:=rv.one
 obtain⟨bs,rb⟩:=r2.reads I ru
 simp only[vaf,va1]at hq
 obtain⟨its,r,pl,hz⟩:=I.list hq
 obtain⟨as,ra⟩:=r1.reads I r
 obtain⟨⟨c,dd,dt,sl⟩,n,e1,e2,e4,e3⟩:=pl
 replace e2:c=.type "list":=e2
 replace e3:dt=.seq its.toArray n:=e3
 subst e2 e3
 refine call_meets PySem.F.slot_list_count ⟨_,e1,rfl⟩ PySem.F.entry_list_count (PySem.F.args_list_count_2 _ _) (SeqAt.list_countAt p its.toArray n dd sl u (eqOf its ds d)) ⟨e1,λw hw=>zb4 ?_ ra rb s1 s2 w (by simpa using hw),?_⟩
 .exact hu
 .refine⟨.int _,H,I.tok _,⟨_,rfl⟩,?_⟩
  rw[show its.toArray.toList=its from rfl,zhl ra s1]
  exact q
end
noncomputable def oIs:Option Int->Value->Bool
 |none,.none=>true
 |some i,v=>Value.isInt i v
 |none,_=>false
noncomputable def oHash:Option Int->Int
 |none=>0xFCA86420
 |some i=>hashInt i
theorem zaq:∀{k:Option Int} {v:Value},oIs k v=true->(k=none/\v=.none)\/∃i t,k=some i/\v=.int i t
 |none,v,h=>by cases v<;>first|exact .inl ⟨rfl,rfl⟩|cases h
 |some i,v,h=>by
  obtain⟨t,e⟩:=Value.isInt_shape (k:=i) (v:=v) h
  exact .inr ⟨i,t,rfl,e⟩
theorem zi6{prog:Program}{w:World}{A:Around}{E:Value->Shared->Prop}{s:Shared}{Q:Int->Shared->Prop}(h:Q 0xFCA86420 {s with toks:=s.toks+1}):wpAny (model prog w) A (PySem.pyHash .none) Q E s:=by
 have hT:s.TypeIs .none "NoneType":=rfl
 unfold pyHash
 refine vab (wpAny_cRoomFor_or (.inl rfl) ?_)
 refine vab (vcm hT vco.lookup ?_)
 show wpAny _ _ (if(some (Value.builtin "NoneType.__hash__")==some Value.none)=true then _ else _) Q E s
 rw[if_neg (by rw[beq_builtin_none];exact vao)]
 refine vab (vcm hT vco.lookup ?_)
 show wpAny _ _ (callSpecialIfBoundUnlessNone? .none "__hash__" _ >>= _) Q E s
 refine vab (wpAny_callSpecialIfBoundUnlessNone?_slot hT vco
  (vb5 vco hT F.entry_NoneType_hash
    (show wpAny _ _ (do ret (<-mkInt 0xFCA86420)) _ _ s from wpAny_ret_mkInt ?_) (F.args_NoneType_hash_1 _)))
 show wpAny _ _ (if(decide (-(2:Int) ^ 63<=0xFCA86420)&&decide ((0xFCA86420:Int)<2 ^ 63))=true then _ else _) Q E _
 rw[if_pos (by decide)]
 exact vag h
noncomputable def oKind(prog:Program)(w:World):KeyKind prog w (Option Int)where
 is:=oIs
 hash:=oHash
 inj:=λv a b ha hb=>by
  rcases zaq ha with⟨rfl,rfl⟩|⟨i,t,rfl,rfl⟩
  .rcases zaq hb with⟨rfl,_⟩|⟨j,u,rfl,e⟩
   .rfl
   .cases e
  .rcases zaq hb with⟨rfl,e⟩|⟨j,u,rfl,e⟩
   .cases e
   .cases e;rfl
 byValue:=λk v h=>by
  rcases zaq h with⟨rfl,rfl⟩|⟨i,t,rfl,rfl⟩<;>rfl
 pyHash:=λhv h=>by
  rcases zaq hv with⟨rfl,rfl⟩|⟨i,t,rfl,rfl⟩
  .exact zi6 h
  .exact wpAny_pyHash_int h
 eqBool:=λ{A E s a b u v Q} hu hv h=>by
  rcases zaq hu with⟨rfl,rfl⟩|⟨i,t,rfl,rfl⟩
  .rcases zaq hv with⟨rfl,rfl⟩|⟨j,u,rfl,rfl⟩
   .exact SeqAt.EqAt.same (A:=A) (s:=s) .none prog w E Q (by simpa using h)
   .exact SeqAt.EqAt.none_int (A:=A) (s:=s) j u prog w E Q (by simpa using h)
  .rcases zaq hv with⟨rfl,rfl⟩|⟨j,u,rfl,rfl⟩
   .exact SeqAt.EqAt.int_none (A:=A) (s:=s) i t prog w E Q (by simpa using h)
   .refine wpAny_eqBool_int ?_
    by_cases e:i=j
    .subst e;simpa using h
    .have e':(i==j)=false:=by simpa using e
     rw[e'];simpa[e]using h
 «strs»:=λk x t v h=>by
  rcases zaq h with⟨_,e⟩|⟨i,t,_,e⟩<;>cases e
noncomputable abbrev DK:=List Int×Option Int
section
variable(prog:Program)(w:World)
noncomputable def IsDK(h:Heap)(k:DK)(a:Addr):Prop:=∃o n b v,h.get? a=some o/\o.cls=.type "tuple"/\o.data=.seq #[.ref b,v] n/\IsTupleKey (intKind prog w) h k.1 b/\oIs k.2 v=true
noncomputable def zi7(k:DK):Int:=reduceHash (Builtin.Tuple.tupleHashOf [tupleKeyHash (intKind prog w) k.1,oHash k.2])
variable{prog w}
theorem IsDK.typeIs{s:Shared}{k:DK}{a:Addr}(x:IsDK prog w s.heap k a):s.TypeIs (.ref a) "tuple":=let⟨o,_,_,_,ho,hc,_⟩:=x;⟨o,ho,hc⟩
theorem IsDK.inj{h:Heap}{a:Addr}{x y:DK}(hx:IsDK prog w h x a)(hy:IsDK prog w h y a):x=y:=by
 obtain⟨o,n,b,v,ho,_,hd,hi,hv⟩:=hx
 obtain⟨o',n',b',v',ho',_,hd',hi',hv'⟩:=hy
 obtain rfl:o=o':=va6 (ho.symm.trans ho')
 rw[hd]at hd'
 injection hd' with h1 _
 have h2:=vcx Array.toList h1
 simp only[List.cons.injEq,and_true,Value.ref.injEq]at h2
 obtain⟨rfl,rfl⟩:=h2
 exact Prod.ext (hi.inj hi') ((oKind prog w).inj _ _ _ hv hv')
theorem IsDK.keeps{h h':Heap}{k:DK}{a d:Addr}{o:Obj}{es ep}(x:IsDK prog w h k a)(ho:h.get? d=some o)(hd:o.data=.dict es ep)(hs:Heap.SameBut d h h'):IsDK prog w h' k a:=by
 obtain⟨o',n,b,v,ho',hc,hd',hi,hv⟩:=x
 have hne:a≠d:=by
  rintro rfl
  obtain rfl:o'=o:=va6 (ho'.symm.trans ho)
  rw[hd]at hd';exact nomatch hd'
 exact⟨o',n,b,v,(hs.2 a hne).trans ho',hc,hd',hi.keeps ho hd hs,hv⟩
variable{A:Around}{E:Value->Shared->Prop}{s:Shared}
theorem zi8{k:DK}{a:Addr}{Q:Int->Shared->Prop}(hu:A.units+1<cLine)(hk:IsDK prog w s.heap k a)(h:Q (zi7 prog w k) {s with toks:=s.toks+ (k.1.length+3)}) :
 wpAny (model prog w) A (pyHash (.ref a)) Q E s:=by
 have hT:=hk.typeIs
 obtain⟨o,n,b,v,ho,_,hd,hi,hv⟩:=hk
 unfold pyHash
 refine vab (wpAny_cRoomFor_or (.inr (by omega)) ?_)
 refine vab (vcm hT F.slot_tuple_hash.lookup ?_)
 show wpAny _ _ (if(some (Value.builtin "tuple.__hash__")==some Value.none)=true then _ else _) Q E s
 rw[if_neg (by rw[beq_builtin_none];exact vao)]
 refine vab (vcm hT F.slot_tuple_hash.lookup ?_)
 show wpAny _ _ (callSpecialIfBoundUnlessNone? (.ref a) "__hash__" _ >>= _) Q E s
 refine vab (wpAny_callSpecialIfBoundUnlessNone?_slot hT F.slot_tuple_hash (vb5 F.slot_tuple_hash hT F.entry_tuple_hash ?_ (F.args_tuple_hash_1 _)))
 show wpAny _ _ (Builtin.Tuple.tupleItemsOf (.ref a) >>= _) _ _ s
 refine vab (wpAny_tupleItemsOf ho hd ?_)
 refine vab ?_
 rw[<-Array.forIn_toList]
 refine wpAny_forIn_list _
  (λrest (acc:Array Int) s'=>(rest=[.ref b,v]/\acc.toList=[]/\s'=s)\/(rest=[v]/\acc.toList=[tupleKeyHash (intKind prog w) k.1]/\s' ={s with toks:=s.toks+ (k.1.length+1)})\/(rest=[]/\acc.toList=[tupleKeyHash (intKind prog w) k.1,oHash k.2]/\s' ={s with toks:=s.toks+ (k.1.length+1)+1}))
  _ ?_ ?_ _ _ (.inl ⟨rfl,rfl,rfl⟩)
 .rintro x rest acc s' (⟨e,ha,rfl⟩|⟨e,ha,rfl⟩|⟨e,_⟩)
  .cases e
   refine vab (wpAny_pyHash_tuple hu hi ?_)
   first
    |exact vag (.inr (.inl ⟨rfl,by simp[ha],rfl⟩))
    |exact vab (vag (vag (.inr (.inl ⟨rfl,by simp[ha],rfl⟩))))
  .cases e
   refine vab ((oKind prog w).pyHash (k:=k.2) hv ?_)
   first
    |exact vag (.inr (.inr ⟨rfl,by simp[ha];rfl,rfl⟩))
    |exact vab (vag (vag (.inr (.inr ⟨rfl,by simp[ha];rfl,rfl⟩))))
  .cases e
 .rintro acc s' (⟨e,_⟩|⟨e,_⟩|⟨_,ha,rfl⟩)
  .cases e
  .cases e
  .show wpAny _ _ (retInt (Builtin.Tuple.tupleHashOf acc.toList)) _ _ _
   rw[ha]
   refine wpAny_ret_mkInt ?_
   show wpAny _ _ (if(decide (-(2:Int) ^ 63<=Builtin.Tuple.tupleHashOf [tupleKeyHash (intKind prog w) k.1,oHash k.2])&&decide (Builtin.Tuple.tupleHashOf [tupleKeyHash (intKind prog w) k.1,oHash k.2]<2 ^ 63))=true then _ else _) Q E _
   unfold zi7 reduceHash at h
   by_cases hr:(decide (-(2:Int) ^ 63<=Builtin.Tuple.tupleHashOf [tupleKeyHash (intKind prog w) k.1,oHash k.2])&&decide (Builtin.Tuple.tupleHashOf [tupleKeyHash (intKind prog w) k.1,oHash k.2]<2 ^ 63))=true
   .rw[if_pos hr]
    rw[if_pos hr]at h
    exact vag (by simpa[Nat.add_assoc]using h)
   .rw[if_neg hr]
    rw[if_neg hr]at h
    exact vab (wpAny_rule (vag (by simpa[Nat.add_assoc]using h)))
theorem zhm{x y:DK}{a b:Addr}{P:Fin->Shared->Prop}(hu:A.units<cLine)(hx:IsDK prog w s.heap x a)(hy:IsDK prog w s.heap y b)(h:P (.done (.ret (.bool (decide (x=y))))) s) :
 wpAny (model prog w) A (Builtin.«tuple.__eq__» ⟨[.ref a,.ref b],[]⟩) P E s:=by
 have hTb:=hy.typeIs
 obtain⟨oa,na,a1,v1,hoa,_,hda,hia,hva⟩:=hx
 obtain⟨ob,nb,b1,v2,hob,_,hdb,hib,hvb⟩:=hy
 show wpAny _ _ (isInstance (.ref b) (.type "tuple") >>= _) _ _ s
 refine vab (wpAny_isInstance hTb isSubtype_tuple_tuple ?_)
 simp only[vbf,vaf,va1]
 refine vab (wpAny_tupleItemsOf hoa hda ?_)
 refine vab (wpAny_tupleItemsOf hob hdb ?_)
 refine vab ?_
 refine wpAny_forIn_list _
  (λrest r s'=>r.1=none/\s'=s/\((rest=[(Value.ref a1,Value.ref b1),(v1,v2)])\/(rest=[(v1,v2)]/\x.1=y.1)\/(rest=[]/\x=y)))
  _ ?_ ?_ _ _ ⟨rfl,rfl,.inl rfl⟩
 .rintro⟨u,v⟩ rest r s' ⟨hr,rfl,e|⟨e,hxy⟩|⟨e,_⟩⟩
  .cases e
   refine vab (wpAny_eqBool_tuple hu hia hib ?_)
   by_cases hk:x.1=y.1
   .rw[vb8 hk]
    simp only[vbf,vaf,va1]
    exact vag ⟨rfl,rfl,.inr (.inl ⟨(by first|rfl|trivial),hk⟩)⟩
   .rw[vaw hk]
    simp only[Bool.not_false,vbb]
    have hf:decide (x=y)=false:=vaw λz=>hk (by rw[z])
    rw[hf]at h
    exact vab (vag (vag (vag h)))
  .cases e
   refine vab ((oKind prog w).eqBool (a:=x.2) (b:=y.2) hva hvb ?_)
   by_cases hk:x.2=y.2
   .rw[vb8 hk]
    simp only[vbf,vaf,va1]
    exact vag ⟨rfl,rfl,.inr (.inr ⟨(by first|rfl|trivial),Prod.ext hxy hk⟩)⟩
   .rw[vaw hk]
    simp only[Bool.not_false,vbb]
    have hf:decide (x=y)=false:=vaw λz=>hk (by rw[z])
    rw[hf]at h
    exact vab (vag (vag (vag h)))
  .cases e
 .rintro⟨r1,r2⟩ s' ⟨hr,rfl,e|⟨e,_⟩|⟨_,e⟩⟩
  .cases e
  .cases e
  .simp only at hr
   subst hr
   refine vag ?_
   rw[vb8 e]at h
   exact h
theorem zi9{x y:DK}{a b:Addr}{Q:Bool->Shared->Prop}(hu:A.units+1<cLine)(hx:IsDK prog w s.heap x a)(hy:IsDK prog w s.heap y b)(h:Q (decide (x=y)) s) :
 wpAny (model prog w) A (eqBool (.ref a) (.ref b)) Q E s:=by
 unfold eqBool
 try with_reducible refine vbd ?_
 show wpAny _ _ (if(Value.ref a==Value.ref b)=true then _ else _) Q E s
 by_cases hab:(Value.ref a==Value.ref b)=true
 .rw[if_pos hab]
  have e:a=b:=by have:=eq_of_beq hab;injection this
  subst e
  obtain rfl:=hx.inj hy
  exact vab (wpAny_rule (vag (by simpa using h)))
 .rw[if_neg hab]
  exact vab (wpAny_richCompare_same_room (op:=.Eq) hx.typeIs hy.typeIs F.slot_tuple_eq
   (vb5 F.slot_tuple_eq hx.typeIs F.entry_tuple_eq (zhm hu hx hy ⟨_,rfl,(λe=>nomatch e),vbe h⟩) (F.args_tuple_eq_2 _ _)) (by omega))
theorem zf6{n:Nat}{ks:List Int}{a:Addr}{Q:Bool->Shared->Prop}(hk:IsTupleKey (intKind prog w) s.heap ks a)(h:Q true s):wpAny (model prog w) A (eqIsQuiet (n+1) (.ref a)) Q E s:=by
 have hT:=hk.typeIs
 obtain⟨o,items,m,ho,_,hd,hi⟩:=hk
 unfold eqIsQuiet
 refine vab (vcm hT F.slot_tuple_eq.lookup ?_)
 show wpAny _ _ (isInstance (.ref a) (.type "tuple") >>= _) _ _ s
 refine vab (wpAny_isInstance hT isSubtype_tuple_tuple ?_)
 simp only[vbf,vaf,va1]
 refine vab (wpAny_seqItems ho hd ?_)
 refine vab ?_
 show wpAny _ _ (forIn items _ _) _ _ s
 rw[<-Array.forIn_toList]
 refine wpAny_forIn_list _ (λrest r s'=>r.1=none/\s'=s/\∀v∈rest,carriedByValue v=true) _ ?_ ?_ _ _ ⟨rfl,rfl,hi.byValue⟩
 .rintro v rest r s' ⟨hr,rfl,hall⟩
  rw[eqIsQuiet_byValue _ (hall v vaz)]
  refine vab (vag ?_)
  simp only[vbf,vaf,va1]
  exact vag ⟨rfl,rfl,λu hu'=>hall u (van _ hu')⟩
 .rintro⟨r1,r2⟩ s' ⟨hr,rfl,_⟩
  simp only at hr
  subst hr
  exact vag h
theorem zk0{k:DK}{a:Addr}{Q:Bool->Shared->Prop}(hk:IsDK prog w s.heap k a)(h:Q true s):wpAny (model prog w) A (eqIsQuiet 8 (.ref a)) Q E s:=by
 have hT:=hk.typeIs
 obtain⟨o,n,b,v,ho,_,hd,hi,hv⟩:=hk
 unfold eqIsQuiet
 refine vab (vcm hT F.slot_tuple_eq.lookup ?_)
 show wpAny _ _ (isInstance (.ref a) (.type "tuple") >>= _) _ _ s
 refine vab (wpAny_isInstance hT isSubtype_tuple_tuple ?_)
 simp only[vbf,vaf,va1]
 refine vab (wpAny_seqItems ho hd ?_)
 refine vab ?_
 show wpAny _ _ (forIn #[.ref b,v] _ _) _ _ s
 rw[<-Array.forIn_toList]
 refine wpAny_forIn_list _ (λrest r s'=>r.1=none/\s'=s/\(rest=[.ref b,v]\/rest=[v]\/rest=[])) _ ?_ ?_ _ _ ⟨rfl,rfl,.inl rfl⟩
 .rintro u rest r s' ⟨hr,rfl,e|e|e⟩
  .cases e
   refine vab (zf6 hi ?_)
   simp only[vbf,vaf,va1]
   exact vag ⟨rfl,rfl,.inr (.inl (by first|rfl|trivial))⟩
  .cases e
   rw[eqIsQuiet_byValue _ ((oKind prog w).byValue _ _ hv)]
   refine vab (vag ?_)
   simp only[vbf,vaf,va1]
   exact vag ⟨rfl,rfl,.inr (.inr (by first|rfl|trivial))⟩
  .cases e
 .rintro⟨r1,r2⟩ s' ⟨hr,rfl,_⟩
  simp only at hr
  subst hr
  exact vag h
end
noncomputable def dKind(prog:Program)(w:World):HeapKind prog w DK where
 is:=IsDK prog w
 hash:=zi7 prog w
 draws:=λk=>k.1.length+3
 room:=λA=>A.units+1<cLine
 inj:=λhx hy=>hx.inj hy
 keeps:=λx ho hd hs=>x.keeps ho hd hs
 pyHash:=λhu hk h=>zi8 hu hk h
 eqBool:=λhu hx hy h=>zi9 hu hx hy h
 quiet:=λhk h=>zk0 hk h
noncomputable def dkh(k:DK):Int:=reduceHash (Builtin.Tuple.tupleHashOf [reduceHash (Builtin.Tuple.tupleHashOf (k.1.map hashInt)),oHash k.2])
noncomputable def ovV:Option Int->V
 |none=>.non
 |some i=>.int i
noncomputable abbrev DX:=List (DK×Addr×V)
noncomputable abbrev dtP(xs:DX)(us:List (DK×Addr×Value)):Prop:=Paired (λ(p:DK×Addr×V) (q:DK×Addr×Value)=>p.1=q.1/\p.2.1=q.2.1/\RelV p.2.2 q.2.2) xs us
noncomputable def dtF(xs:DX)(a:Addr)(h:Heap):Prop:=xs.length<=sizeLine/\(a==sysModules)=false/\(xs.map (·.1)).Nodup/\∃us,dtP xs us/\∃o es ep,h.get? a=some o/\o.ExactDict/\o.data=.dict es ep/\es.toList=us.map λx=>⟨dkh x.1,.ref x.2.1,x.2.2⟩
noncomputable def dtH(xs:DX)(a:Addr):HO:=.ext (dtF xs a)
theorem zl1{P:Program}{w:World}{H:Hp}{h:Heap}{a:Addr}{xs:DX}(e:dtF xs a h):ObjOk P w H h a (dtH xs a):=by
 refine⟨e,?_,?_⟩
 .obtain⟨_,_,_,us,_,o,_,_,h1,_⟩:=e
  exact⟨o,h1⟩
 .rintro h1 h2 ⟨a1,a2,a3,us,a4,o,es,ep,b1,b2⟩ k
  exact⟨a1,a2,a3,us,a4,o,es,ep,k o b1,b2⟩
theorem zl2{P:Program}{w:World}{H:Hp}{h:Heap}{a:Addr}{xs:DX}(ok:HOk P w H h)(e:H a=some (dtH xs a)):dtF xs a h:=(ok a _ e).1
noncomputable def KeyAt(K:PySem.W.Frag)(H:Hp)(k:DK)(b:Addr):Prop:=∃c,SqT K H b [.ref c,ovV k.2]/\SqT K H c (k.1.map .int)
noncomputable def DT(K:PySem.W.Frag)(H:Hp)(a:Addr)(xs:DX):Prop:=(H a=some (dtH xs a)/\∀p∈xs,KeyAt K H p.1 p.2.1)\/(xs=[]/\Rd H a (.dK []))
noncomputable def findX(xs:DX)(k:DK):Option (Addr×V):=(xs.find? λx=>decide (x.1=k)).map (·.2)
noncomputable def putX(xs:DX)(k:DK)(b:Addr)(v:V):DX:=if(findX xs k).isSome then xs.map (λx=>if x.1=k then(x.1,x.2.1,v)else x)else xs++[(k,b,v)]
theorem zck{xs:DX}{us:List (DK×Addr×Value)}(r:dtP xs us)(k:DK):(findX xs k=none/\atKey us k=none)\/∃p q,findX xs k=some p/\atKey us k=some q/\RelV p.2 q.2:=by
 induction r with
 |nil=>exact .inl ⟨rfl,rfl⟩
 | @cons p q ps qs h t ih=>
  obtain⟨h1,h2,h3⟩:=h
  by_cases e:p.1=k
  .refine .inr ⟨p.2,q.2,?_,?_,h3⟩
   .simp[findX,va4,e]
   .simp[atKey,va4,h1.symm.trans e]
  .have e':¬q.1=k:=λz=>e (h1.trans z)
   have b1:findX (p::ps) k=findX ps k:=by simp[findX,va4,e]
   have b2:atKey (q::qs) k=atKey qs k:=by simp[atKey,va4,e']
   rw[b1,b2];exact ih
theorem znm{xs:DX}{us:List (DK×Addr×Value)}(r:dtP xs us)(k:DK)(b:Addr){v:V}{u:Value}(rv:RelV v u):dtP (putX xs k b v) (storedH us k b u):=by
 unfold putX storedH
 have e:(findX xs k).isSome=(atKey us k).isSome:=by
  rcases zck r k with⟨h1,h2⟩|⟨p,q,h1,h2,_⟩<;> (rw[h1,h2];rfl)
 rw[e]
 by_cases z:(atKey us k).isSome=true
 .rw[if_pos z,if_pos z]
  clear e z
  induction r with
  |nil=>exact .nil
  | @cons p q ps qs h t ih=>
   rw[vaj,vaj]
   refine .cons ?_ ih
   obtain⟨h1,h2,h3⟩:=h
   unfold putAt
   by_cases e:p.1=k
   .rw[if_pos e,if_pos (h1.symm.trans e)];exact⟨h1,h2,rv⟩
   .rw[if_neg e,if_neg (λz=>e (h1.trans z))];exact⟨h1,h2,h3⟩
 .rw[if_neg z,if_neg z]
  exact Paired.snoc r ⟨rfl,rfl,rv⟩
theorem znn(xs:DX)(k:DK)(b:Addr)(v:V):(putX xs k b v).length<=xs.length+1:=by
 unfold putX
 split
 .rw[vap];omega
 .rw[vat];exact vad _
section
variable{X:Cx}{pins:List (Addr×Obj)}{σ:St}{H:Hp}{s:Shared}{a b:Addr}{k:DK}{xs:DX}{v:V}{r:Value}{A:Around}{E:Value->Shared->Prop}
theorem zgs:∀{ls:List Int} {us:List Value},Vals (ls.map .int) us->ItemsAre (intKind X.prog X.w) ls us
 |[],_,.nil=>.nil
 |x::ls,_,.cons h t=>by
  obtain⟨t',rfl⟩:=h
  exact .cons (by show Value.isInt x (.int x t')=true;simp[Value.isInt]) (zgs t)
theorem KeyAt.is(I:Inv X pins σ H s)(h:KeyAt X.K H k b):IsDK X.prog X.w s.heap k b:=by
 obtain⟨c,h1,h2⟩:=h
 obtain⟨its,r1,⟨o,e1,e2,n,e3⟩,_⟩:=I.tuple h1
 obtain⟨its2,r2,⟨o2,f1,f2,n2,f3⟩,_⟩:=I.tuple h2
 cases r1 with
 | @cons _ u0 _ us0 q1 q2=>
  cases q2 with
  | @cons _ u1 _ us1 q3 q4=>
   cases q4
   have q1:u0=.ref c:=q1
   subst q1
   refine⟨o,n,c,u1,e1,e2,e3,⟨o2,its2.toArray,n2,f1,f2,f3,zgs r2⟩,?_⟩
   cases z:k.2 with
   |none=>rw[z]at q3;cases q3;rfl
   |some i=>rw[z]at q3;obtain⟨t,rfl⟩:=q3;show Value.isInt i (.int i t)=true;simp[Value.isInt]
theorem DT.dict(I:Inv X pins σ H s)(h:DT X.K H a xs):xs.length<=sizeLine/\(a==sysModules)=false/\∃us,dtP xs us/\s.heap.DictOfH (dKind X.prog X.w) a us:=by
 rcases h with⟨e,hk⟩|⟨rfl,e⟩
 .obtain⟨a1,a2,a3,us,a4,o,es,ep,b1,b2,b3,b4⟩:=zl2 I.hok e
  refine⟨a1,a2,us,a4,o,es,ep,b1,b2,b3,b4,?_,?_⟩
  .intro x hx
   have:∃p∈xs,p.1=x.1/\p.2.1=x.2.1:=by
    clear a1 a3 b4 hk e
    induction a4 with
    |nil=>cases hx
    | @cons p q ps qs h t ih=>
     rcases va5.mp hx with rfl|hx
     .exact⟨p,vaz,h.1,h.2.1⟩
     .obtain⟨p',h1,h2⟩:=ih hx
      exact⟨p',van _ h1,h2⟩
   obtain⟨p,hp,h1,h2⟩:=this
   have:=KeyAt.is I (hk p hp)
   rw[h1,h2]at this
   exact this
  .have:us.map (·.1)=xs.map (·.1):=by
    clear a1 a3 b4 hk e
    induction a4 with
    |nil=>rfl
    | @cons p q ps qs h t ih=>rw[vaj,vaj,ih,h.1]
   rw[this];exact a3
 .obtain⟨z,y,vs,r,o,es,ep,b1,b2,b3,b4,b5,b6⟩:=dk_rd I.hok e
  cases r
  refine⟨vct _,y,[],.nil,o,es,ep,b1,b2,b3,?_,(λx hx=>nomatch hx),List.nodup_nil⟩
  generalize es.toList=l at b5 ⊢
  cases b5
  rfl
theorem zp9{Q:Value->Shared->Prop}{p:Addr×V}(hu:A.units+2<cLine)(I:Inv X pins σ H s)(d:DT X.K H a xs)(kk:KeyAt X.K H k b)(g:findX xs k=some p)(h:∀w' s',Inv X pins σ H s'->RelV p.2 w'->Q w' s') :
 wpAny (model X.prog X.w) A (getItem (.ref a) (.ref b)) Q E s:=by
 obtain⟨_,_,us,r,dd⟩:=d.dict I
 rcases zck r k with⟨h1,_⟩|⟨p',q,h1,h2,h3⟩
 .rw[g]at h1;cases h1
 .rw[g]at h1;cases h1
  exact wpAny_getItem_heap (knd:=dKind X.prog X.w) (by show A.in1.units+1<cLine;exact hu) (kk.is I) dd h2 (h _ _ (I.tok _) h3)
theorem dt_in{Q:Value->Shared->Prop}(hu:A.units+2<cLine)(I:Inv X pins σ H s)(d:DT X.K H a xs)(kk:KeyAt X.K H k b)(h:∀s',Inv X pins σ H s'->Q (.bool (findX xs k).isSome) s') :
 wpAny (model X.prog X.w) A (compareOp .In (.ref b) (.ref a)) Q E s:=by
 obtain⟨_,y,us,r,dd⟩:=d.dict I
 have e:(findX xs k).isSome=(atKey us k).isSome:=by
  rcases zck r k with⟨h1,h2⟩|⟨p,q,h1,h2,_⟩<;> (rw[h1,h2];rfl)
 refine wpAny_in_heap (knd:=dKind X.prog X.w) (by show A.in1.units+1<cLine;exact hu) (kk.is I) y dd ?_
 rw[<-e]
 exact h _ (I.tok _)
theorem zk1{Q:Value->Shared->Prop}(hu:A.units+2<cLine)(I:Inv X pins σ H s)(d:DT X.K H a xs)(kk:KeyAt X.K H k b)(h:∀s',Inv X pins σ H s'->Q (.bool (!(findX xs k).isSome)) s') :
 wpAny (model X.prog X.w) A (compareOp .NotIn (.ref b) (.ref a)) Q E s:=by
 obtain⟨_,y,us,r,dd⟩:=d.dict I
 have e:(findX xs k).isSome=(atKey us k).isSome:=by
  rcases zck r k with⟨h1,h2⟩|⟨p,q,h1,h2,_⟩<;> (rw[h1,h2];rfl)
 refine wpAny_notIn_heap (knd:=dKind X.prog X.w) (by show A.in1.units+1<cLine;exact hu) (kk.is I) y dd ?_
 rw[<-e]
 exact h _ (I.tok _)
theorem zqa{Q:Unit->Shared->Prop}(hu:A.units+2<cLine)(I:Inv X pins σ H s)(d:DT X.K H a xs)(mu:Mut (H a))(kk:KeyAt X.K H k b)(hz:xs.length<sizeLine)(rv:RelV v r)(h:∀s',Inv X pins σ (upd H a (dtH (putX xs k b v) a)) s'->Q () s') :
 wpAny (model X.prog X.w) A (setItem (.ref a) (.ref b) r) Q E s:=by
 obtain⟨_,y,us,rl,dd⟩:=d.dict I
 refine wpAny_setItem_heap (knd:=dKind X.prog X.w) (hsz:=by rw[<-Paired.length rl];omega) (by show A.in1.units+1<cLine;exact hu) (kk.is I) dd λh' dd' hs=>h _ ?_
 obtain⟨q,es,ep,hq,h2,h3,h4,_,h5⟩:=dd'
 have pr:=znm rl k b rv
 refine zf4 I mu hs ⟨q,hq⟩ (zl1 ⟨?_,y,?_,_,pr,q,es,ep,hq,h2,h3,h4⟩)
 .have:=znn xs k b v;omega
 .have:(putX xs k b v).map (·.1)=(storedH us k b r).map (·.1):=by
   generalize putX xs k b v=ys at pr
   generalize storedH us k b r=zs at pr
   clear h4 h5
   induction pr with
   |nil=>rfl
   | @cons p q ps qs h t ih=>rw[vaj,vaj,ih,h.1]
  rw[this];exact h5
end
end L2
namespace L2
open PySem PySem.Spec PyProof.Rows PySem.W
open AutoSeq1 (wpAny_loadPart')
noncomputable def DE(h:Heap)(d:Addr)(es:Array DictEntry)(ep:Nat):Prop:=∃o,h.get? d=some o/\o.ExactDict/\o.data=.dict es ep
theorem DE.ty{s:Shared}{d:Addr}{es:Array DictEntry}{ep:Nat}(x:DE s.heap d es ep):s.TypeIs (.ref d) "dict":=let⟨o,a,b,_⟩:=x;⟨o,a,b.1⟩
end L2
namespace L2
open PySem PySem.Spec PyProof.Rows PySem.W
section
variable{X:Cx}{pins:List (Addr×Obj)}{σ:St}{H:Hp}{s:Shared}{a b:Addr}{k:DK}{xs:DX}
theorem DT.de(I:Inv X pins σ H s)(h:DT X.K H a xs):∃(es:Array DictEntry) (ep:Nat),DE s.heap a es ep/\es.size=xs.length/\∀(i:Nat) (p:DK×Addr×V),xs[i]?=some p->∃e:DictEntry,es[i]?=some e/\e.key=Value.ref p.2.1:=by
 obtain⟨g1,_,us,r,o,es,ep,b1,b2,b3,b4,g2⟩:=h.dict I
 clear h g1 g2
 refine⟨es,ep,⟨o,b1,b2,b3⟩,?_,λi p hp=>?_⟩
 .rw[<-vcs,b4,vap,Paired.length r]
 .have:∃q,us[i]?=some q/\p.2.1=q.2.1:=by
   clear b4
   revert i
   induction r with
   |nil=>intro i hp;simp at hp
   | @cons p0 q0 ps qs h t ih=>
    intro i hp
    cases i with
    |zero=>simp at hp;subst hp;exact⟨q0,rfl,h.2.1⟩
    |succ i=>exact ih i (by simpa using hp)
  obtain⟨q,h1,h2⟩:=this
  refine⟨⟨dkh q.1,.ref q.2.1,q.2.2⟩,?_,by rw[h2]⟩
  rw[<-Array.getElem?_toList,b4,vbn,h1];rfl
noncomputable def rInX(K:PySem.W.Frag)(neg:Bool):R2:=λx y H Q=>∃a b xs k,y=.ref a/\x=.ref b/\DT K H a xs/\KeyAt K H k b/\Q (.bl (if neg then !(findX xs k).isSome else(findX xs k).isSome)) H
theorem zqb(hu:X.A.units+2<cLine):OpR X (compareOp .In) (rInX X.K false):=by
 intro pins s σ H x y v u Q I rx ry h
 obtain⟨a,b,xs,k,rfl,rfl,d,kk,q⟩:=h
 cases rx;cases ry
 exact dt_in hu I d kk λs' I'=>⟨.bl _,H,I',rfl,q⟩
theorem zja(hu:X.A.units+2<cLine):OpR X (compareOp .NotIn) (rInX X.K true):=by
 intro pins s σ H x y v u Q I rx ry h
 obtain⟨a,b,xs,k,rfl,rfl,d,kk,q⟩:=h
 cases rx;cases ry
 exact zk1 hu I d kk λs' I'=>⟨.bl _,H,I',rfl,q⟩
theorem DT.typeIs(I:Inv X pins σ H s)(h:DT X.K H a xs):s.TypeIs (.ref a) "dict":=let⟨_,_,d,_⟩:=h.de I;d.ty
noncomputable def rIxX(K:PySem.W.Frag):R2:=λx y H Q=>∃a b xs k p,x=.ref a/\y=.ref b/\DT K H a xs/\KeyAt K H k b/\findX xs k=some p/\Q p.2 H
theorem ix_dt(hu:X.A.units+2<cLine):IxR X (rIxX X.K):=by
 intro value slice pins s σ H x y v u Q I rx ry q hs
 obtain⟨a,b,xs,k,p,rfl,rfl,d,kk,g,q⟩:=q
 cases rx;cases ry
 exact tail_any (d.typeIs I) PySem.F.slot_dict_getitem.lookup (zp9 hu I d kk g λw' s3 I3 rw'=>⟨p.2,H,I3,rw',q⟩) hs
noncomputable def rSetX(K:PySem.W.Frag):V->V->V->Hp->(Hp->Prop)->Prop:=λo i v H Q=>∃a b xs k,o=.ref a/\i=.ref b/\DT K H a xs/\Mut (H a)/\KeyAt K H k b/\xs.length<sizeLine/\Q (upd H a (dtH (putX xs k b v) a))
theorem zqc(hu:X.A.units+2<cLine):PSet X (rSetX X.K):=by
 intro pins s σ H o i v ov iv u Q I ro ri rv h
 obtain⟨a,b,xs,k,rfl,rfl,d,mu,kk,hz,q⟩:=h
 cases ro;cases ri
 exact zqa hu I d mu kk hz rv λs' I'=>⟨_,I',q⟩
theorem PSet.or{t t':V->V->V->Hp->(Hp->Prop)->Prop}(h:PSet X t)(h':PSet X t'):PSet X (λo i v H Q=>t o i v H Q\/t' o i v H Q):=by
 intro pins s σ H o i v ov iv u Q I ro ri rv q
 rcases q with q|q
 .exact h pins s σ H o i v ov iv u Q I ro ri rv q
 .exact h' pins s σ H o i v ov iv u Q I ro ri rv q
noncomputable def zqd(K:PySem.W.Frag)(trs:List (TE×TE)):TE:=λσ H Q=>∀p,H p=none->zgr trs σ (upd H p (.dK [])) λps H2=>H2 p=some (.dK [])/\((∃kvs:List (Key×V),ps=kvs.map (λkv=>(kV kv.1,kv.2))/\kvs.length<=15/\Q (.ref p) (upd H2 p (.dK (zcc [] kvs))))\/
 ∃b k v,ps=[(.ref b,v)]/\KeyAt K H2 k b/\Q (.ref p) (upd H2 p (dtH [(k,b,v)] p)))
theorem zk2{pos:Pos}{keys:List (Option Expr)}{values:List Expr}{trs:List (TE×TE)}(hu:X.A.units+2<cLine)(h:PPs X pos keys values trs)(hall:keys.all (·.isSome)=true)(hl:keys.length=values.length)(h0:keys≠[])
 (h15:keys.length<=15):PE X (.Dict keys values pos) (zqd X.K trs):=by
 intro pins s σ H Q I q
 have hn:=I.hok.fresh (vad s.heap.objs.size)
 have I1:=I.laid (a:=s.heap.objs.size) (o:=.dK []) (h':=s.heap.push {cls:=.type "dict",data:=.dict #[]}) (t':=s.toks) (λ_ _ q=>vac _ q) (vad _) (zgq s.heap I.big)
 refine wpAny_Dict_any hall hl h0 h15 (thn (h pins _ σ _ _ I1 (q _ hn)) λws s2 hq0=>?_)
 obtain⟨ps,H2,I2,rel,e,q2⟩:=hq0
 unfold storeAll
 rcases q2 with⟨kvs,ep,lk,q2⟩|⟨b,k,v,ep,kk,q2⟩
 .subst ep
  obtain⟨rs,c,rk⟩:=zdl (P:=X.prog) (w:=X.w) rel
  obtain⟨z,hd,vs0,r0,dd⟩:=dk_of I2.hok e
  cases r0
  have hr:rs.length=kvs.length:=(Paired.length rk).symm
  refine wpAny_storeAll (knd:=zam X.prog X.w) ws rs [] s2 _ c dd (by rw[vc0,vc4];omega) λh' dd' hs=>⟨.ref s.heap.objs.size,_,?_,rfl,q2⟩
  have hz:(zcc [] kvs).length<=sizeLine:=by
   have h1:=zbz kvs []
   rw[vc0]at h1
   rw[vc4];omega
  have he:∃q,h'.get? s.heap.objs.size=some q:=let⟨q,_,_,hq,_⟩:=dd';⟨q,hq⟩
  exact zf4 I2 (by rw[e];exact True.intro) hs he (zp4 hz hd (rk.merge .nil) dd')
 .subst ep
  cases rel with
  | @cons p0 w0 ps0 ws0 rp rr=>
   cases rr
   obtain⟨w1,w2⟩:=w0
   obtain⟨r1,r2⟩:=rp
   cases r1
   have d:DT X.K H2 s.heap.objs.size []:=.inr ⟨rfl,.inl e⟩
   obtain⟨_,y,us,rl,dd⟩:=d.dict I2
   cases rl
   rw[List.forIn_cons]
   refine vab (vab (wpAny_dictSet_heap (knd:=dKind X.prog X.w) (hsz:=by simp) (by show X.A.units+1<cLine;omega) (kk.is I2) dd λh' dd' hs=>vag ?_))
   show wpAny _ _ (pure _) _ _ _
   refine vag ⟨.ref s.heap.objs.size,_,?_,rfl,q2⟩
   obtain⟨q,es,ep,hq,h2,h3,h4,_,h5⟩:=dd'
   refine zf4 I2 (by rw[e];exact True.intro) hs ⟨q,hq⟩ (zl1 ⟨by rw[vc4];exact Nat.le_add_left 1 16777215,y,by simp,[(k,b,w2)],.cons ⟨rfl,rfl,r2⟩ .nil,q,es,ep,hq,h2,h3,h4⟩)
end
end L2
namespace RF
open PySem
inductive W where
 |non|bl (b:Bool)|int (i:Int)|str (x:Str)|tup (ws:List W)|fz (ws:List W)|ref (i:Nat)
mutual
noncomputable def W.lt(n:Nat):W->Bool
 |.tup ws=>W.lts n ws
 |.fz ws=>W.lts n ws
 |.ref i=>Nat.blt i n
 |_=>true
noncomputable def W.lts(n:Nat):List W->Bool
 |[]=>true
 |w::ws=>W.lt n w&&W.lts n ws
end
inductive VO where
 |lst (ws:List W)|dk (kvs:List (L2.Key×W))|dt (ks ws:List W)|ins (C:Addr) (xs:List Str) (ws:List W)
structure VH where
 n:Nat
 lo:Nat
 os:List VO
noncomputable def VH.get(h:VH)(i:Nat):Option VO:=if Nat.blt i h.n then h.os[h.n-1-i]? else none
noncomputable def VH.set(h:VH)(i:Nat)(o:VO):VH:=⟨h.n,if Nat.blt i h.lo then i else h.lo,h.os.set (h.n-1-i) o⟩
noncomputable def VH.new(h:VH)(o:VO):VH:=⟨h.n+1,h.lo,o::h.os⟩
inductive Res(α:Type)where
 |ok (a:α) (h:VH)|ex (x:W) (h:VH)|no
noncomputable def Res.bind{α β:Type}(r:Res α)(f:α->VH->Res β):Res β:=match r with
 |.ok a h=>f a h
 |.ex x h=>.ex x h
 |.no=>.no
noncomputable def Res.of{α:Type}(o:Option α)(h:VH):Res α:=match o with
 |some a=>.ok a h
 |none=>.no
inductive Op where
 |add|sub|mul|fdiv|mod|shl|pow
 deriving DecidableEq
inductive Cp where
 |eq|ne|lt|le|gt|ge|isn|notn|inn|nin
 deriving DecidableEq
inductive Ty where
 |int|bool|tuple|list|str|dict
 deriving DecidableEq
inductive Bi where
 |len|list|tuple|int|abs|max|min|all|lrng
 deriving DecidableEq
inductive Mt where
 |append|get|count
 deriving DecidableEq
inductive Kd where
 |seq|rng1|rng2|enm|zip|keys
 deriving DecidableEq
inductive Tg where
 |one (i:Nat)|many (is:List Nat)
 deriving DecidableEq
inductive E where
 |var (i:Nat)|cst (w:W)
 |nil|cons (a r:E)
 |tup (a:E)|lst (a:E)|dsp (a:E)
 |op (o:Op) (a b:E)|neg (a:E)
 |cmp (c:Cp) (a b:E)|chn (c d:Cp) (a b e:E)
 |not (a:E)|and (a b:E)|or (a b:E)|tru (a:E)|ite (c a b:E)
 |idx (a b:E)|slc (a:E) (bl:Bool) (lo:E) (bh:Bool) (hi:E)
 |call (f:Nat) (a:E)|bi (b:Bi) (a:E)|isi (t:Ty) (a:E)|mt (m:Mt) (o a:E)
 |lc (k:Kd) (a:E) (t:Tg) (ow:Nat) (ix:List Nat) (c e:E)
 |lc2 (k:Kd) (a:E) (t:Tg) (ow:Nat) (ix:List Nat) (c:E) (k2:Kd) (a2:E) (t2:Tg) (c2 e:E)
 |att (C:Addr) (x:Str) (a:E)
 |mk (C:Addr) (f:Nat) (a:E)|mcall (C:Addr) (mt:Str) (f:Nat) (o a:E)
 |dc (k:Kd) (a:E) (t:Tg) (ow:Nat) (ix:List Nat) (c e v:E)
inductive S where
 |skip|seq (a b:S)|set (i:Nat) (e:E)|unp (is:List Nat) (e:E)|aug (i:Nat) (o:Op) (e:E)
 |sat (C:Addr) (x:Str) (o v:E)|put (o i v:E)|pts (o:E) (bl:Bool) (lo:E) (bh:Bool) (hi v:E)|ite (c:E) (a b:S)|ret (e:E)|expr (e:E)|brk|cnt
 |for (k:Kd) (a:E) (t:Tg) (b:S)|whl (c:E) (b:S)|tryc (f:Nat) (a:E) (tb:List (Nat×W))|no
noncomputable abbrev En:=List (Option W)
inductive Fl where
 |nx (ρ:En)|rt (w:W)|bk (ρ:En)|ct (ρ:En)
noncomputable def mapO{α β:Type}(f:α->Option β):List α->Option (List β)
 |[]=>some []
 |a::r=>match f a with
  |some b=>(match mapO f r with
   |some bs=>some (b::bs)
   |none=>none)
  |none=>none
noncomputable def toD(h:VH):Nat->W->Option PyData
 |0,_=>none
 |n+1,w=>match w with
  |.non=>some .none
  |.bl b=>some (.bool b)
  |.int i=>some (.int i)
  |.str x=>some (.str x)
  |.tup ws=>(mapO (toD h n) ws).map .tuple
  |.fz ws=>(mapO (toD h n) ws).map .list
  |.ref i=>match h.get i with
   |some (.lst ws)=>(mapO (toD h n) ws).map .list
   |_=>none
noncomputable def eqW(h:VH)(x y:W):Option Bool:=
 match toD h 24 x,toD h 24 y with
 |some d,some e=>if SeqAt.shaped d&&SeqAt.shaped e then some (PyData.eqv d e)else none
 |_,_=>none
noncomputable def big:Nat:=16777216
noncomputable def za8(i:Int):Bool:=decide (-(2 ^ 64)<i)&&decide (i<2 ^ 64)
noncomputable def opI:Op->Int->Int->Option Int
 |.add,i,j=>some (i+j)
 |.sub,i,j=>some (i-j)
 |.mul,i,j=>if za8 i||za8 j then some (i*j)else none
 |.fdiv,i,j=>if decide (0<j)&&decide (j<1073741824)then some (i/j)else none
 |.mod,i,j=>if decide (0<j)then some (i % j)else none
 |.shl,i,j=>if decide (0<=j)&&decide (j<=1000000)&&decide (i.natAbs<2 ^ 64)then some (i*2 ^ j.toNat)else none
 |.pow,i,j=>if decide (0<=j)&&decide (j<=1000000)&&decide (i.natAbs<2 ^ 64)then some (i ^ j.toNat)else none
noncomputable def opT:Op->List W->List W->Option (List W)
 |.add,xs,ys=>if Nat.ble (xs.length+ys.length) big then some (xs++ys)else none
 |_,_,_=>none
noncomputable def opL:Op->List W->List W->Option (List W)
 |.add,xs,ys=>if Nat.ble (xs.length+ys.length) big then some (xs++ys)else none
 |_,_,_=>none
noncomputable def fits(i:Int):Bool:=decide (-(2 ^ 62)<=i)&&decide (i<2 ^ 62)
noncomputable def repW(o:Op)(xs:List W)(k:Int):Option (List W):=match o with
 |.mul=>if fits k&&Nat.ble (xs.length*k.toNat) big then some (List.replicate k.toNat xs).flatten else none
 |_=>none
noncomputable def opW(o:Op)(x y:W)(h:VH):Res W:=match x,y with
 |.int i,.int j=>.of ((opI o i j).map .int) h
 |.tup xs,.tup ys=>.of ((opT o xs ys).map .tup) h
 |.ref i,.ref j=>match h.get i,h.get j with
  |some (.lst xs),some (.lst ys)=>(match opL o xs ys with
   |some zs=>.ok (.ref h.n) (h.new (.lst zs))
   |none=>.no)
  |_,_=>.no
 |_,_=>.no
noncomputable def ipW(o:Op)(x y:W)(h:VH):Res W:=match x,y with
 |.int i,.int j=>(match o with
  |.add=>.ok (.int (i+j)) h
  |.sub=>.ok (.int (i-j)) h
  |.mul=>.of ((opI .mul i j).map .int) h
  |.fdiv=>.of ((opI .fdiv i j).map .int) h
  |_=>.no)
 |.ref i,.ref j=>match o,h.get i,h.get j with
  |.add,some (.lst xs),some (.lst ys)=>if Nat.ble (xs.length+ys.length) big then .ok (.ref i) (h.set i (.lst (xs++ys)))else .no
  |_,_,_=>.no
 |_,_=>.no
noncomputable def cmpI:Cp->Int->Int->Option Bool
 |.lt,i,j=>some (decide (i<j))
 |.le,i,j=>some (decide (i<=j))
 |.gt,i,j=>some (decide (j<i))
 |.ge,i,j=>some (decide (j<=i))
 |_,_,_=>none
noncomputable def isNon:W->Bool
 |.non=>true
 |_=>false
noncomputable def seqW(h:VH):W->Option (List W)
 |.tup ws=>some ws
 |.fz ws=>some ws
 |.ref i=>match h.get i with
  |some (.lst ws)=>some ws
  |_=>none
 |_=>none
noncomputable def intD:W->Option Int
 |.int i=>some i
 |_=>none
noncomputable def keyD:W->Option L2.DK
 |.tup [.tup ws,.non]=>(mapO intD ws).map λis=>(is,none)
 |.tup [.tup ws,.int i]=>(mapO intD ws).map λis=>(is,some i)
 |_=>none
noncomputable def lookD:List W->List W->L2.DK->Option W
 |k::ks,w::ws,d=>if keyD k=some d then some w else lookD ks ws d
 |_,_,_=>none
noncomputable def inD(h:VH)(x y:W):Option Bool:=match y with
 |.ref a=>(match h.get a,keyD x with
  |some (.dt ks ws),some k=>some (lookD ks ws k).isSome
  |_,_=>none)
 |_=>none
noncomputable def idxD(h:VH)(a:Nat)(y:W):Option W:=match h.get a,keyD y with
 |some (.dt ks ws),some k=>lookD ks ws k
 |_,_=>none
noncomputable def inW(h:VH)(x y:W):Option Bool:=match seqW h y,toD h 24 x with
 |some ws,some d=>(match mapO (toD h 24) ws with
  |some ds=>if ds.all SeqAt.shaped&&SeqAt.shaped d then some (L2.anyEq ds d)else none
  |none=>none)
 |_,_=>inD h x y
noncomputable def isB:W->W->Option Bool
 |.bl c,.bl b=>some (c==b)
 |_,_=>none
noncomputable def cmpW(c:Cp)(h:VH)(x y:W):Option Bool:=match c with
 |.inn=>inW h x y
 |.nin=>(inW h x y).map (!·)
 |.eq=>eqW h x y
 |.ne=>(eqW h x y).map (!·)
 |.isn=>if isNon y then some (isNon x)else isB x y
 |.notn=>if isNon y then some (!isNon x)else(isB x y).map (!·)
 |c=>match x,y with
  |.int i,.int j=>cmpI c i j
  |_,_=>none
noncomputable def truW(h:VH):W->Option Bool
 |.bl b=>some b
 |.int i=>some (i != 0)
 |.non=>some false
 |.tup ws=>some (!ws.isEmpty)
 |.ref i=>match h.get i with
  |some (.lst ws)=>some (!ws.isEmpty)
  |_=>none
 |_=>none
noncomputable def keyW:W->Option L2.Key
 |.int i=>some (.inl i)
 |.str x=>some (.inr x)
 |_=>none
noncomputable def lookK(kvs:List (L2.Key×W))(k:L2.Key):Option W:=(kvs.find? λkv=>decide (kv.1=k)).map (·.2)
noncomputable def putKW(kvs:List (L2.Key×W))(k:L2.Key)(w:W):List (L2.Key×W):=
 if(kvs.any λkv=>decide (kv.1=k))=true then kvs.map (λkv=>if kv.1=k then(kv.1,w)else kv)else kvs++[(k,w)]
noncomputable def idxW(h:VH)(x y:W):Option W:=match x,y with
 |.tup ws,.int i=>L2.atI ws i
 |.fz ws,.int i=>L2.atI ws i
 |.ref a,.int i=>(match h.get a with
  |some (.lst ws)=>L2.atI ws i
  |some (.dk kvs)=>lookK kvs (.inl i)
  |_=>none)
 |.ref a,.str x=>(match h.get a with
  |some (.dk kvs)=>lookK kvs (.inr x)
  |_=>none)
 |.ref a,y=>idxD h a y
 |_,_=>none
noncomputable def partW(b:Bool)(w:W):Option (Option Int):=match b,w with
 |false,_=>some none
 |true,.int i=>some (some i)
 |_,_=>none
noncomputable def cutW(ws:List W)(lo hi:Option Int):List W:=(ws.drop (HT.sIx ws.length 0 lo)).take (HT.sIx ws.length ws.length hi-HT.sIx ws.length 0 lo)
noncomputable def slcW(x:W)(l u:Option Int)(h:VH):Res W:=match x with
 |.tup ws=>.ok (.tup (cutW ws l u)) h
 |.ref i=>(match h.get i with
  |some (.lst ws)=>.ok (.ref h.n) (h.new (.lst (cutW ws l u)))
  |_=>.no)
 |_=>.no
@[simp] theorem slcW_tup {ws:List W} {l u:Option Int} {h:VH}:slcW (.tup ws) l u h=.ok (.tup (cutW ws l u)) h:=rfl
noncomputable def tyIs:Ty->VH->W->Option Bool
 |t,_,.non=>some false
 |t,_,.bl _=>some (t == .int||t == .bool)
 |t,_,.int _=>some (t == .int)
 |t,_,.str _=>some (t == .str)
 |t,_,.tup _=>some (t == .tuple)
 |_,_,.fz _=>none
 |t,h,.ref i=>match h.get i with
  |some (.lst _)=>some (t == .list)
  |some (.dk _)=>some (t == .dict)
  |some (.dt _ _)=>some (t == .dict)
  |_=>none
noncomputable def lenW(xs:List W)(h:VH):Res W:=match xs with
 |[x]=>.of (match seqW h x with
  |some ws=>some (.int ws.length)
  |none=>none) h
 |_=>.no
noncomputable def listW(xs:List W)(h:VH):Res W:=match xs with
 |[x]=>(match seqW h x with
  |some ws=>.ok (.ref h.n) (h.new (.lst ws))
  |none=>.no)
 |_=>.no
noncomputable def zgt(xs:List W)(h:VH):Res W:=match xs with
 |[x]=>.of (match seqW h x with
  |some ws=>some (.tup ws)
  |none=>none) h
 |_=>.no
noncomputable def intW(xs:List W)(h:VH):Res W:=match xs with
 |[.int i]=>.ok (.int i) h
 |[.bl b]=>.ok (.int (if b then 1 else 0)) h
 |_=>.no
noncomputable def absW(xs:List W)(h:VH):Res W:=match xs with
 |[.int i]=>.ok (.int (if i<0 then -i else i)) h
 |_=>.no
noncomputable def maxW(xs:List W)(h:VH):Res W:=match xs with
 |[.int i,.int j]=>.ok (.int (if j>i then j else i)) h
 |_=>.no
noncomputable def minW(xs:List W)(h:VH):Res W:=match xs with
 |[.int i,.int j]=>.ok (.int (if j<i then j else i)) h
 |_=>.no
noncomputable def ptsW(x w:W)(l u:Option Int)(h:VH):Res W:=match x,w with
 |.ref a,.ref b=>(match h.get a,h.get b with
  |some (.lst ws),some (.lst zs)=>if Nat.beq a b then .no else if Nat.ble (HT.sIx ws.length 0 l) (HT.sIx ws.length ws.length u)&&Nat.ble (ws.length+zs.length) big then
   .ok .non (h.set a (.lst (ws.take (HT.sIx ws.length 0 l)++zs++ws.drop (HT.sIx ws.length ws.length u))))else .no
  |_,_=>.no)
 |_,_=>.no
noncomputable def blW:W->Option Bool
 |.bl b=>some b
 |_=>none
noncomputable def allW(xs:List W)(h:VH):Res W:=match xs with
 |[.ref i]=>(match h.get i with
  |some (.lst ws)=>.of ((mapO blW ws).map λbs=>.bl (bs.all id)) h
  |_=>.no)
 |_=>.no
noncomputable def ints0(j:Nat):List W:=(List.range' 0 j).map λ(i:Nat)=>W.int (0+ (i:Int))
noncomputable def lrngW(xs:List W)(h:VH):Res W:=match xs with
 |[.int i]=>if decide (0<=i)&&Nat.ble i.toNat big then .ok (.ref h.n) (h.new (.lst (ints0 i.toNat)))else .no
 |_=>.no
noncomputable def biW(b:Bi)(xs:List W)(h:VH):Res W:=match b with
 |.abs=>absW xs h
 |.max=>maxW xs h
 |.min=>minW xs h
 |.all=>allW xs h
 |.lrng=>lrngW xs h
 |.len=>lenW xs h
 |.list=>listW xs h
 |.tuple=>zgt xs h
 |.int=>intW xs h
noncomputable def zqe(h:VH)(x y:W):Option W:=match seqW h y,toD h 24 x with
 |some ws,some d=>(match mapO (toD h 24) ws with
  |some ds=>if ds.all SeqAt.shaped&&SeqAt.shaped d then some (.int (ds.countP λe=>PyData.eqv e d:Nat))else none
  |none=>none)
 |_,_=>none
noncomputable def mtW(m:Mt)(o:W)(xs:List W)(h:VH):Res W:=match m,o,xs with
 |.append,.ref i,[x]=>(match h.get i with
  |some (.lst ws)=>if Nat.blt ws.length big then .ok .non (h.set i (.lst (ws++[x])))else .no
  |_=>.no)
 |.get,.ref i,[k,d]=>(match h.get i,keyW k with
  |some (.dk kvs),some k=>.ok ((lookK kvs k).getD d) h
  |_,_=>.no)
 |.count,o,[x]=>.of (zqe h x o) h
 |_,_,_=>.no
noncomputable def zjb(m:Mt)(h:VH)(o:W):Bool:=match m,o with
 |.append,.ref i=>(match h.get i with
  |some (.lst _)=>true
  |_=>false)
 |.get,.ref i=>(match h.get i with
  |some (.dk _)=>true
  |_=>false)
 |.count,.tup _=>true
 |.count,.ref i=>(match h.get i with
  |some (.lst _)=>true
  |_=>false)
 |_,_=>false
noncomputable def keyV:L2.Key->W
 |.inl i=>.int i
 |.inr x=>.str x
noncomputable def nxt(k:Kd)(x:W)(i:Nat)(h:VH):Option (Option W):=match k with
 |.seq=>(seqW h x).map λws=>ws[i]?
 |.enm=>(match x with
  |.tup ws=>some ((ws[i]?).map λw=>.tup [.int i,w])
  |_=>none)
 |.keys=>(match x with
  |.ref a=>(match h.get a with
   |some (.dk kvs)=>(match kvs[i]? with
    |some kv=>some (some (keyV kv.1))
    |none=>if Nat.beq i kvs.length then some none else none)
   |_=>none)
  |_=>none)
 |.zip=>(match x with
  |.tup [u,v]=>(match seqW h u,seqW h v with
   |some ws,some zs=>some (match ws[i]?,zs[i]? with
    |some a,some b=>some (.tup [a,b])
    |_,_=>none)
   |_,_=>none)
  |_=>none)
 |.rng1=>(match x with
  |.tup [.int j]=>if fits j then some (if decide ((i:Int)<j)then some (.int (0+i))else none)else none
  |_=>none)
 |.rng2=>(match x with
  |.tup [.int a,.int b]=>if fits a&&fits b then some (if decide ((i:Int)<b-a)then some (.int (a+i))else none)else none
  |_=>none)
noncomputable def zdn:List Nat->List W->En->Option En
 |[],[],ρ=>some ρ
 |i::is,w::ws,ρ=>zdn is ws (ρ.set i (some w))
 |_,_,_=>none
noncomputable def tgW(t:Tg)(w:W)(h:VH)(ρ:En):Option En:=match t with
 |.one i=>some (ρ.set i (some w))
 |.many is=>match seqW h w with
  |some ws=>zdn is ws ρ
  |none=>none
noncomputable def fuel:Nat:=1000000
noncomputable def inner(ow:Nat)(ix:List Nat)(ρ:En):En:=List.replicate ow none++ix.map λj=>(ρ[j]?).join
noncomputable def lcG(nx:Nat->VH->Option (Option W))(tg:W->VH->En->Option En)(c:En->VH->Res W)(e:En->VH->Res W):Nat->Nat->En->VH->List W->Res (List W)
 |0,_,_,_,_=>.no
 |f+1,i,ρ,h,acc=>match nx i h with
  |none=>.no
  |some none=>.ok acc.reverse h
  |some (some w)=>match tg w h ρ with
   |none=>.no
   |some ρ=>(c ρ h).bind λb h=>match b with
    |.bl true=>(e ρ h).bind λy h=>lcG nx tg c e f (i+1) ρ h (y::acc)
    |.bl false=>lcG nx tg c e f (i+1) ρ h acc
    |_=>.no
noncomputable def lcI(nx:Nat->VH->Option (Option W))(tg:W->VH->En->Option En)(c:En->VH->Res W)(e:En->VH->Res W):Nat->Nat->En->VH->List W->Res (En×List W)
 |0,_,_,_,_=>.no
 |f+1,i,ρ,h,acc=>match nx i h with
  |none=>.no
  |some none=>.ok (ρ,acc) h
  |some (some w)=>match tg w h ρ with
   |none=>.no
   |some ρ=>(c ρ h).bind λb h=>match b with
    |.bl true=>(e ρ h).bind λy h=>lcI nx tg c e f (i+1) ρ h (y::acc)
    |.bl false=>lcI nx tg c e f (i+1) ρ h acc
    |_=>.no
noncomputable def lcO(nx:Nat->VH->Option (Option W))(tg:W->VH->En->Option En)(c:En->VH->Res W)(inn:En->VH->List W->Res (En×List W)):Nat->Nat->En->VH->List W->Res (List W)
 |0,_,_,_,_=>.no
 |f+1,i,ρ,h,acc=>match nx i h with
  |none=>.no
  |some none=>.ok acc.reverse h
  |some (some w)=>match tg w h ρ with
   |none=>.no
   |some ρ=>(c ρ h).bind λb h=>match b with
    |.bl true=>(inn ρ h acc).bind λp h=>lcO nx tg c inn f (i+1) p.1 h p.2
    |.bl false=>lcO nx tg c inn f (i+1) ρ h acc
    |_=>.no
noncomputable def dcG(nx:Nat->VH->Option (Option W))(tg:W->VH->En->Option En)(c:En->VH->Res W)(e v:En->VH->Res W):Nat->Nat->En->VH->List (L2.Key×W)->Res (List (L2.Key×W))
 |0,_,_,_,_=>.no
 |f+1,i,ρ,h,acc=>match nx i h with
  |none=>.no
  |some none=>.ok acc h
  |some (some w)=>match tg w h ρ with
   |none=>.no
   |some ρ=>(c ρ h).bind λb h=>match b with
    |.bl true=>(e ρ h).bind λx h=>(v ρ h).bind λy h=>(match keyW x with
     |some k=>if Nat.blt acc.length big then dcG nx tg c e v f (i+1) ρ h (putKW acc k y)else .no
     |none=>.no)
    |.bl false=>dcG nx tg c e v f (i+1) ρ h acc
    |_=>.no
noncomputable def forG(nx:Nat->VH->Option (Option W))(tg:W->VH->En->Option En)(b:En->VH->Res Fl):Nat->Nat->En->VH->Res Fl
 |0,_,_,_=>.no
 |f+1,i,ρ,h=>match nx i h with
  |none=>.no
  |some none=>.ok (.nx ρ) h
  |some (some w)=>match tg w h ρ with
   |none=>.no
   |some ρ=>(b ρ h).bind λfl h=>match fl with
    |.nx ρ=>forG nx tg b f (i+1) ρ h
    |.ct ρ=>forG nx tg b f (i+1) ρ h
    |.bk ρ=>.ok (.nx ρ) h
    |.rt w=>.ok (.rt w) h
noncomputable def whlG(c:En->VH->Res W)(b:En->VH->Res Fl):Nat->En->VH->Res Fl
 |0,_,_=>.no
 |f+1,ρ,h=>(c ρ h).bind λt h=>match t with
  |.bl false=>.ok (.nx ρ) h
  |.bl true=>(b ρ h).bind λfl h=>match fl with
   |.nx ρ=>whlG c b f ρ h
   |.ct ρ=>whlG c b f ρ h
   |.bk ρ=>.ok (.nx ρ) h
   |.rt w=>.ok (.rt w) h
  |_=>.no
noncomputable def zc3:List W->Option (List (L2.Key×W))
 |[]=>some []
 |k::v::r=>match keyW k with
  |some k=>(match zc3 r with
   |some kvs=>some ((k,v)::kvs)
   |none=>none)
  |none=>none
 |_=>none
noncomputable def zl3(kvs more:List (L2.Key×W)):List (L2.Key×W):=more.foldl (λacc kv=>putKW acc kv.1 kv.2) kvs
noncomputable def dkO:List (L2.Key×W)->VO
 |[]=>.dt [] []
 |kvs=>.dk (zl3 [] kvs)
noncomputable def dspD(ys:List W)(h:VH):Res W:=match ys with
 |[k,w]=>(match keyD k with
  |some _=>.ok (.ref h.n) (h.new (.dt [k] [w]))
  |none=>.no)
 |_=>.no
noncomputable def putD(ρ:En)(a:Nat)(y w:W)(h:VH):Res Fl:=match h.get a,keyD y with
 |some (.dt ks ws),some k=>if(lookD ks ws k).isNone&&Nat.blt ks.length big then .ok (.nx ρ) (h.set a (.dt (ks++[y]) (ws++[w])))else .no
 |_,_=>.no
noncomputable def lookF(x:Str):List Str->List W->Option W
 |y::ys,w::ws=>if y=x then some w else lookF x ys ws
 |_,_=>none
noncomputable def putN(x:Str):List Str->List Str
 |[]=>[x]
 |y::ys=>if y=x then y::ys else y::putN x ys
noncomputable def putV(x:Str)(w:W):List Str->List W->List W
 |y::ys,v::vs=>if y=x then w::vs else v::putV x w ys vs
 |_,_=>[w]
noncomputable def attW(C:Addr)(x:Str)(o:W)(h:VH):Option W:=match o with
 |.ref i=>(match h.get i with
  |some (.ins D xs ws)=>if D=C then lookF x xs ws else none
  |_=>none)
 |_=>none
noncomputable def satW(ρ:En)(C:Addr)(x:Str)(o w:W)(h:VH):Res Fl:=match o with
 |.ref i=>(match h.get i with
  |some (.ins D xs ws)=>if D=C&&Nat.blt xs.length 1000 then .ok (.nx ρ) (h.set i (.ins D (putN x xs) (putV x w xs ws)))else .no
  |_=>.no)
 |_=>.no
noncomputable def isIns(C:Addr)(m:Str)(h:VH)(x:W):Bool:=match x with
 |.ref i=>(match h.get i with
  |some (.ins D xs ws)=>decide (D=C)&& (lookF m xs ws).isNone
  |_=>false)
 |_=>false
noncomputable abbrev Call:=Nat->List W->VH->Res W
noncomputable abbrev mkR(C:Addr)(g:List W->VH->Res W):List W->VH->Res W:=λys h=>(g (.ref h.n::ys) (h.new (.ins C [] []))).bind λv h'=>if isNon v then .ok (.ref h.n) h' else .no
noncomputable def ev(cl:Call):E->En->VH->Res W
 |.var i,ρ,h=>.of (ρ[i]?).join h
 |.cst w,_,h=>.ok w h
 |.nil,_,h=>.ok (.tup []) h
 |.cons a r,ρ,h=>(ev cl a ρ h).bind λx h=>(ev cl r ρ h).bind λy h=>match y with
  |.tup ys=>.ok (.tup (x::ys)) h
  |_=>.no
 |.tup a,ρ,h=>(ev cl a ρ h).bind λy h=>match y with
  |.tup ys=>if Nat.ble ys.length 1000 then .ok (.tup ys) h else .no
  |_=>.no
 |.lst a,ρ,h=>(ev cl a ρ h).bind λy h=>match y with
  |.tup ys=>if Nat.ble ys.length 1000 then .ok (.ref h.n) (h.new (.lst ys))else .no
  |_=>.no
 |.dsp a,ρ,h=>(ev cl a ρ h).bind λy h=>match y with
  |.tup ys=>(match zc3 ys with
   |some kvs=>if Nat.ble kvs.length 15 then .ok (.ref h.n) (h.new (dkO kvs))else .no
   |none=>dspD ys h)
  |_=>.no
 |.op o a b,ρ,h=>(ev cl a ρ h).bind λx h=>(ev cl b ρ h).bind λy h=>opW o x y h
 |.neg a,ρ,h=>(ev cl a ρ h).bind λx h=>match x with
  |.int i=>.ok (.int (-i)) h
  |_=>.no
 |.cmp c a b,ρ,h=>(ev cl a ρ h).bind λx h=>(ev cl b ρ h).bind λy h=>.of ((cmpW c h x y).map .bl) h
 |.chn c d a b e,ρ,h=>(ev cl a ρ h).bind λx h=>(ev cl b ρ h).bind λy h=>match cmpW c h x y with
  |some true=>(ev cl e ρ h).bind λz h=>.of ((cmpW d h y z).map .bl) h
  |some false=>.ok (.bl false) h
  |none=>.no
 |.not a,ρ,h=>(ev cl a ρ h).bind λx h=>match x with
  |.bl b=>.ok (.bl (!b)) h
  |_=>.no
 |.and a b,ρ,h=>(ev cl a ρ h).bind λx h=>match x with
  |.bl true=>ev cl b ρ h
  |.bl false=>.ok (.bl false) h
  |_=>.no
 |.or a b,ρ,h=>(ev cl a ρ h).bind λx h=>match x with
  |.bl true=>.ok (.bl true) h
  |.bl false=>ev cl b ρ h
  |_=>.no
 |.tru a,ρ,h=>(ev cl a ρ h).bind λx h=>.of ((truW h x).map .bl) h
 |.ite c a b,ρ,h=>(ev cl c ρ h).bind λx h=>match x with
  |.bl true=>ev cl a ρ h
  |.bl false=>ev cl b ρ h
  |_=>.no
 |.idx a b,ρ,h=>(ev cl a ρ h).bind λx h=>(ev cl b ρ h).bind λy h=>.of (idxW h x y) h
 |.slc a bl lo bh hi,ρ,h=>(ev cl a ρ h).bind λx h=>(ev cl lo ρ h).bind λl h=>(ev cl hi ρ h).bind λu h=>match partW bl l,partW bh u with
  |some l,some u=>slcW x l u h
  |_,_=>.no
 |.call f a,ρ,h=>(ev cl a ρ h).bind λy h=>match y with
  |.tup ys=>cl f ys h
  |_=>.no
 |.bi b a,ρ,h=>(ev cl a ρ h).bind λy h=>match y with
  |.tup ys=>biW b ys h
  |_=>.no
 |.isi t a,ρ,h=>(ev cl a ρ h).bind λx h=>.of ((tyIs t h x).map .bl) h
 |.mt m o a,ρ,h=>(ev cl o ρ h).bind λx h=>if zjb m h x then(ev cl a ρ h).bind λy h=>match y with
  |.tup ys=>mtW m x ys h
  |_=>.no
  else .no
 |.lc k a t ow ix c e,ρ,h=>(ev cl a ρ h).bind λx h=>(lcG (nxt k x) (tgW t) (ev cl c) (ev cl e) fuel 0 (inner ow ix ρ) h []).bind λys h=>if Nat.ble ys.length big then .ok (.ref h.n) (h.new (.lst ys))else .no
 |.lc2 k a t ow ix c k2 a2 t2 c2 e,ρ,h=>(ev cl a ρ h).bind λx h=>(lcO (nxt k x) (tgW t) (ev cl c) (λρ h acc=>(ev cl a2 ρ h).bind λy h=>lcI (nxt k2 y) (tgW t2) (ev cl c2) (ev cl e) fuel 0 ρ h acc) fuel 0 (inner ow ix ρ) h []).bind λys h=>if Nat.ble ys.length big then .ok (.ref h.n) (h.new (.lst ys))else .no
 |.mk C f a,ρ,h=>(ev cl a ρ h).bind λy h=>match y with
  |.tup ys=>mkR C (cl f) ys h
  |_=>.no
 |.mcall C mt f o a,ρ,h=>(ev cl o ρ h).bind λx h=>if isIns C mt h x then(ev cl a ρ h).bind λy h=>match y with
  |.tup ys=>cl f (x::ys) h
  |_=>.no
  else .no
 |.att C x a,ρ,h=>(ev cl a ρ h).bind λo h=>.of (attW C x o h) h
 |.dc k a t ow ix c e v,ρ,h=>(ev cl a ρ h).bind λx h=>(dcG (nxt k x) (tgW t) (ev cl c) (ev cl e) (ev cl v) fuel 0 (inner ow ix ρ) h []).bind λkvs h=>.ok (.ref h.n) (h.new (.dk kvs))
noncomputable def tryW(tb:List (Nat×W))(ρ:En)(w:W)(h:VH):Res Fl:=match w with
 |.tup [_]=>.ok (.nx ρ) h
 |.int i=>(match tb.lookup i.toNat with
  |some w=>.ok (.rt w) h
  |none=>.no)
 |_=>.no
noncomputable def exs(cl:Call):S->En->VH->Res Fl
 |.skip,ρ,h=>.ok (.nx ρ) h
 |.seq a b,ρ,h=>(exs cl a ρ h).bind λfl h=>match fl with
  |.nx ρ=>exs cl b ρ h
  |fl=>.ok fl h
 |.set i e,ρ,h=>(ev cl e ρ h).bind λw h=>.ok (.nx (ρ.set i (some w))) h
 |.unp is e,ρ,h=>(ev cl e ρ h).bind λw h=>.of ((tgW (.many is) w h ρ).map .nx) h
 |.aug i o e,ρ,h=>match(ρ[i]?).join with
  |some x=>(ev cl e ρ h).bind λy h=>(ipW o x y h).bind λz h=>.ok (.nx (ρ.set i (some z))) h
  |none=>.no
 |.sat C x o v,ρ,h=>(ev cl v ρ h).bind λw h=>(ev cl o ρ h).bind λo h=>satW ρ C x o w h
 |.put o i v,ρ,h=>(ev cl v ρ h).bind λw h=>(ev cl o ρ h).bind λx h=>(ev cl i ρ h).bind λy h=>match x,y with
  |.ref a,.int j=>(match h.get a with
   |some (.lst ws)=>(match L2.ixN ws.length j with
    |some k=>.ok (.nx ρ) (h.set a (.lst (ws.set k w)))
    |none=>.no)
   |_=>.no)
  |.ref a,y=>putD ρ a y w h
  |_,_=>.no
 |.pts o bl lo bh hi v,ρ,h=>(ev cl v ρ h).bind λw h=>(ev cl o ρ h).bind λx h=>(ev cl lo ρ h).bind λl h=>(ev cl hi ρ h).bind λu h=>(match partW bl l,partW bh u with
  |some l,some u=>(ptsW x w l u h).bind λ_ h=>.ok (.nx ρ) h
  |_,_=>.no)
 |.ite c a b,ρ,h=>(ev cl c ρ h).bind λx h=>match x with
  |.bl true=>exs cl a ρ h
  |.bl false=>exs cl b ρ h
  |_=>.no
 |.ret e,ρ,h=>(ev cl e ρ h).bind λw h=>.ok (.rt w) h
 |.expr e,ρ,h=>(ev cl e ρ h).bind λ_ h=>.ok (.nx ρ) h
 |.brk,ρ,h=>.ok (.bk ρ) h
 |.cnt,ρ,h=>.ok (.ct ρ) h
 |.for k a t b,ρ,h=>(ev cl a ρ h).bind λx h=>forG (nxt k x) (tgW t) (exs cl b) fuel 0 ρ h
 |.whl c b,ρ,h=>whlG (ev cl c) (exs cl b) fuel ρ h
 |.tryc f a tb,ρ,h=>(ev cl a ρ h).bind λy h=>match y with
  |.tup ys=>(cl f ys h).bind λw h=>tryW tb ρ w h
  |_=>.no
 |.no,_,_=>.no
structure Fn where
 ps:Nat
 n:Nat
 body:S
noncomputable def leave(h:VH)(w:W)(h':VH):Res W:=
 if Nat.ble h.n h'.lo&&W.lt h.n w then .ok w h else .ok w ⟨h'.n,if Nat.ble h.lo h'.lo then h.lo else h'.lo,h'.os⟩
noncomputable def run(F:Nat->Option Fn):Nat->Call
 |0,_,_,_=>.no
 |k+1,f,ws,h=>match F f with
  |some fn=>if Nat.beq ws.length fn.ps then
   (exs (run F k) fn.body (ws.map some++List.replicate (fn.n-fn.ps) none) ⟨h.n,h.n,h.os⟩).bind λfl h'=>match fl with
     |.nx _=>leave h .non h'
     |.rt w=>leave h w h'
     |_=>.no
   else .no
  |none=>.no
open L2 PyProof.Rows PySem.Spec
noncomputable def Fz(K:PySem.W.Frag)(H:Hp)(a:Addr)(xs:List V):Prop:=
 (∃o,H a=some (.frz o (.lst xs)))\/∃(o:Obj) (its:Array Value) (n:Nat),K.lookup a=some o/\o.cls=.type "list"/\o.dict=none/\o.data=.seq its n/\its.size<=sizeLine/\Vals xs its.toList
theorem Fz.sq{K:PySem.W.Frag}{H:Hp}{a:Addr}{xs:List V}(h:Fz K H a xs):SqL K H a xs:=h.elim (λ⟨o,q⟩=>.inl (.inr ⟨o,q⟩)) .inr
mutual
inductive VRep(K:PySem.W.Frag)(m:Nat->Addr)(n:Nat)(H:Hp):V->W->Prop
 |non:VRep K m n H .non .non
 |bl (b:Bool):VRep K m n H (.bl b) (.bl b)
 |int (i:Int):VRep K m n H (.int i) (.int i)
 |str (x:Str):VRep K m n H (.str x) (.str x)
 |tup {a:Addr} {vs:List V} {ws:List W}:SqT K H a vs->VReps K m n H vs ws->VRep K m n H (.ref a) (.tup ws)
 |fz {a:Addr} {vs:List V} {ws:List W}:Fz K H a vs->VReps K m n H vs ws->VRep K m n H (.ref a) (.fz ws)
 |ref {i:Nat}:i<n->VRep K m n H (.ref (m i)) (.ref i)
inductive VReps(K:PySem.W.Frag)(m:Nat->Addr)(n:Nat)(H:Hp):List V->List W->Prop
 |nil:VReps K m n H [] []
 |cons {v:V} {w:W} {vs:List V} {ws:List W}:VRep K m n H v w->VReps K m n H vs ws->VReps K m n H (v::vs) (w::ws)
end
inductive KReps(K:PySem.W.Frag)(m:Nat->Addr)(n:Nat)(H:Hp):List (Key×V)->List (Key×W)->Prop
 |nil:KReps K m n H [] []
 |cons {k:Key} {v:V} {w:W} {vs:List (Key×V)} {ws:List (Key×W)}:VRep K m n H v w->KReps K m n H vs ws->KReps K m n H ((k,v)::vs) ((k,w)::ws)
noncomputable def ORep(K:PySem.W.Frag)(m:Nat->Addr)(n:Nat)(H:Hp)(a:Addr):VO->Prop
 |.lst ws=>∃vs,H a=some (.lst vs)/\VReps K m n H vs ws
 |.dk kvs=>∃kv,Rd H a (.dK kv)/\KReps K m n H kv kvs
 |.dt ks ws=>∃xs:DX,(H a=some (dtH xs a)\/(xs=[]/\H a=some (.dK [])))/\mapO keyD ks=some (xs.map (·.1))/\VReps K m n H (xs.map λx=>.ref x.2.1) ks/\VReps K m n H (xs.map λx=>x.2.2) ws
 |.ins C xs ws=>∃dx vs,H a=some (.ins C dx vs)/\vs.map (·.1)=xs/\VReps K m n H (vs.map (·.2)) ws
structure Rel(K:PySem.W.Frag)(m:Nat->Addr)(h:VH)(H:Hp):Prop where
 obj:∀i,i<h.n->∃o,h.get i=some o/\ORep K m h.n H (m i) o
 inj:∀i j,i<h.n->j<h.n->m i=m j->i=j
 len:h.os.length=h.n
structure Stp(m:Nat->Addr)(n:Nat)(H:Hp)(m':Nat->Addr)(n':Nat)(H':Hp):Prop where
 le:n<=n'
 same:∀i,i<n->m' i=m i
 new:∀i,n<=i->i<n'->H (m' i)=none
 apart:∀i j,n<=i->i<n'->j<n->m' i≠m' j
 tup:∀b vs,H b=some (.tup vs)->H' b=some (.tup vs)
 frz:∀b o u,H b=some (.frz o u)->H' b=some (.frz o u)
 keep:∀b o,(∀i,i<n->m i≠b)->H b=some o->H' b=some o
section
variable{K:PySem.W.Frag}{m m' m1 m2:Nat->Addr}{n n' n1 n2:Nat}{h h':VH}{H H' H1 H2:Hp}
theorem Stp.refl:Stp m n H m n H:=⟨vad _,λ_ _=>rfl,λi a b=>absurd b (vbo.mpr a),λi j a b=>absurd b (vbo.mpr a),λ_ _ q=>q,λ_ _ _ q=>q,λ_ _ _ q=>q⟩
theorem Stp.trans(a:Stp m n H m1 n1 H1)(b:Stp m1 n1 H1 m2 n2 H2):Stp m n H m2 n2 H2 where
 le:=va3 a.le b.le
 same:=λi hi=>(b.same i (vae hi a.le)).trans (a.same i hi)
 new:=λi hi hi2=>by
  by_cases hc:i<n1
  .rw[b.same i hc];exact a.new i hi hc
  .have hc:=vbo.mp hc
   cases q:H (m2 i)with
   |none=>rfl
   |some o=>
    have q1:H1 (m2 i)=none:=b.new i hc hi2
    rw[a.keep _ o (λj hj z=>b.apart i j hc hi2 (vae hj a.le) ((b.same j (vae hj a.le)).trans ((a.same j hj).trans z)).symm) q]at q1
    cases q1
 apart:=λi j hi hi2 hj=>by
  by_cases hc:i<n1
  .rw[b.same i hc,b.same j (vae hj a.le)];exact a.apart i j hi hc hj
  .exact b.apart i j (vbo.mp hc) hi2 (vae hj a.le)
 tup:=λc vs q=>b.tup c vs (a.tup c vs q)
 frz:=λc o u q=>b.frz c o u (a.frz c o u q)
 keep:=λc o hc q=>b.keep c o (λi hi=>by
  by_cases hl:i<n
  .rw[a.same i hl];exact hc i hl
  .intro z
   have:=a.new i (vbo.mp hl) hi
   rw[z,q]at this;cases this) (a.keep c o hc q)
theorem Stp.sqT{a:Addr}{vs:List V}(s:Stp m n H m' n' H')(q:SqT K H a vs):SqT K H' a vs:=by
 rcases q with(q|⟨o,q⟩)|q
 .exact .inl (.inl (s.tup _ _ q))
 .exact .inl (.inr ⟨o,s.frz _ _ _ q⟩)
 .exact .inr q
theorem Stp.fz{a:Addr}{vs:List V}(s:Stp m n H m' n' H')(q:Fz K H a vs):Fz K H' a vs:=by
 rcases q with⟨o,q⟩|q
 .exact .inl ⟨o,s.frz _ _ _ q⟩
 .exact .inr q
mutual
theorem VRep.stp(s:Stp m n H m' n' H'):∀{v:V} {w:W},VRep K m n H v w->VRep K m' n' H' v w
 |_,_,.non=>.non
 |_,_,.bl b=>.bl b
 |_,_,.int b=>.int b
 |_,_,.str b=>.str b
 |_,_,.tup q r=>.tup (s.sqT q) (VReps.stp s r)
 |_,_,.fz q r=>.fz (s.fz q) (VReps.stp s r)
 |_,_,.ref (i:=i) q=>by rw[<-s.same i q];exact .ref (vae q s.le)
theorem VReps.stp(s:Stp m n H m' n' H'):∀{vs:List V} {ws:List W},VReps K m n H vs ws->VReps K m' n' H' vs ws
 |_,_,.nil=>.nil
 |_,_,.cons q r=>.cons (VRep.stp s q) (VReps.stp s r)
end
theorem KReps.stp(s:Stp m n H m' n' H'):∀{vs:List (Key×V)} {ws:List (Key×W)},KReps K m n H vs ws->KReps K m' n' H' vs ws
 |_,_,.nil=>.nil
 |_,_,.cons q r=>.cons (q.stp s) (KReps.stp s r)
theorem VReps.length:∀{vs:List V} {ws:List W},VReps K m n H vs ws->vs.length=ws.length
 |_,_,.nil=>rfl
 |_,_,.cons _ r=>by rw[vam,vam,VReps.length r]
theorem VReps.get:∀{vs:List V} {ws:List W} {i:Nat} {w:W},VReps K m n H vs ws->ws[i]?=some w->∃v,vs[i]?=some v/\VRep K m n H v w
 |_,_,_,_,.nil,e=>by simp at e
 |_,_,0,_,.cons q _,e=>by simp at e;subst e;exact⟨_,rfl,q⟩
 |_,_,i+1,w,.cons _ r,e=>by
  obtain⟨v,h1,h2⟩:=VReps.get (i:=i) (w:=w) r (by simpa using e)
  exact⟨v,by simpa using h1,h2⟩
theorem VReps.append:∀{vs us:List V} {ws zs:List W},VReps K m n H vs ws->VReps K m n H us zs->VReps K m n H (vs++us) (ws++zs)
 |_,_,_,_,.nil,r=>r
 |_,_,_,_,.cons q r,t=>.cons q (VReps.append r t)
theorem VReps.drop:∀(k:Nat) {vs:List V} {ws:List W},VReps K m n H vs ws->VReps K m n H (vs.drop k) (ws.drop k)
 |0,_,_,r=>r
 |_+1,_,_,.nil=>.nil
 |k+1,_,_,.cons _ r=>VReps.drop k r
theorem VReps.take:∀(k:Nat) {vs:List V} {ws:List W},VReps K m n H vs ws->VReps K m n H (vs.take k) (ws.take k)
 |0,_,_,r=>.nil
 |_+1,_,_,.nil=>.nil
 |k+1,_,_,.cons q r=>.cons q (VReps.take k r)
theorem VReps.set{v:V}{w:W}(q:VRep K m n H v w):∀(k:Nat) {vs:List V} {ws:List W},VReps K m n H vs ws->VReps K m n H (vs.set k v) (ws.set k w)
 |_,_,_,.nil=>.nil
 |0,_,_,.cons _ r=>.cons q r
 |k+1,_,_,.cons p r=>.cons p (VReps.set q k r)
theorem ORep.stp{a:Addr}{o:VO}(s:Stp m n H m' n' H')(e:H' a=H a)(q:ORep K m n H a o):ORep K m' n' H' a o:=by
 cases o with
 |lst ws=>obtain⟨vs,h1,h2⟩:=q;exact⟨vs,e.trans h1,h2.stp s⟩
 |dk ws=>obtain⟨vs,h1,h2⟩:=q;exact⟨vs,h1.imp (λz=>e.trans z) λ⟨o,z⟩=>⟨o,e.trans z⟩,h2.stp s⟩
 |dt ks ws=>obtain⟨xs,h1,h0,h2,h3⟩:=q;exact⟨xs,h1.imp (λz=>e.trans z) λ⟨o,z⟩=>⟨o,e.trans z⟩,h0,h2.stp s,h3.stp s⟩
 |ins C xs ws=>obtain⟨dx,vs,h1,h0,h2⟩:=q;exact⟨dx,vs,e.trans h1,h0,h2.stp s⟩
theorem ORep.some{a:Addr}{o:VO}(q:ORep K m n H a o):∃u,H a=some u:=by
 cases o with
 |lst ws=>obtain⟨vs,h1,h2⟩:=q;exact⟨_,h1⟩
 |dk ws=>
  obtain⟨vs,h1,h2⟩:=q
  rcases h1 with h1|⟨o,h1⟩<;>exact⟨_,h1⟩
 |dt ks ws=>
  obtain⟨xs,h1,_⟩:=q
  rcases h1 with h1|⟨_,h1⟩<;>exact⟨_,h1⟩
 |ins C xs ws=>obtain⟨dx,vs,h1,_⟩:=q;exact⟨_,h1⟩
theorem zaj{i j:Nat}:Nat.blt i j=true↔i<j:=by
 unfold Nat.blt;rw[Nat.ble_eq];exact Iff.rfl
theorem zap{i:Nat}{o:VO}(q:h.get i=some o):i<h.n:=by
 unfold VH.get at q
 split at q
 .rename_i z;exact zaj.mp z
 .cases q
theorem Rel.at_(r:Rel K m h H){i:Nat}{o:VO}(q:h.get i=some o):ORep K m h.n H (m i) o:=by
 obtain⟨o',h1,h2⟩:=r.obj i (zap q)
 rw[q]at h1;cases h1;exact h2
theorem Rel.lst(r:Rel K m h H){i:Nat}{ws:List W}(q:h.get i=some (.lst ws)):∃vs,H (m i)=some (.lst vs)/\VReps K m h.n H vs ws:=r.at_ q
theorem Rel.dk(r:Rel K m h H){i:Nat}{ws:List (Key×W)}(q:h.get i=some (.dk ws)):∃vs,Rd H (m i) (.dK vs)/\KReps K m h.n H vs ws:=r.at_ q
theorem Rel.dt(r:Rel K m h H){i:Nat}{ks ws:List W}(q:h.get i=some (.dt ks ws)):∃xs:DX,(H (m i)=some (dtH xs (m i))\/(xs=[]/\H (m i)=some (.dK [])))/\mapO keyD ks=some (xs.map (·.1))/\VReps K m h.n H (xs.map λx=>.ref x.2.1) ks/\VReps K m h.n H (xs.map λx=>x.2.2) ws:=r.at_ q
theorem Rel.ins(r:Rel K m h H){i:Nat}{C:Addr}{xs:List Str}{ws:List W}(q:h.get i=some (.ins C xs ws)):∃dx vs,H (m i)=some (.ins C dx vs)/\vs.map (·.1)=xs/\VReps K m h.n H (vs.map (·.2)) ws:=r.at_ q
theorem zai{i:Nat}{o:VO}(hi:i<h.n):(h.new o).get i=h.get i:=by
 unfold VH.get VH.new
 have h1:Nat.blt i (h.n+1)=true:=zaj.mpr (Nat.lt_succ_of_lt hi)
 have h2:Nat.blt i h.n=true:=zaj.mpr hi
 simp only[h1,h2,vbb]
 have:h.n+1-1-i=(h.n-1-i)+1:=by omega
 rw[this];rfl
theorem zax{o:VO}:(h.new o).get h.n=some o:=by
 unfold VH.get VH.new
 have h1:Nat.blt h.n (h.n+1)=true:=zaj.mpr (va2 _)
 simp only[h1,vbb]
 have:h.n+1-1-h.n=0:=by omega
 rw[this];rfl
theorem Rel.alloc(r:Rel K m h H){p:Addr}{o:VO}{u:HO}(hp:H p=none)(hu:∀t,u≠.tup t)
 (ho:Stp m h.n H (λi=>if i=h.n then p else m i) (h.n+1) (upd H p u)->ORep K (λi=>if i=h.n then p else m i) (h.n+1) (upd H p u) p o) :
 Stp m h.n H (λi=>if i=h.n then p else m i) (h.n+1) (upd H p u)/\Rel K (λi=>if i=h.n then p else m i) (h.new o) (upd H p u):=by
 have tr:∀i,i<h.n->m i≠p:=λi hi z=>by
  obtain⟨o',_,h2⟩:=r.obj i hi
  obtain⟨u',h3⟩:=h2.some
  rw[z,hp]at h3;cases h3
 have st:Stp m h.n H (λi=>if i=h.n then p else m i) (h.n+1) (upd H p u):=by
  refine⟨Nat.le_succ _,λi hi=>by simp only[if_neg (vas hi)],λi hi hi2=>?_,λi j hi hi2 hj=>?_,λb vs q=>?_,λb o u q=>?_,λb o _ q=>?_⟩
  .have:i=h.n:=by omega
   subst this;simp only[vbb];exact hp
  .have:i=h.n:=by omega
   subst this;simp only[vbb,if_neg (vas hj)];exact(tr j hj).symm
  .rw[zac (zae q hp)];exact q
  .rw[zac (zae q hp)];exact q
  .rw[zac (zae q hp)];exact q
 refine⟨st,⟨λi hi=>?_,λi j hi hj z=>?_,?_⟩⟩
 .have hi:i<h.n+1:=hi
  by_cases e:i=h.n
  .subst e;exact⟨o,zax,by simp only[vbb];exact ho st⟩
  .have hl:i<h.n:=by omega
   obtain⟨o',h1,h2⟩:=r.obj i hl
   refine⟨o',(zai hl).trans h1,?_⟩
   simp only[if_neg e]
   exact ORep.stp st (zac (tr i hl)) h2
 .have hi:i<h.n+1:=hi
  have hj:j<h.n+1:=hj
  by_cases e:i=h.n
  .by_cases e2:j=h.n
   .omega
   .simp only[if_pos e,if_neg e2]at z
    exact absurd z.symm (tr j (by omega))
  .by_cases e2:j=h.n
   .simp only[if_neg e,if_pos e2]at z
    exact absurd z (tr i (by omega))
   .simp only[if_neg e,if_neg e2]at z
    exact r.inj i j (by omega) (by omega) z
 .show(o::h.os).length=h.n+1
  rw[vam,r.len]
theorem zfe(r:Rel K m h H){i:Nat}{o:VO}(hi:i<h.n):(h.set i o).get i=some o:=by
 unfold VH.get VH.set
 have h1:Nat.blt i h.n=true:=zaj.mpr hi
 simp only[h1,vbb]
 rw[va0]
 rw[r.len];omega
theorem zb5{i j:Nat}{o:VO}(hi:i<h.n)(hj:j≠i):(h.set i o).get j=h.get j:=by
 unfold VH.get VH.set
 by_cases h1:j<h.n
 .have h2:Nat.blt j h.n=true:=zaj.mpr h1
  simp only[h2,vbb]
  rw[vbr]
  omega
 .have h2:Nat.blt j h.n=false:=by
   cases q:Nat.blt j h.n with
   |false=>rfl
   |true=>exact absurd (zaj.mp q) h1
  simp only[h2,vaf,va1]
theorem Rel.write(r:Rel K m h H){i:Nat}{o:VO}{u u0:HO}(hi:i<h.n)(h0:H (m i)=some u0)(hn:∀t,u0≠.tup t)(hf:∀o t,u0≠.frz o t)
 (ho:Stp m h.n H m h.n (upd H (m i) u)->ORep K m h.n (upd H (m i) u) (m i) o) :
 Stp m h.n H m h.n (upd H (m i) u)/\Rel K m (h.set i o) (upd H (m i) u):=by
 have st:Stp m h.n H m h.n (upd H (m i) u):=by
  refine⟨vad _,λ_ _=>rfl,λj a b=>absurd b (vbo.mpr a),λj k a b=>absurd b (vbo.mpr a),λb vs q=>?_,λb o t q=>?_,λb o nb q=>?_⟩
  .rw[zac (ne_of q h0 (λz=>hn vs z.symm))];exact q
  .rw[zac (ne_of q h0 (λz=>hf o t z.symm))];exact q
  .rw[zac (nb i hi).symm];exact q
 refine⟨st,⟨λj hj=>?_,λa b ha hb=>r.inj a b ha hb,?_⟩⟩
 .have hj:j<h.n:=hj
  by_cases e:j=i
  .subst e;exact⟨o,zfe r hj,ho st⟩
  .obtain⟨o',h1,h2⟩:=r.obj j hj
   exact⟨o',(zb5 hi e).trans h1,ORep.stp st (zac λz=>e (r.inj j i hj hi z)) h2⟩
 .show(h.os.set _ o).length=h.n
  rw[vck,r.len]
theorem Rel.more(r:Rel K m h H){p:Addr}{u:HO}(hp:H p=none):Stp m h.n H m h.n (upd H p u)/\Rel K m h (upd H p u):=by
 have st:Stp m h.n H m h.n (upd H p u):=by
  refine⟨vad _,λ_ _=>rfl,λj a b=>absurd b (vbo.mpr a),λj k a b=>absurd b (vbo.mpr a),λb vs q=>?_,λb o t q=>?_,λb o nb q=>?_⟩
  .rw[zac (zae q hp)];exact q
  .rw[zac (zae q hp)];exact q
  .rw[zac (zae q hp)];exact q
 refine⟨st,⟨λj hj=>?_,r.inj,r.len⟩⟩
 obtain⟨o',h1,h2⟩:=r.obj j hj
 obtain⟨u',h3⟩:=h2.some
 exact⟨o',h1,ORep.stp st (zac (zae h3 hp)) h2⟩
end
theorem zno{α β:Type}{r:Res α}{f:α->VH->Res β}{b:β}{h':VH}(q:r.bind f=.ok b h'):∃a h1,r=.ok a h1/\f a h1=.ok b h':=by
 cases r with
 |ok a h=>exact⟨a,h,rfl,q⟩
 |ex x h=>cases q
 |no=>cases q
theorem zaa{α β:Type}{r:Res α}{f:α->VH->Res β}{w:β}{h':VH}{P:Prop}(e:r.bind f=.ok w h')(k:∀x h1,r=.ok x h1->f x h1=.ok w h'->P):P:=by
 obtain⟨x,h1,a,b⟩:=zno e
 exact k x h1 a b
theorem of_ok{α:Type}{o:Option α}{h h':VH}{a:α}(q:Res.of o h=.ok a h'):o=some a/\h'=h:=by
 cases o with
 |none=>cases q
 |some b=>cases q;exact⟨rfl,rfl⟩
structure Fr(K:PySem.W.Frag)(m:Nat->Addr)(n:Nat)(H:Hp)(σ:L2.St)(ρ:En):Prop where
 len:σ.length=ρ.length
 val:∀(i:Nat)(w:W),ρ[i]?=some (some w)->∃v,σ[i]?=some (some v)/\VRep K m n H v w
noncomputable abbrev FE:=En->VH->Res W
noncomputable abbrev FS:=En->VH->Res Fl
noncomputable def lft(K:PySem.W.Frag)(f:FE):TE:=λσ H Q=>∃ρ h m w h',Fr K m h.n H σ ρ/\Rel K m h H/\f ρ h=.ok w h'/\
 ∀v H' m',Stp m h.n H m' h'.n H'->Rel K m' h' H'->VRep K m' h'.n H' v w->Q v H'
noncomputable def lftT(K:PySem.W.Frag)(f:FE):TT:=λσ H Q=>∃ρ h m b h',Fr K m h.n H σ ρ/\Rel K m h H/\f ρ h=.ok (.bl b) h'/\
 ∀H' m',Stp m h.n H m' h'.n H'->Rel K m' h' H'->Q b H'
noncomputable def lftA(K:PySem.W.Frag)(f:FE):TA:=λσ H Q=>∃ρ h m ws h',Fr K m h.n H σ ρ/\Rel K m h H/\f ρ h=.ok (.tup ws) h'/\
 ∀vs H' m',Stp m h.n H m' h'.n H'->Rel K m' h' H'->VReps K m' h'.n H' vs ws->Q vs H'
section
variable{K:PySem.W.Frag}{m:Nat->Addr}{σ:L2.St}{H:Hp}{P:Prop}{fa:FE}{ρ:En}{h h':VH}
theorem lft.el{Q:VK}(q:lft K fa σ H Q)(k:∀ρ h m w h',Fr K m h.n H σ ρ->Rel K m h H->fa ρ h=.ok w h'->(∀v H' m',Stp m h.n H m' h'.n H'->Rel K m' h' H'->VRep K m' h'.n H' v w->Q v H')->P):P:=by
 obtain⟨ρ,h,m,w,h',f,r,e,k'⟩:=q
 exact k ρ h m w h' f r e k'
theorem lft.mk{Q:VK}{w:W}(f:Fr K m h.n H σ ρ)(r:Rel K m h H)(e:fa ρ h=.ok w h')(k:∀v H' m',Stp m h.n H m' h'.n H'->Rel K m' h' H'->VRep K m' h'.n H' v w->Q v H'):lft K fa σ H Q:=⟨ρ,h,m,w,h',f,r,e,k⟩
theorem lftT.el{Q:Bool->Hp->Prop}(q:lftT K fa σ H Q)(k:∀ρ h m b h',Fr K m h.n H σ ρ->Rel K m h H->fa ρ h=.ok (.bl b) h'->(∀H' m',Stp m h.n H m' h'.n H'->Rel K m' h' H'->Q b H')->P):P:=by
 obtain⟨ρ,h,m,w,h',f,r,e,k'⟩:=q
 exact k ρ h m w h' f r e k'
theorem lftT.mk{Q:Bool->Hp->Prop}{b:Bool}(f:Fr K m h.n H σ ρ)(r:Rel K m h H)(e:fa ρ h=.ok (.bl b) h')(k:∀H' m',Stp m h.n H m' h'.n H'->Rel K m' h' H'->Q b H'):lftT K fa σ H Q:=⟨ρ,h,m,b,h',f,r,e,k⟩
theorem lftA.el{Q:List V->Hp->Prop}(q:lftA K fa σ H Q)(k:∀ρ h m ws h',Fr K m h.n H σ ρ->Rel K m h H->fa ρ h=.ok (.tup ws) h'->(∀vs H' m',Stp m h.n H m' h'.n H'->Rel K m' h' H'->VReps K m' h'.n H' vs ws->Q vs H')->P):P:=by
 obtain⟨ρ,h,m,w,h',f,r,e,k'⟩:=q
 exact k ρ h m w h' f r e k'
theorem lftA.mk{Q:List V->Hp->Prop}{ws:List W}(f:Fr K m h.n H σ ρ)(r:Rel K m h H)(e:fa ρ h=.ok (.tup ws) h')(k:∀vs H' m',Stp m h.n H m' h'.n H'->Rel K m' h' H'->VReps K m' h'.n H' vs ws->Q vs H'):lftA K fa σ H Q:=⟨ρ,h,m,ws,h',f,r,e,k⟩
end
noncomputable abbrev SE(X:Cx)(e:Expr)(f:FE):Prop:=PE X e (lft X.K f)
noncomputable abbrev ST(X:Cx)(e:Expr)(f:FE):Prop:=PT X e (lftT X.K f)
noncomputable abbrev SW(X:Cx)(e:Expr)(f:FE):Prop:=PW X e (lftT X.K f)
noncomputable abbrev SA(X:Cx)(es:List Expr)(f:FE):Prop:=PA X es (lftA X.K f)
theorem _root_.L2.PE.imp{X:Cx}{e:Expr}{t t':TE}(h:PE X e t)(k:∀σ H Q,t' σ H Q->t σ H Q):PE X e t':=λpins s σ H Q I q=>h pins s σ H Q I (k σ H Q q)
theorem _root_.L2.PT.imp{X:Cx}{e:Expr}{t t':TT}(h:PT X e t)(k:∀σ H Q,t' σ H Q->t σ H Q):PT X e t':=λpins s σ H Q I q=>h pins s σ H Q I (k σ H Q q)
theorem _root_.L2.PW.imp{X:Cx}{e:Expr}{t t':TT}(h:PW X e t)(k:∀σ H Q,t' σ H Q->t σ H Q):PW X e t':=λwh pins s σ H Q I q=>h wh pins s σ H Q I (k σ H Q q)
theorem _root_.L2.PA.imp{X:Cx}{es:List Expr}{t t':TA}(h:PA X es t)(k:∀σ H Q,t' σ H Q->t σ H Q):PA X es t':=λp pins s σ H Q I q=>h p pins s σ H Q I (k σ H Q q)
theorem _root_.L2.PS.imp{X:Cx}{st:Stmt}{t t':TS}(h:PS X st t)(k:∀D σ H,t' D σ H->t D σ H):PS X st t':=λpins s σ H D I q=>h pins s σ H D I (k D σ H q)
theorem _root_.L2.PSs.imp{X:Cx}{st:List Stmt}{t t':TS}(h:PSs X st t)(k:∀D σ H,t' D σ H->t D σ H):PSs X st t':=λpins s σ H D I q=>h pins s σ H D I (k D σ H q)
section
variable{K:PySem.W.Frag}{m m':Nat->Addr}{n n':Nat}{h h':VH}{H H':Hp}{σ:L2.St}{ρ:En}
theorem Fr.stp(f:Fr K m n H σ ρ)(s:Stp m n H m' n' H'):Fr K m' n' H' σ ρ:=⟨f.len,λi w e=>let⟨v,h1,h2⟩:=f.val i w e;⟨v,h1,h2.stp s⟩⟩
theorem Fr.set(f:Fr K m n H σ ρ){v:V}{w:W}(q:VRep K m n H v w)(i:Nat):Fr K m n H (σ.set i (some v)) (ρ.set i (some w)):=by
 refine⟨by rw[vck,vck];exact f.len,λj w' e=>?_⟩
 by_cases hj:i=j
 .subst hj
  by_cases hl:i<ρ.length
  .rw[va0 hl]at e
   cases e
   exact⟨v,by rw[va0 (by rw[f.len];exact hl)],q⟩
  .rw[List.getElem?_eq_none (by rw[vck];omega)]at e;cases e
 .rw[vbr hj]at e
  obtain⟨v',h1,h2⟩:=f.val j w' e
  exact⟨v',by rw[vbr hj];exact h1,h2⟩
noncomputable def Wants(K:PySem.W.Frag)(m:Nat->Addr)(n:Nat)(H:Hp)(w:W)(h':VH)(Q:VK):Prop:=∀v H' m',Stp m n H m' h'.n H'->Rel K m' h' H'->VRep K m' h'.n H' v w->Q v H'
theorem Wants.here{w:W}{Q:VK}(k:Wants K m h.n H w h Q)(r:Rel K m h H){v:V}(q:VRep K m h.n H v w):Q v H:=k v H m .refl r q
theorem Wants.list{ws:List W}{vs:List V}{Q:VK}(k:Wants K m h.n H (.ref h.n) (h.new (.lst ws)) Q)(r:Rel K m h H)(q:VReps K m h.n H vs ws){p:Addr}(hp:H p=none):Q (.ref p) (upd H p (.lst vs)):=by
 obtain⟨st,r'⟩:=r.alloc (o:=.lst ws) (u:=.lst vs) hp (λ_ z=>nomatch z) (λst=>⟨vs,zad,q.stp st⟩)
 refine k _ _ _ st r' ?_
 have:VRep K (λi=>if i=h.n then p else m i) (h.n+1) (upd H p (.lst vs)) (.ref ((λi=>if i=h.n then p else m i) h.n)) (.ref h.n):=.ref (va2 _)
 simp only[vbb]at this
 exact this
theorem Wants.dictD{ks ws:List W}{xs:DX}{u:HO}{Q:VK}(k:Wants K m h.n H (.ref h.n) (h.new (.dt ks ws)) Q)(r:Rel K m h H){p:Addr}(hp:H p=none)(hu:u=dtH xs p\/(xs=[]/\u=.dK []))(q0:mapO keyD ks=some (xs.map (·.1)))(q1:VReps K m h.n H (xs.map λx=>.ref x.2.1) ks)(q2:VReps K m h.n H (xs.map λx=>x.2.2) ws):Q (.ref p) (upd H p u):=by
 obtain⟨st,r'⟩:=r.alloc (o:=.dt ks ws) (u:=u) hp (λt z=>by rcases hu with e|⟨_,e⟩<;> (rw[e]at z;exact nomatch z)) (λst=>⟨xs,hu.imp (λe=>by rw[zad,e]) λ⟨a,e⟩=>⟨a,by rw[zad,e]⟩,q0,q1.stp st,q2.stp st⟩)
 refine k _ _ _ st r' ?_
 have:VRep K (λi=>if i=h.n then p else m i) (h.n+1) (upd H p u) (.ref ((λi=>if i=h.n then p else m i) h.n)) (.ref h.n):=.ref (va2 _)
 simp only[vbb]at this
 exact this
theorem Wants.tuple{ws:List W}{vs:List V}{Q:VK}(k:Wants K m h.n H (.tup ws) h Q)(r:Rel K m h H)(q:VReps K m h.n H vs ws){p:Addr}(hp:H p=none):Q (.ref p) (upd H p (.tup vs)):=by
 obtain⟨st,r'⟩:=r.more (u:=.tup vs) hp
 exact k _ _ _ st r' (.tup (SqT.of zad) (q.stp st))
theorem zl4{fa:FE}{g:W->VH->Res W}{G:V->Hp->VK->Prop}
 (hG:∀(m:Nat->Addr)(h:VH)(H:Hp)(v:V)(x w:W)(h':VH)(Q:VK),Rel K m h H->VRep K m h.n H v x->g x h=.ok w h'->Wants K m h.n H w h' Q->G v H Q) {Q:VK}
 (q:lft K (λρ h=>(fa ρ h).bind λx h=>g x h) σ H Q):lft K fa σ H λv H1=>G v H1 Q:=by
 refine q.el λρ h m w h' f r e k=>?_
 refine zaa e λx h1 e1 e2=>?_
 exact(.mk f r e1 λv H1 m1 s1 r1 q1=>hG m1 h1 H1 v x w h' Q r1 q1 e2 λv' H' m' s' r' q'=>k v' H' m' (s1.trans s') r' q')
theorem zee{fa fb:FE}{g:W->W->VH->Res W}{G:V->V->Hp->VK->Prop}
 (hG:∀(m:Nat->Addr)(h:VH)(H:Hp)(v u:V)(x y w:W)(h':VH)(Q:VK),Rel K m h H->VRep K m h.n H v x->VRep K m h.n H u y->g x y h=.ok w h'->Wants K m h.n H w h' Q->G v u H Q) {Q:VK}
 (q:lft K (λρ h=>(fa ρ h).bind λx h=>(fb ρ h).bind λy h=>g x y h) σ H Q):lft K fa σ H λv H1=>lft K fb σ H1 λu H2=>G v u H2 Q:=by
 refine q.el λρ h m w h' f r e k=>?_
 refine zaa e λx h1 e1 e2=>?_
 refine zaa e2 λy h2 e3 e4=>?_
 refine(.mk f r e1 λv H1 m1 s1 r1 q1=>(.mk (f.stp s1) r1 e3 λu H2 m2 s2 r2 q2=>?_))
 exact hG m2 h2 H2 v u x y w h' Q r2 (q1.stp s2) q2 e4 λv' H' m' s' r' q'=>k v' H' m' ((s1.trans s2).trans s') r' q'
theorem zbj{fa:FE}{g:List W->VH->Res W}{G:List V->Hp->VK->Prop}
 (hG:∀(m:Nat->Addr)(h:VH)(H:Hp)(vs:List V)(xs:List W)(w:W)(h':VH)(Q:VK),Rel K m h H->VReps K m h.n H vs xs->g xs h=.ok w h'->Wants K m h.n H w h' Q->G vs H Q) {Q:VK}
 (q:lft K (λρ h=>(fa ρ h).bind λy h=>match y with|.tup ys=>g ys h|_=>.no) σ H Q):lftA K fa σ H λvs H1=>G vs H1 Q:=by
 refine q.el λρ h m w h' f r e k=>?_
 refine zaa e λx h1 e1 e2=>?_
 cases x with
 |tup ys=>exact(.mk f r e1 λvs H1 m1 s1 r1 q1=>hG m1 h1 H1 vs ys w h' Q r1 q1 e2 λv' H' m' s' r' q'=>k v' H' m' (s1.trans s') r' q')
 |_=>cases e2
theorem zgu{f:FE}{Q:Bool->Hp->Prop}(q:lftT K f σ H Q):lft K f σ H λx H'=>∃k,x=.bl k/\Q k H':=by
 refine q.el λρ h m b h' f r e k=>?_
 exact(.mk f r e λv H' m' s' r' q'=>by cases q';exact⟨b,rfl,k H' m' s' r'⟩)
end
section
variable{X:Cx}{a b c e:Expr}{es:List Expr}{fa fb fc:FE}{pos:Pos}
theorem zqf{i:Nat}{x:Str}{pos:Pos}(hN:X.N[i]?=some x)(hv:Vis X.env.scope x)(hd:(x==("__debug__" : Str))=false)(hcd:(x==("__classdict__" : Str))=false):SE X (.Name x pos) (λρ h=>.of (ρ[i]?).join h):=
 (zhz hN hv hd hcd).imp λσ H Q z9=>z9.el λρ h m w h' f r e k=>by
   obtain⟨e1,e2⟩:=of_ok e
   subst e2
   have e3:ρ[i]?=some (some w):=by
    cases q:ρ[i]? with
    |none=>rw[q]at e1;cases e1
    |some o=>rw[q]at e1;rw[<-e1];rfl
   obtain⟨v,h1,h2⟩:=f.val i w e3
   exact⟨v,h1,k v H m .refl r h2⟩
theorem zff{w:W}{v:V}(h:PE X e (tC v))(hv:∀m n H,VRep X.K m n H v w):SE X e (λ_ h=>.ok w h):=
 h.imp λσ H Q z9=>z9.el λρ h m w h' f r e k=>by cases e;exact k v H m .refl r (hv m h.n H)
theorem zqg{i j pos}:SE X (.Constant (.int i) j pos) (λ_ h=>.ok (.int i) h):=zff zlt λ_ _ _=>.int i
theorem se_bl{i j pos}:SE X (.Constant (.bool i) j pos) (λ_ h=>.ok (.bl i) h):=zff pe_bl λ_ _ _=>.bl i
theorem zqh{j pos}:SE X (.Constant .none j pos) (λ_ h=>.ok .non h):=zff zo4 λ_ _ _=>.non
theorem zqi{i j pos}:SE X (.Constant (.str i) j pos) (λ_ h=>.ok (.str i) h):=zff zh0 λ_ _ _=>.str i
theorem zjc:SA X [] (λ_ h=>.ok (.tup []) h):=zbs.imp λσ H Q z9=>z9.el λρ h m ws h' f r e k=>by cases e;exact k [] H m .refl r .nil
theorem zef(ha:SE X e fa)(hr:SA X es fb)(hs:starEach (e::es) X.env=(false,eval e X.env)::starEach es X.env) :
 SA X (e::es) (λρ h=>(fa ρ h).bind λx h=>(fb ρ h).bind λy h=>match y with|.tup ys=>.ok (.tup (x::ys)) h|_=>.no):=
 (zaw ha hr hs).imp λσ H Q z9=>z9.el λρ h m ws h' f r e k=>by
   refine zaa e λx h1 e1 e2=>?_
   refine zaa e2 λy h2 e3 e4=>?_
   cases y with
   |tup ys=>
    cases e4
    exact(.mk f r e1 λv H1 m1 s1 r1 q1=>(.mk (f.stp s1) r1 e3 λvs H2 m2 s2 r2 q2=>k _ H2 m2 (s1.trans s2) r2 (.cons (q1.stp s2) q2)))
   |_=>cases e4
theorem zl5{k:Nat}(h:Nat.ble k 1000=true):k<=sizeLine:=vcu (zc0 (vau h))
theorem zqj{x1:Nat}(ha:SA X es fa):SE X (.Tuple es x1 pos) (λρ h=>(fa ρ h).bind λy h=>match y with|.tup ys=>(if Nat.ble ys.length 1000 then .ok (.tup ys) h else .no)|_=>.no):=
 (zpu ha).imp λσ H Q q=>zbj (g:=λys h=>if Nat.ble ys.length 1000 then .ok (.tup ys) h else .no) (G:=λxs H1 Q=>xs.length<=sizeLine/\∀p,H1 p=none->Q (.ref p) (upd H1 p (.tup xs)))
   (λm h H vs xs w h' Q r q e k=>by
     split at e
     .rename_i hl
      cases e
      exact⟨by rw[q.length];exact zl5 hl,λp hp=>Wants.tuple k r q hp⟩
     .cases e) q
theorem zqk(ha:SA X es fa):SE X (.List es pos) (λρ h=>(fa ρ h).bind λy h=>match y with|.tup ys=>(if Nat.ble ys.length 1000 then .ok (.ref h.n) (h.new (.lst ys))else .no)|_=>.no):=
 (zil ha).imp λσ H Q q=>zbj (g:=λys h=>if Nat.ble ys.length 1000 then .ok (.ref h.n) (h.new (.lst ys))else .no) (G:=λxs H1 Q=>xs.length<=sizeLine/\∀p,H1 p=none->Q (.ref p) (upd H1 p (.lst xs)))
   (λm h H vs xs w h' Q r q e k=>by
     split at e
     .rename_i hl
      cases e
      exact⟨by rw[q.length];exact zl5 hl,λp hp=>Wants.list k r q hp⟩
     .cases e) q
noncomputable def OpV(K:PySem.W.Frag)(r:R2)(g:W->W->VH->Res W):Prop:=∀(m:Nat->Addr) (h:VH) (H:Hp) (v u:V) (x y w:W) (h':VH) (Q:VK),Rel K m h H->VRep K m h.n H v x->VRep K m h.n H u y->g x y h=.ok w h'->Wants K m h.n H w h' Q->r v u H Q
theorem se_op{O:Operator}{r:R2}{g:W->W->VH->Res W}(ho:OpR X (binaryOp O) r)(hg:OpV X.K r g)(ha:SE X a fa)(hb:SE X b fb):SE X (.BinOp a O b pos) (λρ h=>(fa ρ h).bind λx h=>(fb ρ h).bind λy h=>g x y h):=
 (pe_op ho ha hb).imp λσ H Q q=>zee (G:=r) hg q
noncomputable def opOf:Operator->Option Op
 |.Add=>some .add|.Sub=>some .sub|.Mult=>some .mul|.FloorDiv=>some .fdiv|.Mod=>some .mod|.Pow=>some .pow
 |_=>none
noncomputable def cI:Op->Int->Int->Prop
 |.mul=>CMul|.fdiv=>CDiv|.mod=>λ_ j=>0<j|.shl=>CPow|.pow=>CPow
 |_=>λ_ _=>True
noncomputable def gI:Op->Int->Int->Int
 |.add=>(· + ·)|.sub=>(· - ·)|.mul=>(· * ·)|.fdiv=>(· / ·)|.mod=>(· % ·)|.shl=>λi j=>i*2 ^ j.toNat|.pow=>λi j=>i ^ j.toNat
noncomputable def rX(K:PySem.W.Frag):Op->R2
 |.add=>λx y H Q=>rCatT K x y H Q\/zl0 K x y H Q\/rCat x y H Q
 |_=>λ_ _ _ _=>False
noncomputable def rB(K:PySem.W.Frag)(o:Op):R2:=λx y H Q=>rI (cI o) (λi j=>.int (gI o i j)) x y H Q\/rX K o x y H Q
theorem zb6{f:Value->Value->Sem Value}{r r':R2}(h:OpR X f r)(k:∀x y H Q,r' x y H Q->r x y H Q):OpR X f r':=λpins s σ H x y v u Q I rx ry q=>h pins s σ H x y v u Q I rx ry (k _ _ _ _ q)
theorem op_ok{O:Operator}{o:Op}(e:opOf O=some o):OpR X (binaryOp O) (rB X.K o):=by
 have tr:∀{g:Int->Int->V}{x y H Q},rI (λ_ _=>True) g x y H Q->rI0 g x y H Q:=λ⟨i,j,h1,h2,_,h3⟩=>⟨i,j,h1,h2,h3⟩
 cases O<;>cases e
 .exact zb6 (zpk.or (znb.or (zkz.or ziv))) λx y H Q q=>q.elim (λz=>.inl (tr z)) .inr
 .exact zb6 zpl λx y H Q q=>q.elim (λz=>tr z) λz=>z.elim
 .exact zb6 zpm λx y H Q q=>q.elim id λz=>z.elim
 .exact zb6 zpn λx y H Q q=>q.elim id λz=>z.elim
 .exact zb6 zpo λx y H Q q=>q.elim id λz=>z.elim
 .exact zb6 zm0 λx y H Q q=>q.elim id λz=>z.elim
theorem zc4{i:Int}(h:za8 i=true):-(2 ^ 64)<i/\i<2 ^ 64:=by
 unfold za8 at h
 rw[vaa]at h
 exact⟨vax h.1,vax h.2⟩
theorem zjd{o:Op}{i j z:Int}(e:opI o i j=some z):cI o i j/\z=gI o i j:=by
 cases o<;>simp only[opI]at e
 .cases e;exact⟨trivial,rfl⟩
 .cases e;exact⟨trivial,rfl⟩
 .split at e
  .rename_i hc
   cases e
   rw[Bool.or_eq_true]at hc
   exact⟨hc.elim (λq=>.inl (zc4 q)) (λq=>.inr (zc4 q)),rfl⟩
  .cases e
 .split at e
  .rename_i hc
   cases e
   rw[vaa]at hc
   exact⟨⟨vax hc.1,vax hc.2⟩,rfl⟩
  .cases e
 .split at e
  .rename_i hc
   cases e
   exact⟨(vax hc:0<j),rfl⟩
  .cases e
 .split at e
  .rename_i hc
   cases e
   rw[vaa,vaa]at hc
   exact⟨⟨vax hc.1.1,vax hc.1.2,vax hc.2⟩,rfl⟩
  .cases e
 .split at e
  .rename_i hc
   cases e
   rw[vaa,vaa]at hc
   exact⟨⟨vax hc.1.1,vax hc.1.2,vax hc.2⟩,rfl⟩
  .cases e
theorem zb7{i:Int}(h:fits i=true):-(2 ^ 62)<=i/\i<2 ^ 62:=by
 unfold fits at h
 rw[vaa]at h
 exact⟨vax h.1,vax h.2⟩
theorem zql{K:PySem.W.Frag}(o:Op):OpV K (rB K o) (opW o):=by
 intro m h H v u x y w h' Q r qv qu e k
 unfold opW at e
 split at e
 .rename_i i j
  obtain⟨e,rfl⟩:=of_ok e
  cases qv;cases qu
  cases q:opI o i j with
  |none=>rw[q]at e;cases e
  |some z=>
   rw[q]at e;cases e
   obtain⟨h1,rfl⟩:=zjd q
   exact .inl ⟨i,j,rfl,rfl,h1,Wants.here k r (.int _)⟩
 .rename_i xs ys
  obtain⟨e,rfl⟩:=of_ok e
  cases q:opT o xs ys with
  |none=>rw[q]at e;cases e
  |some zs=>
   rw[q]at e;cases e
   cases o<;>simp only[opT]at q
   split at q
   .rename_i hc
    cases q
    cases qv with
    |tup qa ra=>
     cases qu with
     |tup qb rb=>
      rename_i a va b vb
      have hl:=vau hc
      cases xs with
      |nil=>
       cases ra
       exact .inr (.inr (.inl ⟨a,b,vb,rfl,rfl,qa,qb,Wants.here k r (.tup qb rb)⟩))
      |cons x0 xs0=>
       refine .inr (.inl ⟨a,b,va,vb,rfl,rfl,qa,qb,λz=>?_,by rw[ra.length,rb.length];exact hl,λz=>?_,λ_ p hp=>Wants.tuple k r (ra.append rb) hp⟩)
       .subst z;cases ra
       .subst z;cases rb
        rw[va8]at k
        exact Wants.here k r (.tup qa ra)
   .cases q
   all_goals cases q
 .rename_i i j
  split at e
  .rename_i xs ys hx hy
   split at e
   .rename_i zs q
    cases e
    cases o<;>simp only[opL]at q
    split at q
    .rename_i hc
     cases q
     obtain⟨va,pa,ra⟩:=r.lst hx
     obtain⟨vb,pb,rb⟩:=r.lst hy
     cases qv;cases qu
     exact .inr (.inr (.inr ⟨m i,m j,va,vb,rfl,rfl,pa,pb,by rw[ra.length,rb.length];exact vau hc,λp hp=>Wants.list k r (ra.append rb) hp⟩))
    .cases q
    all_goals cases q
   .cases e
  .cases e
 .cases e
end
section
variable{K:PySem.W.Frag}{m:Nat->Addr}{h:VH}{H:Hp}
theorem zfg{f:W->Option PyData}(ih:∀(w:W) (d:PyData) (v:V),f w=some d->VRep K m h.n H v w->Rp K (λ_=>False) H v d):∀{ws:List W} {ds:List PyData} {vs:List V},mapO f ws=some ds->VReps K m h.n H vs ws->Rps K (λ_=>False) H vs ds
 |[],ds,_,e,.nil=>by cases e;exact .nil
 |w::ws,ds,_,e,.cons q r=>by
  unfold mapO at e
  split at e
  .rename_i d hd
   split at e
   .rename_i bs hb
    cases e
    exact .cons (ih w d _ hd q) (zfg ih hb r)
   .cases e
  .cases e
theorem rp_of(r:Rel K m h H):∀(n:Nat) (w:W) (d:PyData) (v:V),toD h n w=some d->VRep K m h.n H v w->Rp K (λ_=>False) H v d
 |0,_,_,_,e,_=>by cases e
 |n+1,w,d,v,e,q=>by
  cases q with
  |non=>cases e;exact .non
  |bl b=>cases e;exact .bl b
  |int b=>cases e;exact .int b
  |str b=>cases e;exact .str b
  | @tup a vs ws sq rs=>
   simp only[toD]at e
   cases z:mapO (toD h n) ws with
   |none=>rw[z]at e;cases e
   |some ds=>rw[z]at e;cases e;exact .tup sq (λz=>z) (zfg (rp_of r n) z rs)
  | @fz a vs ws sq rs=>
   simp only[toD]at e
   cases z:mapO (toD h n) ws with
   |none=>rw[z]at e;cases e
   |some ds=>rw[z]at e;cases e;exact .lst sq.sq (λz=>z) (zfg (rp_of r n) z rs)
  | @ref i hi=>
   simp only[toD]at e
   cases g:h.get i with
   |none=>rw[g]at e;cases e
   |some o=>
    rw[g]at e
    cases o with
    |dk _=>cases e
    |dt _ _=>cases e
    |ins _ _ _=>cases e
    |lst ws=>
     obtain⟨vs,h1,h2⟩:=r.lst g
     simp only at e
     cases z:mapO (toD h n) ws with
     |none=>rw[z]at e;cases e
     |some ds=>rw[z]at e;cases e;exact .lst (SqL.of h1) (λz=>z) (zfg (rp_of r n) z h2)
theorem zl6(r:Rel K m h H){x y:W}{v u:V}{b:Bool}(e:eqW h x y=some b)(qv:VRep K m h.n H v x)(qu:VRep K m h.n H u y) :
 ∃d e',Rp K (λ_=>False) H v d/\Rp K (λ_=>False) H u e'/\SeqAt.shaped d=true/\SeqAt.shaped e'=true/\b=PyData.eqv d e':=by
 unfold eqW at e
 split at e
 .rename_i d e' h1 h2
  split at e
  .rename_i hc
   cases e
   rw[vaa]at hc
   exact⟨d,e',rp_of r _ _ _ _ h1 qv,rp_of r _ _ _ _ h2 qu,hc.1,hc.2,rfl⟩
  .cases e
 .cases e
end
theorem zb8{K:PySem.W.Frag}{m:Nat->Addr}{h:VH}{H:Hp}{v:V}{w:W}{ws:List W}(r:Rel K m h H)(q:VRep K m h.n H v w)(e:seqW h w=some ws):∃p vs,v=.ref p/\(SqL K H p vs\/SqT K H p vs)/\VReps K m h.n H vs ws:=by
 cases q<;>try cases e
 .exact⟨_,_,rfl,.inr ‹_›,‹_›⟩
 .rename_i q _;exact⟨_,_,rfl,.inl q.sq,‹_›⟩
 .rename_i i hi
  simp only[seqW]at e
  cases g:h.get i with
  |none=>rw[g]at e;cases e
  |some o=>
   rw[g]at e
   cases o with
   |dk _=>cases e
   |dt _ _=>cases e
   |ins _ _ _=>cases e
   |lst ws=>
    cases e
    obtain⟨vs,h1,h2⟩:=r.lst g
    exact⟨_,vs,rfl,.inl (SqL.of h1),h2⟩
theorem zf7{K:PySem.W.Frag}{m:Nat->Addr}{n:Nat}{H:Hp}:∀{vs:List V} {ws:List W} {is:List Int},VReps K m n H vs ws->mapO intD ws=some is->vs=is.map .int
 |_,_,_,.nil,e=>by cases e;rfl
 |_,_,_,.cons (w:=w) q r,e=>by
  simp only[mapO]at e
  cases q<;>try cases e
  rename_i i _ ws _
  simp only[intD]at e
  cases z:mapO intD ws with
  |none=>rw[z]at e;cases e
  |some js=>rw[z]at e;cases e;rw[vaj,zf7 r z]
theorem zc5{K:PySem.W.Frag}{m:Nat->Addr}{n:Nat}{H:Hp}{v:V}{w:W}{k:DK}(q:VRep K m n H v w)(e:keyD w=some k):∃b,v=.ref b/\KeyAt K H k b:=by
 unfold keyD at e
 split at e
 .rename_i ws
  cases z:mapO intD ws with
  |none=>rw[z]at e;cases e
  |some is=>
   rw[z]at e;cases e
   cases q with
   | @tup b vs _ sq rs=>
    cases rs with
    |cons q1 rs=>
     cases rs with
     |cons q2 rs=>
      cases rs;cases q2
      cases q1 with
      | @tup c us _ sq1 rs1=>
       refine⟨b,rfl,c,sq,?_⟩
       rw[<-zf7 rs1 z];exact sq1
 .rename_i ws i
  cases z:mapO intD ws with
  |none=>rw[z]at e;cases e
  |some is=>
   rw[z]at e;cases e
   cases q with
   | @tup b vs _ sq rs=>
    cases rs with
    |cons q1 rs=>
     cases rs with
     |cons q2 rs=>
      cases rs;cases q2
      cases q1 with
      | @tup c us _ sq1 rs1=>
       refine⟨b,rfl,c,sq,?_⟩
       rw[<-zf7 rs1 z];exact sq1
 .cases e
theorem dt_ok{K:PySem.W.Frag}{m:Nat->Addr}{n:Nat}{H:Hp}:∀{xs:DX} {ks:List W},mapO keyD ks=some (xs.map (·.1))->VReps K m n H (xs.map λx=>.ref x.2.1) ks->∀p∈xs,KeyAt K H p.1 p.2.1
 |[],_,_,_,p,hp=>nomatch hp
 |x::xs,ks,e,r,p,hp=>by
  rw[vaj]at r
  obtain⟨w,ks,rfl,q,r⟩:∃w ks',ks=w::ks'/\VRep K m n H (.ref x.2.1) w/\VReps K m n H (xs.map λx=>.ref x.2.1) ks':=by cases r with|cons q r=>exact⟨_,_,rfl,q,r⟩
  simp only[mapO]at e
  cases z:keyD w with
  |none=>rw[z]at e;cases e
  |some k=>
   rw[z]at e
   simp only at e
   cases z2:mapO keyD ks with
   |none=>rw[z2]at e;cases e
   |some js=>
    rw[z2]at e
    simp only[vaj,Option.some.injEq,List.cons.injEq]at e
    rcases va5.mp hp with rfl|hp
    .obtain⟨b,e1,e2⟩:=zc5 q z
     cases e1
     rw[<-e.1];exact e2
    .exact dt_ok (by rw[z2,e.2]) r p hp
theorem dt_DT{K:PySem.W.Frag}{m:Nat->Addr}{n:Nat}{H:Hp}{a:Addr}{xs:DX}{ks:List W}(h:H a=some (dtH xs a)\/(xs=[]/\H a=some (.dK [])))(e:mapO keyD ks=some (xs.map (·.1)))(q:VReps K m n H (xs.map λx=>.ref x.2.1) ks):DT K H a xs:=
 h.imp (λz=>⟨z,dt_ok e q⟩) λ⟨z,y⟩=>⟨z,.inl y⟩
theorem zeg{K:PySem.W.Frag}{m:Nat->Addr}{n:Nat}{H:Hp}:∀{xs:DX} {ks ws:List W} (k:DK),mapO keyD ks=some (xs.map (·.1))->VReps K m n H (xs.map λx=>x.2.2) ws->(findX xs k=none/\lookD ks ws k=none)\/∃p w,findX xs k=some p/\lookD ks ws k=some w/\VRep K m n H p.2 w
 |[],ks,ws,k,e,r=>by
  cases ks with
  |nil=>exact .inl ⟨rfl,by unfold lookD;rfl⟩
  |cons c ks=>
   simp only[mapO]at e
   split at e
   .split at e<;>cases e
   .cases e
 |x::xs,ks,ws,k,e,r=>by
  rw[vaj]at r
  obtain⟨w,ws,rfl,q,r⟩:∃w ws',ws=w::ws'/\VRep K m n H x.2.2 w/\VReps K m n H (xs.map λx=>x.2.2) ws':=by cases r with|cons q r=>exact⟨_,_,rfl,q,r⟩
  cases ks with
  |nil=>cases e
  |cons c ks=>
   simp only[mapO]at e
   cases z:keyD c with
   |none=>rw[z]at e;cases e
   |some k'=>
    rw[z]at e
    simp only at e
    cases z2:mapO keyD ks with
    |none=>rw[z2]at e;cases e
    |some js=>
     rw[z2]at e
     simp only[vaj,Option.some.injEq,List.cons.injEq]at e
     unfold lookD
     rw[z,e.1]
     by_cases y:x.1=k
     .rw[if_pos (by rw[y])]
      exact .inr ⟨x.2,w,by simp[findX,va4,y],rfl,q⟩
     .rw[if_neg (λz=>y (va6 z))]
      have:findX (x::xs) k=findX xs k:=by simp[findX,va4,y]
      rw[this]
      exact zeg k (by rw[z2,e.2]) r
theorem zl7{K:PySem.W.Frag}{m:Nat->Addr}{h:VH}{H:Hp}(r:Rel K m h H){x y:W}{v u:V}{b:Bool}(e:inD h x y=some b)(qv:VRep K m h.n H v x)(qu:VRep K m h.n H u y) :
 ∃a c xs k,u=.ref a/\v=.ref c/\DT K H a xs/\KeyAt K H k c/\b=(findX xs k).isSome:=by
 unfold inD at e
 split at e
 .rename_i i
  split at e
  .rename_i ks ws k g hk
   cases e
   cases qu
   obtain⟨xs,p1,p2,p3,p4⟩:=r.dt g
   obtain⟨c,rfl,kk⟩:=zc5 qv hk
   refine⟨m i,c,xs,k,rfl,rfl,dt_DT p1 p2 p3,kk,?_⟩
   rcases zeg k p2 p4 with⟨z1,z2⟩|⟨p,w,z1,z2,_⟩<;> (rw[z1,z2];rfl)
  .cases e
 .cases e
theorem zl8{K:PySem.W.Frag}{m:Nat->Addr}{h:VH}{H:Hp}(r:Rel K m h H){x y:W}{v u:V}{b:Bool}(e:inW h x y=some b)(qv:VRep K m h.n H v x)(qu:VRep K m h.n H u y) :
 (∃p vs ds d,u=.ref p/\(SqL K H p vs\/SqT K H p vs)/\Rps K (λ_=>False) H vs ds/\Rp K (λ_=>False) H v d/\ds.all SeqAt.shaped=true/\SeqAt.shaped d=true/\b=anyEq ds d)\/inD h x y=some b:=by
 unfold inW at e
 split at e
 .rename_i ws d h1 h2
  split at e
  .rename_i ds h3
   split at e
   .rename_i hc
    cases e
    rw[vaa]at hc
    obtain⟨p,vs,rfl,h4,h5⟩:=zb8 r qu h1
    exact .inl ⟨p,vs,ds,d,rfl,h4,zfg (rp_of r 24) h3 h5,rp_of r _ _ _ _ h2 qv,hc.1,hc.2,rfl⟩
   .cases e
  .cases e
 .exact .inr e
noncomputable def cpOf:CmpOp->Option Cp
 |.Eq=>some .eq|.NotEq=>some .ne|.Lt=>some .lt|.LtE=>some .le|.Gt=>some .gt|.GtE=>some .ge|.Is=>some .isn|.IsNot=>some .notn|.In=>some .inn|.NotIn=>some .nin
noncomputable def rC(K:PySem.W.Frag):Cp->R2
 |.eq=>rEqD K
 |.ne=>rNeD K
 |.lt=>rI0 λi j=>.bl (decide (i<j))
 |.le=>rI0 λi j=>.bl (decide (i<=j))
 |.gt=>rI0 λi j=>.bl (decide (j<i))
 |.ge=>rI0 λi j=>.bl (decide (j<=i))
 |.isn=>λx y H Q=>(y=.non/\Q (.bl (decide (x=.non))) H)\/∃c b,x=.bl c/\y=.bl b/\Q (.bl (c==b)) H
 |.notn=>λx y H Q=>(y=.non/\Q (.bl (!decide (x=.non))) H)\/∃c b,x=.bl c/\y=.bl b/\Q (.bl (!(c==b))) H
 |.inn=>λx y H Q=>rInD K false x y H Q\/rInX K false x y H Q
 |.nin=>λx y H Q=>rInD K true x y H Q\/rInX K true x y H Q
noncomputable def zbt:Expr->Bool
 |.Set ..=>false
 |_=>true
theorem zf8{op:CmpOp}{b:Expr}(h:zbt b=true):behindInMarks op b=false:=by
 cases b<;>first|rfl|cases h
section
variable{X:Cx}{a b c e:Expr}{es:List Expr}{fa fb fc:FE}{pos:Pos}
theorem zqm:OpR X (compareOp .Is) (λx y H Q=>∃c b,x=.bl c/\y=.bl b/\Q (.bl (c==b)) H):=by
 intro pins s σ H x y v u Q I rx ry h
 obtain⟨c,b,rfl,rfl,q⟩:=h
 cases rx;cases ry
 exact wpAny_is_plain rfl (zag I q (by cases c<;>cases b<;>rfl))
theorem zje:OpR X (compareOp .IsNot) (λx y H Q=>∃c b,x=.bl c/\y=.bl b/\Q (.bl (!(c==b))) H):=by
 intro pins s σ H x y v u Q I rx ry h
 obtain⟨c,b,rfl,rfl,q⟩:=h
 cases rx;cases ry
 exact wpAny_isNot_plain rfl (zag I q (by cases c<;>cases b<;>rfl))
theorem zdo(hu:X.A.units+65<cLine){O:CmpOp}{c:Cp}(e:cpOf O=some c):OpR X (compareOp O) (rC X.K c):=by
 cases O<;>cases e
 .exact zp1 (by omega)
 .exact zp2 (by omega)
 .exact op_lt
 .exact op_le
 .exact op_gt
 .exact op_ge
 .exact zpq.or zqm
 .exact zm2.or zje
 .exact(zp6 (by show X.A.units+1+64<cLine;omega)).or (zqb (by omega))
 .exact(zi4 (by show X.A.units+1+64<cLine;omega)).or (zja (by omega))
theorem zcl{K:PySem.W.Frag}{m:Nat->Addr}{n:Nat}{H:Hp}{v:V}{w:W}(q:VRep K m n H v w):isNon w=decide (v=.non):=by
 cases q<;>simp[isNon]
theorem zeh{K:PySem.W.Frag}(c:Cp):OpV K (rC K c) (λx y h=>.of ((cmpW c h x y).map .bl) h):=by
 intro m h H v u x y w h' Q r qv qu e k
 obtain⟨e,rfl⟩:=of_ok e
 cases z:cmpW c h' x y with
 |none=>rw[z]at e;cases e
 |some b=>
  rw[z]at e;cases e
  have fin:Q (.bl b) H:=Wants.here k r (.bl b)
  unfold cmpW at z
  split at z
  .rcases zl8 r z qv qu with⟨p,vs,ds,d,h1,h2,h3,h4,h5,h6,rfl⟩|z3
   .exact .inl ⟨p,vs,ds,d,h1,h2,h3,h4,h5,h6,fin⟩
   .obtain⟨a,c,xs,dk,h1,h2,h3,h4,rfl⟩:=zl7 r z3 qv qu
    exact .inr ⟨a,c,xs,dk,h1,h2,h3,h4,fin⟩
  .cases z2:inW h' x y with
   |none=>rw[z2]at z;cases z
   |some b2=>
    rw[z2]at z;cases z
    rcases zl8 r z2 qv qu with⟨p,vs,ds,d,h1,h2,h3,h4,h5,h6,rfl⟩|z3
    .exact .inl ⟨p,vs,ds,d,h1,h2,h3,h4,h5,h6,fin⟩
    .obtain⟨a,c,xs,dk,h1,h2,h3,h4,rfl⟩:=zl7 r z3 qv qu
     exact .inr ⟨a,c,xs,dk,h1,h2,h3,h4,fin⟩
  .obtain⟨d,e',h1,h2,h3,h4,rfl⟩:=zl6 r z qv qu
   exact⟨d,e',h1,h2,h3,h4,fin⟩
  .cases z2:eqW h' x y with
   |none=>rw[z2]at z;cases z
   |some b2=>
    rw[z2]at z;cases z
    obtain⟨d,e',h1,h2,h3,h4,rfl⟩:=zl6 r z2 qv qu
    exact⟨d,e',h1,h2,h3,h4,fin⟩
  .split at z
   .rename_i hn
    cases z
    have:=zcl qu
    rw[hn]at this
    refine .inl ⟨vax this.symm,?_⟩
    rw[<-zcl qv];exact fin
   .unfold isB at z
    split at z
    .rename_i c b
     cases z
     cases qv;cases qu
     exact .inr ⟨_,_,rfl,rfl,fin⟩
    .cases z
  .split at z
   .rename_i hn
    cases z
    have:=zcl qu
    rw[hn]at this
    refine .inl ⟨vax this.symm,?_⟩
    rw[<-zcl qv];exact fin
   .cases z2:isB x y with
    |none=>rw[z2]at z;cases z
    |some b2=>
     rw[z2]at z;cases z
     unfold isB at z2
     split at z2
     .rename_i c b
      cases z2
      cases qv;cases qu
      exact .inr ⟨_,_,rfl,rfl,fin⟩
     .cases z2
  .split at z
   .rename_i i j
    cases qv;cases qu
    cases c<;>simp only[cmpI]at z<;>cases z<;>exact⟨i,j,rfl,rfl,fin⟩
   .cases z
theorem zqn(hu:X.A.units+65<cLine){O:CmpOp}{c:Cp}(e:cpOf O=some c)(hs:zbt b=true)(ha:SE X a fa)(hb:SE X b fb) :
 SE X (.Compare a [O] [b] pos) (λρ h=>(fa ρ h).bind λx h=>(fb ρ h).bind λy h=>.of ((cmpW c h x y).map .bl) h):=
 (zic (zdo hu e) ha hb (zf8 hs)).imp λσ H Q q=>zee (G:=rC X.K c) (zeh c) q
theorem zqo(hu:X.A.units+65<cLine){O:CmpOp}{c:Cp}(e:cpOf O=some c)(hs:zbt b=true)(ha:SE X a fa)(hb:SE X b fb) :
 ST X (.Compare a [O] [b] pos) (λρ h=>(fa ρ h).bind λx h=>(fb ρ h).bind λy h=>.of ((cmpW c h x y).map .bl) h):=
 (zid (zdo hu e) ha hb (zf8 hs)).imp λσ H Q q=>zee (G:=rC X.K c) (zeh c) (zgu q)
theorem lm2{O O':CmpOp}{a b:Expr}(h:zbt b=true):lastMarks [O,O'] [a,b]=false:=zf8 h
theorem zfh{K:PySem.W.Frag}{c1 c2:Cp}{σ:L2.St}{H:Hp}{Q:VK}
 (q:lft K (λρ h=>(fa ρ h).bind λx h=>(fb ρ h).bind λy h=>match cmpW c1 h x y with
   |some true=>(fc ρ h).bind λz h=>.of ((cmpW c2 h y z).map .bl) h
   |some false=>.ok (.bl false) h
   |none=>.no) σ H Q):zie (rC K c1) (rC K c2) (lft K fa) (lft K fb) (lft K fc) σ H Q:=by
 refine q.el λρ h m w h' f r e k=>?_
 refine zaa e λx h1 e1 e2=>?_
 refine zaa e2 λy h2 e3 e4=>?_
 refine(.mk f r e1 λv H1 m1 s1 r1 q1=>(.mk (f.stp s1) r1 e3 λu H2 m2 s2 r2 q2=>?_))
 have f2:=(f.stp s1).stp s2
 have k2:Wants K m2 h2.n H2 w h' Q:=λv' H' m' s' r' q'=>k v' H' m' ((s1.trans s2).trans s') r' q'
 cases z:cmpW c1 h2 x y with
 |none=>rw[z]at e4;cases e4
 |some b=>
  rw[z]at e4
  refine zeh c1 m2 h2 H2 v u x y (.bl b) h2 _ r2 (q1.stp s2) q2 (by show Res.of ((cmpW c1 h2 x y).map W.bl) h2=_;rw[z];rfl) λv3 H3 m3 s3 r3 q3=>?_
  cases q3
  refine⟨b,rfl,?_⟩
  cases b with
  |true=>
   refine zaa e4 λz' h4 e5 e6=>?_
   rw[if_pos rfl]
   refine⟨ρ,h2,m3,z',h4,f2.stp s3,r3,e5,λv4 H4 m4 s4 r4 q4=>?_⟩
   exact zeh c2 m4 h4 H4 u v4 y z' w h' Q r4 ((q2.stp s3).stp s4) q4 e6 λv' H' m' s' r' q'=>k2 v' H' m' ((s3.trans s4).trans s') r' q'
  |false=>
   cases e4
   simp only[vaf,va1]
   exact k2 _ H3 m3 s3 r3 (.bl false)
theorem zqp(hu:X.A.units+65<cLine){O O':CmpOp}{c1 c2:Cp}(e:cpOf O=some c1)(e':cpOf O'=some c2)(hs:zbt c=true)(ha:SE X a fa)(hb:SE X b fb)(hc:SE X c fc) :
 SE X (.Compare a [O,O'] [b,c] pos) (λρ h=>(fa ρ h).bind λx h=>(fb ρ h).bind λy h=>match cmpW c1 h x y with
  |some true=>(fc ρ h).bind λz h=>.of ((cmpW c2 h y z).map .bl) h
  |some false=>.ok (.bl false) h
  |none=>.no):=(zkj (zdo hu e) (zdo hu e') ha hb hc (lm2 hs)).imp λσ H Q q=>zfh q
theorem zqq(hu:X.A.units+65<cLine){O O':CmpOp}{c1 c2:Cp}(e:cpOf O=some c1)(e':cpOf O'=some c2)(hs:zbt c=true)(ha:SE X a fa)(hb:SE X b fb)(hc:SE X c fc) :
 ST X (.Compare a [O,O'] [b,c] pos) (λρ h=>(fa ρ h).bind λx h=>(fb ρ h).bind λy h=>match cmpW c1 h x y with
  |some true=>(fc ρ h).bind λz h=>.of ((cmpW c2 h y z).map .bl) h
  |some false=>.ok (.bl false) h
  |none=>.no):=(zkk (zdo hu e) (zdo hu e') ha hb hc (lm2 hs)).imp λσ H Q q=>zfh (zgu q)
noncomputable abbrev gNot(fa:FE):FE:=λρ h=>(fa ρ h).bind λx h=>match x with|.bl b=>.ok (.bl (!b)) h|_=>.no
noncomputable abbrev gAnd(fa fb:FE):FE:=λρ h=>(fa ρ h).bind λx h=>match x with|.bl true=>fb ρ h|.bl false=>.ok (.bl false) h|_=>.no
noncomputable abbrev gOr(fa fb:FE):FE:=λρ h=>(fa ρ h).bind λx h=>match x with|.bl true=>.ok (.bl true) h|.bl false=>fb ρ h|_=>.no
noncomputable abbrev gIte(fa fb fc:FE):FE:=λρ h=>(fa ρ h).bind λx h=>match x with|.bl true=>fb ρ h|.bl false=>fc ρ h|_=>.no
variable{rest:List Expr}
theorem zqr(ha:ST X a fa):ST X (.UnaryOp .Not a pos) (gNot fa):=(zlv ha).imp λσ H Q z9=>z9.el λρ h m b h' f r e k=>by
 refine zaa e λx h1 e1 e2=>?_
 cases x<;>try cases e2
 rename_i b
 exact(.mk f r e1 λH' m' s' r'=>k H' m' s' r')
theorem zqs(ha:SE X a fa):SE X (.UnaryOp .Not a pos) (gNot fa):=(zo9 ha).imp λσ H Q z9=>z9.el λρ h m b h' f r e k=>by
 refine zaa e λx h1 e1 e2=>?_
 cases x<;>try cases e2
 rename_i b
 exact(.mk f r e1 λv H' m' s' r' q=>by cases q;exact⟨b,rfl,k _ H' m' s' r' (.bl _)⟩)
theorem zl9{op:BoolOp}(ha:ST X a fa):SW X (.BoolOp op [a] pos) fa:=by
 cases op
 .exact zmv ha
 .exact zlu ha
theorem zqt(ha:ST X a fa)(hb:SW X (.BoolOp .And (b::rest) pos) fb):SW X (.BoolOp .And (a::b::rest) pos) (gAnd fa fb):=(zo6 ha hb).imp λσ H Q z9=>z9.el λρ h m b h' f r e k=>by
 refine zaa e λx h1 e1 e2=>?_
 cases x<;>try cases e2
 rename_i c
 refine(.mk f r e1 λH1 m1 s1 r1=>?_)
 cases c with
 |true=>rw[if_pos rfl];exact(.mk (f.stp s1) r1 e2 λH' m' s' r'=>k H' m' (s1.trans s') r')
 |false=>cases e2;simp only[vaf,va1];exact k H1 m1 s1 r1
theorem sw_or(ha:ST X a fa)(hb:SW X (.BoolOp .Or (b::rest) pos) fb):SW X (.BoolOp .Or (a::b::rest) pos) (gOr fa fb):=(pw_or ha hb).imp λσ H Q z9=>z9.el λρ h m b h' f r e k=>by
 refine zaa e λx h1 e1 e2=>?_
 cases x<;>try cases e2
 rename_i c
 refine(.mk f r e1 λH1 m1 s1 r1=>?_)
 cases c with
 |true=>cases e2;rw[if_pos rfl];exact k H1 m1 s1 r1
 |false=>simp only[vaf,va1];exact(.mk (f.stp s1) r1 e2 λH' m' s' r'=>k H' m' (s1.trans s') r')
theorem zma{op:BoolOp}(ha:SE X a fa):SE X (.BoolOp op [a] pos) fa:=zo7 ha
theorem zqu(ha:SE X a fa)(hb:SE X (.BoolOp .And (b::rest) pos) fb):SE X (.BoolOp .And (a::b::rest) pos) (gAnd fa fb):=(zo8 ha hb).imp λσ H Q z9=>z9.el λρ h m w h' f r e k=>by
 refine zaa e λx h1 e1 e2=>?_
 cases x<;>try cases e2
 rename_i c
 refine(.mk f r e1 λv H1 m1 s1 r1 q1=>?_)
 cases q1
 refine⟨c,rfl,?_⟩
 cases c with
 |true=>rw[if_pos rfl];exact(.mk (f.stp s1) r1 e2 λv H' m' s' r' q'=>k v H' m' (s1.trans s') r' q')
 |false=>cases e2;simp only[vaf,va1];exact k _ H1 m1 s1 r1 (.bl false)
theorem se_or(ha:SE X a fa)(hb:SE X (.BoolOp .Or (b::rest) pos) fb):SE X (.BoolOp .Or (a::b::rest) pos) (gOr fa fb):=(pe_or ha hb).imp λσ H Q z9=>z9.el λρ h m w h' f r e k=>by
 refine zaa e λx h1 e1 e2=>?_
 cases x<;>try cases e2
 rename_i c
 refine(.mk f r e1 λv H1 m1 s1 r1 q1=>?_)
 cases q1
 refine⟨c,rfl,?_⟩
 cases c with
 |true=>cases e2;rw[if_pos rfl];exact k _ H1 m1 s1 r1 (.bl true)
 |false=>simp only[vaf,va1];exact(.mk (f.stp s1) r1 e2 λv H' m' s' r' q'=>k v H' m' (s1.trans s') r' q')
theorem zqv(hc:ST X c fc)(ha:SE X a fa)(hb:SE X b fb):SE X (.IfExp c a b pos) (gIte fc fa fb):=(zkd hc ha hb).imp λσ H Q z9=>z9.el λρ h m w h' f r e k=>by
 refine zaa e λx h1 e1 e2=>?_
 cases x<;>try cases e2
 rename_i c
 refine(.mk f r e1 λH1 m1 s1 r1=>?_)
 cases c with
 |true=>rw[if_pos rfl];exact(.mk (f.stp s1) r1 e2 λv H' m' s' r' q'=>k v H' m' (s1.trans s') r' q')
 |false=>simp only[vaf,va1];exact(.mk (f.stp s1) r1 e2 λv H' m' s' r' q'=>k v H' m' (s1.trans s') r' q')
theorem zcd{K:PySem.W.Frag}{m:Nat->Addr}{n:Nat}{H:Hp}{vs:List V}{ws:List W}(q:VReps K m n H vs ws):vs.isEmpty=ws.isEmpty:=by cases q<;>rfl
theorem znp{K:PySem.W.Frag}{m:Nat->Addr}{h:VH}{H:Hp}{v:V}{w:W}{b:Bool}(r:Rel K m h H)(q:VRep K m h.n H v w)(e:truW h w=some b):TruV K v H b:=by
 cases q with
 |non=>cases e;rfl
 |bl x=>cases e;rfl
 |int i=>cases e;rfl
 |str x=>cases e
 |fz _ _=>cases e
 |tup sq rs=>cases e;exact .inr (.inl ⟨_,sq,by rw[zcd rs]⟩)
 | @ref i hi=>
  simp only[truW]at e
  cases g:h.get i with
  |none=>rw[g]at e;cases e
  |some o=>
   rw[g]at e
   cases o with
   |dk _=>cases e
   |dt _ _=>cases e
   |ins _ _ _=>cases e
   |lst ws=>
    cases e
    obtain⟨vs,h1,h2⟩:=r.lst g
    exact .inl ⟨vs,SqL.of h1,by rw[zcd h2]⟩
theorem zjf(ha:SE X a fa)(he:∀whole,isTrue a X.env whole=(do let v <-whole;standAt a.pos;holding [v] (truthy v))) :
 ST X a (λρ h=>(fa ρ h).bind λx h=>.of ((truW h x).map .bl) h):=(zkl ha he).imp λσ H Q z9=>z9.el λρ h m b h' f r e k=>by
 refine zaa e λx h1 e1 e2=>?_
 obtain⟨e2,rfl⟩:=of_ok e2
 cases z:truW h' x with
 |none=>rw[z]at e2;cases e2
 |some c=>
  rw[z]at e2;cases e2
  exact(.mk f r e1 λv H' m' s' r' q=>⟨b,znp r' q z,k H' m' s' r'⟩)
theorem zqw(ha:SE X a fa):SE X (.UnaryOp .USub a pos) (λρ h=>(fa ρ h).bind λx h=>match x with|.int i=>.ok (.int (-i)) h|_=>.no):=
 (pe_un zpp ha).imp λσ H Q q=>zl4 (g:=λx h=>match x with|.int i=>.ok (.int (-i)) h|_=>.no) (G:=rU λi=>.int (-i)) (λm h H v x w h' Q r q e k=>by
   cases q<;>try cases e
   rename_i i
   exact⟨i,rfl,Wants.here k r (.int _)⟩) q
end
section
variable{K:PySem.W.Frag}{m m0:Nat->Addr}{n n0:Nat}{h:VH}{H H0:Hp}
theorem Rel.adopt(r:Rel K m h H){p:Addr}{o:VO}{u u0:HO}(hp:∀i,i<h.n->m i≠p)(hu:H p=some u0)(ht:∀t,u0≠.tup t)(hf:∀o t,u0≠.frz o t)(s:Stp m0 n0 H0 m h.n H)(h0:H0 p=none)
 (ho:Stp m h.n H (λi=>if i=h.n then p else m i) (h.n+1) (upd H p u)\/True->(∀{v:V}{w:W},VRep K m h.n H v w->VRep K (λi=>if i=h.n then p else m i) (h.n+1) (upd H p u) v w)->ORep K (λi=>if i=h.n then p else m i) (h.n+1) (upd H p u) p o) :
 Stp m0 n0 H0 (λi=>if i=h.n then p else m i) (h.n+1) (upd H p u)/\Rel K (λi=>if i=h.n then p else m i) (h.new o) (upd H p u):=by
 have kt:∀b vs,H b=some (.tup vs)->upd H p u b=some (.tup vs):=λb vs q=>by rw[zac (ne_of q hu λz=>ht vs z.symm)];exact q
 have kf:∀b o t,H b=some (.frz o t)->upd H p u b=some (.frz o t):=λb o t q=>by rw[zac (ne_of q hu λz=>hf o t z.symm)];exact q
 have mv:∀{v:V}{w:W},VRep K m h.n H v w->VRep K (λi=>if i=h.n then p else m i) (h.n+1) (upd H p u) v w:=by
  intro v w q
  have st:Stp m h.n (λb=>if b=p then none else H b) (λi=>if i=h.n then p else m i) (h.n+1) (upd H p u):=by
   refine⟨Nat.le_succ _,λi hi=>by simp only[if_neg (vas hi)],λi hi hi2=>?_,λi j hi hi2 hj=>?_,λb vs q=>?_,λb o t q=>?_,λb o _ q=>?_⟩
   .have:i=h.n:=by omega
    subst this;simp only[vbb]
   .have:i=h.n:=by omega
    subst this;simp only[vbb,if_neg (vas hj)];exact(hp j hj).symm
   .split at q
    .cases q
    .exact kt b vs q
   .split at q
    .cases q
    .exact kf b o t q
   .split at q
    .cases q
    .rename_i z;rw[zac z];exact q
  refine VRep.stp st ?_
  have back:∀{a vs},SqT K H a vs->SqT K (λb=>if b=p then none else H b) a vs:=by
   intro a vs q
   rcases q with(q|⟨o,q⟩)|q
   .exact .inl (.inl (by simp only[if_neg (ne_of q hu λz=>ht vs z.symm)];exact q))
   .exact .inl (.inr ⟨o,by simp only[if_neg (ne_of q hu λz=>hf o _ z.symm)];exact q⟩)
   .exact .inr q
  have backf:∀{a vs},Fz K H a vs->Fz K (λb=>if b=p then none else H b) a vs:=by
   intro a vs q
   rcases q with⟨o,q⟩|q
   .exact .inl ⟨o,by simp only[if_neg (ne_of q hu λz=>hf o _ z.symm)];exact q⟩
   .exact .inr q
  exact(VRep.rec (K:=K) (m:=m) (n:=h.n) (H:=H) (motive_1:=λv w _=>VRep K m h.n (λb=>if b=p then none else H b) v w) (motive_2:=λvs ws _=>VReps K m h.n (λb=>if b=p then none else H b) vs ws)
   .non .bl .int .str (λsq _ ih=>.tup (back sq) ih) (λsq _ ih=>.fz (backf sq) ih) (λhi=>.ref hi) .nil (λ_ _ i1 i2=>.cons i1 i2) q)
 refine⟨⟨Nat.le_succ_of_le s.le,λi hi=>?_,λi hi hi2=>?_,λi j hi hi2 hj=>?_,λb vs q=>kt b vs (s.tup b vs q),λb o t q=>kf b o t (s.frz b o t q),λb o nb q=>?_⟩,⟨λi hi=>?_,λi j hi hj z=>?_,?_⟩⟩
 .have:=s.le
  simp only[if_neg (show i≠h.n by omega)];exact s.same i hi
 .by_cases e:i=h.n
  .subst e;simp only[vbb];exact h0
  .simp only[if_neg e];exact s.new i hi (by omega)
 .have:=s.le
  simp only[if_neg (show j≠h.n by omega)]
  by_cases e:i=h.n
  .subst e;simp only[vbb];exact(hp j (by omega)).symm
  .simp only[if_neg e];exact s.apart i j hi (by omega) hj
 .rw[zac (zae q h0)];exact s.keep b o nb q
 .have hi:i<h.n+1:=hi
  by_cases e:i=h.n
  .subst e;exact⟨o,zax,by simp only[vbb];exact ho (.inr trivial) mv⟩
  .have hl:i<h.n:=by omega
   obtain⟨o',h1,h2⟩:=r.obj i hl
   refine⟨o',(zai hl).trans h1,?_⟩
   simp only[if_neg e]
   have eq:upd H p u (m i)=H (m i):=zac (hp i hl)
   cases o' with
   |lst ws=>
    obtain⟨vs,q1,q2⟩:=h2
    exact⟨vs,eq.trans q1,VReps.rec (K:=K) (m:=m) (n:=h.n) (H:=H) (motive_1:=λv w _=>VRep K m h.n H v w) (motive_2:=λvs ws _=>VReps K (λi=>if i=h.n then p else m i) (h.n+1) (upd H p u) vs ws)
     .non .bl .int .str (λsq q _=>.tup sq q) (λsq q _=>.fz sq q) (λhi=>.ref hi) .nil (λq _ _ i2=>.cons (mv q) i2) q2⟩
   |dk ws=>
    obtain⟨vs,q1,q2⟩:=h2
    have go:∀{vs:List (Key×V)}{ws:List (Key×W)},KReps K m h.n H vs ws->KReps K (λi=>if i=h.n then p else m i) (h.n+1) (upd H p u) vs ws:=by
     intro vs ws q2
     induction q2 with
     |nil=>exact .nil
     |cons q _ ih=>exact .cons (mv q) ih
    exact⟨vs,q1.imp (λz=>eq.trans z) λ⟨o,z⟩=>⟨o,eq.trans z⟩,go q2⟩
   |dt ks ws=>
    obtain⟨xs,q1,q0,q2,q3⟩:=h2
    have go:∀{vs:List V}{ws:List W},VReps K m h.n H vs ws->VReps K (λi=>if i=h.n then p else m i) (h.n+1) (upd H p u) vs ws:=λq2=>
     VReps.rec (K:=K) (m:=m) (n:=h.n) (H:=H) (motive_1:=λv w _=>VRep K m h.n H v w) (motive_2:=λvs ws _=>VReps K (λi=>if i=h.n then p else m i) (h.n+1) (upd H p u) vs ws)
      .non .bl .int .str (λsq q _=>.tup sq q) (λsq q _=>.fz sq q) (λhi=>.ref hi) .nil (λq _ _ i2=>.cons (mv q) i2) q2
    exact⟨xs,q1.imp (λz=>eq.trans z) λ⟨o,z⟩=>⟨o,eq.trans z⟩,q0,go q2,go q3⟩
   |ins C xs ws=>
    obtain⟨dx,vs,q1,q0,q2⟩:=h2
    have go:∀{vs:List V}{ws:List W},VReps K m h.n H vs ws->VReps K (λi=>if i=h.n then p else m i) (h.n+1) (upd H p u) vs ws:=λq2=>
     VReps.rec (K:=K) (m:=m) (n:=h.n) (H:=H) (motive_1:=λv w _=>VRep K m h.n H v w) (motive_2:=λvs ws _=>VReps K (λi=>if i=h.n then p else m i) (h.n+1) (upd H p u) vs ws)
      .non .bl .int .str (λsq q _=>.tup sq q) (λsq q _=>.fz sq q) (λhi=>.ref hi) .nil (λq _ _ i2=>.cons (mv q) i2) q2
    exact⟨dx,vs,eq.trans q1,q0,go q2⟩
 .have hi:i<h.n+1:=hi
  have hj:j<h.n+1:=hj
  by_cases e:i=h.n
  .by_cases e2:j=h.n
   .omega
   .simp only[if_pos e,if_neg e2]at z
    exact absurd z.symm (hp j (by omega))
  .by_cases e2:j=h.n
   .simp only[if_neg e,if_pos e2]at z
    exact absurd z (hp i (by omega))
   .simp only[if_neg e,if_neg e2]at z
    exact r.inj i j (by omega) (by omega) z
 .show(o::h.os).length=h.n+1
  rw[vam,r.len]
theorem VReps.map{m':Nat->Addr}{n':Nat}{H':Hp}(mv:∀{v:V} {w:W},VRep K m n H v w->VRep K m' n' H' v w):∀{vs:List V} {ws:List W},VReps K m n H vs ws->VReps K m' n' H' vs ws
 |_,_,.nil=>.nil
 |_,_,.cons q r=>.cons (mv q) (VReps.map mv r)
theorem KReps.map{m':Nat->Addr}{n':Nat}{H':Hp}(mv:∀{v:V} {w:W},VRep K m n H v w->VRep K m' n' H' v w):∀{vs:List (Key×V)} {ws:List (Key×W)},KReps K m n H vs ws->KReps K m' n' H' vs ws
 |_,_,.nil=>.nil
 |_,_,.cons q r=>.cons (mv q) (KReps.map mv r)
theorem KReps.look(k:Key):∀{vs:List (Key×V)} {ws:List (Key×W)},KReps K m n H vs ws->(valV vs k=none/\lookK ws k=none)\/∃v w,valV vs k=some v/\lookK ws k=some w/\VRep K m n H v w
 |_,_,.nil=>.inl ⟨rfl,rfl⟩
 |_,_,.cons (k:=k') (v:=v) (w:=w) q r=>by
  by_cases e:k'=k
  .refine .inr ⟨v,w,zec (p:=(k',v)) e,?_,q⟩
   unfold lookK;rw[va4];simp[e]
  .rcases KReps.look k r with⟨a,b⟩|⟨v',w',a,b,c⟩
   .refine .inl ⟨(zci (p:=(k',v)) e).trans a,?_⟩
    unfold lookK at b ⊢;rw[va4];simp only[vaw e];exact b
   .refine .inr ⟨v',w',(zci (p:=(k',v)) e).trans a,?_,c⟩
    unfold lookK at b ⊢;rw[va4];simp only[vaw e];exact b
theorem KReps.any(k:Key):∀{vs:List (Key×V)} {ws:List (Key×W)},KReps K m n H vs ws->(vs.any λkv=>decide (kv.1=k))=(ws.any λkv=>decide (kv.1=k))
 |_,_,.nil=>rfl
 |_,_,.cons q r=>by rw[List.any_cons,List.any_cons,KReps.any k r]
theorem KReps.repl{v:V}{w:W}(q:VRep K m n H v w)(k:Key):∀{vs:List (Key×V)} {ws:List (Key×W)},KReps K m n H vs ws->KReps K m n H (vs.map λkv=>if kv.1=k then(kv.1,v)else kv) (ws.map λkv=>if kv.1=k then(kv.1,w)else kv)
 |_,_,.nil=>.nil
 |_,_,.cons (k:=k') p r=>by
  rw[vaj,vaj]
  by_cases e:k'=k
  .simp only[if_pos e];exact .cons q (KReps.repl q k r)
  .simp only[if_neg e];exact .cons p (KReps.repl q k r)
theorem KReps.snoc{v:V}{w:W}(q:VRep K m n H v w)(k:Key):∀{vs:List (Key×V)} {ws:List (Key×W)},KReps K m n H vs ws->KReps K m n H (vs++[(k,v)]) (ws++[(k,w)])
 |_,_,.nil=>.cons q .nil
 |_,_,.cons p r=>.cons p (KReps.snoc q k r)
theorem KReps.put{v:V}{w:W}(q:VRep K m n H v w)(k:Key){vs:List (Key×V)}{ws:List (Key×W)}(r:KReps K m n H vs ws):KReps K m n H (putK vs k v) (putKW ws k w):=by
 unfold putK putKW
 rw[r.any k]
 split
 .exact r.repl q k
 .exact r.snoc q k
theorem KReps.merge{vs:List (Key×V)}{ws:List (Key×W)}(q:KReps K m n H vs ws):∀{va:List (Key×V)} {wa:List (Key×W)},KReps K m n H va wa->KReps K m n H (zcc va vs) (zl3 wa ws):=by
 induction q with
 |nil=>exact λa=>a
 |cons q r ih=>exact λa=>ih (a.put q _)
theorem KReps.length:∀{vs:List (Key×V)} {ws:List (Key×W)},KReps K m n H vs ws->vs.length=ws.length
 |_,_,.nil=>rfl
 |_,_,.cons _ r=>by rw[vam,vam,KReps.length r]
theorem znq{v:V}{w:W}{k:Key}(q:VRep K m n H v w)(e:keyW w=some k):v=kV k:=by
 cases q<;>cases e<;>rfl
theorem zei{vs:List V}{ws:List W}{i:Int}{w:W}(q:VReps K m n H vs ws)(e:atI ws i=some w):∃v,atI vs i=some v/\VRep K m n H v w:=by
 unfold atI at e ⊢
 rw[q.length]
 cases z:ixN ws.length i with
 |none=>rw[z]at e;cases e
 |some j=>
  rw[z]at e
  exact q.get e
end
noncomputable def rIdx(K:PySem.W.Frag):R2:=λx y H Q=>rIxL K x y H Q\/rIxT K x y H Q\/(∃a v,x=.ref a/\DGet H a y (some v)/\Q v H)\/rIxX K x y H Q
section
variable{X:Cx}{a b c e o:Expr}{es:List Expr}{fa fb fc fo:FE}{pos:Pos}
theorem znr(hu:X.A.units+1<cLine):IxR X (λx y H Q=>∃a v,x=.ref a/\DGet H a y (some v)/\Q v H):=by
 intro value slice pins s σ H x y v u Q I rx ry q hs
 obtain⟨a,v',rfl,g,q⟩:=q
 obtain rfl:v=Value.ref a:=rx
 exact tail_any (zf5 I g) PySem.F.slot_dict_getitem.lookup (zi3 hu I g ry λw' s3 I3 rw'=>⟨v',H,I3,rw',q⟩) hs
theorem ix_ok(hu:X.A.units+2<cLine):IxR X (rIdx X.K):=ziu.or (zpx.or ((znr (by omega)).or (ix_dt hu)))
theorem zns{K:PySem.W.Frag}:OpV K (rIdx K) (λx y h=>.of (idxW h x y) h):=by
 intro m h H v u x y w h' Q r qv qu e0 k
 obtain⟨e,e1⟩:=of_ok e0
 clear e0
 subst e1
 unfold idxW at e
 split at e
 .cases qv with
  |tup sq rs=>
   cases qu
   obtain⟨v',h1,h2⟩:=zei rs e
   exact .inr (.inl ⟨_,_,_,v',rfl,rfl,sq,h1,Wants.here k r h2⟩)
 .cases qv with
  |fz sq rs=>
   cases qu
   obtain⟨v',h1,h2⟩:=zei rs e
   exact .inl ⟨_,_,_,v',rfl,rfl,sq.sq,h1,Wants.here k r h2⟩
 .rename_i i j
  cases qv;cases qu
  cases g:h'.get i with
  |none=>rw[g]at e;cases e
  |some ob=>
   rw[g]at e
   cases ob with
   |lst ws=>
    obtain⟨vs,p1,p2⟩:=r.lst g
    obtain⟨v',h1,h2⟩:=zei p2 e
    exact .inl ⟨_,_,_,v',rfl,rfl,SqL.of p1,h1,Wants.here k r h2⟩
   |dk ws=>
    have e:lookK ws (.inl j)=some w:=e
    obtain⟨vs,p1,p2⟩:=r.dk g
    rcases p2.look (.inl j)with⟨_,z⟩|⟨v',w',z1,z2,z3⟩
    .rw[z]at e;cases e
    .rw[z2]at e;cases e
     exact .inr (.inr (.inl ⟨_,v',rfl,by rw[<-z1];exact .inl ⟨vs,.inl j,p1,rfl,rfl⟩,Wants.here k r z3⟩))
   |dt _ _=>cases e
   |ins _ _ _=>cases e
 .rename_i i j
  cases qv;cases qu
  cases g:h'.get i with
  |none=>rw[g]at e;cases e
  |some ob=>
   rw[g]at e
   cases ob with
   |lst ws=>cases e
   |dk ws=>
    have e:lookK ws (.inr j)=some w:=e
    obtain⟨vs,p1,p2⟩:=r.dk g
    rcases p2.look (.inr j)with⟨_,z⟩|⟨v',w',z1,z2,z3⟩
    .rw[z]at e;cases e
    .rw[z2]at e;cases e
     exact .inr (.inr (.inl ⟨_,v',rfl,by rw[<-z1];exact .inl ⟨vs,.inr j,p1,rfl,rfl⟩,Wants.here k r z3⟩))
   |dt _ _=>cases e
   |ins _ _ _=>cases e
 .rename_i i _ _
  cases qv
  unfold idxD at e
  split at e
  .rename_i ks ws dk g hk
   obtain⟨xs,p1,p2,p3,p4⟩:=r.dt g
   obtain⟨c,rfl,kk⟩:=zc5 qu hk
   rcases zeg dk p2 p4 with⟨_,z2⟩|⟨p,w',z1,z2,z3⟩
   .rw[z2]at e;cases e
   .rw[z2]at e;cases e
    exact .inr (.inr (.inr ⟨_,c,xs,dk,p,rfl,rfl,dt_DT p1 p2 p3,kk,z1,Wants.here k r z3⟩))
  .cases e
 .cases e
theorem zqx(hu:X.A.units+2<cLine)(ha:SE X a fa)(hb:SE X b fb)(hs:zd9 b):SE X (.Subscript a b pos) (λρ h=>(fa ρ h).bind λx h=>(fb ρ h).bind λy h=>.of (idxW h x y) h):=
 (pe_ix (ix_ok hu) ha hb hs).imp λσ H Q q=>zee (G:=rIdx X.K) zns q
noncomputable def lftO(K:PySem.W.Frag)(b:Bool)(f:FE):TO:=λσ H Q=>∃ρ h m w o h',Fr K m h.n H σ ρ/\Rel K m h H/\f ρ h=.ok w h'/\partW b w=some o/\∀H' m',Stp m h.n H m' h'.n H'->Rel K m' h' H'->Q o H'
theorem lftO.el{K:PySem.W.Frag}{σ:L2.St}{H:Hp}{P:Prop}{b:Bool}{fa:FE}{Q:Option Int->Hp->Prop}(q:lftO K b fa σ H Q)(k:∀ρ h m w o h',Fr K m h.n H σ ρ->Rel K m h H->fa ρ h=.ok w h'->partW b w=some o->(∀H' m',Stp m h.n H m' h'.n H'->Rel K m' h' H'->Q o H')->P):P:=by
 obtain⟨ρ,h,m,w,o,h',f,r,e,ep,k'⟩:=q
 exact k ρ h m w o h' f r e ep k'
theorem lftO.mk{K:PySem.W.Frag}{σ:L2.St}{H:Hp}{m:Nat->Addr}{ρ:En}{h h':VH}{w:W}{o:Option Int}{b:Bool}{fa:FE}{Q:Option Int->Hp->Prop}(f:Fr K m h.n H σ ρ)(r:Rel K m h H)(e:fa ρ h=.ok w h')(ep:partW b w=some o)(k:∀H' m',Stp m h.n H m' h'.n H'->Rel K m' h' H'->Q o H'):lftO K b fa σ H Q:=⟨ρ,h,m,w,o,h',f,r,e,ep,k⟩
theorem znt{w:W}:PO X none (lftO X.K false (λ_ h=>.ok w h)):=λpins s σ H Q I z9=>z9.el λρ h m w o h' f r e ep k=>by
 cases e
 have:o=none:=by
  unfold partW at ep
  cases ep;rfl
 subst this
 exact zm9 pins s σ H Q I (k H m .refl r)
theorem znu(ha:SE X e fa):PO X (some e) (lftO X.K true fa):=λpins s σ H Q I z9=>z9.el λρ h m w o h' f r e ep k=>by
 refine zna ha pins s σ H Q I (.mk f r e λv H' m' s' r' q=>?_)
 cases q<;>cases ep
 exact⟨_,rfl,k H' m' s' r'⟩
theorem zgv{K:PySem.W.Frag}{m:Nat->Addr}{n:Nat}{H:Hp}{vs:List V}{ws:List W}(q:VReps K m n H vs ws)(lo hi:Option Int):VReps K m n H (cutV vs lo hi) (cutW ws lo hi):=by
 unfold cutV cutW
 rw[q.length]
 exact(q.drop _).take _
theorem zhn{ws:List W}{lo hi:Option Int}(h:HT.sIx ws.length 0 lo=0/\HT.sIx ws.length ws.length hi=ws.length):cutW ws lo hi=ws:=by
 unfold cutW
 rw[h.1,h.2]
 simp
theorem zqy{lo hi:Option Expr}{fl fh:FE}{p2:Pos}{bl bh:Bool}(ha:SE X a fa)(hl:PO X lo (lftO X.K bl fl))(hh:PO X hi (lftO X.K bh fh)) :
 SE X (.Subscript a (.Slice lo hi none p2) pos) (λρ h=>(fa ρ h).bind λx h=>(fl ρ h).bind λl h=>(fh ρ h).bind λu h=>match partW bl l,partW bh u with
 |some l,some u=>slcW x l u h
 |_,_=>.no):=
 (zks zp7 ha hl hh).imp λσ H Q z9=>z9.el λρ h m w h' f r e k=>by
   refine zaa e λx h1 e1 e2=>?_
   refine zaa e2 λl h2 e3 e4=>?_
   refine zaa e4 λu h3 e5 e6=>?_
   split at e6
   .rename_i l' u' pl pu
    refine(.mk f r e1 λv H1 m1 s1 r1 q1=>(.mk (f.stp s1) r1 e3 pl λH2 m2 s2 r2=>(.mk ((f.stp s1).stp s2) r2 e5 pu λH3 m3 s3 r3=>?_)))
    have q3:=(q1.stp s2).stp s3
    have kk:Wants X.K m3 h3.n H3 w h' Q:=λv' H' m' s' r' q'=>k v' H' m' (((s1.trans s2).trans s3).trans s') r' q'
    unfold slcW at e6
    split at e6
    .rename_i ws
     cases e6
     cases q3 with
     | @tup a vs _ sq rs=>
      by_cases hw:HT.sIx vs.length 0 l'=0/\HT.sIx vs.length vs.length u'=vs.length
      .refine .inl (.inr ⟨_,_,rfl,sq,hw,?_⟩)
       have hw':=hw
       rw[rs.length]at hw'
       rw[zhn hw']at kk
       exact Wants.here kk r3 (.tup sq rs)
      .exact .inl (.inl ⟨_,_,rfl,sq,hw,λp hp=>Wants.tuple kk r3 (zgv rs l' u') hp⟩)
    .rename_i i
     cases q3
     cases g:h3.get i with
     |none=>rw[g]at e6;cases e6
     |some ob=>
      rw[g]at e6
      cases ob with
      |lst ws=>
       cases e6
       obtain⟨vs,p1,p2⟩:=r3.lst g
       exact .inr ⟨_,_,rfl,SqL.of p1,λp hp=>Wants.list kk r3 (zgv p2 l' u') hp⟩
      |dk ws=>cases e6
      |dt _ _=>cases e6
      |ins _ _ _=>cases e6
    .cases e6
   .cases e6
end
noncomputable def zah:Expr->Bool
 |.Starred ..=>false
 |_=>true
theorem zab{e:Expr}{es:List Expr}{env:Env}(h:zah e=true):starEach (e::es) env=(false,eval e env)::starEach es env:=by
 cases e<;>first|rfl|cases h
theorem zas{pos:Pos}{env:Env}:∀{es:List Expr},es.all zah=true->(backTo pos (starEach es env)).any (·.1)=false
 |[],_=>rfl
 |e::es,h=>by
  rw[vbw,vaa]at h
  rw[zab h.1]
  show(false|| (backTo pos (starEach es env)).any (·.1))=false
  rw[zas h.2];rfl
noncomputable abbrev aNil:FE:=λ_ h=>.ok (.tup []) h
noncomputable abbrev aCons(fa fb:FE):FE:=λρ h=>(fa ρ h).bind λx h=>(fb ρ h).bind λy h=>match y with|.tup ys=>.ok (.tup (x::ys)) h|_=>.no
section
variable{X:Cx}{a b c e o:Expr}{es:List Expr}{fa fb fc fo:FE}{pos p:Pos}{x:Str}
noncomputable abbrev gArg(fa:FE)(g:List W->VH->Res W):FE:=λρ h=>(fa ρ h).bind λy h=>match y with|.tup ys=>g ys h|_=>.no
noncomputable def CallV(K:PySem.W.Frag)(r:List V->Hp->VK->Prop)(g:List W->VH->Res W):Prop:=∀(m:Nat->Addr) (h:VH) (H:Hp) (vs:List V) (xs:List W) (w:W) (h':VH) (Q:VK),Rel K m h H->VReps K m h.n H vs xs->g xs h=.ok w h'->Wants K m h.n H w h' Q->r vs H Q
theorem zcm{id:String}{r:List V->Hp->VK->Prop}{g:List W->VH->Res W}(hc:CallR X (.builtin id) r)(hv:CallV X.K r g)(hg:Gl X x)(hm:X.mg x=none)(hb:bootBuiltins x=some (.builtin id))(ha:SA X (e::es) fa)(hs:(e::es).all zah=true)
 (hn:x≠"__name__") (hdb:(x==("__debug__" : Str))=false):SE X (.Call (.Name x p) (e::es) [] pos) (gArg fa g):=by
 rw[vbw,vaa]at hs
 exact(zd8 hc hg hm hb ha hn hdb (zab hs.1) (zas hs.2)).imp λσ H Q q=>zbj hv q
theorem zc6{T:String}{r:List V->Hp->VK->Prop}{g:List W->VH->Res W}(hc:CallR X (.type T) r)(hv:CallV X.K r g)(hg:Gl X x)(hm:X.mg x=none)(hb:bootBuiltins x=some (.type T))(ha:SA X (e::es) fa)(hs:(e::es).all zah=true)
 (hn:x≠"__name__") (hdb:(x==("__debug__" : Str))=false):SE X (.Call (.Name x p) (e::es) [] pos) (gArg fa g):=by
 rw[vbw,vaa]at hs
 exact(ziq hc hg hm hb ha hn hdb (zab hs.1) (zas hs.2)).imp λσ H Q q=>zbj hv q
theorem reps1{K:PySem.W.Frag}{m:Nat->Addr}{n:Nat}{H:Hp}{vs:List V}{w:W}(q:VReps K m n H vs [w]):∃v,vs=[v]/\VRep K m n H v w:=by
 cases q with|cons q r=>cases r;exact⟨_,rfl,q⟩
theorem zqz{K:PySem.W.Frag}:CallV K (λxs H Q=>∃p ys,xs=[.ref p]/\(SqL K H p ys\/SqT K H p ys)/\Q (.int ys.length) H) lenW:=by
 intro m h H vs xs w h' Q r q e k
 unfold lenW at e
 split at e<;>try cases e
 rename_i x
 obtain⟨v,rfl,q1⟩:=reps1 q
 obtain⟨e,rfl⟩:=of_ok e
 cases z:seqW h' x with
 |none=>rw[z]at e;cases e
 |some ws=>
  rw[z]at e;cases e
  obtain⟨p,us,rfl,h1,h2⟩:=zb8 r q1 z
  exact⟨p,us,rfl,h1,by rw[h2.length];exact Wants.here k r (.int _)⟩
theorem znv{K:PySem.W.Frag}:CallV K (λxs H Q=>∃p ys,xs=[.ref p]/\(SqL K H p ys\/SqT K H p ys)/\∀l,H l=none->Q (.ref l) (upd H l (.lst ys))) listW:=by
 intro m h H vs xs w h' Q r q e k
 unfold listW at e
 split at e<;>try cases e
 rename_i x
 obtain⟨v,rfl,q1⟩:=reps1 q
 cases z:seqW h x with
 |none=>rw[z]at e;cases e
 |some ws=>
  rw[z]at e;cases e
  obtain⟨p,us,rfl,h1,h2⟩:=zb8 r q1 z
  exact⟨p,us,rfl,h1,λl hl=>Wants.list k r h2 hl⟩
theorem zk3{K:PySem.W.Frag}:CallV K (λxs H Q=>∃p ys,xs=[.ref p]/\((SqL K H p ys/\∀l,H l=none->Q (.ref l) (upd H l (.tup ys)))\/(SqT K H p ys/\Q (.ref p) H))) zgt:=by
 intro m h H vs xs w h' Q r q e k
 unfold zgt at e
 split at e<;>try cases e
 rename_i x
 obtain⟨v,rfl,q1⟩:=reps1 q
 obtain⟨e,rfl⟩:=of_ok e
 cases z:seqW h' x with
 |none=>rw[z]at e;cases e
 |some ws=>
  rw[z]at e;cases e
  obtain⟨p,us,rfl,h1,h2⟩:=zb8 r q1 z
  rcases h1 with h1|h1
  .exact⟨p,us,rfl,.inl ⟨h1,λl hl=>Wants.tuple k r h2 hl⟩⟩
  .exact⟨p,us,rfl,.inr ⟨h1,Wants.here k r (.tup h1 h2)⟩⟩
theorem zq0{K:PySem.W.Frag}:CallV K (λxs H Q=>(∃i,xs=[.int i]/\Q (.int i) H)\/∃k,xs=[.bl k]/\Q (.int (if k then 1 else 0)) H) intW:=by
 intro m h H vs xs w h' Q r q e k
 unfold intW at e
 split at e<;>try cases e
 .obtain⟨v,rfl,q1⟩:=reps1 q
  cases q1
  exact .inl ⟨_,rfl,Wants.here k r (.int _)⟩
 .obtain⟨v,rfl,q1⟩:=reps1 q
  cases q1
  exact .inr ⟨_,rfl,Wants.here k r (.int _)⟩
theorem zq1{K:PySem.W.Frag}:CallV K (λxs H Q=>∃i,xs=[.int i]/\Q (.int (if i<0 then -i else i)) H) absW:=by
 intro m h H vs xs w h' Q r q e k
 unfold absW at e
 split at e<;>try cases e
 obtain⟨v,rfl,q1⟩:=reps1 q
 cases q1
 exact⟨_,rfl,Wants.here k r (.int _)⟩
theorem reps2{K:PySem.W.Frag}{m:Nat->Addr}{n:Nat}{H:Hp}{vs:List V}{w z:W}(q:VReps K m n H vs [w,z]):∃v u,vs=[v,u]/\VRep K m n H v w/\VRep K m n H u z:=by
 cases q with|cons q r=>obtain⟨u,rfl,h⟩:=reps1 r;exact⟨_,_,rfl,q,h⟩
theorem zq2{K:PySem.W.Frag}:CallV K (λxs H Q=>∃i j,xs=[.int i,.int j]/\Q (.int (if j>i then j else i)) H) maxW:=by
 intro m h H vs xs w h' Q r q e k
 unfold maxW at e
 split at e<;>try cases e
 obtain⟨v,u,rfl,q1,q2⟩:=reps2 q
 cases q1;cases q2
 exact⟨_,_,rfl,Wants.here k r (.int _)⟩
theorem zq3{K:PySem.W.Frag}:CallV K (λxs H Q=>∃i j,xs=[.int i,.int j]/\Q (.int (if j<i then j else i)) H) minW:=by
 intro m h H vs xs w h' Q r q e k
 unfold minW at e
 split at e<;>try cases e
 obtain⟨v,u,rfl,q1,q2⟩:=reps2 q
 cases q1;cases q2
 exact⟨_,_,rfl,Wants.here k r (.int _)⟩
noncomputable def tyN:Ty->String
 |.int=>"int" |.bool=>"bool" |.tuple=>"tuple" |.list=>"list" |.str=>"str" |.dict=>"dict"
noncomputable def rIsi(K:PySem.W.Frag)(n:String):List V->Hp->VK->Prop:=λxs H Q=>∃x b,xs=[x,.ty n]/\((∃t,TyOf K H x t/\PySem.W.kitOne K t (.type n)=some b)\/(∃a vs,x=.ref a/\SqT K H a vs/\PySem.W.kitOne K (.type "tuple") (.type n)=some b)\/∃a,x=.ref a/\((∃kvs,Rd H a (.dK kvs))\/∃xs,H a=some (dtH xs a))/\PySem.W.kitOne K (.type "dict") (.type n)=some b)/\Q (.bl b) H
theorem zk4(n:String):CallR X (.builtin "isinstance") (rIsi X.K n):=by
 intro pins s σ H xs us Q I r h
 obtain⟨x,b,rfl,hi,q⟩:=h
 obtain⟨u,u2,rfl,rx,rc⟩:=vals2 r
 obtain rfl:u2=Value.type n:=rc
 rcases hi with⟨t,ty,e⟩|⟨a,vs,rfl,sq,e⟩|⟨a,rfl,rd,e⟩
 .exact zik I rx ty e λtk=>⟨.bl b,H,I.tok _,rfl,q⟩
 .obtain rfl:u=Value.ref a:=rx
  obtain⟨its,_,p,_⟩:=I.tuple sq
  obtain⟨o,h1,h2,_⟩:=p
  exact va7 PySem.W.kitx_tuple I.kIn ⟨o,h1,h2⟩ e (λz=>nomatch z) λtk=>⟨.bl b,H,I.tok _,rfl,q⟩
 .obtain rfl:u=Value.ref a:=rx
  obtain⟨o,h1,h2⟩:∃o,s.heap.get? a=some o/\o.ExactDict:=by
   rcases rd with⟨kvs,rd⟩|⟨xs,rd⟩
   .obtain⟨_,_,_,_,o,_,_,h1,h2,_⟩:=dk_rd I.hok rd
    exact⟨o,h1,h2⟩
   .obtain⟨_,_,_,_,_,o,_,_,h1,h2,_⟩:=zl2 I.hok rd
    exact⟨o,h1,h2⟩
  exact va7 PySem.W.kitx_dict I.kIn ⟨o,h1,h2.1⟩ e (λz=>nomatch z) λtk=>⟨.bl b,H,I.tok _,rfl,q⟩
theorem zq4{K:PySem.W.Frag}(t:Ty){m:Nat->Addr}{h:VH}{H:Hp}{v:V}{x:W}{b:Bool}(r:Rel K m h H)(q:VRep K m h.n H v x)(e:tyIs t h x=some b) :
 (∃t',TyOf K H v t'/\PySem.W.kitOne K t' (.type (tyN t))=some b)\/(∃a vs,v=.ref a/\SqT K H a vs/\PySem.W.kitOne K (.type "tuple") (.type (tyN t))=some b)\/∃a,v=.ref a/\((∃kvs,Rd H a (.dK kvs))\/∃xs,H a=some (dtH xs a))/\PySem.W.kitOne K (.type "dict") (.type (tyN t))=some b:=by
 cases q with
 |non=>cases e;refine .inl ⟨_,.non,?_⟩;cases t<;>rfl
 |bl x=>cases e;refine .inl ⟨_,.bl x,?_⟩;cases t<;>rfl
 |int x=>cases e;refine .inl ⟨_,.int x,?_⟩;cases t<;>rfl
 |str x=>cases e;refine .inl ⟨_,.str x,?_⟩;cases t<;>rfl
 |tup sq rs=>cases e;refine .inr (.inl ⟨_,_,rfl,sq,?_⟩);cases t<;>rfl
 |fz _ _=>cases e
 | @ref i hi=>
  simp only[tyIs]at e
  cases g:h.get i with
  |none=>rw[g]at e;cases e
  |some o=>
   rw[g]at e
   cases o with
   |lst ws=>
    cases e
    obtain⟨vs,h1,h2⟩:=r.lst g
    refine .inl ⟨_,.lst h1,?_⟩;cases t<;>rfl
   |dk ws=>
    cases e
    obtain⟨vs,h1,h2⟩:=r.dk g
    refine .inr (.inr ⟨_,rfl,.inl ⟨_,h1⟩,?_⟩);cases t<;>rfl
   |dt ks ws=>
    cases e
    obtain⟨xs,h1,_⟩:=r.dt g
    refine .inr (.inr ⟨_,rfl,?_,?_⟩)
    .rcases h1 with h1|⟨_,h1⟩
     .exact .inr ⟨xs,h1⟩
     .exact .inl ⟨_,.inl h1⟩
    .cases t<;>rfl
   |ins _ _ _=>cases e
theorem zq5(t:Ty){T:Str}{p2:Pos}(ha:SE X e fa)(hs:zah e=true)(hg:Gl X "isinstance")(hm:X.mg "isinstance" = none)(hgT:Gl X T)(hmT:X.mg T=none)(hbT:bootBuiltins T=some (.type (tyN t)))(hn:T≠"__name__")(hd:(T==("__debug__" : Str))=false) :
 SE X (.Call (.Name "isinstance" p) [e,.Name T p2] [] pos) (λρ h=>(fa ρ h).bind λx h=>.of ((tyIs t h x).map .bl) h):=by
 have hT:PE X (.Name T p2) (tC (.ty (tyN t))):=zh2 hgT hmT hbT rfl hn hd
 refine(zd8 (zk4 (tyN t)) hg hm PyProof.Rows.boot_isinstance (zaw ha (zaw hT zbs) (zab hs)) (by decide) (by decide) (zab hs) rfl).imp λσ H Q q=>?_
 refine zl4 (g:=λx h=>.of ((tyIs t h x).map .bl) h) (G:=λv H1 Q=>rIsi X.K (tyN t) [v,.ty (tyN t)] H1 Q) (λm h H v x w h' Q r q e k=>?_) q
 obtain⟨e,rfl⟩:=of_ok e
 cases z:tyIs t h' x with
 |none=>rw[z]at e;cases e
 |some b=>
  rw[z]at e;cases e
  exact⟨v,b,rfl,zq4 t r q z,Wants.here k r (.bl b)⟩
noncomputable def zc7:Expr->Bool
 |.Name .. |.Subscript ..=>true
 |_=>false
theorem zf9{o:Expr}{m:Str}{env:Env}(h:zc7 o=true):attributeBase o m env (eval o env)=eval o env:=by
 cases o<;>first|rfl|cases h
noncomputable abbrev gMt(m:Mt)(fo fa:FE):FE:=λρ h=>(fo ρ h).bind λx h=>if zjb m h x then(fa ρ h).bind λy h=>match y with|.tup ys=>mtW m x ys h|_=>.no else .no
theorem zjg{apos:Pos}(ho:SE X o fo)(he:SE X e fa)(hb:zc7 o=true)(hs:zah e=true)(hl:(apos.endLine==pos.line)=true) :
 SE X (.Call (.Attribute o "append" apos) [e] [] pos) (gMt .append fo (aCons fa aNil)):=by
 refine(pe_bm (X:=X) PySem.F.plainAttrs_list PySem.F.slot_list_append PySem.F.type_list_append zfa ho (zaw he zbs (zab hs)) (zf9 hb) ?_ hl (zab hs) rfl).imp λσ H Q z9=>z9.el λρ h m w h' f r e k=>?_
 .rw[zab hs];rfl
 .refine zaa e λx h1 e1 e2=>?_
  split at e2
  .rename_i hk
   refine zaa e2 λy h2 e3 e4=>?_
   refine zaa e3 λz h3 e5 e6=>?_
   cases e6
   refine(.mk f r e1 λv H1 m1 s1 r1 q1=>?_)
   cases x<;>try cases hk
   rename_i i
   simp only[zjb]at hk
   cases g:h1.get i with
   |none=>rw[g]at hk;cases hk
   |some ob=>
    rw[g]at hk
    cases ob with
    |dk _=>cases hk
    |dt _ _=>cases hk
    |ins _ _ _=>cases hk
    |lst ws0=>
     cases q1
     obtain⟨vs0,p1,_⟩:=r1.lst g
     refine⟨.inl ⟨rfl,vs0,SqL.of p1⟩,ρ,h1,m1,z,h2,f.stp s1,r1,e5,λv2 H2 m2 s2 r2 q2=>?_⟩
     simp only[mtW]at e4
     cases g2:h2.get i with
     |none=>rw[g2]at e4;cases e4
     |some ob=>
      rw[g2]at e4
      cases ob with
      |dk _=>cases e4
      |dt _ _=>cases e4
      |ins _ _ _=>cases e4
      |lst ws=>
       simp only at e4
       split at e4
       .rename_i hz
        cases e4
        obtain⟨vs,p2,p3⟩:=r2.lst g2
        have hmi:m1 i=m2 i:=(s2.same i (zap g)).symm
        refine⟨m1 i,vs,v2,rfl,rfl,by rw[hmi];exact p2,by rw[p3.length];exact zaj.mp hz,?_⟩
        obtain⟨st,r'⟩:=r2.write (i:=i) (o:=.lst (ws++[z])) (u:=.lst (vs++[v2])) (zap g2) p2 (λ_ z=>nomatch z) (λ_ _ z=>nomatch z) λst=>⟨vs++[v2],zad,(p3.stp st).append (.cons (q2.stp st) .nil)⟩
        rw[hmi]
        exact k .non _ m2 ((s1.trans s2).trans st) r' .non
       .cases e4
  .cases e2
end
section
variable{K:PySem.W.Frag}{m m' m1:Nat->Addr}{n n' n1:Nat}{h h':VH}{H H' H1:Hp}
mutual
theorem VRep.mono(hn:n<=n')(hm:∀i,i<n->m' i=m i)(kt:∀b vs,H b=some (.tup vs)->H' b=some (.tup vs))(kf:∀b o u,H b=some (.frz o u)->H' b=some (.frz o u)):∀{v:V} {w:W},VRep K m n H v w->VRep K m' n' H' v w
 |_,_,.non=>.non
 |_,_,.bl b=>.bl b
 |_,_,.int b=>.int b
 |_,_,.str b=>.str b
 |_,_,.tup q r=>.tup (by
  rcases q with(q|⟨o,q⟩)|q
  .exact .inl (.inl (kt _ _ q))
  .exact .inl (.inr ⟨o,kf _ _ _ q⟩)
  .exact .inr q) (VReps.mono hn hm kt kf r)
 |_,_,.fz q r=>.fz (by
  rcases q with⟨o,q⟩|q
  .exact .inl ⟨o,kf _ _ _ q⟩
  .exact .inr q) (VReps.mono hn hm kt kf r)
 |_,_,.ref (i:=i) q=>by rw[<-hm i q];exact .ref (vae q hn)
theorem VReps.mono(hn:n<=n')(hm:∀i,i<n->m' i=m i)(kt:∀b vs,H b=some (.tup vs)->H' b=some (.tup vs))(kf:∀b o u,H b=some (.frz o u)->H' b=some (.frz o u)):∀{vs:List V} {ws:List W},VReps K m n H vs ws->VReps K m' n' H' vs ws
 |_,_,.nil=>.nil
 |_,_,.cons q r=>.cons (VRep.mono hn hm kt kf q) (VReps.mono hn hm kt kf r)
end
theorem Rel.side(r:Rel K m h H){D:Addr}{u u0:HO}(hu:H D=some u0)(ht:∀t,u0≠.tup t)(hf:∀o t,u0≠.frz o t)(ho:∀i,i<h.n->m i≠D)(s:Stp m1 n1 H1 m h.n H)(h0:H1 D=none) :
 Stp m1 n1 H1 m h.n (upd H D u)/\Rel K m h (upd H D u)/\∀{v:V}{w:W},VRep K m h.n H v w->VRep K m h.n (upd H D u) v w:=by
 have kt:∀b vs,H b=some (.tup vs)->upd H D u b=some (.tup vs):=λb vs q=>by rw[zac (ne_of q hu λz=>ht vs z.symm)];exact q
 have kf:∀b o t,H b=some (.frz o t)->upd H D u b=some (.frz o t):=λb o t q=>by rw[zac (ne_of q hu λz=>hf o t z.symm)];exact q
 have mv:∀{v:V}{w:W},VRep K m h.n H v w->VRep K m h.n (upd H D u) v w:=λq=>q.mono (vad _) (λ_ _=>rfl) kt kf
 refine⟨⟨s.le,s.same,s.new,s.apart,λb vs q=>kt b vs (s.tup b vs q),λb o t q=>kf b o t (s.frz b o t q),λb o nb q=>by rw[zac (zae q h0)];exact s.keep b o nb q⟩,⟨λi hi=>?_,r.inj,r.len⟩,mv⟩
 obtain⟨o,h1,h2⟩:=r.obj i hi
 have eq:upd H D u (m i)=H (m i):=zac (ho i hi)
 refine⟨o,h1,?_⟩
 cases o with
 |lst ws=>obtain⟨vs,q1,q2⟩:=h2;exact⟨vs,eq.trans q1,q2.map mv⟩
 |dk ws=>obtain⟨vs,q1,q2⟩:=h2;exact⟨vs,q1.imp (λz=>eq.trans z) λ⟨o,z⟩=>⟨o,eq.trans z⟩,q2.map mv⟩
 |dt ks ws=>obtain⟨xs,q1,q0,q2,q3⟩:=h2;exact⟨xs,q1.imp (λz=>eq.trans z) λ⟨o,z⟩=>⟨o,eq.trans z⟩,q0,q2.map mv,q3.map mv⟩
 |ins C xs ws=>obtain⟨dx,vs,q1,q0,q2⟩:=h2;exact⟨dx,vs,eq.trans q1,q0,q2.map mv⟩
theorem Rel.out(r:Rel K m h H){p:Addr}(hp:H p=none):∀i,i<h.n->m i≠p:=λi hi z=>by
 obtain⟨o',_,h2⟩:=r.obj i hi
 obtain⟨u',h3⟩:=h2.some
 rw[z,hp]at h3;cases h3
theorem Stp.out(s:Stp m n H m' n' H'){p:Addr}{u:HO}(hp:∀i,i<n->m i≠p)(hu:H p=some u):∀i,i<n'->m' i≠p:=λi hi z=>by
 by_cases hl:i<n
 .exact hp i hl ((s.same i hl).symm.trans z)
 .have:=s.new i (vbo.mp hl) hi
  rw[z,hu]at this;cases this
end
inductive PReps(K:PySem.W.Frag)(m:Nat->Addr)(n:Nat)(H:Hp):List (V×V)->List W->Prop
 |nil:PReps K m n H [] []
 |cons {k v:V} {a b:W} {ps:List (V×V)} {ws:List W}:VRep K m n H k a->VRep K m n H v b->PReps K m n H ps ws->PReps K m n H ((k,v)::ps) (a::b::ws)
noncomputable def lftP(K:PySem.W.Frag)(f:FE)(σ:L2.St)(H:Hp)(Q:List (V×V)->Hp->Prop):Prop:=∃ρ h m ws h',Fr K m h.n H σ ρ/\Rel K m h H/\f ρ h=.ok (.tup ws) h'/\
 ∀ps H' m',Stp m h.n H m' h'.n H'->Rel K m' h' H'->PReps K m' h'.n H' ps ws->Q ps H'
theorem lftP.el{K:PySem.W.Frag}{σ:L2.St}{H:Hp}{P:Prop}{fa:FE}{Q:List (V×V)->Hp->Prop}(q:lftP K fa σ H Q)(k:∀ρ h m ws h',Fr K m h.n H σ ρ->Rel K m h H->fa ρ h=.ok (.tup ws) h'->(∀ps H' m',Stp m h.n H m' h'.n H'->Rel K m' h' H'->PReps K m' h'.n H' ps ws->Q ps H')->P):P:=by
 obtain⟨ρ,h,m,w,h',f,r,e,k'⟩:=q
 exact k ρ h m w h' f r e k'
theorem lftP.mk{K:PySem.W.Frag}{σ:L2.St}{H:Hp}{m:Nat->Addr}{ρ:En}{h h':VH}{ws:List W}{fa:FE}{Q:List (V×V)->Hp->Prop}(f:Fr K m h.n H σ ρ)(r:Rel K m h H)(e:fa ρ h=.ok (.tup ws) h')(k:∀ps H' m',Stp m h.n H m' h'.n H'->Rel K m' h' H'->PReps K m' h'.n H' ps ws->Q ps H'):lftP K fa σ H Q:=⟨ρ,h,m,ws,h',f,r,e,k⟩
noncomputable def SPs(X:Cx)(pos:Pos)(keys:List (Option Expr))(values:List Expr)(f:FE):Prop:=∃trs,PPs X pos keys values trs/\∀σ H Q,lftP X.K f σ H Q->zgr trs σ H Q
section
variable{X:Cx}{a b c e o:Expr}{es:List Expr}{fa fb fc fo fr:FE}{pos p:Pos}{x:Str}
theorem znw:SPs X pos [] [] aNil:=⟨[],znk,λσ H Q z9=>z9.el λρ h m ws h' f r e k=>by cases e;exact k [] H m .refl r .nil⟩
theorem zk5{ks:List (Option Expr)}{vs:List Expr}(ha:SE X a fa)(hb:SE X b fb)(hr:SPs X pos ks vs fr):SPs X pos (some a::ks) (b::vs) (aCons fa (aCons fb fr)):=by
 obtain⟨trs,h1,h2⟩:=hr
 refine⟨_,zky ha hb h1,λσ H Q z9=>z9.el λρ h m ws h' f r e k=>?_⟩
 refine zaa e λx h3 e1 e2=>?_
 refine zaa e2 λy h4 e3 e4=>?_
 refine zaa e3 λx2 h5 e5 e6=>?_
 refine zaa e6 λy2 h6 e7 e8=>?_
 cases y2<;>try cases e8
 cases e4
 rename_i ys
 exact(.mk f r e1 λv H1 m1 s1 r1 q1=>(.mk (f.stp s1) r1 e5 λv2 H2 m2 s2 r2 q2=>h2 σ H2 _ (.mk ((f.stp s1).stp s2) r2 e7 λps H3 m3 s3 r3 q3=>
  k _ H3 m3 ((s1.trans s2).trans s3) r3 (.cons ((q1.stp s2).stp s3) (q2.stp s3) q3))))
theorem zgw{K:PySem.W.Frag}{m:Nat->Addr}{n:Nat}{H:Hp}:∀{ps:List (V×V)} {ws:List W} {kws:List (Key×W)},PReps K m n H ps ws->zc3 ws=some kws->∃kvs:List (Key×V),ps=kvs.map (λkv=>(kV kv.1,kv.2))/\KReps K m n H kvs kws
 |_,_,_,.nil,e=>by cases e;exact⟨[],rfl,.nil⟩
 |_,_,_,.cons (a:=a) (v:=v) q1 q2 r,e=>by
  simp only[zc3]at e
  split at e
  .rename_i k hk
   split at e
   .rename_i kvs hp
    cases e
    obtain⟨kv,rfl,r'⟩:=zgw r hp
    refine⟨(k,v)::kv,?_,.cons q2 r'⟩
    rw[vaj,znq q1 hk]
   .cases e
  .cases e
noncomputable abbrev gDsp(f:FE):FE:=λρ h=>(f ρ h).bind λy h=>match y with
 |.tup ys=>(match zc3 ys with
  |some kvs=>if Nat.ble kvs.length 15 then .ok (.ref h.n) (h.new (dkO kvs))else .no
  |none=>dspD ys h)
 |_=>.no
theorem zq6{K:PySem.W.Frag}{m:Nat->Addr}{n:Nat}{H:Hp}{ps:List (V×V)}{a b:W}(q:PReps K m n H ps [a,b]):∃k v,ps=[(k,v)]/\VRep K m n H k a/\VRep K m n H v b:=by
 cases q with|cons q1 q2 r=>cases r;exact⟨_,_,rfl,q1,q2⟩
theorem zq7(hu:X.A.units+2<cLine){keys:List (Option Expr)}{values:List Expr}(hp:SPs X pos keys values fa)(hall:keys.all (·.isSome)=true)(hl:keys.length=values.length)(h0:keys≠[])(h15:keys.length<=15):SE X (.Dict keys values pos) (gDsp fa):=by
 obtain⟨trs,h1,h2⟩:=hp
 refine(zk2 hu h1 hall hl h0 h15).imp λσ H Q z9 p hp=>z9.el λρ h m w h' f r e k=>?_
 refine zaa e λy h3 e1 e2=>?_
 cases y<;>try cases e2
 rename_i ys
 obtain⟨st0,r0⟩:=r.more (u:=.dK []) hp
 refine h2 σ _ _ (.mk (f.stp st0) r0 e1 λps H2 m2 s2 r2 q2=>?_)
 have hout:=s2.out (r.out hp) zad
 have hD:H2 p=some (.dK []):=s2.keep p _ (r.out hp) zad
 refine⟨hD,?_⟩
 have e2:(match zc3 ys with
  |some kvs=>if Nat.ble kvs.length 15 then Res.ok (W.ref h3.n) (h3.new (dkO kvs))else .no
  |none=>dspD ys h3)=.ok w h':=e2
 cases hk:zc3 ys with
 |none=>
  rw[hk]at e2
  have e5:dspD ys h3=.ok w h':=e2
  clear e2
  try(rename_i e00;clear e00)
  unfold dspD at e5
  split at e5
  .rename_i kw vw
   split at e5
   .rename_i dk hd
    cases e5
    obtain⟨kv,vv,rfl,q3,q4⟩:=zq6 q2
    obtain⟨b,rfl,kk⟩:=zc5 q3 hd
    refine .inr ⟨b,dk,vv,rfl,kk,?_⟩
    obtain⟨st,r'⟩:=r2.adopt (o:=.dt [kw] [vw]) (u:=dtH [(dk,b,vv)] p) hout hD (λ_ z=>nomatch z) (λ_ _ z=>nomatch z) (st0.trans s2) hp λ_ mv=>⟨[(dk,b,vv)],.inl zad,by simp[mapO,hd],.cons (mv q3) .nil,.cons (mv q4) .nil⟩
    refine k _ _ _ st r' ?_
    have:VRep X.K (λi=>if i=h3.n then p else m2 i) (h3.n+1) (upd H2 p (dtH [(dk,b,vv)] p)) (.ref ((λi=>if i=h3.n then p else m2 i) h3.n)) (.ref h3.n):=.ref (va2 _)
    simp only[vbb]at this
    exact this
   .cases e5
  .cases e5
 |some kws=>
  rw[hk]at e2
  have e2:(if Nat.ble kws.length 15 then Res.ok (W.ref h3.n) (h3.new (dkO kws))else .no)=.ok w h':=e2
  by_cases hz:Nat.ble kws.length 15=true
  .rw[if_pos hz]at e2
   cases e2
   obtain⟨kvs,e3,q3⟩:=zgw q2 hk
   refine .inl ⟨kvs,e3,by rw[q3.length];exact vau hz,?_⟩
   obtain⟨st,r'⟩:=r2.adopt (o:=dkO kws) (u:=.dK (zcc [] kvs)) hout hD (λ_ z=>nomatch z) (λ_ _ z=>nomatch z) (st0.trans s2) hp λ_ mv=>by
    cases kws with
    |nil=>cases q3;exact⟨[],.inr ⟨rfl,zad⟩,rfl,.nil,.nil⟩
    |cons k1 kws=>exact⟨_,.inl zad,(q3.merge .nil).map mv⟩
   refine k _ _ _ st r' ?_
   have:VRep X.K (λi=>if i=h3.n then p else m2 i) (h3.n+1) (upd H2 p (.dK (zcc [] kvs))) (.ref ((λi=>if i=h3.n then p else m2 i) h3.n)) (.ref h3.n):=.ref (va2 _)
   simp only[vbb]at this
   exact this
  .rw[if_neg hz]at e2;cases e2
theorem znx:SE X (.Dict [] [] pos) (gDsp aNil):=zkx.imp λσ H Q z9 p hp=>z9.el λρ h m w h' f r e k=>by
 cases e
 exact Wants.dictD (ks:=[]) (ws:=[]) (xs:=[]) k r hp (.inr ⟨rfl,rfl⟩) rfl .nil .nil
noncomputable def spV(K:PySem.W.Frag)(np:Nat)(g:List W->VH->Res W):Sp:=λvs H Q _=>vs.length=np/\∃h m ws w h',Rel K m h H/\VReps K m h.n H vs ws/\g ws h=.ok w h'/\Wants K m h.n H w h' Q
theorem zny{k:Nat}{f:Addr}{fd:FuncData}{ps:List Str}{g:List W->VH->Res W}(F:FnOk X.prog X.w X.K X.mg X.base CX0 k f fd ps (spV X.K ps.length g))(hr:Room k X.A)(hg:Gl X x)(hm:X.mg x=some (.ref f))(hk:PySem.W.keepIn X.K (.ref f)=true)
 (hb:Binds X.K fd ps []) (ha:SA X (e::es) fa) (hs:(e::es).all zah=true) (hdb:(x==("__debug__" : Str))=false) (hn:∀ws h w h',g ws h=.ok w h'->ws.length=ps.length):SE X (.Call (.Name x p) (e::es) [] pos) (gArg fa g):=by
 rw[vbw,vaa]at hs
 refine(zin F hr hg hm hk hb .nil pass0 ha hdb (zab hs.1) (zas hs.2)).imp λσ H Q q=>zbj (G:=λvs H1 Q=>spV X.K ps.length g (vs++[]) H1 Q E0) (λm h H vs xs w h' Q r q e k=>?_) q
 rw[va8]
 exact⟨by rw[q.length];exact hn _ _ _ _ e,h,m,xs,w,h',r,q,e,k⟩
theorem zk6{k:Nat}{f:Addr}{fd:FuncData}{ps:List Str}{g:List W->VH->Res W}(F:FnOk X.prog X.w X.K X.mg X.base CX0 k f fd ps (spV X.K ps.length g))(hr:Room k X.A)(hg:Gl X x)(hm:X.mg x=some (.ref f))(hk:PySem.W.keepIn X.K (.ref f)=true)
 (hb:Binds X.K fd ps []) (hdb:(x==("__debug__" : Str))=false) (hn:∀ws h w h',g ws h=.ok w h'->ws.length=ps.length):SE X (.Call (.Name x p) [] [] pos) (gArg aNil g):=by
 refine(zkp F hr hg hm hk hb .nil pass0 hdb).imp λσ H Q z9=>z9.el λρ h m w h' f r e k=>?_
 exact⟨hn _ _ _ _ e,h,m,[],w,h',r,.nil,e,k⟩
theorem zk7{k:Nat}{f:Addr}{fd:FuncData}{ps:List Str}{g:List W->VH->Res W}(F:FnOk X.prog X.w X.K X.mg X.base CX0 k f fd ps (spV X.K ps.length g))(hr:Room k X.A)(hg:Gl X x)(hm:X.mg x=some (.ref f))(hk:PySem.W.keepIn X.K (.ref f)=true)
 (hb:Binds X.K fd ps [.none]) (ha:SA X (e::es) fa) (hs:(e::es).all zah=true) (hdb:(x==("__debug__" : Str))=false) (hn:∀ws h w h',g ws h=.ok w h'->ws.length=ps.length):SE X (.Call (.Name x p) (e::es) [] pos) (gArg fa λws h=>g (ws++[.non]) h):=by
 rw[vbw,vaa]at hs
 refine(zin F hr hg hm hk hb (dvs:=[V.non]) (.cons rfl .nil) pass0 ha hdb (zab hs.1) (zas hs.2)).imp λσ H Q q=>zbj (G:=λvs H1 Q=>spV X.K ps.length g (vs++[V.non]) H1 Q E0) (λm h H vs xs w h' Q r q e k=>?_) q
 have q':VReps X.K m h.n H (vs++[V.non]) (xs++[W.non]):=q.append (.cons .non .nil)
 exact⟨by rw[q'.length];exact hn _ _ _ _ e,h,m,xs++[W.non],w,h',r,q',e,k⟩
noncomputable def ItOk(K:PySem.W.Frag)(nx:Nat->VH->Option (Option W))(J:It)(P:(Nat->Addr)->Nat->Hp->Prop):Prop:=
 (∀m n H m' n' H',n<=n'->(∀i,i<n->m' i=m i)->(∀b vs,H b=some (.tup vs)->H' b=some (.tup vs))->(∀b o u,H b=some (.frz o u)->H' b=some (.frz o u))->P m n H->P m' n' H')/\
 ∀m h H,Rel K m h H->P m h.n H->∀i,(∀w,nx i h=some (some w)->J.go i H/\∀y H3,J.yld i H y H3->Stp m h.n H m h.n H3/\Rel K m h H3/\VRep K m h.n H3 y w)/\(nx i h=some none->J.stop i H)
noncomputable def lftI(K:PySem.W.Frag)(kd:Kd)(f:FE):TI:=λσ H R=>∃ρ h m x h',Fr K m h.n H σ ρ/\Rel K m h H/\f ρ h=.ok x h'/\(∃o,nxt kd x 0 h'=some o)/\
 ∀J P H' m',Stp m h.n H m' h'.n H'->Rel K m' h' H'->ItOk K (nxt kd x) J P->P m' h'.n H'->R J H'
theorem lftI.el{K:PySem.W.Frag}{σ:L2.St}{H:Hp}{P:Prop}{kd:Kd}{fa:FE}{R}(q:lftI K kd fa σ H R)(k:∀ρ h m x h',Fr K m h.n H σ ρ->Rel K m h H->fa ρ h=.ok x h'->∀o,nxt kd x 0 h'=some o->(∀J P H' m',Stp m h.n H m' h'.n H'->Rel K m' h' H'->ItOk K (nxt kd x) J P->P m' h'.n H'->R J H')->P):P:=by
 obtain⟨ρ,h,m,w,h',f,r,e,⟨o,eo⟩,k'⟩:=q
 exact k ρ h m w h' f r e o eo k'
theorem lftI.mk{K:PySem.W.Frag}{σ:L2.St}{H:Hp}{m:Nat->Addr}{ρ:En}{h h':VH}{x:W}{kd:Kd}{fa:FE}{R}(f:Fr K m h.n H σ ρ)(r:Rel K m h H)(e:fa ρ h=.ok x h')(eo:∃o,nxt kd x 0 h'=some o)(k:∀J P H' m',Stp m h.n H m' h'.n H'->Rel K m' h' H'->ItOk K (nxt kd x) J P->P m' h'.n H'->R J H'):lftI K kd fa σ H R:=⟨ρ,h,m,x,h',f,r,e,eo,k⟩
theorem zgx{K:PySem.W.Frag}{H H':Hp}{a:Addr}{vs:List V}(kt:∀b vs,H b=some (.tup vs)->H' b=some (.tup vs))(kf:∀b o u,H b=some (.frz o u)->H' b=some (.frz o u))(q:SqT K H a vs):SqT K H' a vs:=by
 rcases q with(q|⟨o,q⟩)|q
 .exact .inl (.inl (kt _ _ q))
 .exact .inl (.inr ⟨o,kf _ _ _ q⟩)
 .exact .inr q
theorem znz{K:PySem.W.Frag}{H H':Hp}{a:Addr}{vs:List V}(kf:∀b o u,H b=some (.frz o u)->H' b=some (.frz o u))(q:Fz K H a vs):Fz K H' a vs:=by
 rcases q with⟨o,q⟩|q
 .exact .inl ⟨o,kf _ _ _ q⟩
 .exact .inr q
theorem zdp{ws:List W}{h:VH}{x:W}{i:Nat}{o:Option W}(e:seqW h x=some ws)(q:nxt .seq x i h=some o):ws[i]?=o:=by
 simp only[nxt,e]at q
 cases q;rfl
theorem zq8{K:PySem.W.Frag}{a:Addr}{vs:List V}{ws:List W}:ItOk K (nxt .seq (.tup ws)) (Itt K a) (λm n H=>SqT K H a vs/\VReps K m n H vs ws):=by
 refine⟨λm n H m' n' H' hn hm kt kf ⟨q1,q2⟩=>⟨zgx kt kf q1,q2.mono hn hm kt kf⟩,λm h H r ⟨q1,q2⟩ i=>⟨λw e=>?_,λe=>?_⟩⟩
 .have e:=zdp (ws:=ws) rfl e
  obtain⟨v,h1,h2⟩:=q2.get e
  refine⟨⟨vs,v,q1,h1⟩,λy H3 ⟨e3,y3⟩=>?_⟩
  subst e3
  have:=y3 vs q1
  rw[h1]at this;cases this
  exact⟨.refl,r,h2⟩
 .have e:=zdp (ws:=ws) rfl e
  exact⟨vs,q1,by rw[q2.length];exact vbk.mp e⟩
theorem it_fz{K:PySem.W.Frag}{a:Addr}{vs:List V}{ws:List W}:ItOk K (nxt .seq (.fz ws)) (Itl K a) (λm n H=>Fz K H a vs/\VReps K m n H vs ws):=by
 refine⟨λm n H m' n' H' hn hm kt kf ⟨q1,q2⟩=>⟨znz kf q1,q2.mono hn hm kt kf⟩,λm h H r ⟨q1,q2⟩ i=>⟨λw e=>?_,λe=>?_⟩⟩
 .have e:=zdp (ws:=ws) rfl e
  obtain⟨v,h1,h2⟩:=q2.get e
  refine⟨⟨vs,v,q1.sq,h1⟩,λy H3 ⟨e3,y3⟩=>?_⟩
  subst e3
  have:=y3 vs q1.sq
  rw[h1]at this;cases this
  exact⟨.refl,r,h2⟩
 .have e:=zdp (ws:=ws) rfl e
  exact⟨vs,q1.sq,by rw[q2.length];exact vbk.mp e⟩
theorem zq9{K:PySem.W.Frag}{a:Addr}{l:Nat}:ItOk K (nxt .seq (.ref l)) (Itl K a) (λm n H=>l<n/\a=m l):=by
 refine⟨λm n H m' n' H' hn hm kt kf ⟨q1,q2⟩=>⟨vae q1 hn,by rw[hm l q1];exact q2⟩,λm h H r ⟨q1,q2⟩ i=>?_⟩
 subst q2
 cases g:h.get l with
 |none=>exact⟨λw e=>by simp[nxt,seqW,g]at e,λe=>by simp[nxt,seqW,g]at e⟩
 |some o=>
  cases o with
  |dk _=>exact⟨λw e=>by simp[nxt,seqW,g]at e,λe=>by simp[nxt,seqW,g]at e⟩
  |dt _ _=>exact⟨λw e=>by simp[nxt,seqW,g]at e,λe=>by simp[nxt,seqW,g]at e⟩
  |ins _ _ _=>exact⟨λw e=>by simp[nxt,seqW,g]at e,λe=>by simp[nxt,seqW,g]at e⟩
  |lst ws=>
   have hs:seqW h (.ref l)=some ws:=by simp[seqW,g]
   obtain⟨vs,p1,p2⟩:=r.lst g
   refine⟨λw e=>?_,λe=>?_⟩
   .have e:=zdp hs e
    obtain⟨v,h1,h2⟩:=p2.get e
    refine⟨⟨vs,v,SqL.of p1,h1⟩,λy H3 ⟨e3,y3⟩=>?_⟩
    subst e3
    have:=y3 vs (SqL.of p1)
    rw[h1]at this;cases this
    exact⟨.refl,r,h2⟩
   .have e:=zdp hs e
    exact⟨vs,SqL.of p1,by rw[p2.length];exact vbk.mp e⟩
theorem zmb{K:PySem.W.Frag}{kd:Kd}{x:W}{lo:Int}{k:Nat}(hx:∀i h,nxt kd x i h=some (if i<k then some (.int (lo+i))else none)):ItOk K (nxt kd x) (Itr lo k) (λ_ _ _=>True):=by
 refine⟨λ_ _ _ _ _ _ _ _ _ _ _=>trivial,λm h H r _ i=>⟨λw e=>?_,λe=>?_⟩⟩
 .rw[hx]at e
  split at e
  .rename_i hi
   cases e
   refine⟨hi,λy H3 ⟨e3,y3⟩=>?_⟩
   subst e3 y3
   exact⟨.refl,r,.int _⟩
  .cases e
 .rw[hx]at e
  split at e
  .cases e
  .rename_i hi
   exact vbo.mp hi
theorem zmc{tg:Expr}(ha:SE X e fa):PI X tg e (lftI X.K .seq fa):=λpins s σ H R I z9=>z9.el λρ h m x h' f r ee o en k=>by
 have hs:∃ws,seqW h' x=some ws:=by
  cases z:seqW h' x with
  |none=>simp[nxt,z]at en
  |some ws=>exact⟨ws,rfl⟩
 obtain⟨ws,hs⟩:=hs
 cases x<;>try cases hs
 .exact zpi ha pins s σ H R I (.mk f r ee λv H' m' s' r' q=>by
   cases q with
   |tup sq rs=>exact⟨_,rfl,⟨_,sq⟩,k _ _ H' m' s' r' zq8 ⟨sq,rs⟩⟩)
 .exact zh5 ha pins s σ H R I (.mk f r ee λv H' m' s' r' q=>by
   cases q with
   |fz sq rs=>exact⟨_,rfl,⟨_,sq.sq⟩,k _ _ H' m' s' r' it_fz ⟨sq,rs⟩⟩)
 .rename_i l
  exact zh5 ha pins s σ H R I (.mk f r ee λv H' m' s' r' q=>by
   obtain⟨p,vs,e1,e2,e3⟩:=zb8 r' q hs
   cases q with
   |ref hi=>
    cases g:h'.get l with
    |none=>simp[seqW,g]at hs
    |some ob=>
     cases ob with
     |dk _=>simp[seqW,g]at hs
     |dt _ _=>simp[seqW,g]at hs
     |ins _ _ _=>simp[seqW,g]at hs
     |lst ws'=>
      obtain⟨vs',p1,_⟩:=r'.lst g
      exact⟨_,rfl,⟨_,SqL.of p1⟩,k _ _ H' m' s' r' zq9 ⟨hi,rfl⟩⟩)
theorem zn0{tg:Expr}(ha:SA X [e] fa)(hs:zah e=true)(hg:Gl X "range")(hm:X.mg "range" = none):PI X tg (.Call (.Name "range" p) [e] [] pos) (lftI X.K .rng1 fa):=λpins s σ H R I z9=>z9.el λρ h m x h' f r ee o en k=>by
 simp only[nxt]at en
 split at en
 .rename_i j
  split at en
  .rename_i hf
   refine zh6 hg hm ha (zab hs) pins s σ H R I (.mk f r ee λvs H' m' s' r' q=>?_)
   obtain⟨v,rfl,q1⟩:=reps1 q
   cases q1
   refine⟨_,rfl,(zb7 hf).1,(zb7 hf).2,k _ _ H' m' s' r' (zmb λi h=>?_) trivial⟩
   simp only[nxt,hf,vbb]
   split<;>split<;>first|rfl|(exfalso;simp at *;omega)
  .cases en
 .cases en
theorem zn1{tg:Expr}(ha:SA X [a,b] fa)(hs:zah a=true)(hs2:zah b=true)(hg:Gl X "range")(hm:X.mg "range" = none):PI X tg (.Call (.Name "range" p) [a,b] [] pos) (lftI X.K .rng2 fa):=λpins s σ H R I z9=>z9.el λρ h m x h' f r ee o en k=>by
 simp only[nxt]at en
 split at en
 .rename_i i j
  split at en
  .rename_i hf
   refine zh7 hg hm ha (by rw[zab hs,zab hs2];rfl) (zab hs2) pins s σ H R I (.mk f r ee λvs H' m' s' r' q=>?_)
   obtain⟨v,u,rfl,q1,q2⟩:=reps2 q
   cases q1;cases q2
   have hf2:=hf
   rw[vaa]at hf2
   refine⟨_,_,rfl,⟨(zb7 hf2.1).1,(zb7 hf2.1).2,(zb7 hf2.2).1,(zb7 hf2.2).2⟩,k _ _ H' m' s' r' (zmb λi h=>?_) trivial⟩
   simp only[nxt,hf,vbb]
   split<;>split<;>first|rfl|(exfalso;simp at *;omega)
  .cases en
 .cases en
theorem zk8{elts:List Expr}{kx:Nat}{tp:Pos}{l:Expr}{ta:TA}(hg:Gl X "enumerate")(hm:X.mg "enumerate" = none)(hv:bootBuiltins "enumerate" = some (.type "enumerate"))(ha:PA X [l] ta)(hs:starEach [l] X.env=[(false,eval l X.env)]) :
 PI X (.Tuple elts kx tp) (.Call (.Name "enumerate" p) [l] [] pos) (λσ H R=>ta σ H λvs H1=>∃a,vs=[.ref a]/\(∃xs,SqT X.K H1 a xs)/\R (IteT X.K a) H1):=by
 intro pins s σ H R I h
 refine Call_ (zde I hg hm hv (vb1 (thn (ha pos pins s σ H _ I h) λus s1 ⟨vs,H1,I1,r1,q1⟩=>?_) hs rfl))
 obtain⟨a,e,⟨xs,hq⟩,q⟩:=q1
 subst e
 obtain⟨u,rfl,ru⟩:=vals1 r1
 cases ru
 obtain⟨its,rv,pl,hz⟩:=I1.tuple hq
 have pl:s1.heap.IsTuple a its.toArray:=pl
 have hlt:a<s1.heap.objs.size:=by obtain⟨o,q,_⟩:=pl;exact vai q
 refine zhj pl λh' he hit hsz kk=>wpAny_pyIter_enum he ?_
 have hf:∀b,s1.heap.objs.size<=b->FpOk X pins H1 b:=λb hb=>I1.fpOk hb (I1.hok.fresh hb)
 refine⟨s1.heap.objs.size+1,[s1.heap.objs.size+1,s1.heap.objs.size],_,_,H1,rfl,I1.kept (t':=s1.toks) kk,zhk a _ _ (vci (va2 _)) (vas (Nat.lt_succ_of_lt hlt)) (vas hlt),⟨⟨_,he⟩,hit⟩,λb hb=>hf b ?_,q⟩
 rcases va5.mp hb with rfl|hb
 .exact Nat.le_succ _
 .have e':b=s1.heap.objs.size:=by simpa using hb
  rw[e'];exact vad _
theorem zmd{ws:List W}{h:VH}{i:Nat}{o:Option W}(q:nxt .enm (.tup ws) i h=some o):o=(ws[i]?).map λw=>.tup [.int i,w]:=by
 cases q;rfl
theorem zn2{K:PySem.W.Frag}{a:Addr}{vs:List V}{ws:List W}:ItOk K (nxt .enm (.tup ws)) (IteT K a) (λm n H=>SqT K H a vs/\VReps K m n H vs ws):=by
 refine⟨λm n H m' n' H' hn hm kt kf ⟨q1,q2⟩=>⟨zgx kt kf q1,q2.mono hn hm kt kf⟩,λm h H r ⟨q1,q2⟩ i=>⟨λw e=>?_,λe=>?_⟩⟩
 .have e:=zmd (ws:=ws) e
  cases z:ws[i]? with
  |none=>rw[z]at e;cases e
  |some w0=>
   rw[z]at e;cases e
   obtain⟨v,h1,h2⟩:=q2.get z
   refine⟨⟨vs,v,q1,h1⟩,λy H3 ⟨T,v3,e1,e2,e3,y3⟩=>?_⟩
   subst e1 e3
   have:=y3 vs q1
   rw[h1]at this;cases this
   obtain⟨st,r'⟩:=r.more (u:=.tup [.int i,v]) e2
   exact⟨st,r',.tup (SqT.of zad) (.cons (.int _) (.cons (h2.stp st) .nil))⟩
 .have e:=zmd (ws:=ws) e
  cases z:ws[i]? with
  |some w0=>rw[z]at e;cases e
  |none=>exact⟨vs,q1,by rw[q2.length];exact vbk.mp z⟩
theorem zjh:bootBuiltins "enumerate" = some (.type "enumerate"):=by decide +kernel
theorem zra(ha:SE X e fa)(hs:zah e=true):PA X [e] (λσ H Q=>lft X.K fa σ H λv H1=>Q [v] H1):=λp pins s σ H Q I q=>by
 refine zaw ha zbs (zab hs) p pins s σ H Q I ?_
 refine q.el λρ h m w h' f r ee k=>?_
 exact(.mk f r ee λv H' m' s' r' q'=>k v H' m' s' r' q')
theorem zrb{elts:List Expr}{kx:Nat}{tp:Pos}(ha:SE X e fa)(hs0:zah e=true)(hg:Gl X "enumerate")(hm:X.mg "enumerate" = none):PI X (.Tuple elts kx tp) (.Call (.Name "enumerate" p) [e] [] pos) (lftI X.K .enm fa):=λpins s σ H R I z9=>z9.el λρ h m x h' f r ee o en k=>by
 cases x with
 |tup ws=>exact zk8 hg hm zjh (zra ha hs0) (zab hs0) pins s σ H R I ⟨ρ,h,m,_,h',f,r,ee,λv H' m' s' r' q=>by
  cases q with
  |tup sq rs=>exact⟨_,rfl,⟨_,sq⟩,k _ _ H' m' s' r' zn2 ⟨sq,rs⟩⟩⟩
 |_=>cases en
end
section
variable{X:Cx}{a b c e o:Expr}{es:List Expr}{fa fb fc fo fr:FE}{pos p:Pos}{x:Str}
noncomputable def lftG(K:PySem.W.Frag)(t:Tg):TG:=λv σ H Q=>∃ρ h m w ρ',Fr K m h.n H σ ρ/\Rel K m h H/\VRep K m h.n H v w/\tgW t w h ρ=some ρ'/\∀σ',Fr K m h.n H σ' ρ'->Q σ' H
theorem lftG.el{K:PySem.W.Frag}{v:V}{σ:L2.St}{H:Hp}{P:Prop}{tg:Tg}{Q}(q:lftG K tg v σ H Q)(k:∀ρ h m w ρ',Fr K m h.n H σ ρ->Rel K m h H->VRep K m h.n H v w->tgW tg w h ρ=some ρ'->(∀σ',Fr K m h.n H σ' ρ'->Q σ' H)->P):P:=by
 obtain⟨ρ,h,m,w,h',f,r,e,eo,k'⟩:=q
 exact k ρ h m w h' f r e eo k'
theorem lftG.mk{K:PySem.W.Frag}{v:V}{σ:L2.St}{H:Hp}{m:Nat->Addr}{ρ ρ':En}{h:VH}{w:W}{tg:Tg}{Q}(f:Fr K m h.n H σ ρ)(r:Rel K m h H)(e:VRep K m h.n H v w)(eo:tgW tg w h ρ=some ρ')(k:∀σ',Fr K m h.n H σ' ρ'->Q σ' H):lftG K tg v σ H Q:=⟨ρ,h,m,w,ρ',f,r,e,eo,k⟩
theorem zrc{i:Nat}(hN:X.N.Nodup)(hi:X.N[i]?=some x)(hx:Loc X.env.scope x)(hf:X.fn x=true\/X.env.scope.names.lookup x=some .local):PG X (.Name x pos) (lftG X.K (.one i)):=λpins s σ H v u Q I ru z9=>z9.el λρ h m w ρ' f r q e k=>by
 cases e
 exact zh3 hN hi hx hf pins s σ H v u Q I ru (k _ (f.set q i))
noncomputable def NmOk(X:Cx)(e:Expr)(i:Nat):Prop:=∃x p,e=.Name x p/\X.N[i]?=some x/\Loc X.env.scope x/\(X.fn x=true\/X.env.scope.names.lookup x=some .local)
noncomputable def lftGs(K:PySem.W.Frag)(is:List Nat):TGs:=λvs σ H Q=>∃ρ m n ws ρ',Fr K m n H σ ρ/\VReps K m n H vs ws/\zdn is ws ρ=some ρ'/\∀σ',Fr K m n H σ' ρ'->Q σ' H
theorem zme(hN:X.N.Nodup):∀{es:List Expr} {is:List Nat},Paired (NmOk X) es is->PGs X es (lftGs X.K is)/\(assignEach es X.env).length=es.length/\(assignEach es X.env).findIdx? (·.1)=none
 |_,_,.nil=>by
  refine⟨λpins s σ H vs us Q I ru ⟨ρ,m,n,ws,ρ',f,q,e,k⟩=>?_,rfl,rfl⟩
  cases ws with
  |nil=>cases e;cases q;exact zmz pins s σ H [] us Q I ru ⟨rfl,k _ f⟩
  |cons _ _=>cases e
 |e::es,i::is,.cons ⟨x,p,he,hi,hx,hf⟩ t=>by
  subst he
  obtain⟨h1,h2,h3⟩:=zme hN t
  refine⟨λpins s σ H vs us Q I ru ⟨ρ,m,n,ws,ρ',f,q,e,k⟩=>?_,?_,?_⟩
  .cases q with
   |nil=>cases e
   |cons q qs=>
    exact zkg (zh3 hN hi hx hf) h1 rfl pins s σ H _ us Q I ru ⟨_,_,rfl,ρ.set i (some _),m,n,_,ρ',f.set q i,qs,e,k⟩
  .show(assignEach es X.env).length+1=es.length+1
   rw[h2]
  .show List.findIdx? _ ((false,_)::assignEach es X.env)=none
   rw[List.findIdx?_cons,h3];rfl
theorem zdq:∀{is:List Nat} {ws:List W} {ρ ρ':En},zdn is ws ρ=some ρ'->ws.length=is.length
 |[],[],_,_,_=>rfl
 |[],_::_,_,_,e=>by cases e
 |_::_,[],_,_,e=>by cases e
 |_::_,_::_,_,_,e=>by
  rw[vam,vam,zdq (by simpa only[zdn]using e)]
theorem zrd{t:TGs}{n k:Nat}(hc:X.calm=true)(h:PGs X es t)(hn:(assignEach es X.env).length=n)(hst:(assignEach es X.env).findIdx? (·.1)=none) :
 PG X (.Tuple es k pos) (λv σ H Q=>∃a xs,v=.ref a/\SqL X.K H a xs/\xs.length=n/\t xs σ H Q):=by
 intro pins s σ H v u Q I r hw
 obtain⟨a,xs,rfl,hq,hl,hw⟩:=hw
 cases r
 obtain⟨its,rv,ht,hz⟩:=I.list hq
 rw[assign_Tuple]
 refine vab (vbz ?_)
 unfold unpack
 have hsz:(assignEach es X.env).length=its.toArray.size:=by rw[hn,<-hl,rv.length,vah]
 rw[hst,hsz]
 refine vab (vbd (PySem.W.kun_itemsOf (I.ok.hd hc) ht.isList λh' hx=>?_))
 have I1:Inv X pins σ H {s with heap:=h'}:=I.kept (t':=s.toks) λb o e=>hx b o (vas (vai e)) e
 exact h pins _ σ H xs _ Q I1 (by simpa using rv) hw
theorem zji{is:List Nat}{k:Nat}(hc:X.calm=true)(hN:X.N.Nodup)(hs:Paired (NmOk X) es is):PG X (.Tuple es k pos) (lftG X.K (.many is)):=λpins s σ H v u Q I ru z9=>z9.el λρ h m w ρ' f r q e k=>by
 obtain⟨h1,h2,h3⟩:=zme hN hs
 simp only[tgW]at e
 cases z:seqW h w with
 |none=>rw[z]at e;cases e
 |some ws=>
  rw[z]at e
  have e:zdn is ws ρ=some ρ':=e
  obtain⟨p,vs,rfl,hq,qs⟩:=zb8 r q z
  have hl:vs.length=es.length:=by rw[qs.length,zdq e,hs.length]
  rcases hq with hq|hq
  .exact zrd hc h1 h2 h3 pins s σ H _ u Q I ru ⟨p,vs,rfl,hq,hl,ρ,m,h.n,ws,ρ',f,qs,e,k⟩
  .exact zpc hc h1 h2 h3 pins s σ H _ u Q I ru ⟨p,vs,rfl,hq,hl,ρ,m,h.n,ws,ρ',f,qs,e,k⟩
theorem zk9{K:PySem.W.Frag}{m:Nat->Addr}{n:Nat}{H:Hp}{σ:L2.St}{ρ:En}{ow fr:List Str}{ix:List Nat}(f:Fr K m n H σ ρ):Fr K m n H (cσ ow fr ix σ) (inner ow.length ix ρ):=by
 unfold cσ inner
 refine⟨by simp,λi w e=>?_⟩
 by_cases hi:i<ow.length
 .rw[vbj (by simpa using hi)]at e
  rw[vcc]at e
  split at e<;>cases e
 .rw[vbc (by simpa using vbo.mp hi)]at e
  rw[vbc (by simpa using vbo.mp hi)]
  simp only[List.length_replicate,vap]at e ⊢
  rw[vbn]at e ⊢
  cases z:ix[i-ow.length]? with
  |none=>rw[z]at e;cases e
  |some j=>
   rw[z]at e
   simp only[Option.map_some,Option.some.injEq]at e ⊢
   have e3:ρ[j]?=some (some w):=by
    cases q:ρ[j]? with
    |none=>rw[q]at e;cases e
    |some o=>rw[q]at e;rw[<-e];rfl
   obtain⟨v,h1,h2⟩:=f.val j w e3
   exact⟨v,by rw[h1];rfl,h2⟩
theorem zga{nx:Nat->VH->Option (Option W)}{tg:W->VH->En->Option En}{c e:FE}:∀{f i:Nat} {ρ:En} {h:VH} {acc ys:List W} {h':VH},lcG nx tg c e f i ρ h acc=.ok ys h'->acc.length<=ys.length
 |0,_,_,_,_,_,_,q=>by cases q
 |f+1,i,ρ,h,acc,ys,h',q=>by
  simp only[lcG]at q
  split at q
  .cases q
  .cases q;simp
  .split at q
   .cases q
   .refine zaa q λb h1 e1 e2=>?_
    split at e2
    .refine zaa e2 λy h2 e3 e4=>?_
     have:=zga e4
     rw[vam]at this
     omega
    .exact zga e2
    .cases e2
theorem zre{nx:Nat->VH->Option (Option W)}{tg:W->VH->En->Option En}{c e:FE}{f i:Nat}{ρ:En}{h:VH}{acc ys:List W}{h':VH}(q:lcG nx tg c e (f+1) i ρ h acc=.ok ys h'):∃o,nx i h=some o:=by
 simp only[lcG]at q
 split at q
 .cases q
 .exact⟨_,by assumption⟩
 .exact⟨_,by assumption⟩
theorem zla{H:Hp}{a:Addr}{o:HO}(h:H a=some o):upd H a o=H:=by
 funext b
 unfold upd
 split
 .rename_i e;rw[e,h]
 .rfl
noncomputable abbrev gLc(kd:Kd)(fa:FE)(t:Tg)(ow:Nat)(ix:List Nat)(fc fe:FE):FE:=λρ h=>(fa ρ h).bind λx h=>(lcG (nxt kd x) (tgW t) fc fe fuel 0 (inner ow ix ρ) h []).bind λys h=>if Nat.ble ys.length big then .ok (.ref h.n) (h.new (.lst ys))else .no
theorem lc_ok{K:PySem.W.Frag}{kd:Kd}{t:Tg}{ow fr:List Str}{ix:List Nat}{fe:FE}{σ:L2.St}{H:Hp}{Q:VK}(q:lft K (gLc kd fa t ow.length ix fc fe) σ H Q):tLC K (cσ ow fr ix) (lftI K kd fa) (lftG K t) (lftT K fc) (lft K fe) σ H Q:=by
 refine q.el λρ h m w h' f r e k=>?_
 refine zaa e λx h1 e1 e2=>?_
 refine zaa e2 λys h2 e3 e4=>?_
 split at e4
 case isFalse=>cases e4
 rename_i hz
 cases e4
 have hz:=vau hz
 refine(.mk f r e1 ?_ λJ P H1 m1 s1 r1 J1 p1 D hD hK=>?_)
 .exact zre (f:=999999) e3
 obtain⟨st0,r0⟩:=r1.more (u:=.lst []) hD
 have p0:=J1.1 m1 h1.n H1 m1 h1.n (upd H1 D (.lst [])) (vad _) (λ_ _=>rfl) (λb vs q=>st0.tup b vs q) (λb o u q=>st0.frz b o u q) p1
 refine⟨λi fl σ' H' vs=>∃ρ' h3 m3 acc,lcG (nxt kd x) (tgW t) fc fe fl i ρ' h3 acc=.ok ys h2/\Fr K m3 h3.n H' σ' ρ'/\Rel K m3 h3 H'/\H' D=some (.lst vs)/\VReps K m3 h3.n H' vs acc.reverse/\(∀i,i<h3.n->m3 i≠D)/\Stp m1 h1.n H1 m3 h3.n H'/\P m3 h3.n H',
  ⟨fuel,inner ow.length ix ρ,h1,m1,[],e3,zk9 ((f.stp s1).stp st0),r0,zad,.nil,r1.out hD,st0,p0⟩,?_⟩
 rintro i fl σ' H' vs ⟨ρ',h3,m3,acc,e5,f3,r3,d3,q3,o3,s3,p3⟩
 refine⟨d3,?_⟩
 cases fl with
 |zero=>cases e5
 |succ fl=>
  simp only[lcG]at e5
  obtain⟨j1,j2⟩:=J1.2 m3 h3 H' r3 p3 i
  split at e5
  .cases e5
  .rename_i hn
   cases e5
   refine .inl ⟨j2 hn,?_⟩
   obtain⟨st,r'⟩:=r3.adopt (o:=.lst acc.reverse) (u:=.lst vs) o3 d3 (λ_ z=>nomatch z) (λ_ _ z=>nomatch z) (s1.trans s3) (by
    cases z:H D with
    |none=>rfl
    |some o=>
     have:=s1.keep D o (λi hi z2=>(r1.out hD) i (vae hi s1.le) ((s1.same i hi).trans z2)) z
     rw[hD]at this;cases this) λ_ mv=>⟨_,zad,q3.map mv⟩
   rw[zla d3]at st r'
   refine k _ _ _ st r' ?_
   have:VRep K (λi=>if i=h2.n then D else m3 i) (h2.n+1) H' (.ref ((λi=>if i=h2.n then D else m3 i) h2.n)) (.ref h2.n):=.ref (va2 _)
   simp only[vbb]at this
   exact this
  .rename_i w hn
   obtain⟨j3,j4⟩:=j1 w hn
   refine .inr ⟨j3,λy H4 hy=>?_⟩
   obtain⟨s4,r4,q4⟩:=j4 y H4 hy
   split at e5
   .cases e5
   .rename_i ρ5 ht
    refine⟨ρ',h3,m3,w,ρ5,f3.stp s4,r4,q4,ht,λσ5 f5=>?_⟩
    refine zaa e5 λbv h6 e6 e7=>?_
    have d4:H4 D=some (.lst vs):=s4.keep D _ o3 d3
    have s14:=s3.trans s4
    have p4:=J1.1 m3 h3.n H' m3 h3.n H4 (vad _) (λ_ _=>rfl) (λb vs q=>s4.tup b vs q) (λb o u q=>s4.frz b o u q) p3
    cases bv<;>try cases e7
    rename_i bb
    refine⟨ρ5,h3,m3,bb,h6,f5,r4,e6,λH6 m6 s6 r6=>?_⟩
    have o6:=s6.out o3 d4
    have d6:H6 D=some (.lst vs):=s6.keep D _ o3 d4
    have p6:=J1.1 m3 h3.n H4 m6 h6.n H6 s6.le s6.same (λb vs q=>s6.tup b vs q) (λb o u q=>s6.frz b o u q) p4
    cases bb with
    |false=>
     simp only[vaf,va1]
     exact⟨fl,va2 _,ρ5,h6,m6,acc,e7,f5.stp s6,r6,d6,(q3.stp s4).stp s6,o6,s14.trans s6,p6⟩
    |true=>
     simp only[vbb]
     refine zaa e7 λy7 h7 e8 e9=>?_
     refine⟨ρ5,h6,m6,y7,h7,f5.stp s6,r6,e8,λv7 H7 m7 s7 r7 q7=>?_⟩
     have o7:=s7.out o6 d6
     have d7:H7 D=some (.lst vs):=s7.keep D _ o6 d6
     have p7:=J1.1 m6 h6.n H6 m7 h7.n H7 s7.le s7.same (λb vs q=>s7.tup b vs q) (λb o u q=>s7.frz b o u q) p6
     have q37:=((q3.stp s4).stp s6).stp s7
     have hlen:=zga e9
     rw[vam]at hlen
     refine⟨d7,?_,fl,va2 _,ρ5,h7,m7,y7::acc,e9,?_⟩
     .rw[q37.length,List.length_reverse]
      have:big=sizeLine:=rfl
      omega
     .obtain⟨st8,r8,mv⟩:=r7.side (u:=.lst (vs++[v7])) d7 (λ_ z=>nomatch z) (λ_ _ z=>nomatch z) o7 ((s14.trans s6).trans s7) hD
      have kt:∀b us,H7 b=some (.tup us)->upd H7 D (.lst (vs++[v7])) b=some (.tup us):=λb us q=>by rw[zac (ne_of q d7 λz=>nomatch z)];exact q
      have kf:∀b o u,H7 b=some (.frz o u)->upd H7 D (.lst (vs++[v7])) b=some (.frz o u):=λb o u q=>by rw[zac (ne_of q d7 λz=>nomatch z)];exact q
      refine⟨⟨(f5.stp s6).len,λi w e=>let⟨v,h1,h2⟩:=((f5.stp s6).stp s7).val i w e;⟨v,h1,mv h2⟩⟩,r8,zad,?_,o7,st8,J1.1 m7 h7.n H7 m7 h7.n _ (vad _) (λ_ _=>rfl) kt kf p7⟩
      rw[List.reverse_cons]
      exact(q37.map mv).append (.cons (mv q7) .nil)
end
noncomputable def Grow(h h':VH):Prop:=h.n<=h'.n/\h'.lo<=h.lo/\∀i,i<h.n->i<h'.lo->h'.get i=h.get i
theorem Grow.refl{h:VH}:Grow h h:=⟨vad _,vad _,λ_ _ _=>rfl⟩
theorem Grow.trans{h h1 h2:VH}(a:Grow h h1)(b:Grow h1 h2):Grow h h2:=⟨va3 a.1 b.1,va3 b.2.1 a.2.1,λi hi hl=>(b.2.2 i (vae hi a.1) hl).trans (a.2.2 i hi (vae hl b.2.1))⟩
theorem Grow.new{h:VH}{o:VO}:Grow h (h.new o):=⟨Nat.le_succ _,vad _,λi hi _=>zai hi⟩
theorem Grow.set{h:VH}{i:Nat}{o:VO}(hi:i<h.n):Grow h (h.set i o):=by
 refine⟨vad _,?_,λj hj hl=>zb5 hi ?_⟩
 .show(if Nat.blt i h.lo then i else h.lo)<=h.lo
  split
  .rename_i q;exact vcu (zaj.mp q)
  .exact vad _
 .have hl:j< (if Nat.blt i h.lo then i else h.lo):=hl
  split at hl
  .omega
  .rename_i q
   intro z
   rw[z]at hl
   exact q (zaj.mpr hl)
noncomputable def Gr{α:Type}(r:Res α)(h:VH):Prop:=∀a h',r=.ok a h'->Grow h h'
section
variable{α β:Type}{h:VH}
theorem Gr.ok{a:α}:Gr (Res.ok a h) h:=λ_ _ e=>by cases e;exact .refl
theorem Gr.no:Gr (Res.no:Res α) h:=λ_ _ e=>by cases e
theorem Gr.of{o:Option α}:Gr (Res.of o h) h:=λ_ _ e=>by cases o with|none=>cases e|some a=>cases e;exact .refl
theorem Gr.new{a:α}{o:VO}:Gr (Res.ok a (h.new o)) h:=λ_ _ e=>by cases e;exact .new
theorem Gr.set{a:α}{o o':VO}{i:Nat}(g:h.get i=some o'):Gr (Res.ok a (h.set i o)) h:=λ_ _ e=>by cases e;exact .set (zap g)
theorem Gr.bind{r:Res α}{f:α->VH->Res β}(a:Gr r h)(b:∀x h1,Gr (f x h1) h1):Gr (r.bind f) h:=λy h' e=>by
 cases r with
 |ok x h1=>exact(a x h1 rfl).trans (b x h1 y h' e)
 |ex _ _=>cases e
 |no=>cases e
end
theorem gr_op{o:Op}{x y:W}{h:VH}:Gr (opW o x y h) h:=by
 unfold opW
 split
 .exact .of
 .exact .of
 .split
  .split
   .exact .new
   .exact .no
  .exact .no
 .exact .no
theorem gr_ip{o:Op}{x y:W}{h:VH}:Gr (ipW o x y h) h:=by
 unfold ipW
 split
 .split
  .exact .ok
  .exact .ok
  .exact .of
  .exact .of
  .exact .no
 .split
  .split
   .rename_i g _ _;exact .set g
   .exact .no
  .exact .no
 .exact .no
theorem zrf{x:W}{l u:Option Int}{h:VH}:Gr (slcW x l u h) h:=by
 unfold slcW
 split
 .exact .ok
 .split
  .exact .new
  .exact .no
 .exact .no
theorem gr_bi{b:Bi}{xs:List W}{h:VH}:Gr (biW b xs h) h:=by
 cases b<;>simp only[biW]
 .unfold lenW;split<;>first|exact .of|exact .no
 .unfold listW
  split
  .split
   .exact .new
   .exact .no
  .exact .no
 .unfold zgt;split<;>first|exact .of|exact .no
 .unfold intW;split<;>first|exact .ok|exact .no
 .unfold absW;split<;>first|exact .ok|exact .no
 .unfold maxW;split<;>first|exact .ok|exact .no
 .unfold minW;split<;>first|exact .ok|exact .no
 .unfold allW
  split
  .split
   .exact .of
   .exact .no
  .exact .no
 .unfold lrngW
  split
  .split
   .exact .new
   .exact .no
  .exact .no
theorem zrg{x w:W}{l u:Option Int}{h:VH}:Gr (ptsW x w l u h) h:=by
 unfold ptsW
 split
 .split
  .split
   .exact .no
   .split
    .rename_i g _ _ _;exact .set g
    .exact .no
  .exact .no
 .exact .no
theorem gr_mt{m:Mt}{o:W}{xs:List W}{h:VH}:Gr (mtW m o xs h) h:=by
 unfold mtW
 split
 .split
  .split
   .rename_i g _;exact .set g
   .exact .no
  .exact .no
 .split
  .exact .ok
  .exact .no
 .exact .of
 .exact .no
theorem zjj{nx:Nat->VH->Option (Option W)}{tg:W->VH->En->Option En}{c e:En->VH->Res W}(hc:∀ρ h,Gr (c ρ h) h)(he:∀ρ h,Gr (e ρ h) h):∀(f i:Nat) (ρ:En) (h:VH) (acc:List W),Gr (lcI nx tg c e f i ρ h acc) h
 |0,_,_,_,_=>.no
 |f+1,i,ρ,h,acc=>by
  simp only[lcI]
  split
  .exact .no
  .exact .ok
  .split
   .exact .no
   .refine .bind (hc _ _) λb h1=>?_
    split
    .exact .bind (he _ _) λy h2=>zjj hc he f _ _ _ _
    .exact zjj hc he f _ _ _ _
    .exact .no
theorem zjk{nx:Nat->VH->Option (Option W)}{tg:W->VH->En->Option En}{c:En->VH->Res W}{e:En->VH->List W->Res (En×List W)}(hc:∀ρ h,Gr (c ρ h) h)(he:∀ρ h acc,Gr (e ρ h acc) h):∀(f i:Nat) (ρ:En) (h:VH) (acc:List W),Gr (lcO nx tg c e f i ρ h acc) h
 |0,_,_,_,_=>.no
 |f+1,i,ρ,h,acc=>by
  simp only[lcO]
  split
  .exact .no
  .exact .ok
  .split
   .exact .no
   .refine .bind (hc _ _) λb h1=>?_
    split
    .exact .bind (he _ _ _) λy h2=>zjk hc he f _ _ _ _
    .exact zjk hc he f _ _ _ _
    .exact .no
theorem gr_lc{nx:Nat->VH->Option (Option W)}{tg:W->VH->En->Option En}{c e:En->VH->Res W}(hc:∀ρ h,Gr (c ρ h) h)(he:∀ρ h,Gr (e ρ h) h):∀(f i:Nat) (ρ:En) (h:VH) (acc:List W),Gr (lcG nx tg c e f i ρ h acc) h
 |0,_,_,_,_=>.no
 |f+1,i,ρ,h,acc=>by
  simp only[lcG]
  split
  .exact .no
  .exact .ok
  .split
   .exact .no
   .refine .bind (hc _ _) λb h1=>?_
    split
    .exact .bind (he _ _) λy h2=>gr_lc hc he f _ _ _ _
    .exact gr_lc hc he f _ _ _ _
    .exact .no
theorem gr_dc{nx:Nat->VH->Option (Option W)}{tg:W->VH->En->Option En}{c e v:En->VH->Res W}(hc:∀ρ h,Gr (c ρ h) h)(he:∀ρ h,Gr (e ρ h) h)(hv:∀ρ h,Gr (v ρ h) h):∀(f i:Nat) (ρ:En) (h:VH) (acc:List (L2.Key×W)),Gr (dcG nx tg c e v f i ρ h acc) h
 |0,_,_,_,_=>.no
 |f+1,i,ρ,h,acc=>by
  simp only[dcG]
  split
  .exact .no
  .exact .ok
  .split
   .exact .no
   .refine .bind (hc _ _) λb h1=>?_
    split
    .refine .bind (he _ _) λy h2=>.bind (hv _ _) λz h3=>?_
     split
     .split
      .exact gr_dc hc he hv f _ _ _ _
      .exact .no
     .exact .no
    .exact gr_dc hc he hv f _ _ _ _
    .exact .no
theorem zjl{nx:Nat->VH->Option (Option W)}{tg:W->VH->En->Option En}{b:En->VH->Res Fl}(hb:∀ρ h,Gr (b ρ h) h):∀(f i:Nat) (ρ:En) (h:VH),Gr (forG nx tg b f i ρ h) h
 |0,_,_,_=>.no
 |f+1,i,ρ,h=>by
  simp only[forG]
  split
  .exact .no
  .exact .ok
  .split
   .exact .no
   .refine .bind (hb _ _) λfl h1=>?_
    split
    .exact zjl hb f _ _ _
    .exact zjl hb f _ _ _
    .exact .ok
    .exact .ok
theorem zjm{c:En->VH->Res W}{b:En->VH->Res Fl}(hc:∀ρ h,Gr (c ρ h) h)(hb:∀ρ h,Gr (b ρ h) h):∀(f:Nat) (ρ:En) (h:VH),Gr (whlG c b f ρ h) h
 |0,_,_=>.no
 |f+1,ρ,h=>by
  simp only[whlG]
  refine .bind (hc _ _) λt h1=>?_
  split
  .exact .ok
  .refine .bind (hb _ _) λfl h2=>?_
   split
   .exact zjm hc hb f _ _
   .exact zjm hc hb f _ _
   .exact .ok
   .exact .ok
  .exact .no
section
variable{cl:Call}
theorem gr_ev(hcl:∀f ws h,Gr (cl f ws h) h):∀(e:E) (ρ:En) (h:VH),Gr (ev cl e ρ h) h:=by
 intro e
 induction e with
 |var i=>intro ρ h;exact .of
 |cst w=>intro ρ h;exact .ok
 |nil=>intro ρ h;exact .ok
 |cons a r i1 i2=>intro ρ h;simp only[ev];refine .bind (i1 _ _) λx h1=>.bind (i2 _ _) λy h2=>?_;split<;>first|exact .ok|exact .no
 |tup a i1=>intro ρ h;simp only[ev];refine .bind (i1 _ _) λx h1=>?_;split<;>first|(split<;>first|exact .ok|exact .no)|exact .no
 |lst a i1=>intro ρ h;simp only[ev];refine .bind (i1 _ _) λx h1=>?_;split<;>first|(split<;>first|exact .new|exact .no)|exact .no
 |dsp a i1=>
  intro ρ h;simp only[ev];refine .bind (i1 _ _) λx h1=>?_
  split
  .split
   .split
    .exact .new
    .exact .no
   .unfold dspD
    split
    .split
     .exact .new
     .exact .no
    .exact .no
  .exact .no
 |op o a b i1 i2=>intro ρ h;simp only[ev];exact .bind (i1 _ _) λx h1=>.bind (i2 _ _) λy h2=>gr_op
 |neg a i1=>intro ρ h;simp only[ev];refine .bind (i1 _ _) λx h1=>?_;split<;>first|exact .ok|exact .no
 |cmp c a b i1 i2=>intro ρ h;simp only[ev];exact .bind (i1 _ _) λx h1=>.bind (i2 _ _) λy h2=>.of
 |chn c d a b e i1 i2 i3=>
  intro ρ h;simp only[ev];refine .bind (i1 _ _) λx h1=>.bind (i2 _ _) λy h2=>?_
  split
  .exact .bind (i3 _ _) λz h3=>.of
  .exact .ok
  .exact .no
 |not a i1=>intro ρ h;simp only[ev];refine .bind (i1 _ _) λx h1=>?_;split<;>first|exact .ok|exact .no
 |and a b i1 i2=>intro ρ h;simp only[ev];refine .bind (i1 _ _) λx h1=>?_;split<;>first|exact i2 _ _|exact .ok|exact .no
 |or a b i1 i2=>intro ρ h;simp only[ev];refine .bind (i1 _ _) λx h1=>?_;split<;>first|exact i2 _ _|exact .ok|exact .no
 |tru a i1=>intro ρ h;simp only[ev];exact .bind (i1 _ _) λx h1=>.of
 |ite c a b i1 i2 i3=>
  intro ρ h;simp only[ev];refine .bind (i1 _ _) λx h1=>?_
  split
  .exact i2 _ _
  .exact i3 _ _
  .exact .no
 |idx a b i1 i2=>intro ρ h;simp only[ev];exact .bind (i1 _ _) λx h1=>.bind (i2 _ _) λy h2=>.of
 |slc a bl lo bh hi i1 i2 i3=>
  intro ρ h;simp only[ev];refine .bind (i1 _ _) λx h1=>.bind (i2 _ _) λy h2=>.bind (i3 _ _) λz h3=>?_
  split
  .exact zrf
  .exact .no
 |call f a i1=>intro ρ h;simp only[ev];refine .bind (i1 _ _) λx h1=>?_;split<;>first|exact hcl _ _ _|exact .no
 |bi b a i1=>intro ρ h;simp only[ev];refine .bind (i1 _ _) λx h1=>?_;split<;>first|exact gr_bi|exact .no
 |isi t a i1=>intro ρ h;simp only[ev];exact .bind (i1 _ _) λx h1=>.of
 |mt m o a i1 i2=>
  intro ρ h;simp only[ev];refine .bind (i1 _ _) λx h1=>?_
  split
  .refine .bind (i2 _ _) λy h2=>?_
   split<;>first|exact gr_mt|exact .no
  .exact .no
 |lc k a t ow ix c e i1 i2 i3=>
  intro ρ h;simp only[ev]
  refine .bind (i1 _ _) λx h1=>.bind (gr_lc i2 i3 _ _ _ _ _) λys h2=>?_
  split
  .exact .new
  .exact .no
 |lc2 k a t ow ix c k2 a2 t2 c2 e i1 i2 i3 i4 i5=>
  intro ρ h;simp only[ev]
  refine .bind (i1 _ _) λx h1=>.bind (zjk i2 (λρ h acc=>.bind (i3 _ _) λy h2=>zjj i4 i5 _ _ _ _ _) _ _ _ _ _) λys h2=>?_
  split
  .exact .new
  .exact .no
 |mk C f a i1=>
  intro ρ h;simp only[ev];refine .bind (i1 _ _) λy h1=>?_
  split
  .intro b h' e
   refine Grow.new.trans (Gr.bind (hcl _ _ _) (λv h2=>?_) b h' e)
   split
   .exact .ok
   .exact .no
  .exact .no
 |mcall C mt f o a i1 i2=>
  intro ρ h;simp only[ev];refine .bind (i1 _ _) λx h1=>?_
  split
  .refine .bind (i2 _ _) λy h2=>?_
   split
   .exact hcl _ _ _
   .exact .no
  .exact .no
 |att C x a i1=>intro ρ h;simp only[ev];exact .bind (i1 _ _) λx h1=>.of
 |dc k a t ow ix c e v i1 i2 i3 i4=>
  intro ρ h;simp only[ev]
  exact .bind (i1 _ _) λx h1=>.bind (gr_dc i2 i3 i4 _ _ _ _ _) λys h2=>.new
theorem zfi(hcl:∀f ws h,Gr (cl f ws h) h):∀(s:S) (ρ:En) (h:VH),Gr (exs cl s ρ h) h:=by
 have ge:=gr_ev hcl
 intro s
 induction s with
 |skip=>intro ρ h;exact .ok
 |seq a b i1 i2=>intro ρ h;simp only[exs];refine .bind (i1 _ _) λfl h1=>?_;split<;>first|exact i2 _ _|exact .ok
 |set i e=>intro ρ h;simp only[exs];exact .bind (ge _ _ _) λw h1=>.ok
 |unp is e=>intro ρ h;simp only[exs];exact .bind (ge _ _ _) λw h1=>.of
 |aug i o e=>
  intro ρ h;simp only[exs]
  split
  .exact .bind (ge _ _ _) λy h1=>.bind gr_ip λz h2=>.ok
  .exact .no
 |sat C x o v=>
  intro ρ h;simp only[exs]
  refine .bind (ge _ _ _) λw h1=>.bind (ge _ _ _) λo h2=>?_
  unfold satW
  split
  .split
   .split
    .rename_i g _;exact .set g
    .exact .no
   .exact .no
  .exact .no
 |put o i v=>
  intro ρ h;simp only[exs]
  refine .bind (ge _ _ _) λw h1=>.bind (ge _ _ _) λx h2=>.bind (ge _ _ _) λy h3=>?_
  split
  .split
   .split
    .rename_i g _ _ _;exact .set g
    .exact .no
   .exact .no
  .unfold putD
   split
   .split
    .rename_i g _ _;exact .set g
    .exact .no
   .exact .no
  .exact .no
 |pts o bl lo bh hi v=>
  intro ρ h;simp only[exs]
  refine .bind (ge _ _ _) λw h1=>.bind (ge _ _ _) λx h2=>.bind (ge _ _ _) λl h3=>.bind (ge _ _ _) λu h4=>?_
  split
  .exact .bind zrg λ_ h5=>.ok
  .exact .no
 |ite c a b i1 i2=>
  intro ρ h;simp only[exs];refine .bind (ge _ _ _) λx h1=>?_
  split
  .exact i1 _ _
  .exact i2 _ _
  .exact .no
 |ret e=>intro ρ h;simp only[exs];exact .bind (ge _ _ _) λw h1=>.ok
 |expr e=>intro ρ h;simp only[exs];exact .bind (ge _ _ _) λw h1=>.ok
 |brk=>intro ρ h;exact .ok
 |cnt=>intro ρ h;exact .ok
 | «for» k a t b i1=>intro ρ h;simp only[exs];exact .bind (ge _ _ _) λx h1=>zjl i1 _ _ _ _
 |whl c b i1=>intro ρ h;simp only[exs];exact zjm (ge c) i1 _ _ _
 |tryc f a tb=>
  intro ρ h;simp only[exs];refine .bind (ge _ _ _) λy h1=>?_
  split
  .refine .bind (hcl _ _ _) λw h2=>?_
   unfold tryW
   split
   .exact .ok
   .split
    .exact .ok
    .exact .no
   .exact .no
  .exact .no
 |no=>intro ρ h;exact .no
end
theorem zfj(F:Nat->Option Fn):∀(k f:Nat) (ws:List W) (h:VH),Gr (run F k f ws h) h
 |0,_,_,_=>.no
 |k+1,f,ws,h=>by
  intro a h' e
  simp only[run]at e
  split at e
  .rename_i fn hf
   split at e
   .rename_i hl
    generalize hr:exs (run F k) fn.body (ws.map some++List.replicate (fn.n-fn.ps) none) ⟨h.n,h.n,h.os⟩=r at e
    have g:=zfi (zfj F k) fn.body (ws.map some++List.replicate (fn.n-fn.ps) none) ⟨h.n,h.n,h.os⟩
    rw[hr]at g
    have lv:∀w h1,Grow ⟨h.n,h.n,h.os⟩ h1->leave h w h1=.ok a h'->Grow h h':=by
     intro w h1 g1 e1
     unfold leave at e1
     split at e1
     .cases e1;exact .refl
     .cases e1
      refine⟨g1.1,?_,λi hi hlo=>?_⟩
      .show(if Nat.ble h.lo h1.lo then h.lo else h1.lo)<=h.lo
       split
       .exact vad _
       .rename_i q
        exact Nat.le_of_not_le λz=>q (Nat.ble_eq.mpr z)
      .have hlo:i< (if Nat.ble h.lo h1.lo then h.lo else h1.lo):=hlo
       have hh:i<h1.lo:=by
        split at hlo
        .rename_i q;exact vae hlo (vau q)
        .exact hlo
       exact g1.2.2 i hi hh
    cases r with
    |no=>cases e
    |ex _ _=>cases e
    |ok fl h1=>
     have g1:=g fl h1 rfl
     simp only[Res.bind]at e
     split at e
     .exact lv _ _ g1 e
     .exact lv _ _ g1 e
     .cases e
   .cases e
  .cases e
noncomputable def FlOk(K:PySem.W.Frag)(m:Nat->Addr)(n:Nat)(H:Hp)(D:Ends):Fl->Prop
 |.nx ρ=>∀σ,Fr K m n H σ ρ->D.nx σ H
 |.bk ρ=>∀σ,Fr K m n H σ ρ->D.bk σ H
 |.ct ρ=>∀σ,Fr K m n H σ ρ->D.ct σ H
 |.rt w=>∀v,VRep K m n H v w->D.rt v H
noncomputable def lftS(K:PySem.W.Frag)(f:FS):TS:=λD σ H=>∃ρ h m fl h',Fr K m h.n H σ ρ/\Rel K m h H/\f ρ h=.ok fl h'/\∀H' m',Stp m h.n H m' h'.n H'->Rel K m' h' H'->FlOk K m' h'.n H' D fl
theorem lftS.el{K:PySem.W.Frag}{D:Ends}{σ:L2.St}{H:Hp}{P:Prop}{fa:FS}(q:lftS K fa D σ H)(k:∀ρ h m fl h',Fr K m h.n H σ ρ->Rel K m h H->fa ρ h=.ok fl h'->(∀H' m',Stp m h.n H m' h'.n H'->Rel K m' h' H'->FlOk K m' h'.n H' D fl)->P):P:=by
 obtain⟨ρ,h,m,w,h',f,r,e,k'⟩:=q
 exact k ρ h m w h' f r e k'
theorem lftS.mk{K:PySem.W.Frag}{D:Ends}{σ:L2.St}{H:Hp}{m:Nat->Addr}{ρ:En}{h h':VH}{fl:Fl}{fa:FS}(f:Fr K m h.n H σ ρ)(r:Rel K m h H)(e:fa ρ h=.ok fl h')(k:∀H' m',Stp m h.n H m' h'.n H'->Rel K m' h' H'->FlOk K m' h'.n H' D fl):lftS K fa D σ H:=⟨ρ,h,m,fl,h',f,r,e,k⟩
noncomputable abbrev SS(X:Cx)(st:Stmt)(f:FS):Prop:=PS X st (lftS X.K f)
noncomputable abbrev SSs(X:Cx)(st:List Stmt)(f:FS):Prop:=PSs X st (lftS X.K f)
section
variable{X:Cx}{a b c e o:Expr}{es:List Expr}{fa fb fc fo fr:FE}{pos p:Pos}{x:Str}{st:Stmt}{sts:List Stmt}{ga gb:FS}
noncomputable abbrev gSkip:FS:=λρ h=>.ok (.nx ρ) h
noncomputable abbrev gSeq(ga gb:FS):FS:=λρ h=>(ga ρ h).bind λfl h=>match fl with|.nx ρ=>gb ρ h|fl=>.ok fl h
theorem zn3:SSs X [] gSkip:=zd6.imp λD σ H z9=>z9.el λρ h m fl h' f r e k=>by cases e;exact k H m .refl r σ f
theorem zn4:SS X (.Pass pos) gSkip:=zmw.imp λD σ H z9=>z9.el λρ h m fl h' f r e k=>by cases e;exact k H m .refl r σ f
theorem zrh:SS X (.Break pos) (λρ h=>.ok (.bk ρ) h):=zke.imp λD σ H z9=>z9.el λρ h m fl h' f r e k=>by cases e;exact k H m .refl r σ f
theorem zri:SS X (.Continue pos) (λρ h=>.ok (.ct ρ) h):=zf0.imp λD σ H z9=>z9.el λρ h m fl h' f r e k=>by cases e;exact k H m .refl r σ f
theorem zlb(h1:SS X st ga)(h2:SSs X sts gb):SSs X (st::sts) (gSeq ga gb):=(zbw h1 h2).imp λD σ H z9=>z9.el λρ h m fl h' f r e k=>by
 refine zaa e λfl1 h1 e1 e2=>?_
 refine(.mk f r e1 λH1 m1 s1 r1=>?_)
 cases fl1 with
 |nx ρ1=>exact λσ1 f1=>⟨ρ1,h1,m1,fl,h',f1,r1,e2,λH' m' s' r'=>k H' m' (s1.trans s') r'⟩
 |bk ρ1=>cases e2;exact k H1 m1 s1 r1
 |ct ρ1=>cases e2;exact k H1 m1 s1 r1
 |rt w=>cases e2;exact k H1 m1 s1 r1
theorem ss_no:SS X st (λ_ _=>.no):=zkf.imp λD σ H z9=>z9.el λρ h m fl h' f r e k=>by cases e
noncomputable def zdr:Expr->Bool
 |.ListComp .. |.SetComp .. |.DictComp ..=>false
 |_=>true
theorem zcn{e:Expr}{t:Option Expr}{l:Nat}{env:Env}(h:zdr e=true):swapsWith e t l env=pure false:=by
 cases e<;>first|rfl|cases h
theorem zn5(he:SE X e fa)(hs:zdr e=true):SS X (.Expr e pos) (λρ h=>(fa ρ h).bind λ_ h=>.ok (.nx ρ) h):=(zmx he (zcn hs)).imp λD σ H z9=>z9.el λρ h m fl h' f r e k=>by
 refine zaa e λw h1 e1 e2=>?_
 cases e2
 exact(.mk f r e1 λv H1 m1 s1 r1 q1=>k H1 m1 s1 r1 σ (f.stp s1))
theorem zrj(he:SE X e fa):SS X (.Return (some e) pos) (λρ h=>(fa ρ h).bind λw h=>.ok (.rt w) h):=(zez he).imp λD σ H z9=>z9.el λρ h m fl h' f r e k=>by
 refine zaa e λw h1 e1 e2=>?_
 cases e2
 exact(.mk f r e1 λv H1 m1 s1 r1 q1=>k H1 m1 s1 r1 v q1)
theorem zn6:SS X (.Return none pos) (λρ h=>(Res.ok W.non h).bind λw h=>.ok (.rt w) h):=zmy.imp λD σ H z9=>z9.el λρ h m fl h' f r e k=>by
 cases e
 exact k H m .refl r .non .non
noncomputable abbrev gSet(i:Nat)(fa:FE):FS:=λρ h=>(fa ρ h).bind λw h=>.ok (.nx (ρ.set i (some w))) h
theorem zmf{K:PySem.W.Frag}{i:Nat}{D:Ends}{σ:L2.St}{H:Hp}(q:lftS K (gSet i fa) D σ H):lft K fa σ H λv H1=>gName i v σ H1 D.nx:=by
 refine q.el λρ h m fl h' f r e k=>?_
 refine zaa e λw h1 e1 e2=>?_
 cases e2
 exact(.mk f r e1 λv H1 m1 s1 r1 q1=>k H1 m1 s1 r1 _ ((f.stp s1).set q1 i))
theorem zmg{i:Nat}{pos':Pos}(hN:X.N.Nodup)(hi:X.N[i]?=some x)(hx:Loc X.env.scope x)(hf:X.fn x=true\/X.env.scope.names.lookup x=some .local)(he:SE X e fa)
 (hs:swapsWith e (some (.Name x pos')) pos.line X.env=pure false):SS X (.Assign [.Name x pos'] e pos) (gSet i fa):=(zlx hN hi hx he hs hf).imp λD σ H q=>zmf q
theorem zlc{i:Nat}{pos' lp:Pos}{ow fr:List Str}{ix:List Nat}{scope:Scope}{tg iter elt:Expr}{ifs:List Expr}{kd:Kd}{t:Tg}{fe:FE}(hN:X.N.Nodup)(hi:X.N[i]?=some x)(hx:Loc X.env.scope x)(hf:X.fn x=true\/X.env.scope.names.lookup x=some .local)
 (S:CompScope X ow fr ix scope) (hc:X.calm=true) (hI:PI X tg iter (lftI X.K kd fa)) (hg:∀C s₀ H₀ ex,PG (X.comp (ow++fr) scope C s₀ H₀ ex) tg (lftG X.K t)) (ht:∀C s₀ H₀ ex,PTs (X.comp (ow++fr) scope C s₀ H₀ ex) ifs (lftT X.K fc))
 (he:∀C s₀ H₀ ex,PE (X.comp (ow++fr) scope C s₀ H₀ ex) elt (lft X.K fe)) (hsw:swapsWith (.ListComp elt [⟨tg,iter,ifs,0⟩] scope lp) (some (.Name x pos')) pos.line X.env=pure true) (hs:∀x,foldedSetIterable iter X.env x=pure x) :
 SS X (.Assign [.Name x pos'] (.ListComp elt [⟨tg,iter,ifs,0⟩] scope lp) pos) (gSet i (gLc kd fa t ow.length ix fc fe)):=
 (zkw hN hi hx S hc hI hg ht he hsw hf hs).imp λD σ H q=>lc_ok (zmf q)
theorem se_lc{lp:Pos}{ow fr:List Str}{ix:List Nat}{scope:Scope}{tg iter elt:Expr}{ifs:List Expr}{kd:Kd}{t:Tg}{fe:FE}
 (S:CompScope X ow fr ix scope) (hc:X.calm=true) (hI:PI X tg iter (lftI X.K kd fa)) (hg:∀C s₀ H₀ ex,PG (X.comp (ow++fr) scope C s₀ H₀ ex) tg (lftG X.K t)) (ht:∀C s₀ H₀ ex,PTs (X.comp (ow++fr) scope C s₀ H₀ ex) ifs (lftT X.K fc))
 (he:∀C s₀ H₀ ex,PE (X.comp (ow++fr) scope C s₀ H₀ ex) elt (lft X.K fe)) (hs:∀x,foldedSetIterable iter X.env x=pure x) :
 SE X (.ListComp elt [⟨tg,iter,ifs,0⟩] scope lp) (gLc kd fa t ow.length ix fc fe):=(pe_lc S hc hI hg ht he hs).imp λσ H Q q=>lc_ok q
noncomputable def noTup:Expr->Bool
 |.Tuple ..=>false
 |_=>true
theorem zjn{es:List Expr}{k:Nat}{e:Expr}{l:Nat}{p:Pos}{env:Env}:swapsWithSole [.Tuple es k p] e l env=pure false:=by
 cases e<;>rfl
theorem zho{t:Expr}{e:Expr}{env:Env}(h:noTup e=true):swappedStores [t] e env=pure none:=by
 cases e<;>first|(cases t<;>rfl)|cases h
theorem zrk{is:List Nat}{k:Nat}(hc:X.calm=true)(hN:X.N.Nodup)(hs:Paired (NmOk X) es is)(he:SE X e fa)(ht:noTup e=true) :
 SS X (.Assign [.Tuple es k p] e pos) (λρ h=>(fa ρ h).bind λw h=>.of ((tgW (.many is) w h ρ).map .nx) h):=(zlw he (zji hc hN hs) zjn (zho ht) rfl).imp λD σ H z9=>z9.el λρ h m fl h' f r e k=>by
 refine zaa e λw h1 e1 e2=>?_
 obtain⟨e2,e3⟩:=of_ok e2
 subst e3
 cases z:tgW (.many is) w h' ρ with
 |none=>rw[z]at e2;cases e2
 |some ρ'=>
  rw[z]at e2;cases e2
  exact(.mk f r e1 λv H1 m1 s1 r1 q1=>(.mk (f.stp s1) r1 q1 z λσ' f'=>k H1 m1 s1 r1 σ' f'))
noncomputable def zb9:Expr->Bool
 |.Slice ..=>false
 |_=>true
theorem zhp{o i:Expr}{p:Pos}{env:Env}(h:zb9 i=true)(v:Value):assign (.Subscript o i p) env v=(do
 let ov <-holding [v] (eval o env)
 let iv <-holding [v,ov] (eval i env)
 standAt p
 holding [v,ov,iv] (setItem ov iv v)
 release [v,ov,iv] []):=by
 cases i<;>first|rfl|cases h
noncomputable abbrev gPut(fo fi fv:FE):FS:=λρ h=>(fv ρ h).bind λw h=>(fo ρ h).bind λx h=>(fi ρ h).bind λy h=>match x,y with
 |.ref a,.int j=>(match h.get a with
  |some (.lst ws)=>(match L2.ixN ws.length j with
   |some k=>.ok (.nx ρ) (h.set a (.lst (ws.set k w)))
   |none=>.no)
  |_=>.no)
 |.ref a,y=>putD ρ a y w h
 |_,_=>.no
theorem zjo{o i e:Expr}{l:Nat}{p:Pos}{env:Env}:swapsWithSole [.Subscript o i p] e l env=pure false:=by
 cases e<;>rfl
theorem zgb{o i e:Expr}{p:Pos}{env:Env}:swappedStores [.Subscript o i p] e env=pure none:=by
 cases e<;>rfl
theorem zgy{K:PySem.W.Frag}{m:Nat->Addr}{n:Nat}{H:Hp}{x:Str}{w:W}:∀{vs:List (Str×V)} {ws:List W},VReps K m n H (vs.map (·.2)) ws->lookF x (vs.map (·.1)) ws=some w->∃v,vs.lookup x=some v/\VRep K m n H v w
 |[],_,_,e=>by unfold lookF at e;cases e
 |(y,v)::vs,ws,q,e=>by
  rw[vaj]at q e
  obtain⟨w0,ws,rfl,q1,q2⟩:∃w' ws',ws=w'::ws'/\VRep K m n H v w'/\VReps K m n H (vs.map (·.2)) ws':=by cases q with|cons a b=>exact⟨_,_,rfl,a,b⟩
  unfold lookF at e
  by_cases z:y=x
  .rw[if_pos z]at e
   cases e
   exact⟨v,by rw[vaq,z,beq_self_eq_true],q1⟩
  .rw[if_neg z]at e
   obtain⟨v',h1,h2⟩:=zgy q2 e
   exact⟨v',by rw[vaq,vbs.mpr (vb3 z)];exact h1,h2⟩
theorem zds{x:Str}{v:V}:∀(vs:List (Str×V)),(putF x v vs).map (·.1)=putN x (vs.map (·.1))
 |[]=>rfl
 |(y,u)::vs=>by
  unfold putF
  rw[vaj]
  unfold putN
  by_cases z:y=x
  .rw[if_pos z,if_pos z];rfl
  .rw[if_neg z,if_neg z,vaj,zds vs]
theorem zfk{K:PySem.W.Frag}{m:Nat->Addr}{n:Nat}{H:Hp}{x:Str}{v:V}{w:W}(q:VRep K m n H v w):∀{vs:List (Str×V)} {ws:List W},VReps K m n H (vs.map (·.2)) ws->VReps K m n H ((putF x v vs).map (·.2)) (putV x w (vs.map (·.1)) ws)
 |[],_,r=>by cases r;exact .cons q .nil
 |(y,u)::vs,ws,r=>by
  rw[vaj]at r
  obtain⟨w0,ws,rfl,q1,q2⟩:∃w' ws',ws=w'::ws'/\VRep K m n H u w'/\VReps K m n H (vs.map (·.2)) ws':=by cases r with|cons a b=>exact⟨_,_,rfl,a,b⟩
  unfold putF
  rw[vaj]
  unfold putV
  by_cases z:y=x
  .rw[if_pos z,if_pos z];exact .cons q q2
  .rw[if_neg z,if_neg z];exact .cons q1 (zfk q q2)
theorem zrl{C:Addr}{x:Str}(c:Cls X.K C)(na:zbx X.K C x)(he:SE X e fa)(hb:attributeBase e x X.env (eval e X.env)=eval e X.env):SE X (.Attribute e x pos) (λρ h=>(fa ρ h).bind λo h=>.of (attW C x o h) h):=
 (zps he hb).imp λσ H Q z9=>z9.el λρ h m w h' f r e k=>by
   refine zaa e λo h1 e1 e2=>?_
   obtain⟨e2,e3⟩:=of_ok e2
   subst e3
   refine(.mk f r e1 λv H1 m1 s1 r1 q1=>?_)
   unfold attW at e2
   split at e2
   .rename_i i
    split at e2
    .rename_i D xs ws g
     split at e2
     .rename_i hD
      subst hD
      cases q1
      obtain⟨dx,vs,p1,p0,p2⟩:=r1.ins g
      rw[<-p0]at e2
      obtain⟨v',h2,h3⟩:=zgy p2 e2
      exact⟨_,_,dx,vs,v',rfl,p1,c,na,h2,k v' H1 m1 s1 r1 h3⟩
     .cases e2
    .cases e2
   .cases e2
theorem zrm{C:Addr}{x:Str}{pos':Pos}(c:Cls X.K C)(na:zbx X.K C x)(ho:SE X o fo)(hv:SE X e fb)(hs:swapsWith e (some (.Attribute o x pos')) pos.line X.env=pure false):SS X (.Assign [.Attribute o x pos'] e pos) (λρ h=>(fb ρ h).bind λw h=>(fo ρ h).bind λo h=>satW ρ C x o w h):=
 (zpt ho hv hs).imp λD σ H z9=>z9.el λρ h m fl h' f r e k=>by
   refine zaa e λw h1 e1 e2=>?_
   refine zaa e2 λow h2 e3 e4=>?_
   refine(.mk f r e1 λv H1 m1 s1 r1 q1=>(.mk (f.stp s1) r1 e3 λvo H2 m2 s2 r2 q2=>?_))
   unfold satW at e4
   split at e4
   .rename_i i
    split at e4
    .rename_i D' xs ws g
     split at e4
     .rename_i hc
      cases e4
      rw[vaa,vca]at hc
      obtain⟨hD,hl⟩:=hc
      subst hD
      cases q2
      obtain⟨dx,vs,p1,p0,p2⟩:=r2.ins g
      have hl':vs.length<1000:=by
       have:=zaj.mp hl
       rw[<-p0,vap]at this;exact this
      refine⟨m2 i,_,dx,vs,rfl,p1,c,na,hl',?_⟩
      have qv:=q1.stp s2
      obtain⟨st,r'⟩:=r2.write (i:=i) (o:=.ins D' (putN x xs) (putV x w xs ws)) (u:=.ins D' dx (putF x v vs)) (zap g) p1 (λ_ z=>nomatch z) (λ_ _ z=>nomatch z) λst=>⟨dx,putF x v vs,zad,by rw[zds,p0],by rw[<-p0];exact zfk (qv.stp st) (p2.stp st)⟩
      exact k _ m2 ((s1.trans s2).trans st) r' σ (((f.stp s1).stp s2).stp st)
     .cases e4
    .cases e4
   .cases e4
theorem zfl{α β:Type}{f:α->Option β}:∀{as:List α} {bs:List β} {a:α} {b:β},mapO f as=some bs->f a=some b->mapO f (as++[a])=some (bs++[b])
 |[],_,_,_,e,h=>by cases e;simp[mapO,h]
 |x::as,bs,a,b,e,h=>by
  simp only[mapO]at e
  cases z:f x with
  |none=>rw[z]at e;cases e
  |some y=>
   rw[z]at e
   simp only at e
   cases z2:mapO f as with
   |none=>rw[z2]at e;cases e
   |some ys=>
    rw[z2]at e;cases e
    rw[vb6]
    simp only[mapO,z,zfl z2 h,vb6]
theorem zrn(hu:X.A.units+2<cLine)(ho:SE X o fo)(hi:SE X a fa)(hv:SE X e fb)(hs:zb9 a=true):SS X (.Assign [.Subscript o a p] e pos) (gPut fo fa fb):=
 (zlw hv (zpd ho hi (zkt.or (zqc hu)) (zhp hs)) zjo zgb rfl).imp λD σ H z9=>z9.el λρ h m fl h' f r e k=>by
   refine zaa e λw h1 e1 e2=>?_
   refine zaa e2 λx h2 e3 e4=>?_
   refine zaa e4 λy h3 e5 e6=>?_
   refine(.mk f r e1 λv H1 m1 s1 r1 q1=>(.mk (f.stp s1) r1 e3 λvo H2 m2 s2 r2 q2=>(.mk ((f.stp s1).stp s2) r2 e5 λvi H3 m3 s3 r3 q3=>?_)))
   split at e6
   .rename_i l j
    split at e6
    .rename_i ws g
     split at e6
     .rename_i kk hk
      cases e6
      cases q3
      have q2':=q2.stp s3
      cases q2'
      obtain⟨vs,p1,p2⟩:=r3.lst g
      refine .inl ⟨m3 l,vs,j,kk,rfl,rfl,p1,by rw[p2.length];exact hk,?_⟩
      have qv:=((q1.stp s2).stp s3)
      obtain⟨st,r'⟩:=r3.write (i:=l) (o:=.lst (ws.set kk w)) (u:=.lst (vs.set kk v)) (zap g) p1 (λ_ z=>nomatch z) (λ_ _ z=>nomatch z) λst=>⟨_,zad,VReps.set (qv.stp st) kk (p2.stp st)⟩
      exact k _ m3 (((s1.trans s2).trans s3).trans st) r' σ ((((f.stp s1).stp s2).stp s3).stp st)
     .cases e6
    .cases e6
   .rename_i l _
    unfold putD at e6
    split at e6
    .rename_i ks ws dk g hd
     split at e6
     .rename_i hc
      cases e6
      rw[vaa]at hc
      have q2':=q2.stp s3
      cases q2'
      obtain⟨xs,p1,p2,p3,p4⟩:=r3.dt g
      obtain⟨b,rfl,kk⟩:=zc5 q3 hd
      have hl:=p3.length
      rw[vap]at hl
      have hlt:xs.length<sizeLine:=by rw[hl,vc4];exact zaj.mp hc.2
      have qv:=((q1.stp s2).stp s3)
      have hf:findX xs dk=none:=by
       rcases zeg dk p2 p4 with⟨z,_⟩|⟨p,w',z,z2,_⟩
       .exact z
       .rw[z2]at hc;exact absurd hc.1 (by simp)
      have hp:putX xs dk b v=xs++[(dk,b,v)]:=by unfold putX;rw[hf];rfl
      obtain⟨u0,hu0,hn,hff,hmu⟩:∃u0:HO,H3 (m3 l)=some u0/\(∀t,u0≠HO.tup t)/\(∀o t,u0≠HO.frz o t)/\Mut (some u0):=by
       rcases p1 with p1|⟨_,p1⟩
       .exact⟨_,p1,(λ_ z=>nomatch z),(λ_ _ z=>nomatch z),True.intro⟩
       .exact⟨_,p1,(λ_ z=>nomatch z),(λ_ _ z=>nomatch z),True.intro⟩
      refine .inr ⟨m3 l,b,xs,dk,rfl,rfl,dt_DT p1 p2 p3,by rw[hu0];exact hmu,kk,hlt,?_⟩
      obtain⟨st,r'⟩:=r3.write (i:=l) (o:=.dt (ks++[y]) (ws++[w])) (u:=dtH (putX xs dk b v) (m3 l)) (zap g) hu0 hn hff λst=>by
       rw[hp]at st ⊢
       refine⟨xs++[(dk,b,v)],.inl zad,?_,?_,?_⟩
       .rw[vc1,zfl p2 hd];rfl
       .rw[vc1];exact(p3.stp st).append (.cons (q3.stp st) .nil)
       .rw[vc1];exact(p4.stp st).append (.cons (qv.stp st) .nil)
      exact k _ m3 (((s1.trans s2).trans s3).trans st) r' σ ((((f.stp s1).stp s2).stp s3).stp st)
     .cases e6
    .cases e6
   .cases e6
theorem zgc{M:Model}{A:Around}{E:Value->Shared->Prop}{s:Shared}{a b:Value}{T id:String}{Q:Value->Shared->Prop}(ha:s.TypeIs a T)(hb:s.TypeIs b T)
 (hI:typeLookup (.type T) (dunderI "add")=pure (some (.builtin id))) (hq:isSeqSlot (some (.builtin id))=true) (hfill:fillsNumberSlot (.type T) "add" = pure false) (hc:wpAny M A (call (.builtin id) [a,b]) Q E s):wpAny M A (inplaceOp .Add a b) Q E s:=by
 unfold inplaceOp
 refine vbd ?_
 have h1:fillsInplaceSlot (.type T) "add" (Operator.Add == .Add)=pure false:=by
  unfold fillsInplaceSlot
  show(typeLookup (.type T) (dunderI "add") >>= λfi=>pure (fi.isSome && !isSeqSlot fi))=_
  rw[hI,pure_bind,hq];rfl
 have h2:seqSlot? (.type T) (dunderI "add")=pure (some (.builtin id)):=by
  unfold seqSlot?
  rw[hI,pure_bind,hq];rfl
 refine vab (wpAny_typeOf ha (vab (wpAny_of_eq h1 ?_)))
 show wpAny M A (if false=true then _ else _) Q E s
 rw[if_neg vao]
 refine vab (binaryOp1_none (nm:="add") ha hb hfill ?_)
 refine vab (wpAny_of_eq h2 ?_)
 exact vab (wpAny_rule hc)
noncomputable def rIcat:R2:=λx y H Q=>∃l b xs zs,x=.ref l/\y=.ref b/\H l=some (.lst xs)/\H b=some (.lst zs)/\xs.length+zs.length<=sizeLine/\Q (.ref l) (upd H l (.lst (xs++zs)))
theorem zro:PIp X .Add rIcat:=by
 intro pins s σ H x y v u Q I rx ry h
 obtain⟨l,b,xs,zs,rfl,rfl,hH,hB,hz,q⟩:=h
 cases rx
 cases ry
 obtain⟨z,its,n,r,hl,e⟩:=I.lstM hH
 obtain⟨z2,its2,n2,r2,hl2,e2⟩:=I.lstM hB
 have hsz:its.toArray.size+its2.toArray.size<=sizeLine:=by rw[vah,vah];omega
 have hlong:¬(!its.toArray.isEmpty&&Builtin.List.listTooLong (its.toArray.size+its2.toArray.size))=true:=by
  rw[zgo hsz,Bool.and_false]
  exact vao
 refine zgc (T:="list") (id:="list.__iadd__") ⟨_,e,rfl⟩ ⟨_,e2,rfl⟩ PySem.F.slot_list_iadd.lookup (by decide +kernel) noFill_list_add ?_
 refine call_meets PySem.F.slot_list_iadd ⟨_,e,rfl⟩ PySem.F.entry_list_iadd (PySem.F.args_list_iadd_2 _ _)
  (AutoSeq1.list___iadd___list_list_0 l its.toArray n b its2.toArray n2 hlong (by rw[vah];omega) (by omega)) ⟨e,e2,?_⟩
 refine⟨.ref l,_,I.lset (its':=its++its2) hH e (by simp) (r.append r2) ?_,rfl,q⟩
 rw[vat]
 omega
noncomputable def ipOf:Operator->Option Op
 |.Add=>some .add|.Sub=>some .sub|.Mult=>some .mul|.FloorDiv=>some .fdiv
 |_=>none
noncomputable def rIp:Op->R2
 |.mul=>rI CMul λi j=>.int (i*j)
 |.fdiv=>rI CDiv λi j=>.int (i/j)
 |.add=>λx y H Q=>ipI (λi j=>i+j) x y H Q\/rIcat x y H Q
 |.sub=>ipI λi j=>i-j
 |_=>λ_ _ _ _=>False
theorem ip_ok{O:Operator}{o:Op}(e:ipOf O=some o):PIp X O (rIp o):=by
 cases O<;>cases e
 .intro pins s σ H x y v u Q I rx ry q
  rcases q with q|q
  .exact zpf pins s σ H x y v u Q I rx ry q
  .exact zro pins s σ H x y v u Q I rx ry q
 .exact zpg
 .exact zm1
 .exact zki
theorem zrp{K:PySem.W.Frag}{O:Operator}{o:Op}(e:ipOf O=some o):OpV K (rIp o) (ipW o):=by
 intro m h H v u x y w h' Q r qv qu e2 k
 unfold ipW at e2
 split at e2
 .rename_i i j
  cases qv;cases qu
  split at e2
  .cases e2;exact .inl ⟨i,j,rfl,rfl,Wants.here k r (.int _)⟩
  .cases e2;exact⟨i,j,rfl,rfl,Wants.here k r (.int _)⟩
  .obtain⟨e2,rfl⟩:=of_ok e2
   cases z:opI .mul i j with
   |none=>rw[z]at e2;cases e2
   |some t=>
    rw[z]at e2;cases e2
    obtain⟨c1,rfl⟩:=zjd z
    exact⟨i,j,rfl,rfl,c1,Wants.here k r (.int _)⟩
  .obtain⟨e2,rfl⟩:=of_ok e2
   cases z:opI .fdiv i j with
   |none=>rw[z]at e2;cases e2
   |some t=>
    rw[z]at e2;cases e2
    obtain⟨c1,rfl⟩:=zjd z
    exact⟨i,j,rfl,rfl,c1,Wants.here k r (.int _)⟩
  .cases e2
 .rename_i i j
  split at e2
  .rename_i xs ys g1 g2
   split at e2
   .rename_i hz
    cases e2
    cases qv;cases qu
    obtain⟨vs,p1,p2⟩:=r.lst g1
    obtain⟨us,p3,p4⟩:=r.lst g2
    refine .inr ⟨m i,m j,vs,us,rfl,rfl,p1,p3,by rw[p2.length,p4.length];exact vau hz,?_⟩
    obtain⟨st,r'⟩:=r.write (i:=i) (o:=.lst (xs++ys)) (u:=.lst (vs++us)) (zap g1) p1 (λ_ z=>nomatch z) (λ_ _ z=>nomatch z) λst=>⟨_,zad,(p2.stp st).append (p4.stp st)⟩
    exact k _ _ m st r' (.ref (show i<h.n from zap g1))
   .cases e2
  .cases e2
 .cases e2
noncomputable abbrev gAug(i:Nat)(o:Op)(fa:FE):FS:=λρ h=>match(ρ[i]?).join with
 |some x=>(fa ρ h).bind λy h=>(ipW o x y h).bind λz h=>.ok (.nx (ρ.set i (some z))) h
 |none=>.no
theorem zrq{i:Nat}{pos':Pos}{O:Operator}{o:Op}(eo:ipOf O=some o)(hN:X.N.Nodup)(hi:X.N[i]?=some x)(hx:Loc X.env.scope x)(hf:X.fn x=true\/X.env.scope.names.lookup x=some .local)(he:SE X e fa) :
 SS X (.AugAssign (.Name x pos') O e pos) (gAug i o fa):=(zpe hN hi hx he (ip_ok eo) hf).imp λD σ H z9=>z9.el λρ h m fl h' f r e k=>by
 have e:gAug i o fa ρ h=.ok fl h':=e
 simp only[gAug]at e
 cases z:(ρ[i]?).join with
 |none=>rw[z]at e;cases e
 |some x=>
  rw[z]at e
  simp only at e
  refine zaa e λy h1 e1 e2=>?_
  refine zaa e2 λw h2 e3 e4=>?_
  cases e4
  have e5:ρ[i]?=some (some x):=by
   cases q:ρ[i]? with
   |none=>rw[q]at z;cases z
   |some o=>rw[q]at z;rw[<-z];rfl
  obtain⟨v,p1,p2⟩:=f.val i x e5
  refine⟨v,p1,ρ,h,m,y,h1,f,r,e1,λu H1 m1 s1 r1 q1=>zrp eo m1 h1 H1 v u x y w h' _ r1 (p2.stp s1) q1 e3 λv' H' m' s' r' q'=>?_⟩
  exact k H' m' (s1.trans s') r' _ (((f.stp s1).stp s').set q' i)
noncomputable abbrev gIf(fc:FE)(ga gb:FS):FS:=λρ h=>(fc ρ h).bind λx h=>match x with|.bl true=>ga ρ h|.bl false=>gb ρ h|_=>.no
variable{sa sb:List Stmt}
theorem zrr(hc:ST X c fc)(ha:SSs X sa ga)(hb:SSs X sb gb):SS X (.If c sa sb pos) (gIf fc ga gb):=(ps_if hc ha hb).imp λD σ H z9=>z9.el λρ h m fl h' f r e k=>by
 refine zaa e λx h1 e1 e2=>?_
 cases x<;>try cases e2
 rename_i c
 refine(.mk f r e1 λH1 m1 s1 r1=>?_)
 cases c with
 |true=>rw[if_pos rfl];exact(.mk (f.stp s1) r1 e2 λH' m' s' r'=>k H' m' (s1.trans s') r')
 |false=>simp only[vaf,va1];exact(.mk (f.stp s1) r1 e2 λH' m' s' r'=>k H' m' (s1.trans s') r')
theorem zn7{nx:Nat->VH->Option (Option W)}{tg:W->VH->En->Option En}{g:FS}{f i:Nat}{ρ:En}{h:VH}{fl:Fl}{h':VH}(q:forG nx tg g (f+1) i ρ h=.ok fl h'):∃o,nx i h=some o:=by
 simp only[forG]at q
 split at q
 .cases q
 .exact⟨_,by assumption⟩
 .exact⟨_,by assumption⟩
noncomputable abbrev gFor(kd:Kd)(fa:FE)(t:Tg)(g:FS):FS:=λρ h=>(fa ρ h).bind λx h=>forG (nxt kd x) (tgW t) g fuel 0 ρ h
theorem zrs{K:PySem.W.Frag}{kd:Kd}{t:Tg}{D:Ends}{σ:L2.St}{H:Hp}(q:lftS K (gFor kd fa t ga) D σ H):tFor (lftI K kd fa) (lftG K t) (lftS K ga) D σ H:=by
 refine q.el λρ h m fl h' f r e k=>?_
 refine zaa e λx h1 e1 e2=>?_
 refine(.mk f r e1 (zn7 (f:=999999) e2) λJ P H1 m1 s1 r1 J1 p1=>?_)
 refine⟨λi fu σ' H'=>∃ρ' h3 m3,forG (nxt kd x) (tgW t) ga fu i ρ' h3=.ok fl h'/\Fr K m3 h3.n H' σ' ρ'/\Rel K m3 h3 H'/\Stp m1 h1.n H1 m3 h3.n H'/\P m3 h3.n H',⟨fuel,ρ,h1,m1,e2,f.stp s1,r1,.refl,p1⟩,?_⟩
 rintro i fu σ' H' ⟨ρ',h3,m3,e3,f3,r3,s3,p3⟩
 cases fu with
 |zero=>cases e3
 |succ fu=>
  simp only[forG]at e3
  obtain⟨j1,j2⟩:=J1.2 m3 h3 H' r3 p3 i
  split at e3
  .cases e3
  .rename_i hn
   cases e3
   exact .inl ⟨j2 hn,k H' m3 (s1.trans s3) r3 σ' f3⟩
  .rename_i w hn
   obtain⟨j3,j4⟩:=j1 w hn
   split at e3
   .cases e3
   .rename_i ρ4 ht
    refine zaa e3 λfl5 h5 e5 e6=>?_
    refine .inr ⟨j3,λσ6 H6=>∃ρ6 m6,forG (nxt kd x) (tgW t) ga fu (i+1) ρ6 h5=.ok fl h'/\Fr K m6 h5.n H6 σ6 ρ6/\Rel K m6 h5 H6/\Stp m1 h1.n H1 m6 h5.n H6/\P m6 h5.n H6,λσ6 H6 ⟨ρ6,m6,a1,a2,a3,a4,a5⟩=>⟨fu,va2 _,ρ6,h5,m6,a1,a2,a3,a4,a5⟩,λy H4 hy=>?_⟩
    obtain⟨s4,r4,q4⟩:=j4 y H4 hy
    refine⟨ρ',h3,m3,w,ρ4,f3.stp s4,r4,q4,ht,λσ5 f5=>⟨ρ4,h3,m3,fl5,h5,f5,r4,e5,λH6 m6 s6 r6=>?_⟩⟩
    have p4:=J1.1 m3 h3.n H' m3 h3.n H4 (vad _) (λ_ _=>rfl) (λb vs q=>s4.tup b vs q) (λb o u q=>s4.frz b o u q) p3
    have p6:=J1.1 m3 h3.n H4 m6 h5.n H6 s6.le s6.same (λb vs q=>s6.tup b vs q) (λb o u q=>s6.frz b o u q) p4
    have s16:=(s3.trans s4).trans s6
    cases fl5 with
    |nx ρ6=>exact λσ6 f6=>⟨ρ6,m6,e6,f6,r6,s16,p6⟩
    |ct ρ6=>exact λσ6 f6=>⟨ρ6,m6,e6,f6,r6,s16,p6⟩
    |bk ρ6=>cases e6;exact λσ6 f6=>k H6 m6 (s1.trans s16) r6 σ6 f6
    |rt w6=>cases e6;exact λv6 q6=>k H6 m6 (s1.trans s16) r6 v6 q6
theorem zrt{kd:Kd}{t:Tg}{tg iter:Expr}(hp:PassesOwn (model X.prog X.w) X.A X.env X.xe)(hc:X.calm=true)(hI:PI X tg iter (lftI X.K kd fa))(hg:PG X tg (lftG X.K t))(hb:SSs X sa ga)(hs:∀x,foldedSetIterable iter X.env x=pure x) :
 SS X (.For tg iter sa [] pos) (gFor kd fa t ga):=(zpj hp hc hI hg hb hs).imp λD σ H q=>zrs q
theorem zru(hp:PassesOwn (model X.prog X.w) X.A X.env X.xe)(hc:ST X c fc)(hb:SSs X sa ga):SS X (.While c sa [] pos) (λρ h=>whlG fc ga fuel ρ h):=(zkh hp hc hb).imp λD σ H z9=>z9.el λρ h m fl h' f r e k=>by
 refine⟨λfu σ' H'=>∃ρ' h3 m3,whlG fc ga fu ρ' h3=.ok fl h'/\Fr X.K m3 h3.n H' σ' ρ'/\Rel X.K m3 h3 H'/\Stp m h.n H m3 h3.n H',⟨fuel,ρ,h,m,e,f,r,.refl⟩,?_⟩
 rintro fu σ' H' ⟨ρ',h3,m3,e3,f3,r3,s3⟩
 cases fu with
 |zero=>cases e3
 |succ fu=>
  simp only[whlG]at e3
  refine zaa e3 λx h4 e4 e5=>?_
  cases x<;>try cases e5
  rename_i b
  refine⟨ρ',h3,m3,b,h4,f3,r3,e4,λH4 m4 s4 r4=>?_⟩
  cases b with
  |false=>cases e5;simp only[vaf,va1];exact k H4 m4 (s3.trans s4) r4 σ' (f3.stp s4)
  |true=>
   simp only[vbb]
   refine zaa e5 λfl5 h5 e6 e7=>?_
   refine⟨λσ6 H6=>∃ρ6 m6,whlG fc ga fu ρ6 h5=.ok fl h'/\Fr X.K m6 h5.n H6 σ6 ρ6/\Rel X.K m6 h5 H6/\Stp m h.n H m6 h5.n H6,λσ6 H6 ⟨ρ6,m6,a1,a2,a3,a4⟩=>⟨fu,va2 _,ρ6,h5,m6,a1,a2,a3,a4⟩,?_⟩
   refine⟨ρ',h4,m4,fl5,h5,f3.stp s4,r4,e6,λH6 m6 s6 r6=>?_⟩
   have s16:=(s3.trans s4).trans s6
   cases fl5 with
   |nx ρ6=>exact λσ6 f6=>⟨ρ6,m6,e7,f6,r6,s16⟩
   |ct ρ6=>exact λσ6 f6=>⟨ρ6,m6,e7,f6,r6,s16⟩
   |bk ρ6=>cases e7;exact λσ6 f6=>k H6 m6 s16 r6 σ6 f6
   |rt w6=>cases e7;exact λv6 q6=>k H6 m6 s16 r6 v6 q6
end
theorem zb0{n:Str}:∀{ps:List Str} {us:List Value},us.length=ps.length->n∈ps->((ps.zip us).lookup n).isSome=true
 |[],_,_,h=>by cases h
 |p::ps,[],hl,_=>by cases hl
 |p::ps,u::us,hl,h=>by
  rw[vbh,vaq]
  by_cases e:(n==p)=true
  .rw[e];rfl
  .have e':(n==p)=false:=by simpa using e
   rw[e']
   refine zb0 (by simpa using hl) ?_
   rcases va5.mp h with z|z
   .rw[z]at e';simp at e'
   .exact z
theorem zld{n:Str}{u:Value}{p:Str}{ps:List Str}{us:List Value}(h:n≠p):((p,u)::ps.zip us).lookup n=(ps.zip us).lookup n:=by
 rw[vaq]
 have e':(n==p)=false:=by simpa using h
 rw[e']
theorem zgz{α β:Type}{f g:α->Option β}:∀{l:List α},(∀a∈l,f a=g a)->l.filterMap f=l.filterMap g
 |[],_=>rfl
 |a::r,h=>by
  rw[vbt,vbt,h a vaz,zgz λb hb=>h b (van _ hb)]
theorem zej:∀{ps:List Str} {us:List Value},us.length=ps.length->ps.Nodup->ps.filterMap (λn=>((ps.zip us).lookup n).map (n,·))=ps.zip us
 |[],_,_,_=>rfl
 |p::ps,[],hl,_=>by cases hl
 |p::ps,u::us,hl,hn=>by
  obtain⟨h1,h2⟩:=vcy.mp hn
  rw[vbh,vbt]
  have e:((p,u)::ps.zip us).lookup p=some u:=by rw[vaq];simp
  rw[e]
  simp only[Option.map_some]
  congr 1
  have ih:=zej (ps:=ps) (us:=us) (by simpa using hl) h2
  refine Eq.trans ?_ ih
  exact zgz λn hn'=>by
   have hne:n≠p:=λz=>h1 (by rw[<-z];exact hn')
   rw[zld hne]
theorem zdt{x qual:Str}{args:List Arg}{body:List Stmt}{sc:Scope}{kV doc pm:Value}{an:Option Addr}{cdv ct:Value}{us:List Value}{df:List Expr}(hl:us.length=(args.map (·.arg)).length)(hn:(args.map (·.arg)).Nodup) :
 bindArgs (PySem.W.fnOf x qual ⟨[],args,none,[],[],none,df⟩ body sc .none kV doc pm an cdv ct) ⟨us,[]⟩=pure ((args.map (·.arg)).zip us):=by
 have hs:seqItems? Value.none=pure none:=rfl
 have hm:((args.map (·.arg)).filter λn=>(((args.map (·.arg)).zip us).lookup n).isNone)=[]:=by
  rw[List.filter_eq_nil_iff]
  intro n hn'
  have:=zb0 hl hn'
  cases q:((args.map (·.arg)).zip us).lookup n with
  |none=>rw[q]at this;cases this
  |some v=>simp
 unfold bindArgs
 simp only[PySem.W.fnOf,vc7,vc2,va8,hs,pure_bind]
 have hg:¬(us.length> (args.map (·.arg)).length):=by omega
 have h0:(#[]:Array Value).toList=[]:=rfl
 simp only[Option.getD_none,h0,vc6,pure_bind,List.drop_nil,vc0,Nat.sub_zero,List.take_length,hm,List.isEmpty_nil,vbf,List.drop_length,List.zip_nil_right,List.zip_nil_left,vaw hg,vcp,vaf,va1,zej hl hn]
theorem zfm{z:Str}:∀{qs:List Str} {us:List Value},us.length=qs.length->(qs++[z]).zip us=qs.zip us
 |[],[],_=>rfl
 |[],_::_,h=>by cases h
 |_::_,[],h=>by cases h
 |q::qs,u::us,h=>by
  rw[vb6,vbh,vbh,zfm (by simpa using h)]
theorem zek{z:Str}{v:Value}:∀{qs:List Str} {us:List Value},us.length=qs.length->(qs++[z]).zip (us++[v])=qs.zip us++[(z,v)]
 |[],[],_=>rfl
 |[],_::_,h=>by cases h
 |_::_,[],h=>by cases h
 |q::qs,u::us,h=>by
  rw[vb6,vb6,vbh,vbh,zek (by simpa using h),vb6]
theorem zjp{z:Str}:∀{qs:List Str} {us:List Value},z∉qs->(qs.zip us).lookup z=none
 |[],_,_=>rfl
 |_::_,[],_=>rfl
 |q::qs,u::us,h=>by
  rw[vbh,vaq]
  have e':(z==q)=false:=by simpa using(λe=>h (by rw[e];exact vaz))
  rw[e']
  exact zjp λe=>h (van _ e)
section
variable{x qual:Str}{args:List Arg}{df:List Expr}{body:List Stmt}{sc:Scope}{kV doc pm:Value}{an:Option Addr}{cdv ct:Value}{t:Addr}{o:Obj}{n:Nat}{s:Shared}{us:List Value}{qs:List Str}{z:Str}
theorem zmh(qs:List Str)(z:Str):List.drop ([Value.none].length- (qs++[z]).length) [Value.none]=[Value.none]:=by
 rw[vat,vcl,vcl,show 1- (qs.length+1)=0 by omega];rfl
theorem len_d(qs:List Str)(z:Str):(qs++[z]).length - [Value.none].length=qs.length:=by simp
theorem zhq(ha:args.map (·.arg)=qs++[z])(hn:(qs++[z]).Nodup)(ho:s.heap.get? t=some o)(hd:o.data=.seq #[.none] n)(hl:us.length=(qs++[z]).length) :
 BindsTo s (PySem.W.fnOf x qual ⟨[],args,none,[],[],none,df⟩ body sc (.ref t) kV doc pm an cdv ct) ⟨us,[]⟩ ((qs++[z]).zip us):=by
 apply BindsTo.of_defaults (items:=#[.none]) (n:=n) rfl ho hd
 .unfold bindArgs
  simp only[PySem.W.fnOf,vc7,vc2,va8,vc6,pure_bind,ha]
  rfl
 .have hm:(qs.filter λn=>(((qs++[z]).zip us).lookup n).isNone)=[]:=by
   rw[List.filter_eq_nil_iff]
   intro n hn'
   have:=zb0 (n:=n) hl (List.mem_append_left _ hn')
   cases q:((qs++[z]).zip us).lookup n with
   |none=>rw[q]at this;cases this
   |some v=>simp
  have hz:(((qs++[z]).zip us).lookup z).isNone=false:=by
   have:=zb0 (n:=z) hl (vay _ (List.mem_singleton.mpr rfl))
   cases q:((qs++[z]).zip us).lookup z with
   |none=>rw[q]at this;cases this
   |some v=>rfl
  have hg:¬(us.length> (qs++[z]).length):=by omega
  simp only[Option.getD_some,zmh,len_d,List.take_left',List.take_left,List.drop_left,List.drop_left',hm,vaw hg,vcp,vaf,va1,List.isEmpty_nil,vbf,vbh,List.zip_nil_right,List.forIn_cons,vc6,hz,pure_bind,zej hl hn]
theorem zhr(ha:args.map (·.arg)=qs++[z])(hn:(qs++[z]).Nodup)(ho:s.heap.get? t=some o)(hd:o.data=.seq #[.none] n)(hl:us.length=qs.length) :
 BindsTo s (PySem.W.fnOf x qual ⟨[],args,none,[],[],none,df⟩ body sc (.ref t) kV doc pm an cdv ct) ⟨us,[]⟩ ((qs++[z]).zip (us++[.none])):=by
 apply BindsTo.of_defaults (items:=#[.none]) (n:=n) rfl ho hd
 .unfold bindArgs
  simp only[PySem.W.fnOf,vc7,vc2,va8,vc6,pure_bind,ha]
  rfl
 .have hm:(qs.filter λn=>((qs.zip us).lookup n).isNone)=[]:=by
   rw[List.filter_eq_nil_iff]
   intro n hn'
   have:=zb0 (n:=n) hl hn'
   cases q:(qs.zip us).lookup n with
   |none=>rw[q]at this;cases this
   |some v=>simp
  have hzq:z∉qs:=λh=>(List.nodup_append.mp hn).2.2 z h z (List.mem_singleton.mpr rfl) rfl
  have hz:((qs.zip us).lookup z).isNone=true:=by rw[zjp hzq];rfl
  have hg:¬(us.length> (qs++[z]).length):=by rw[vat];omega
  have hl2:(us++[Value.none]).length=(qs++[z]).length:=by rw[vat,vat,hl];rfl
  have ha2:=zej hl2 hn
  rw[zek hl]at ha2
  simp only[Option.getD_some,zmh,len_d,zfm hl,zek hl,List.take_left',List.take_left,List.drop_left,List.drop_left',hm,vaw hg,vcp,vaf,va1,List.isEmpty_nil,vbf,vbh,List.zip_nil_right,List.forIn_cons,vc6,hz,vbb,pure_bind,ha2]
end
structure FunD(K:PySem.W.Frag)(x qual:Str)(st:Stmt)(f:Addr)(fd:FuncData):Prop where
 ex:∃(oc:Value) (od:Option Addr) (dV kV doc pm:Value) (an:Option Addr) (cdv ct:Value) (osl:Array (Option Value)),fd=PySem.W.fnOf x qual (zng st) (zb2 st) (zaf st) dV kV doc pm an cdv ct/\K.lookup f=some ⟨oc,od,.func fd,osl⟩/\PySem.W.codeIn K cdv qual=true
 kp:PySem.W.keepIn K (.ref f)=true
theorem FunD.ok{P:Program}{w:World}{K:PySem.W.Frag}{mg:Str->Option Value}{base:Heap}{x qual:Str}{st:Stmt}{f:Addr}{fd:FuncData}{N ps:List Str}{k:Nat}{sp:Sp}(F:FunD K x qual st f fd)(S:FnScope N ps (zaf st))(len:∀vs H Q E,sp vs H Q E->vs.length=ps.length)
 (hbody:∀(cdv:Value)(A:Around)(outer:List Env)(s:Shared)(H:Hp)(vs:List V)(Q:VK)(E:XK),Room k (A.deeper (envOfC qual (zaf st) s.heap.objs.size f cdv))->sp vs H Q E->∃t,PSs (cxOf CX0 P w K mg base N qual (zaf st) f cdv A outer s H E).nox (zb2 st) t/\t {nx:=λ_ H'=>Q .non H',rt:=Q} (start N vs) H):FnOk P w K mg base CX0 (k+1) f fd ps sp:=
 let⟨_,_,_,_,_,_,_,cdv,_,_,e,lk,hcd⟩:=F.ex
 by subst e;exact fn_of lk hcd S len λA outer s H vs Q E hr hsp=>let⟨t,h,q⟩:=hbody cdv A outer s H vs Q E hr hsp;⟨t,h.nox,q⟩
section
variable{K:PySem.W.Frag}{m m':Nat->Addr}{n n':Nat}{h h':VH}{H H':Hp}
mutual
theorem VRep.refsLt:∀{v:V} {w:W},VRep K m n H v w->W.lt n w=true
 |_,_,.non=>rfl
 |_,_,.bl _=>rfl
 |_,_,.int _=>rfl
 |_,_,.str _=>rfl
 |_,_,.tup _ r=>VReps.refsLt r
 |_,_,.fz _ r=>VReps.refsLt r
 |_,_,.ref q=>zaj.mpr q
theorem VReps.refsLt:∀{vs:List V} {ws:List W},VReps K m n H vs ws->W.lts n ws=true
 |_,_,.nil=>rfl
 |_,_,.cons q r=>by
  show(W.lt n _&&W.lts n _)=true
  rw[VRep.refsLt q,VReps.refsLt r];rfl
end
mutual
theorem VRep.cut:∀{v:V} {w:W},VRep K m n' H v w->W.lt n w=true->VRep K m n H v w
 |_,_,.non,_=>.non
 |_,_,.bl b,_=>.bl b
 |_,_,.int b,_=>.int b
 |_,_,.str b,_=>.str b
 |_,_,.tup q r,e=>.tup q (VReps.cut r e)
 |_,_,.fz q r,e=>.fz q (VReps.cut r e)
 |_,_,.ref q,e=>.ref (zaj.mp e)
theorem VReps.cut:∀{vs:List V} {ws:List W},VReps K m n' H vs ws->W.lts n ws=true->VReps K m n H vs ws
 |_,_,.nil,_=>.nil
 |_,_,.cons q r,e=>by
  have e:(W.lt n _&&W.lts n _)=true:=e
  rw[vaa]at e
  exact .cons (VRep.cut q e.1) (VReps.cut r e.2)
end
theorem KReps.cut{m':Nat->Addr}{n1:Nat}{H':Hp}:∀{vs us:List (Key×V)} {ws:List (Key×W)},KReps K m n' H vs ws->KReps K m' n H' us ws->KReps K m n H vs ws
 |_,_,_,.nil,_=>.nil
 |_,_,_,.cons q r,.cons q2 r2=>.cons (q.cut q2.refsLt) (KReps.cut (n1:=n1) r r2)
theorem zfn{lo:Nat}(r:Rel K m h H):Rel K m ⟨h.n,lo,h.os⟩ H:=⟨r.obj,r.inj,r.len⟩
theorem zco{w w2:W}{h1 h2:VH}{v:V}{Q:VK}(r:Rel K m h H)(s:Stp m h.n H m' h1.n H')(r1:Rel K m' h1 H')(q:VRep K m' h1.n H' v w)(g:Grow ⟨h.n,h.n,h.os⟩ h1)(e:leave h w h1=.ok w2 h2)(k:Wants K m h.n H w2 h2 Q):Q v H':=by
 unfold leave at e
 split at e
 .rename_i hc
  cases e
  rw[vaa]at hc
  have hlo:=vau hc.1
  refine k v H' m' ⟨vad _,s.same,λi a b=>absurd b (vbo.mpr a),λi j a b=>absurd b (vbo.mpr a),s.tup,s.frz,s.keep⟩ ⟨λi hi=>?_,λi j hi hj=>r1.inj i j (vae hi s.le) (vae hj s.le),r.len⟩ (q.cut hc.2)
  have hg:h1.get i=h.get i:=g.2.2 i hi (vae hi hlo)
  obtain⟨o,p1,p2⟩:=r1.obj i (vae hi s.le)
  rw[hg]at p1
  refine⟨o,p1,?_⟩
  have p3:=r.at_ p1
  cases o with
  |lst ws=>
   obtain⟨vs,a1,a2⟩:=p2
   obtain⟨us,b1,b2⟩:=p3
   exact⟨vs,a1,a2.cut b2.refsLt⟩
  |dk ws=>
   obtain⟨vs,a1,a2⟩:=p2
   obtain⟨us,b1,b2⟩:=p3
   exact⟨vs,a1,KReps.cut (n1:=0) a2 b2⟩
  |dt ks ws=>
   obtain⟨xs,a1,a0,a2,a3⟩:=p2
   obtain⟨us,b1,b0,b2,b3⟩:=p3
   exact⟨xs,a1,a0,a2.cut b2.refsLt,a3.cut b3.refsLt⟩
  |ins C xs ws=>
   obtain⟨dx,vs,a1,a0,a2⟩:=p2
   obtain⟨dx',us,b1,b0,b2⟩:=p3
   exact⟨dx,vs,a1,a0,a2.cut b2.refsLt⟩
 .cases e
  exact k v H' m' s (zfn r1) q
theorem zg0{N:List Str}{vs:List V}{ws:List W}(q:VReps K m n H vs ws):Fr K m n H (L2.start N vs) (ws.map some++List.replicate (N.length-ws.length) none):=by
 unfold L2.start
 refine⟨by simp[q.length],λi w e=>?_⟩
 by_cases hi:i<ws.length
 .rw[vbj (by simpa using hi)]at e
  rw[vbj (by simpa[q.length]using hi)]
  rw[vbn]at e ⊢
  cases z:ws[i]? with
  |none=>rw[z]at e;cases e
  |some w'=>
   rw[z]at e
   cases e
   obtain⟨v,h1,h2⟩:=q.get z
   exact⟨v,by rw[h1];rfl,h2⟩
 .rw[vbc (by simpa using vbo.mp hi)]at e
  rw[vcc]at e
  split at e<;>cases e
end
theorem zbk{F:Nat->Option Fn}{k idx:Nat}{ws:List W}{h h':VH}{w:W}{fn:Fn}(hF:F idx=some fn)(e:run F k idx ws h=.ok w h'):ws.length=fn.ps:=by
 cases k with
 |zero=>cases e
 |succ k=>
  simp only[run,hF]at e
  split at e
  .rename_i hl;exact vbp hl
  .cases e
theorem zmi{P:Program}{w:World}{K:PySem.W.Frag}{mg:Str->Option Value}{base:Heap}{F:Nat->Option Fn}{k idx:Nat}{fn:Fn}{x qual:Str}{st:Stmt}{f:Addr}{fd:FuncData}{N ps:List Str}(hF:F idx=some fn)(Fu:FunD K x qual st f fd)(S:FnScope N ps (zaf st))
 (hn:fn.n=N.length) (hp:fn.ps=ps.length)
 (hbody:∀(cdv:Value)(A:Around)(outer:List Env)(s:Shared)(H:Hp)(E:XK),Room k (A.deeper (envOfC qual (zaf st) s.heap.objs.size f cdv))->SSs (cxOf CX0 P w K mg base N qual (zaf st) f cdv A outer s H E).nox (zb2 st) (exs (run F k) fn.body)) :
 FnOk P w K mg base CX0 (k+1) f fd ps (spV K ps.length (run F (k+1) idx)):=by
 refine Fu.ok S (λvs H Q E h=>h.1) λcdv A outer s H vs Q E hr hsp=>?_
 refine⟨_,hbody cdv A outer s H E hr,?_⟩
 obtain⟨hl,h,m,ws,w2,h2,r,q,e,k2⟩:=hsp
 have hws:=zbk hF e
 simp only[run,hF]at e
 split at e
 .refine zaa e λfl h1 e1 e2=>?_
  have g:=zfi (zfj F k) _ _ _ _ _ e1
  have hN:fn.n-fn.ps=N.length-ws.length:=by rw[hn,hws]
  rw[hN]at e1
  refine⟨_,⟨h.n,h.n,h.os⟩,m,fl,h1,zg0 q,zfn r,e1,λH' m' s' r'=>?_⟩
  cases fl with
  |nx ρ=>exact λσ' f'=>zco r s' r' .non g e2 k2
  |rt w3=>exact λv q3=>zco r s' r' q3 g e2 k2
  |bk _=>cases e2
  |ct _=>cases e2
 .cases e
theorem zjq{P:Program}{w:World}{K:PySem.W.Frag}{mg:Str->Option Value}{base:Heap}{F:Nat->Option Fn}{idx:Nat}{f:Addr}{fd:FuncData}{ps:List Str}:FnOk P w K mg base CX0 0 f fd ps (spV K ps.length (run F 0 idx)):=
 ⟨λvs H Q E h=>h.1,λA outer s H args us vs Q E hr he hb hv hs=>by obtain⟨_,h,m,ws,w2,h2,r,q,e,k2⟩:=hs;cases e⟩
theorem zdu{x:Str}:∀{vs:List (Str×V)} {ws:List W},vs.length=ws.length->lookF x (vs.map (·.1)) ws=none->vs.lookup x=none
 |[],_,_,_=>rfl
 |(y,v)::vs,[],hl,_=>by cases hl
 |(y,v)::vs,w::ws,hl,e=>by
  rw[vaj]at e
  unfold lookF at e
  by_cases z:y=x
  .rw[if_pos z]at e;cases e
  .rw[if_neg z]at e
   rw[vaq,vbs.mpr (vb3 z)]
   exact zdu (by simpa using hl) e
theorem zle{K:PySem.W.Frag}{m:Nat->Addr}{h:VH}{H:Hp}{C:Addr}{x:Str}{v:V}{o:W}(r:Rel K m h H)(q:VRep K m h.n H v o)(e:isIns C x h o=true):∃a dx fs,v=.ref a/\H a=some (.ins C dx fs)/\fs.lookup x=none:=by
 unfold isIns at e
 split at e
 .rename_i i
  split at e
  .rename_i D xs ws g
   rw[vaa,vca]at e
   obtain⟨rfl,e⟩:=e
   cases q
   obtain⟨dx,vs,p1,p0,p2⟩:=r.ins g
   have hl:=p2.length
   rw[vap]at hl
   refine⟨_,dx,vs,rfl,p1,zdu hl ?_⟩
   rw[p0]
   simpa using e
  .cases e
 .cases e
noncomputable abbrev gMc(C:Addr)(mt:Str)(fo fa:FE)(g:List W->VH->Res W):FE:=λρ h=>(fo ρ h).bind λx h=>if isIns C mt h x then(fa ρ h).bind λy h=>match y with|.tup ys=>g (x::ys) h|_=>.no else .no
section
variable{X:Cx}{a b c e o:Expr}{es:List Expr}{fa fb fc fo:FE}{pos p:Pos}{x:Str}
theorem zlf{k:Nat}{C f:Addr}{fd:FuncData}{ps:List Str}{mt:Str}{apos:Pos}{pl:Sem Bool}{g:List W->VH->Res W}(c:Cls X.K C)(hm:Meth X.K C mt f)(F:FnOk X.prog X.w X.K X.mg X.base CX0 k f fd ps (spV X.K ps.length g))(hr:Room k X.A)(hb:Binds X.K fd ps [])
 (ho:SE X o fo) (ha:SA X (e::es) fa) (hs:(e::es).all zah=true) (hn:∀ws h w h',g ws h=.ok w h'->ws.length=ps.length)
 (ht:eval (.Call (.Attribute o mt apos) (e::es) [] pos) X.env=(do
   let ov <-eval o X.env
   standAt apos.atName
   let (f,first) <-holding [ov] (getMethod ov mt pl)
   callWith pos f first (backTo pos (starEach (e::es) X.env)) (backToKw pos (keywordEach [] X.env)))) :
 SE X (.Call (.Attribute o mt apos) (e::es) [] pos) (gMc C mt fo fa g):=by
 rw[vbw,vaa]at hs
 refine(zm7 (pl:=pl) ho c hm F hr hb .nil pass0 ha (zab hs.1) (zas hs.2) ht).imp λσ H Q z9=>z9.el λρ h m w h' f r e k=>?_
 refine zaa e λx h1 e1 e2=>?_
 refine(.mk f r e1 λv H1 m1 s1 r1 q1=>?_)
 split at e2
 .rename_i hi
  refine zaa e2 λy h2 e3 e4=>?_
  cases y with
  |tup ys=>
   obtain⟨a,dx,fs,hv,ea,hl⟩:=zle r1 q1 hi
   refine⟨a,dx,fs,hv,ea,hl,ρ,h1,m1,ys,h2,f.stp s1,r1,e3,λvs H2 m2 s2 r2 q2=>?_⟩
   show spV X.K ps.length g (v:: (vs++[])) H2 Q E0
   rw[va8]
   have q3:VReps X.K m2 h2.n H2 (v::vs) (x::ys):=.cons (q1.stp s2) q2
   exact⟨by rw[q3.length];exact hn _ _ _ _ e4,h2,m2,x::ys,w,h',r2,q3,e4,λv' H' m' s' r' q'=>k v' H' m' ((s1.trans s2).trans s') r' q'⟩
  |_=>cases e4
 .cases e2
theorem zn8{K:PySem.W.Frag}{np:Nat}{C:Addr}{g:List W->VH->Res W}{dw:List W}{dv:List V}(hd:∀m n H,VReps K m n H dv dw)(hn:∀ws h w h',g ws h=.ok w h'->ws.length=np){m:Nat->Addr}{h:VH}{H:Hp}{vs:List V}{xs:List W}{w:W}{h':VH}{Q:VK}
 (r:Rel K m h H) (q:VReps K m h.n H vs xs) (e:mkR C g (xs++dw) h=.ok w h') (k:Wants K m h.n H w h' Q) :
 ∀x dx,H x=none->H dx=none->dx≠x->spV K np g (.ref x:: (vs++dv)) (upd (upd H dx (.own x)) x (.ins C dx [])) (λv H2=>v=.non/\Q (.ref x) H2) E0:=by
 intro px dx hpx hdx hne
 refine zaa e λv h2 e1 e2=>?_
 split at e2
 .rename_i hv
  cases e2
  have hv:v=.non:=by cases v<;>first|rfl|cases hv
  subst hv
  obtain⟨st0,r0⟩:=r.more (u:=.own px) hdx
  have hpx':upd H dx (.own px) px=none:=by rw[zac (vb3 hne)];exact hpx
  obtain⟨st1,r1⟩:=r0.alloc (o:=.ins C [] []) (u:=.ins C dx []) hpx' (λ_ z=>nomatch z) (λst=>⟨dx,[],zad,rfl,.nil⟩)
  have st:=st0.trans st1
  have q1:VReps K (λi=>if i=h.n then px else m i) (h.n+1) (upd (upd H dx (.own px)) px (.ins C dx [])) (.ref px:: (vs++dv)) (.ref h.n:: (xs++dw)):=by
   have:VRep K (λi=>if i=h.n then px else m i) (h.n+1) (upd (upd H dx (.own px)) px (.ins C dx [])) (.ref ((λi=>if i=h.n then px else m i) h.n)) (.ref h.n):=.ref (va2 _)
   simp only[vbb]at this
   exact .cons this ((q.stp st).append (hd _ _ _))
  refine⟨by rw[q1.length];exact hn _ _ _ _ e1,h.new (.ins C [] []),_,_,.non,h',r1,q1,e1,λv' H' m' s' r' q'=>?_⟩
  cases q'
  refine⟨rfl,?_⟩
  have hm:m' h.n=px:=by
   have:=s'.same h.n (show h.n<h.n+1 by omega)
   simp only[vbb]at this
   exact this
  have q2:VRep K m' h'.n H' (.ref (m' h.n)) (.ref h.n):=.ref (vae (show h.n<h.n+1 by omega) s'.le)
  rw[hm]at q2
  exact k _ H' m' (st.trans s') r' q2
 .cases e2
end
noncomputable def varsE(i:Nat):Nat->E
 |0=>.nil
 |n+1=>.cons (.var i) (varsE (i+1) n)
noncomputable def clsFn(C:Addr)(ii np:Nat):Fn:=⟨np,np,.seq (.ret (.mk C ii (varsE 0 np))) .skip⟩
theorem zjr{cl:Call}{h:VH}:∀(ys zs:List W),ev cl (varsE zs.length ys.length) ((zs++ys).map some) h=.ok (.tup ys) h
 |[],_=>rfl
 |y::ys,zs=>by
  have ih:=zjr (cl:=cl) (h:=h) ys (zs++[y])
  rw[vat,vcl,List.append_assoc,List.singleton_append]at ih
  have hv:ev cl (.var zs.length) ((zs++y::ys).map some) h=.ok y h:=by
   rw[ev]
   have:((zs++y::ys).map some)[zs.length]?=some (some y):=by simp
   rw[this];rfl
  rw[vam,varsE,ev,hv]
  show(ev cl (varsE (zs.length+1) ys.length) ((zs++y::ys).map some) h).bind _=_
  rw[ih];rfl
theorem zn9{F:Nat->Option Fn}{C:Addr}{ci ii np k:Nat}{ys:List W}{h h':VH}{w:W}(hF:F ci=some (clsFn C ii np))(e:run F (k+1) ci ys h=.ok w h') :
 ∃h2 lo,mkR C (run F k ii) ys ⟨h.n,h.n,h.os⟩=.ok (.ref h.n) h2/\w=.ref h.n/\h'=⟨h2.n,lo,h2.os⟩:=by
 have hl:ys.length=np:=zbk hF e
 have hv:=zjr (cl:=run F k) (h:=⟨h.n,h.n,h.os⟩) ys []
 rw[vc2,vc0,hl]at hv
 rw[run,hF]at e
 simp only at e
 rw[if_pos (by show Nat.beq ys.length np=true;rw[hl];exact Nat.beq_refl np)]at e
 have hz:(clsFn C ii np).n- (clsFn C ii np).ps=0:=Nat.sub_self np
 rw[hz,List.replicate_zero,va8]at e
 refine zaa e λfl h1 e1 e2=>?_
 have e1:exs (run F k) (.seq (.ret (.mk C ii (varsE 0 np))) .skip) (ys.map some) ⟨h.n,h.n,h.os⟩=.ok fl h1:=e1
 have hm:ev (run F k) (.mk C ii (varsE 0 np)) (ys.map some) ⟨h.n,h.n,h.os⟩=mkR C (run F k ii) ys ⟨h.n,h.n,h.os⟩:=by
  rw[ev,hv];rfl
 rw[exs,exs,hm]at e1
 refine zaa e1 λf2 h3 e3 e4=>?_
 refine zaa e3 λw2 h4 e5 e6=>?_
 cases e6
 cases e4
 have hw:w2=.ref h.n:=by
  refine zaa e5 λv h5 _ e7=>?_
  split at e7
  .cases e7;rfl
  .cases e7
 subst hw
 have e2:leave h (.ref h.n) h1=.ok w h':=e2
 have hlt:W.lt h.n (.ref h.n)=false:=by
  show Nat.blt h.n h.n=false
  cases z:Nat.blt h.n h.n with
  |false=>rfl
  |true=>exact absurd (zaj.mp z) (vby _)
 unfold leave at e2
 rw[hlt,Bool.and_false]at e2
 cases e2
 exact⟨h1,_,e5,rfl,rfl⟩
section
variable{X:Cx}{e:Expr}{es:List Expr}{fa:FE}{pos p:Pos}{x:Str}
theorem zmj{K:PySem.W.Frag}{F:Nat->Option Fn}{np k ci ii na:Nat}{C:Addr}{dw:List W}{dv:List V}(hF:F ci=some (clsFn C ii na))(hd:∀m n H,VReps K m n H dv dw)(hn:∀ws h w h',run F k ii ws h=.ok w h'->ws.length=np){m:Nat->Addr}{h:VH}{H:Hp}{vs:List V}{xs:List W}{w:W}{h':VH}{Q:VK}
 (r:Rel K m h H) (q:VReps K m h.n H vs xs) (e:run F (k+1) ci (xs++dw) h=.ok w h') (kk:Wants K m h.n H w h' Q) :
 ∀x dx,H x=none->H dx=none->dx≠x->spV K np (run F k ii) (.ref x:: (vs++dv)) (upd (upd H dx (.own x)) x (.ins C dx [])) (λv H2=>v=.non/\Q (.ref x) H2) E0:=by
 obtain⟨h2,lo,e1,rfl,rfl⟩:=zn9 hF e
 exact zn8 (h:=⟨h.n,h.n,h.os⟩) hd hn (zfn r) q e1 λv H' m' s' r' q'=>kk v H' m' s' (zfn r') q'
theorem zrv{k ci ii na:Nat}{F:Nat->Option Fn}{C f:Addr}{fd:FuncData}{ps:List Str}(hF:F ci=some (clsFn C ii na))(M:Mk X.K C f)(FO:FnOk X.prog X.w X.K X.mg X.base CX0 k f fd ps (spV X.K ps.length (run F k ii)))(hr:Room (k+1) X.A)(hg:Gl X x)(hm:X.mg x=some (.ref C))(hb:Binds X.K fd ps [])
 (ha:SA X (e::es) fa) (hs:(e::es).all zah=true) (hdb:(x==("__debug__" : Str))=false) (hn:∀ws h w h',run F k ii ws h=.ok w h'->ws.length=ps.length):SE X (.Call (.Name x p) (e::es) [] pos) (gArg fa (run F (k+1) ci)):=by
 rw[vbw,vaa]at hs
 refine(zio M FO hr hg hm hb .nil pass0 ha hdb (zab hs.1) (zas hs.2)).imp λσ H Q q=>zbj (G:=λvs H1 Q=>∀x dx,H1 x=none->H1 dx=none->dx≠x->spV X.K ps.length (run F k ii) (.ref x:: (vs++[])) (upd (upd H1 dx (.own x)) x (.ins C dx [])) (λv H2=>v=.non/\Q (.ref x) H2) E0) (λm h H vs xs w h' Q r q e kk=>?_) q
 exact zmj (dw:=[]) (dv:=[]) hF (λ_ _ _=>.nil) hn r q (by rw[va8];exact e) kk
theorem zoa{k ci ii na:Nat}{F:Nat->Option Fn}{C f:Addr}{fd:FuncData}{ps:List Str}(hF:F ci=some (clsFn C ii na))(M:Mk X.K C f)(FO:FnOk X.prog X.w X.K X.mg X.base CX0 k f fd ps (spV X.K ps.length (run F k ii)))(hr:Room (k+1) X.A)(hg:Gl X x)(hm:X.mg x=some (.ref C))(hb:Binds X.K fd ps [.none])
 (ha:SA X (e::es) fa) (hs:(e::es).all zah=true) (hdb:(x==("__debug__" : Str))=false) (hn:∀ws h w h',run F k ii ws h=.ok w h'->ws.length=ps.length):SE X (.Call (.Name x p) (e::es) [] pos) (gArg fa λws h=>run F (k+1) ci (ws++[.non]) h):=by
 rw[vbw,vaa]at hs
 refine(zio M FO hr hg hm hb (dvs:=[V.non]) (.cons rfl .nil) pass0 ha hdb (zab hs.1) (zas hs.2)).imp λσ H Q q=>zbj (G:=λvs H1 Q=>∀x dx,H1 x=none->H1 dx=none->dx≠x->spV X.K ps.length (run F k ii) (.ref x:: (vs++[V.non])) (upd (upd H1 dx (.own x)) x (.ins C dx [])) (λv H2=>v=.non/\Q (.ref x) H2) E0) (λm h H vs xs w h' Q r q e kk=>?_) q
 exact zmj (dw:=[.non]) (dv:=[V.non]) hF (λ_ _ _=>.cons .non .nil) hn r q e kk
end
noncomputable def clsB(K:PySem.W.Frag)(C:Addr):Bool:=PySem.W.plainGet K C Str.empty&&PySem.W.hasDictIn K C&&PySem.W.plainOver K C&& (match PySem.W.findIn K (.ref C) "__setattr__"with
 |some (some (.builtin s))=>s == "object.__setattr__"
 |_=>false)
theorem zob{K:PySem.W.Frag}{C:Addr}(h:clsB K C=true):Cls K C:=by
 unfold clsB at h
 simp only[vaa]at h
 obtain⟨⟨⟨h1,h2⟩,h3⟩,h4⟩:=h
 refine⟨h1,h2,h3,?_⟩
 split at h4
 .rename_i s e
  rw[e,show s = "object.__setattr__" by simpa using h4]
 .cases h4
noncomputable def zel(K:PySem.W.Frag)(C:Addr)(f:Str):Bool:=match PySem.W.findIn K (.ref C) f with
 |some none=>true
 |_=>false
theorem zdv{K:PySem.W.Frag}{C:Addr}{f:Str}(h:zel K C f=true):zbx K C f:=by
 unfold zel at h
 split at h
 .rename_i e;exact e
 .cases h
noncomputable def zjs(K:PySem.W.Frag)(C:Addr)(m:Str):Option Addr:=match PySem.W.findIn K (.ref C) m with
 |some (some (.ref f))=>if PySem.W.isFn K (.ref f)&&PySem.W.keepIn K (.ref f)then some f else none
 |_=>none
theorem zjt{K:PySem.W.Frag}{C f:Addr}{m:Str}(h:zjs K C m=some f):Meth K C m f:=by
 unfold zjs at h
 split at h
 .rename_i g e
  split at h
  .rename_i hc
   rw[vaa]at hc
   cases h
   exact⟨e,hc.1,hc.2⟩
  .cases h
 .cases h
noncomputable def mkB(K:PySem.W.Frag)(C f:Addr):Bool:=PySem.W.makesIn K C&&PySem.W.keepIn K (.ref C)&&PySem.W.isFn K (.ref f)&& (match PySem.W.findIn K (.ref C) "__init__"with
 |some (some (.ref g))=>Nat.beq g f
 |_=>false)
theorem zrw{K:PySem.W.Frag}{C f:Addr}(h:mkB K C f=true):Mk K C f:=by
 unfold mkB at h
 simp only[vaa]at h
 obtain⟨⟨⟨h1,h2⟩,h3⟩,h4⟩:=h
 split at h4
 .rename_i g e
  have:g=f:=vbp h4
  subst this
  exact⟨h1,e,h3,h2⟩
 .cases h4
theorem zrx{es:List Expr}{env:Env}{pos:Pos}(hs:es.all zah=true)(hn:Nat.blt es.length 30=true):methodCallForm (es.length+ ([]:List Keyword).length) (backTo pos (starEach es env)) (backToKw pos (keywordEach [] env))=true:=by
 have h:=zas (env:=env) (pos:=pos) hs
 unfold methodCallForm
 have h1:((backTo pos (starEach es env)).all (!·.1))=true:=by
  rw[vcr]
  intro x hx
  cases q:x.1 with
  |false=>rfl
  |true=>
   have:(backTo pos (starEach es env)).any (·.1)=true:=List.any_eq_true.mpr ⟨x,hx,q⟩
   rw[h]at this;cases this
 rw[h1]
 show(true&&true&&decide (es.length+0+0<30))=true
 rw[vb8 (by have:=zaj.mp hn;omega)]
 rfl
theorem zoc{o e:Expr}{es:List Expr}{mt:Str}{apos pos:Pos}{env:Env}(hb:zc7 o=true)(hl:(apos.endLine==pos.line)=true)(hs:(e::es).all zah=true)(hn:Nat.blt (e::es).length 30=true) :
 eval (.Call (.Attribute o mt apos) (e::es) [] pos) env=(do
  let ov <-eval o env
  standAt apos.atName
  let (f,first) <-holding [ov] (getMethod ov mt (do return (<-importBound o env).getD true))
  callWith pos f first (backTo pos (starEach (e::es) env)) (backToKw pos (keywordEach [] env))):=by
 rw[arm_eval_Call,zf9 hb]
 unfold methodCall calleeOf methodCallPos
 rw[zrx hs hn]
 simp only[vbb,vbf,Bool.false_or,hl]
 rfl
noncomputable def za5(x:Str):Bool:=x==("Balls" : Str)
noncomputable def metOf(x:Str):Option Str:=if x==("Balls.fall" : Str)then some "fall"else if x==("Balls.__init__" : Str)then some "__init__"else none
noncomputable def metIx(m:Str):Option Str:=if m==("fall" : Str)then some "Balls.fall"else none
theorem zlg{m x:Str}(h:metIx m=some x):metOf x=some m/\x≠""/\za5 x=false:=by
 unfold metIx at h
 split at h
 .rename_i z
  cases h
  have z:m = "fall":=by simpa using z
  subst z
  exact⟨by decide +kernel,by decide +kernel,by decide +kernel⟩
 .cases h
noncomputable def clsAt(K:PySem.W.Frag):Option Addr:=match PySem.W.nsIn K mainGlobals "Balls"with
 |some (some (.ref C))=>if clsB K C then some C else none
 |_=>none
theorem zcp{K:PySem.W.Frag}{C:Addr}(h:clsAt K=some C):PySem.W.nsIn K mainGlobals "Balls" = some (some (.ref C))/\Cls K C:=by
 unfold clsAt at h
 split at h
 .rename_i C' e
  split at h
  .rename_i hc
   cases h
   exact⟨e,zob hc⟩
  .cases h
 .cases h
noncomputable def refAt(K:PySem.W.Frag)(x:Str):Option Addr:=match metOf x with
 |some m=>(match clsAt K with
  |some C=>zjs K C m
  |none=>none)
 |none=>(match PySem.W.nsIn K mainGlobals x with
  |some (some (.ref f))=>some f
  |_=>none)
theorem zb1{K:PySem.W.Frag}{x:Str}{f:Addr}(h:refAt K x=some f)(hm:metOf x=none):PySem.W.nsIn K mainGlobals x=some (some (.ref f)):=by
 unfold refAt at h
 rw[hm]at h
 simp only at h
 split at h
 .rename_i g e;cases h;exact e
 .cases h
theorem zhs{K:PySem.W.Frag}{x m:Str}{f C:Addr}(h:refAt K x=some f)(hm:metOf x=some m)(hc:clsAt K=some C):Meth K C m f:=by
 unfold refAt at h
 rw[hm]at h
 simp only[hc]at h
 exact zjt h
end RF
namespace XR
open PySem PySem.Spec PyProof.Rows
section
variable{M:Model}{A:Around}{E:Value->Shared->Prop}{s:Shared}{base:Heap}{env:Env}{outer:List Env}{L e:Addr}{c:Value}{dx:Option Addr}{vs:Array Value}{sl:Array (Option Value)}
structure Nt(fs ts:List Addr)(h h':Heap):Prop where
 keep:∀b o,h.get? b=some o->b∉fs->b∉ts->h'.get? b=some o
 slot:∀b o,h.get? b=some o->b∈fs->b∉ts->∃sl,h'.get? b=some {o with slots:=sl}
 size:h.objs.size<=h'.objs.size
theorem Nt.trans{fs ts:List Addr}{h h1 h2:Heap}(a:Nt fs ts h h1)(b:Nt fs ts h1 h2):Nt fs ts h h2:=
 ⟨λx o q n m=>b.keep x o (a.keep x o q n m) n m,λx o q n m=>by
  obtain⟨s1,q1⟩:=a.slot x o q n m
  obtain⟨s2,q2⟩:=b.slot x _ q1 n m
  exact⟨s2,q2⟩,va3 a.size b.size⟩
theorem Nt.mono{fs ts ts':List Addr}{h h':Heap}(a:Nt fs ts h h')(k:∀b∈ts,b∈ts'):Nt fs ts' h h':=
 ⟨λx o q n m=>a.keep x o q n λz=>m (k x z),λx o q n m=>a.slot x o q n λz=>m (k x z),a.size⟩
theorem Nt.upd{fs:List Addr}{h:Heap}{b:Addr}{f:Obj->Obj}:Nt fs [b] h (h.update b f):=by
 have k:∀x,x∉[b]->(h.update b f).get? x=h.get? x:=λx m=>vbi _ _ λz=>m (by simp[z])
 exact⟨λx o q _ m=>(k x m).trans q,λx o q _ m=>⟨o.slots,(k x m).trans q⟩,Nat.le_of_eq (Heap.size_after_update ..).symm⟩
theorem Nt.push{fs ts:List Addr}{h h':Heap}{o:Obj}(a:Nt fs ts h h'):Nt fs ts h (h'.push o):=
 ⟨λx ob q n m=>vac _ (a.keep x ob q n m),λx ob q n m=>by
  obtain⟨s1,q1⟩:=a.slot x ob q n m
  exact⟨s1,vac _ q1⟩,by rw[vce];exact Nat.le_succ_of_le a.size⟩
theorem zmk{h:Heap}{b:Addr}{c:Value}{dx:Option Addr}{vs:Array Value}{sl:Array (Option Value)}{f:Array Value->Array Value}(q:h.get? b=some ⟨c,dx,.fields vs,sl⟩) :
 (h.update b (Obj.mapFields f)).get? b=some ⟨c,dx,.fields (f vs),sl⟩:=vcj (Obj.mapFields f) q rfl
theorem zju{hd:Value}{more:Bool}{Q:Unit->Shared->Prop}(hfr:A.frames=some (env::outer))(hl:s.heap.FunFrames base (env::outer))(hf:env.frame=some L)
 (he:s.heap.get? e=some ⟨c,dx,.fields vs,sl⟩) (hne:e∉(env::outer).filterMap (·.frame)) (hz:1<vs.size)
 (h:∀h' ts,Nt ((env::outer).filterMap (·.frame)) [e] s.heap h'->h'.get? e=some ⟨c,dx,.fields (vs.setIfInBounds 1 (.ref s.heap.objs.size)),sl⟩->h'.get? s.heap.objs.size=some ⟨.type "traceback",none,.fields ts,#[]⟩->ts[3]?=some (rawInt L)->Q () {s with heap:=h'}) :
 wpAny M A (do let a <-frameOf env;let pl <-entryPlaceOf L more;let b <-EntryCells.newEntry hd a .none (rawInt L) .none pl;setField (.ref e) 1 b) Q E s:=by
 refine vab (wpAny_frameOf_fun hfr hl hf λh1 so=>vab (wpAny_entryPlaceOf λpl hpl=>?_))
 have n1:Nt ((env::outer).filterMap (·.frame)) [e] s.heap h1:=⟨λb o q n _=>(so.2.1 b n).trans q,λb o q _ _=>so.2.2 b o q,Nat.le_of_eq so.1.symm⟩
 have e1:h1.get? e=some ⟨c,dx,.fields vs,sl⟩:=(so.2.1 e hne).trans he
 unfold EntryCells.newEntry newFields
 refine vab (vbu ?_ (hpl.sizeOk5 _ _ _ _ _))
 refine vc5 (vac _ e1) rfl hz ?_
 have hsz:h1.objs.size=s.heap.objs.size:=so.1
 have hlt:e<h1.objs.size:=vai e1
 rw[hsz]
 refine h _ ([hd,.ref L,.none,rawInt L,.none]++(if pl.isEmpty then List.replicate 6 Value.none else pl)).toArray (n1.push.trans Nt.upd) (zmk (vac _ e1)) ?_ ?_
 .rw[vbi _ _ (by rw[<-hsz];exact vas hlt),<-hsz]
  exact vav _ rfl
 .first|(simp;done)|(rcases hpl with rfl|⟨_,_,_,_,_,_,_,rfl⟩<;>simp)
structure Ex(h:Heap)(e T C:Addr)(dx:Option Addr)(fl:Option Value):Prop where
 ex:∃vs sl,h.get? e=some ⟨.ref C,dx,.fields vs,sl⟩/\match fl with
  |none=>vs[1]?=some .none
  |some f=>vs[1]?=some (.ref T)/\T≠e/\∃ts,h.get? T=some ⟨.type "traceback",none,.fields ts,#[]⟩/\ts[3]?=some f
theorem note{C T:Addr}{fl:Option Value}{Q:Unit->Shared->Prop}(hfr:A.frames=some (env::outer))(hl:s.heap.FunFrames base (env::outer))(hf:env.frame=some L)
 (x:Ex s.heap e T C dx fl) (hne:e∉(env::outer).filterMap (·.frame)) (hnt:T∉(env::outer).filterMap (·.frame)) (hfl:fl=none\/fl=some .none)
 (h:∀h',Nt ((env::outer).filterMap (·.frame)) [e,T] s.heap h'->Ex h' e s.heap.objs.size C dx (some (rawInt L))->Q () {s with heap:=h'}):wpAny M A (noteFrame (.ref e) env) Q E s:=by
 obtain⟨vs,sl,he,hx⟩:=x.ex
 unfold noteFrame
 simp only[hf]
 rcases hfl with rfl|rfl
 .have h1:vs[1]?=some .none:=hx
  refine vab (vb7 he rfl h1 ?_)
  rw[if_neg (by decide)]
  refine zju hfr hl hf he hne (vbg.mp h1).1 λh' ts n q1 q2 q3=>h h' (n.mono λb z=>by simp at z;simp[z]) ⟨_,_,q1,?_,?_,_,q2,q3⟩
  .rw[Array.getElem?_setIfInBounds_self_of_lt (vbg.mp h1).1]
  .exact vci (vai he)
 .obtain⟨h1,hte,ts,ht,h3⟩:=(show vs[1]?=some (.ref T)/\T≠e/\∃ts,s.heap.get? T=some ⟨.type "traceback",none,.fields ts,#[]⟩/\ts[3]?=some Value.none from hx)
  refine vab (vb7 he rfl h1 ?_)
  rw[if_pos (show(Value.ref T != Value.none)=true from by simp)]
  refine vab (vb7 ht rfl h3 ?_)
  rw[if_neg (show ¬((Value.none==rawInt L)=true)from by simp[rawInt])]
  refine vab (vc5 ht rfl (vbg.mp h3).1 ?_)
  have n0:Nt ((env::outer).filterMap (·.frame)) [T] s.heap (s.heap.update T (Obj.mapFields (·.setIfInBounds 3 .none))):=Nt.upd
  have sz:(s.heap.update T (Obj.mapFields (·.setIfInBounds 3 .none))).objs.size=s.heap.objs.size:=Heap.size_after_update ..
  refine zju (base:=base) hfr (hl.of_keeps λb o q nf=>?_) hf (n0.keep e _ he hne (by simpa using vb3 hte)) hne (vbg.mp h1).1 λh' ts' n q1 q2 q3=>?_
  .by_cases hb:b=T
   .subst hb;rw[ht]at q;cases q;exact absurd rfl (nf ts)
   .exact⟨o,(vbi _ _ (vb3 hb)).trans q,rfl⟩
  .rw[sz]at q1 q2
   refine h h' ((n0.mono λb z=>by simp at z;simp[z]).trans (n.mono λb z=>by simp at z;simp[z])) ⟨_,_,q1,?_,?_,_,q2,q3⟩
   .rw[Array.getElem?_setIfInBounds_self_of_lt (vbg.mp h1).1]
   .exact vci (vai he)
theorem land{C T:Addr}{f:Value}{fs:List Addr}{Q:Unit->Shared->Prop}(x:Ex s.heap e T C dx (some f))(h:∀h',Nt fs [T] s.heap h'->Ex h' e T C dx (some .none)->Q () {s with heap:=h'}):wpAny M A (setFlight (.ref e) none) Q E s:=by
 obtain⟨vs,sl,he,h1,hte,ts,ht,h3⟩:=x.ex
 unfold setFlight
 refine vab (vb7 he rfl h1 ?_)
 rw[if_pos (show(Value.ref T != Value.none)=true from by simp)]
 have l3:=(vbg.mp h3).1
 refine vc5 ht rfl l3 (h _ Nt.upd ⟨vs,sl,(vbi _ _ hte).trans he,h1,hte,_,zmk ht,?_⟩)
 rw[Array.getElem?_setIfInBounds_self_of_lt l3];rfl
theorem leave{C T:Addr}{fl:Option Value}{Q:Unit->Shared->Prop}(hfr:A.frames=some (env::outer))(hl:s.heap.FunFrames base (env::outer))(hf:env.frame=some L)
 (x:Ex s.heap e T C dx fl) (hne:e∉(env::outer).filterMap (·.frame)) (hnt:T∉(env::outer).filterMap (·.frame)) (hfl:fl=none\/fl=some .none)
 (h:∀h',Nt ((env::outer).filterMap (·.frame)) [e,T,s.heap.objs.size] s.heap h'->Ex h' e s.heap.objs.size C dx (some .none)->Q () {s with heap:=h'}):wpAny M A (leaving env (.ref e)) Q E s:=by
 unfold leaving
 refine vab (note hfr hl hf x hne hnt hfl λh1 n1 x1=>land (fs:=(env::outer).filterMap (·.frame)) x1 λh2 n2 x2=>h h2 ((n1.mono λb z=>?_).trans (n2.mono λb z=>?_)) x2)
 .simp at z;rcases z with z|z<;>simp[z]
 .simp at z;simp[z]
end
end XR
namespace L2
open PySem PySem.Spec PyProof.Rows
noncomputable def excR(C:Addr)(dx:Option Addr)(a:Addr):HO:=.ext λh=>∃vs sl,h.get? a=some ⟨.ref C,dx,.fields vs,sl⟩
section
variable{P:Program}{w:World}{H:Hp}{h:Heap}{a C:Addr}{dx:Option Addr}{vs:Array Value}{sl:Array (Option Value)}
theorem zjv(e:h.get? a=some ⟨.ref C,dx,.fields vs,sl⟩):ObjOk P w H h a (excR C dx a):=⟨⟨vs,sl,e⟩,⟨_,e⟩,λ_ _ ⟨v',s',q⟩ k=>⟨v',s',k _ q⟩⟩
theorem zod(ok:HOk P w H h)(e:H a=some (excR C dx a)):∃vs sl,h.get? a=some ⟨.ref C,dx,.fields vs,sl⟩:=(ok a _ e).1
end
noncomputable def CX1(P:Program)(w:World):CXT:=λouter H s E e s'=>∃x T C dx H',e=.ref x/\s'.os=s.os/\AllBare s'.gens/\Un (frs outer) [] H H' s.heap s'.heap/\HOk P w H' s'.heap/\XR.Ex s'.heap x T C dx (some .none)/\
 s.heap.objs.size<=x/\s.heap.objs.size<=T/\H' x=some (excR C dx x)/\H' T=none/\E (.ref C) dx H'
noncomputable def FlyIn(X:Cx)(E:XK)(e:Value)(s':Shared):Prop:=∃x T C dx fl pins σ H',e=.ref x/\Inv X pins σ H' s'/\XR.Ex s'.heap x T C dx fl/\((fl=none/\T=x)\/(fl=some .none/\H' T=none))/\
 X.s₀.heap.objs.size<=x/\X.s₀.heap.objs.size<=T/\H' x=some (excR C dx x)/\E (.ref C) dx H'
section
variable{X:Cx}{E:XK}{pins:List (Addr×Obj)}{σ:St}{H:Hp}{s:Shared}
theorem Inv.nofr{b:Addr}{c:Value}{d:Option Addr}{vs:Array Value}{sl:Array (Option Value)}(I:Inv X pins σ H s)(e:s.heap.get? b=some ⟨c,d,.fields vs,sl⟩):b∉frs X.stack:=λhb=>by
 obtain⟨_,o,ho,nf⟩:=I.stack.mem hb
 rw[e]at ho;cases ho
 exact nf vs rfl
theorem Ex.nofr{x T C:Addr}{dx:Option Addr}{fl:Option Value}(I:Inv X pins σ H s)(q:XR.Ex s.heap x T C dx fl)(h:(fl=none/\T=x)\/(fl=some .none/\H T=none)):x∉frs X.stack/\T∉frs X.stack:=by
 obtain⟨vs,sl,he,r⟩:=q.ex
 refine⟨I.nofr he,?_⟩
 rcases h with⟨_,rfl⟩|⟨rfl,_⟩
 .exact I.nofr he
 .obtain⟨_,_,ts,ht,_⟩:=r
  exact I.nofr ht
theorem HOk.noted{fs ts:List Addr}{h':Heap}{x C:Addr}{dx:Option Addr}{vs:Array Value}{sl:Array (Option Value)}{P:Program}{w:World}(ok:HOk P w H s.heap)(n:XR.Nt fs ts s.heap h')(hf:∀b∈fs,H b=none)(ht:∀b∈ts,b=x\/H b=none)
 (hx:H x=some (excR C dx x)) (e:h'.get? x=some ⟨.ref C,dx,.fields vs,sl⟩):HOk P w H h':=λb u q=>by
 by_cases hb:b=x
 .subst hb
  rw[hx]at q;cases q
  exact zjv e
 .refine(ok b u q).stay (λc v hc k=>n.keep c v k ?_ ?_) (λ_ z=>z) λ_ _ z=>z
  .intro z
   have:=hf c z
   rcases hc with rfl|hc
   .rw[q]at this;cases this
   .rw[hc]at this;cases this
  .intro z
   rcases ht c z with rfl|z
   .rcases hc with rfl|hc
    .exact hb rfl
    .rw[hx]at hc;cases hc
   .rcases hc with rfl|hc
    .rw[q]at z;cases z
    .rw[hc]at z;cases z
theorem zoe{e:Value}{s':Shared}{Er:Value->Shared->Prop}(hs:X.stack=X.env::X.outer)(hf:X.env.frame=some X.env.locals)(hx0:X.ex=[])(q:FlyIn X E e s') :
 wpAny (model X.prog X.w) X.A (leaving X.env e) (λ_ s''=>CX1 X.prog X.w X.outer X.H₀ X.s₀ E e s'') Er s':=by
 obtain⟨x,T,C,dx,fl,pins,σ,H',rfl,I,ex,hfl,lx,lT,hx,hE⟩:=q
 obtain⟨nx,nT⟩:=Ex.nofr I ex hfl
 have fre:=I.stkFree
 have stk:=I.stack
 have sub:=I.stkSub
 rw[hs]at nx nT fre stk sub
 refine XR.leave (base:=X.base) (L:=X.env.locals) (by rw[I.ok.frames,hs]) stk hf ex nx nT (hfl.elim (λz=>.inl z.1) λz=>.inr z.1) λh' n ex'=>?_
 have lt0:∀b o,X.s₀.heap.get? b=some o->b<X.s₀.heap.objs.size:=λb o q=>vai q
 have sz:=I.sz
 have nts:∀b o,X.s₀.heap.get? b=some o->b∉[x,T,s'.heap.objs.size]:=λb o q z=>by
  have:=lt0 b o q
  simp at z
  rcases z with z|z|z<;>rw[z]at this
  .exact absurd lx (Nat.not_le.mpr this)
  .exact absurd lT (Nat.not_le.mpr this)
  .exact absurd sz (Nat.not_le.mpr this)
 have nL:∀b o,X.s₀.heap.get? b=some o->b≠X.env.locals:=λb o q=>vas (vae (lt0 b o q) I.ok.above)
 obtain⟨vs,sl,he,r⟩:=ex'.ex
 have hb:=I.base
 rw[hx0]at hb
 refine⟨x,s'.heap.objs.size,C,dx,H',rfl,I.os,I.bare,⟨λb o q z hb1 hb2=>?_,λb o q z hb1 hb2=>?_,hb.free,λb o q hb2=>?_,hb.tups,hb.frzs,hb.tbls⟩,HOk.noted I.hok n fre (λb z=>?_) hx he,ex',lx,sz,hx,I.hok.fresh (vad _),hE⟩
 .refine n.keep b o (hb.keep b o q z hb1 hb2) (λm=>?_) (nts b o q)
  rcases va5.mp (sub b m)with m|m
  .exact nL b o q m
  .exact hb1 m
 .obtain⟨s1,q1⟩:=hb.slot b o q z hb1 hb2
  obtain⟨s2,q2⟩:=n.slot b _ q1 (by show b∈(X.env::X.outer).filterMap (·.frame);rw[vbt,hf];exact van _ hb1) (nts b o q)
  exact⟨s2,q2⟩
 .obtain⟨o',q1⟩:=hb.there b o q hb2
  by_cases m:b∈(X.env::X.outer).filterMap (·.frame)
  .obtain⟨s2,q2⟩:=n.slot b o' q1 m (nts b o q)
   exact⟨_,q2⟩
  .exact⟨o',n.keep b o' q1 m (nts b o q)⟩
 .simp at z
  rcases z with rfl|rfl|rfl
  .exact .inl rfl
  .rcases hfl with⟨_,z⟩|⟨_,z⟩
   .exact .inl z
   .exact .inr z
  .exact .inr (I.hok.fresh (vad _))
theorem zjw{C:Addr}{x:Str}{p cpos pos:Pos}(M:MkE X.K C)(hc:X.calm=true)(hg:Gl X x)(hm:X.mg x=some (.ref C))(hdb:(x==("__debug__" : Str))=false:=by decide) :
 PS (X.wish (FlyIn X E)) (.Raise (some (.Call (.Name x p) [] [] cpos)) none pos) (λ_ _ H=>∀a,H a=none->E (.ref C) none (upd H a (excR C none a))):=by
 intro pins s σ H D I h
 have I:=I.unwish
 obtain⟨nm,qn,N,bs,bm,hd,sn,sub,ab,col,dd,k0,k1,k2,k3,k5,hC,T⟩:=XL.excCls_of I.kIn M.cls
 have hb:bm.contains (.type "BaseException")=true:=T.hasType (by decide +kernel)
 have ev:wpAny (model X.prog X.w) X.A (eval (.Call (.Name x p) [] [] cpos) X.env) (λv s1=>∃e t,v=.ref e/\s1.heap.get? C=some (excClassObj nm qn C N bs bm hd sn sub ab col dd k0 k1 k2 k3 k5 "ValueError.__new__")/\s1.heap.get? e=some (XL.excObj C none t)/\FlyIn X E (.ref e) s1) (FlyIn X E) s:=by
  refine vbq (zbg I hg hm ?_ hdb)
  refine PySem.W.callWith_K0 I.kIn M.kp (XL.make_exc0 I.kIn M.cls M.init (vct _) λh' t kk he=>?_)
  have hle:s.heap.objs.size<=s.heap.objs.size+1:=Nat.le_succ _
  exact⟨_,t,rfl,kk _ _ hC,he,_,_,C,none,none,pins,σ,_,rfl,I.laid (t':=s.toks) kk hle (zjv he),⟨_,_,he,rfl⟩,.inl ⟨rfl,rfl⟩,va3 I.sz hle,va3 I.sz hle,zad,h _ (I.hok.fresh hle)⟩
 show wpAny (model X.prog X.w) X.A (exec (.Raise (some (.Call (.Name x p) [] [] cpos)) none pos) X.env) _ (FlyIn X E) s
 rw[arm_exec_Raise]
 first
  |exact vab (vbz (wpAny_raiseStmt_made_sub (C:=C) hb (I.ok.hd hc) (vab (thn ev λv s1 q=>vab (vbz (vag q))))))
  |(simp only[evalOpt,Option.map];exact vab (vbz (wpAny_raiseStmt_made_sub (C:=C) hb (I.ok.hd hc) (vab (thn ev λv s1 q=>vab (vbz (vag q)))))))
  |(show wpAny _ _ (do standAt pos;raiseStmt X.env (some (do let v <-eval (.Call (.Name x p) [] [] cpos) X.env;standAt pos;pure v)) none) _ _ s;exact vab (vbz (wpAny_raiseStmt_made_sub (C:=C) hb (I.ok.hd hc) (vab (thn ev λv s1 q=>vab (vbz (vag q)))))))
theorem PSs.fly{st:List Stmt}{t:TS}(h:PSs (X.wish (FlyIn X E)) st t)(k:∀e s,FlyIn X E e s->X.xe e s):PSs X st t:=λpins s σ H D I hw=>
 vbm (h pins s σ H D (I.wish _) hw) (λ_ _ z=>SP.unwish z) k
end
theorem fn1{P:Program}{w:World}{K:PySem.W.Frag}{mg:Str->Option Value}{base:Heap}{k:Nat}{f:Addr}{name qual:Str}{params:Arguments}{body:List Stmt}{scope:Scope}{dV kV doc pm cdv ct oc:Value}{an od:Option Addr}
 {osl:Array (Option Value)} {N ps:List Str} {sp:Sp} (lk:K.lookup f=some ⟨oc,od,.func (PySem.W.fnOf name qual params body scope dV kV doc pm an cdv ct),osl⟩) (hcd:PySem.W.codeIn K cdv qual=true) (S:FnScope N ps scope)
 (len:∀vs H Q E,sp vs H Q E->vs.length=ps.length)
 (hbody:∀(A:Around)(outer:List Env)(s:Shared)(H:Hp)(vs:List V)(Q:VK)(E:XK),Room k (A.deeper (envOfC qual scope s.heap.objs.size f cdv))->sp vs H Q E->
   ∃t,PSs ((cxOf (CX1 P w) P w K mg base N qual scope f cdv A outer s H E).wish (FlyIn (cxOf (CX1 P w) P w K mg base N qual scope f cdv A outer s H E) E)) body t/\t {nx:=λ_ H'=>Q .non H',rt:=Q} (start N vs) H) :
 FnOk P w K mg base (CX1 P w) (k+1) f (PySem.W.fnOf name qual params body scope dV kV doc pm an cdv ct) ps sp:=
 fn_of lk hcd S len λA outer s H vs Q E hr hsp=>by
  obtain⟨t,h,q⟩:=hbody A outer s H vs Q E hr hsp
  exact⟨t,h.fly λe s' z=>zoe rfl rfl rfl z,q⟩
structure At(X:Cx)(pins:List (Addr×Obj))(σ:St)(H:Hp)(s:Shared)(x T C:Addr)(dx:Option Addr)(f:Value):Prop where
 I:Inv X pins σ H s
 ex:XR.Ex s.heap x T C dx (some f)
 hx:H x=some (excR C dx x)
 hT:H T=none
 lx:X.s₀.heap.objs.size<=x
 lT:X.s₀.heap.objs.size<=T
 pT:∀p∈X.pn++pins,p.1≠T
section
variable{X:Cx}{pins:List (Addr×Obj)}{σ:St}{H:Hp}{s:Shared}{x T C:Addr}{dx:Option Addr}{f f':Value}
theorem Inv.noLoc{b:Addr}{c:Value}{d:Option Addr}{vs:Array Value}{sl:Array (Option Value)}(I:Inv X pins σ H s)(e:s.heap.get? b=some ⟨c,d,.fields vs,sl⟩):b≠X.env.locals/\∀y c,X.env.cells.lookup y=some c->c≠b:=by
 refine⟨?_,?_⟩
 .rintro rfl
  obtain⟨m,⟨o,es,ep,ho,hd,_⟩,_⟩:=I.loc
  rw[e]at ho;cases ho
  cases hd
 .rintro y c' hc rfl
  obtain⟨v,o,ho,hd⟩:=I.cell y c' hc
  rw[e]at ho;cases ho
  cases hd
theorem At.step{h':Heap}{ts:List Addr}{T':Addr}(a:At X pins σ H s x T C dx f)(n:XR.Nt (frs X.stack) ts s.heap h')(hts:∀b∈ts,b=x\/b=T\/b=s.heap.objs.size)(hT':T'=T\/T'=s.heap.objs.size)
 (ex':XR.Ex h' x T' C dx (some f')):At X pins σ H {s with heap:=h'} x T' C dx f':=by
 obtain⟨vs,sl,he,_⟩:=ex'.ex
 obtain⟨vs0,sl0,he0,_,_,ts0,ht0,_⟩:=a.ex.ex
 have I:=a.I
 have fr:∀b,s.heap.objs.size<=b->H b=none:=λb z=>I.hok.fresh z
 have np:∀p∈X.pn++pins,p.1<s.heap.objs.size:=λp hp=>vai (I.pin p hp).1
 have fx:∀b,H b=none->b≠x:=λb z q=>by rw[q,a.hx]at z;cases z
 have un:∀b∈ts,b≠x->H b=none:=λb hb q=>by
  rcases hts b hb with z|z|z
  .exact absurd z q
  .rw[z];exact a.hT
  .rw[z];exact fr _ (vad _)
 have I':Inv X pins σ H {s with heap:=h'}:=by
  refine I.call (h':=h') (g':=s.gens) (d':=s.drawn) (t':=s.toks) (ch:=ts) ⟨λb o q z hb hc=>n.keep b o q hb hc,λb o q z hb hc=>n.slot b o q hb hc,λb o q z _=>z,λb o q hc=>?_,λ_ _ q=>q,λ_ _ _ q=>q,λb ps q=>⟨#[],by rw[q];simp⟩⟩
   (HOk.noted I.hok n I.stkFree (λb z=>?_) a.hx he) I.bare λb hb=>?_
  .by_cases m:b∈frs X.stack
   .obtain⟨s2,q2⟩:=n.slot b o q m hc
    exact⟨_,q2⟩
   .exact⟨o,n.keep b o q m hc⟩
  .by_cases q:b=x
   .exact .inl q
   .exact .inr (un b z q)
  .rcases hts b hb with rfl|rfl|rfl
   .exact⟨.inr a.lx,(I.noLoc he0).1,(I.noLoc he0).2,λp hp q=>by have:=(I.pin p hp).2.1;rw[q,a.hx]at this;cases this⟩
   .exact⟨.inr a.lT,(I.noLoc ht0).1,(I.noLoc ht0).2,a.pT⟩
   .refine⟨.inr I.sz,vci I.lt,λy c hc=>?_,λp hp=>vas (np p hp)⟩
    obtain⟨v,o,ho,_⟩:=I.cell y c hc
    exact vas (vai ho)
 refine⟨I',ex',a.hx,?_,a.lx,?_,?_⟩
 .rcases hT' with rfl|rfl
  .exact a.hT
  .exact fr _ (vad _)
 .rcases hT' with rfl|rfl
  .exact a.lT
  .exact I.sz
 .rcases hT' with rfl|rfl
  .exact a.pT
  .exact λp hp=>vas (np p hp)
theorem At.noted{E:Value->Shared->Prop}{Q:Unit->Shared->Prop}(a:At X pins σ H s x T C dx .none)(hs:X.stack=X.env::X.outer)(hf:X.env.frame=some X.env.locals)(h:∀s' T',At X pins σ H s' x T' C dx (rawInt X.env.locals)->Q () s') :
 wpAny (model X.prog X.w) X.A (noteFrame (.ref x) X.env) Q E s:=by
 obtain⟨n1,n2⟩:=Ex.nofr a.I a.ex (.inr ⟨rfl,a.hT⟩)
 have stk:=a.I.stack
 rw[hs]at n1 n2 stk
 refine XR.note (base:=X.base) (by rw[a.I.ok.frames,hs]) stk hf a.ex n1 n2 (.inr rfl) λh' n ex'=>h _ s.heap.objs.size (a.step (by rw[hs];exact n) (λb z=>?_) (.inr rfl) ex')
 simp at z
 rcases z with z|z
 .exact .inl z
 .exact .inr (.inl z)
theorem At.lands{M:Model}{A:Around}{E:Value->Shared->Prop}{Q:Unit->Shared->Prop}(a:At X pins σ H s x T C dx f)(h:∀s',At X pins σ H s' x T C dx .none->Q () s'):wpAny M A (setFlight (.ref x) none) Q E s:=
 XR.land (fs:=frs X.stack) a.ex λh' n ex'=>h _ (a.step n (λb z=>by simp at z;exact .inr (.inl z)) (.inl rfl) ex')
theorem At.of{E:XK}{e:Value}{s':Shared}(I:Inv X pins σ H s)(q:CX1 X.prog X.w X.stack H s E e s'):∃x T C dx H',e=.ref x/\At X pins σ H' s' x T C dx .none/\E (.ref C) dx H':=by
 obtain⟨x,T,C,dx,H',rfl,os,bare,un,hok,ex,lx,lT,hx,hT,hE⟩:=q
 obtain⟨hh,g,d,t,os'⟩:=s'
 obtain rfl:os'=s.os:=os
 exact⟨x,T,C,dx,H',rfl,⟨I.call (h':=hh) (g':=g) (d':=d) (t':=t) (ch:=[]) un hok bare (λb z=>absurd z (by simp)),ex,hx,hT,va3 I.sz lx,va3 I.sz lT,λp hp=>vas (vae (vai (I.pin p hp).1) lT)⟩,hE⟩
noncomputable abbrev _root_.L2.Cx.hand(X:Cx)(x:Addr):Cx:={X with A:=X.A.mark (some (.ref x)),calm:=false,xe:=λ_ _=>False}
theorem Cx.Ok.hand(ok:X.Ok)(x:Addr):(X.hand x).Ok:=
 ⟨ok.mod,ok.kind,ok.glob,ok.blt,ok.above,ok.inj,ok.has,ok.cab,(λz=>nomatch z),ok.frames,ok.stk,ok.exf,ok.bs,ok.bsz,ok.noex,ok.exfs,ok.funs,ok.frf⟩
theorem Inv.hand(I:Inv X pins σ H s)(x:Addr):Inv (X.hand x) pins σ H s:=⟨I.ok.hand x,I.os,I.bare,I.base,I.loc,I.cell,I.free,I.freeC,I.pin,I.hok,I.len⟩
theorem Inv.unhand(ok:X.Ok)(I:Inv (X.hand x) pins σ H s):Inv X pins σ H s:=⟨ok,I.os,I.bare,I.base,I.loc,I.cell,I.free,I.freeC,I.pin,I.hok,I.len⟩
theorem Inv.gone{M:Model}{A:Around}{E:Value->Shared->Prop}{i:Nat}{y:Str}{pos:Pos}{Q:Unit->Shared->Prop}(I:Inv X pins σ H s)(hN:X.N.Nodup)(hi:X.N[i]?=some y)(hk:X.env.kindOf y=some .local)
 (h:∀s',Inv X pins (σ.set i none) H s'->Q () s'):wpAny M A (do bindName X.env y .none;unbindBehindTheSuite X.env y pos) Q E s:=by
 obtain⟨m,hn,hl⟩:=I.loc
 have hcls:(X.env.scope.kind == .class|| (X.env.scope.kind == .module&&X.env.locals != X.env.globals))=false:=by rw[I.ok.kind];rfl
 have hiσ:i<σ.length:=by rw[I.len];exact(vak.mp hi).1
 refine wpAny_nameGoes_keeps hk hn hcls λh' v hn' hs=>h _ ?_
 have low:∀b o,X.s₀.heap.get? b=some o->b≠X.env.locals:=λb o e=>vas (vae (vai e) I.ok.above)
 refine⟨I.ok,I.os,I.bare,⟨λb o e n hb hx=>(hs.2 b (low b o e)).trans (I.base.keep b o e n hb hx),λb o e n hb hx=>?_,I.base.free,λb o e hx=>?_,I.base.tups,I.base.frzs,I.base.tbls⟩,⟨_,hn',λj z v' e1 e2 e3=>?_⟩,λz c e=>?_,I.free,I.freeC,λp hp=>?_,λb u e=>?_,by simpa using I.len⟩
 .obtain⟨sl,e1⟩:=I.base.slot b o e n hb hx
  exact⟨sl,(hs.2 b (low b o e)).trans e1⟩
 .obtain⟨o',e1⟩:=I.base.there b o e hx
  exact⟨o',(hs.2 b (low b o e)).trans e1⟩
 .by_cases hj:j=i
  .subst hj
   rw[va0 hiσ]at e2
   cases e2
  .rw[vbr (vb3 hj)]at e2
   obtain⟨u',r',q⟩:=hl j z v' e1 e2 e3
   refine⟨u',r',?_⟩
   rcases q with⟨k,e⟩|⟨k,c,e,w⟩
   .have:z≠y:=λe=>hj (zd5 hN e1 (e▸hi))
    exact .inl ⟨k,by simp[this,e]⟩
   .exact .inr ⟨k,c,e,w.sameBut hs (I.cne z c e)⟩
 .obtain⟨w',z⟩:=I.cell z c e
  exact⟨w',z.sameBut hs (I.cne _ c e)⟩
 .obtain⟨e,n,ne,nf,d⟩:=I.pin p hp
  exact⟨(hs.2 p.1 ne).trans e,n,ne,nf,d⟩
 .refine(I.hok b u e).stay (λc w' hc q=>(hs.2 c ?_).trans q) (λ_ q=>q) λ_ _ q=>q
  rintro rfl
  have fl:=I.free
  rcases hc with rfl|hc
  .rw[fl]at e;cases e
  .rw[fl]at hc;cases hc
end
noncomputable def subE(K:PySem.W.Frag)(C D:Addr):Bool:=XL.excCls K C&&XL.excCls K D&&match K.lookup C with
 |some o=>(match o.data with
  |.cls cd=>cd.mro.contains (.ref D)
  |_=>false)
 |none=>false
section
variable{M:Model}{A:Around}{E:Value->Shared->Prop}{s:Shared}{K:PySem.W.Frag}{C D x:Addr}{oe:Obj}
theorem zof{Q:Bool->Shared->Prop}(X:K.In s.heap)(hs:subE K C D=true)(he:s.heap.get? x=some oe)(hc:oe.cls=.ref C)(h:Q true s):wpAny M A (excMatches (.ref x) (.ref D)) Q E s:=by
 unfold subE at hs
 rw[vaa,vaa]at hs
 obtain⟨⟨hC,hD⟩,hm⟩:=hs
 obtain⟨nm,qn,N,bs,bm,hd,sn,sub,ab,col,dd,k0,k1,k2,k3,k5,oC,T⟩:=XL.excCls_of X hC
 obtain⟨nm',qn',N',bs',bm',hd',sn',sub',ab',col',dd',k0',k1',k2',k3',k5',oD,T'⟩:=XL.excCls_of X hD
 have c1:(Value.ref D::bm').contains (.type "BaseException")=true:=by rw[List.contains_cons,T'.hasType (X:="BaseException") (b:=true) (by decide +kernel),Bool.or_true]
 have c2:(Value.ref C::bm).contains (.ref D)=true:=by
  cases q:K.lookup C with
  |none=>rw[q]at hm;cases hm
  |some o=>
   rw[q]at hm
   have:=X C o q
   rw[oC]at this
   cases this
   exact hm
 have f:=tc_notTuple
 obtain⟨hp,g,d,tk,os⟩:=s
 unfold excMatches
 repeat(first
  |(with_reducible refine vbv he ?_;rw[hc])
  |with_reducible refine vbv oD ?_
  |(with_reducible refine vb2 oD ?_;rw[c1])
  |(with_reducible refine vb2 oC ?_;rw[c2])
  |wp_step)
 exact h
end
noncomputable def tryE(K:PySem.W.Frag)(D:Addr)(i:Nat)(th:TS)(D0:Ends)(σ:St):XK:=λc dx H2=>∃C,c=.ref C/\subE K C D=true/\
 ∀x,H2 x=some (excR C dx x)->th {nx:=λσ' H'=>D0.nx (σ'.set i none) H',rt:=D0.rt,bk:=λσ' H'=>D0.bk (σ'.set i none) H',ct:=λσ' H'=>D0.ct (σ'.set i none) H'} (σ.set i (some (.ref x))) H2
noncomputable def tTry(K:PySem.W.Frag)(D:Addr)(i:Nat)(sp:Sp)(ta:TA)(th:TS):TS:=λD0 σ H=>ta σ H λvs H1=>sp vs H1 (λ_ H2=>D0.nx σ H2) (tryE K D i th D0 σ)
section
variable{X:Cx}
theorem zry{k i:Nat}{fa D:Addr}{fd:FuncData}{ps:List Str}{sp:Sp}{f xb n:Str}{p cpos epos tp hpos pos:Pos}{e:Expr}{es:List Expr}{b0:Stmt}{suite:List Stmt}{ta:TA}{th:TS}
 (hs:X.stack=X.env::X.outer) (hf:X.env.frame=some X.env.locals) (F:FnOk X.prog X.w X.K X.mg X.base (CX1 X.prog X.w) k fa fd ps sp) (hr:Room k X.A) (hg:Gl X f) (hm:X.mg f=some (.ref fa)) (hk:PySem.W.keepIn X.K (.ref fa)=true) (hb:Binds X.K fd ps [])
 (ha:PA X.nox (e::es) ta) (hgb:Gl X xb) (hmb:X.mg xb=some (.ref D)) (hN:X.N.Nodup) (hi:X.N[i]?=some n) (hl:X.env.kindOf n=some .local) (hx:Loc X.env.scope n) (hfn:X.fn n=true)
 (hh:∀x,PSs (X.hand x) (b0::suite) th) (hdb:(f==("__debug__" : Str))=false:=by decide) (hdb2:(xb==("__debug__" : Str))=false:=by decide)
 (he:starEach (e::es) X.env=(false,eval e X.env)::starEach es X.env:=by rfl) (hpl:(backTo cpos (starEach es X.env)).any (·.1)=false:=by rfl) (hsw:swapsWith (.Call (.Name f p) (e::es) [] cpos) none epos.line X.env=pure false:=by rfl) :
 PS X (.Try [.Expr (.Call (.Name f p) (e::es) [] cpos) epos] [.ExceptHandler (some (.Name xb tp)) (some n) (b0::suite) hpos] [] [] pos) (tTry X.K D i sp ta th):=by
 intro pins s σ H D0 I h
 refine wpAny_Try_except (wpAny_execs_cons (wpAny_Expr_any ?_ I.quiet hsw))
 refine vbq (zbg I hg hm ?_ hdb)
 refine vcg (h₀:=X.base) I.ok.mod.kin hk (vbm (ha cpos pins s σ H _ (I.wish _) h) (λus s1 z9=>z9.el λvs H1 I1 r q=>?_) λ_ _ z=>z.elim) he hpl
 have I1:=I1.unwish
 refine⟨I1.kIn,?_⟩
 have len:us.length=ps.length:=by rw[<-r.length];exact F.len _ _ _ _ q
 have hb1:=hb s1 us I1.kIn (by rw[va8];exact len)
 rw[va8]at hb1
 refine vcv (vcw (F.run X.A X.stack s1 H1 ⟨us,[]⟩ us vs (λ_ H2=>D0.nx σ H2) (tryE X.K D i th D0 σ) hr I1.env0 hb1 r q) λres s' hq=>?_)
 cases res with
 |ok fl=>
  cases fl with
  |ret u=>
   obtain⟨v,H2,I2,_,q2⟩:=I1.after hq
   exact vch (vch ⟨σ,H2,I2,q2⟩)
  |next=>exact False.elim hq
  |brk=>exact False.elim hq
  |cont=>exact False.elim hq
 |error er=>
  obtain⟨x,T,C,dx,H2,rfl,a,C',hc',sb,hth⟩:=At.of (E:=tryE X.K D i th D0 σ) I1 hq
  cases hc'
  refine a.noted hs hf λs2 T2 a2=>a2.lands λs3 a3=>?_
  refine wpAny_handleBy_cons (codeAny_handlers_test ?_) (by intro z;cases z)
  have I3:=a3.I.hand x
  refine zbg (X:=X.hand x) I3 hgb hmb ?_ hdb2
  obtain⟨vs3,sl3,he3,_⟩:=a3.ex.ex
  refine zof a3.I.kIn sb he3 rfl ?_
  refine codeAny_handlers_suite_as (a3.lands λs4 a4=>?_)
  refine zch (X:=X.hand x) (a4.I.hand x) hN hi hx (v:=.ref x) rfl (λs5 I5=>?_) (.inl hfn)
  refine vbm (hh x pins s5 _ H2 _ I5 (hth x a4.hx)) (λfl s6 q6=>?_) λ_ _ z=>z.elim
  cases fl with
  |next=>
   obtain⟨σ',H',I',q'⟩:=q6
   exact(I'.unhand I.ok).gone hN hi hl λs7 I7=>⟨_,H',I7,q'⟩
  |brk=>
   obtain⟨σ',H',I',q'⟩:=q6
   exact(I'.unhand I.ok).gone hN hi hl λs7 I7=>⟨_,H',I7,q'⟩
  |cont=>
   obtain⟨σ',H',I',q'⟩:=q6
   exact(I'.unhand I.ok).gone hN hi hl λs7 I7=>⟨_,H',I7,q'⟩
  |ret u=>
   obtain⟨v,σ',H',I',r',q'⟩:=q6
   exact(I'.unhand I.ok).gone hN hi hl λs7 I7=>⟨v,_,H',I7,r',q'⟩
end
structure RoomH(k:Nat)(A:Around):Prop where
 dp:A.depth+k+5<recursionLimit
 un:A.units+4*k+200<cLine
theorem Room.h{k:Nat}{A:Around}{v:Option Value}(r:Room (k+1) A):RoomH 2 (A.mark v):=⟨by have:=r.dp;show A.depth+2+5<_;omega,by have:=r.un;show A.units+4*2+200<_;omega⟩
noncomputable abbrev bareA(A:Around):Around:={A with handled:=none}
theorem RoomH.depth{k:Nat}{A:Around}(r:RoomH k A):A.depth<recursionLimit:=by have:=r.dp;omega
theorem RoomH.deeper{k:Nat}{A:Around}(r:RoomH (k+1) A)(env:Env):RoomH k (A.deeper env):=
 ⟨by have:=r.dp;show A.depth+1+k+5<_;omega,by have:=r.un;show A.units+3+4*k+200<_;omega⟩
structure FnOkH(P:Program)(w:World)(K:PySem.W.Frag)(mg:Str->Option Value)(base:Heap)(k:Nat)(f:Addr)(fd:FuncData)(ps:List Str)(sp:List V->Hp->VK->Prop):Prop where
 len:∀vs H Q,sp vs H Q->vs.length=ps.length
 run:∀(A:Around)(outer:List Env)(s:Shared)(H:Hp)(args:Args)(us:List Value)(vs:List V)(Q:VK),RoomH k A->Env0 P w K mg base A outer s H->BindsTo s fd args (ps.zip us)->Vals vs us->sp vs H Q->
  codeAny (model P w) A (.call (.ref f) args) (CR CX0 outer P w H s Q E0) s
noncomputable abbrev cxH(P:Program)(w:World)(K:PySem.W.Frag)(mg:Str->Option Value)(base:Heap)(N:List Str)(qual:Str)(scope:Scope)(f:Addr)(cd:Value)(A:Around)(outer:List Env)(s:Shared)(H:Hp):Cx:=
 {cxOf CX0 P w K mg base N qual scope f cd A outer s H E0 with calm:=false,xe:=λ_ _=>False}
theorem fnH{P:Program}{w:World}{K:PySem.W.Frag}{mg:Str->Option Value}{base:Heap}{k:Nat}{f:Addr}{name qual:Str}{params:Arguments}{body:List Stmt}{scope:Scope}{dV kV doc pm cdv ct oc:Value}{an od:Option Addr}
 {osl:Array (Option Value)} {N ps:List Str} {sp:List V->Hp->VK->Prop} (lk:K.lookup f=some ⟨oc,od,.func (PySem.W.fnOf name qual params body scope dV kV doc pm an cdv ct),osl⟩) (hcd:PySem.W.codeIn K cdv qual=true) (S:FnScope N ps scope)
 (len:∀vs H Q,sp vs H Q->vs.length=ps.length)
 (hbody:∀(A:Around)(outer:List Env)(s:Shared)(H:Hp)(vs:List V)(Q:VK),RoomH k (A.deeper (envOfC qual scope s.heap.objs.size f cdv))->sp vs H Q->
   ∃t,PSs (cxH P w K mg base N qual scope f cdv A outer s H) body t/\t {nx:=λ_ H'=>Q .non H',rt:=Q} (start N vs) H) :
 FnOkH P w K mg base (k+1) f (PySem.W.fnOf name qual params body scope dV kV doc pm an cdv ct) ps sp:=by
 refine⟨len,λA outer s H args us vs Q hr e0 hb r hsp=>?_⟩
 have hl:=len _ _ _ hsp
 have KX:K.In s.heap:=e0.mod.kin.keeps λb o e=>(e0.bs b o e).1
 have lim:s.heap.NoLimit:=e0.mod.nolimit.keeps λb o e=>(e0.bs b o e).1
 have hkind:∀y∈ps.zip us,scope.names.lookup y.1=some .local\/(scope.names.lookup y.1=some .cell/\((cellsFrom (s.heap.objs.size+1) scope.names []).lookup y.1).isSome=true):=λhq0 hy=>by
  obtain⟨n,v⟩:=hq0
  rcases S.par n (List.of_mem_zip hy).1 with q|q
  .exact .inl q
  .exact .inr ⟨q,PySem.W.cellsFrom_some _ _ _ (.inl q)⟩
 refine codeAny_call_function hr.depth (KX _ _ lk) rfl S.co S.gen rfl (PySem.W.codeRec_of KX hcd) (hb _ _ _ _ ?_)
 refine wpAny_newFunctionEnv_cells S.kind hkind λenv he s1 x=>?_
 subst he
 refine⟨lim.keeps x.toInCall.keep,codeAny_func ?_⟩
 obtain⟨t,ht,hq⟩:=hbody A outer s H vs Q (hr.deeper _) hsp
 have J:Inv (cxOf CX0 P w K mg base N qual scope f cdv (bareA A) outer s H E0) [] (start N vs) H s1:=ze6 S rfl ⟨e0.frames,e0.mod,e0.bs,e0.bsz,e0.funs,e0.frf,e0.hok,e0.bare⟩ hl r x
 have ok:=J.ok
 have I:Inv (cxH P w K mg base N qual scope f cdv A outer s H) [] (start N vs) H s1:=
  ⟨⟨ok.mod,ok.kind,ok.glob,ok.blt,ok.above,ok.inj,ok.has,ok.cab,(λz=>nomatch z),ok.frames,ok.stk,ok.exf,ok.bs,ok.bsz,ok.noex,ok.exfs,ok.funs,ok.frf⟩,J.os,J.bare,J.base,J.loc,J.cell,J.free,J.freeC,J.pin,J.hok,J.len⟩
 refine vbm (ht [] s1 (start N vs) H _ I hq) (λfl s' hs=>?_) λe s' hs=>hs.elim
 have fin:∀{σ':St}{H':Hp}{v:V}{u:Value},Inv (cxH P w K mg base N qual scope f cdv A outer s H) [] σ' H' s'->RelV v u->Q v H'->CE outer P w H s Q u s':=
  λ{σ' H' v u} J rv q=>⟨v,H',J.os,J.bare,J.base,J.hok,rv,q⟩
 cases fl with
 |ret u=>
  obtain⟨v,σ',H',J,rv,q⟩:=hs
  exact fin J rv q
 |next=>
  obtain⟨σ',H',J,q⟩:=hs
  exact fin (v:=V.non) (u:=Value.none) J rfl q
 |brk=>
  obtain⟨_,_,_,q⟩:=hs
  exact False.elim q
 |cont=>
  obtain⟨_,_,_,q⟩:=hs
  exact False.elim q
section
variable{X:Cx}{k:Nat}{f:Addr}{fd:FuncData}{ps:List Str}{sp:List V->Hp->VK->Prop}{x:Str}{p pos:Pos}{e:Expr}{es:List Expr}{t:TA}
theorem zg1(F:FnOkH X.prog X.w X.K X.mg X.base k f fd ps sp)(hr:RoomH k X.A)(hg:Gl X x)(hm:X.mg x=some (.ref f))(hk:PySem.W.keepIn X.K (.ref f)=true)(hb:Binds X.K fd ps [])
 (ha:PA X (e::es) t) (hdb:(x==("__debug__" : Str))=false:=by decide) (he:starEach (e::es) X.env=(false,eval e X.env)::starEach es X.env:=by rfl) (hpl:(backTo pos (starEach es X.env)).any (·.1)=false:=by rfl) :
 PE X (.Call (.Name x p) (e::es) [] pos) (λσ H Q=>t σ H λvs H1=>sp vs H1 Q):=by
 intro pins s σ H Q I h
 refine vbq (zbg I hg hm ?_ hdb)
 refine vcg (h₀:=X.base) I.ok.mod.kin hk (thn (ha pos pins s σ H _ I h) λus s1 z9=>z9.el λvs H1 I1 r q=>⟨I1.kIn,?_⟩) he hpl
 have len:us.length=ps.length:=by rw[<-r.length];exact F.len _ _ _ q
 have hb1:=hb s1 us I1.kIn (by rw[va8];exact len)
 rw[va8]at hb1
 refine vcv (vcw (F.run X.A X.stack s1 H1 ⟨us,[]⟩ us vs Q hr I1.env0 hb1 r q) λres s' hq=>?_)
 cases res with
 |error er=>exact False.elim hq
 |ok fl=>
  cases fl with
  |ret u=>exact I1.after hq
  |next=>exact False.elim hq
  |brk=>exact False.elim hq
  |cont=>exact False.elim hq
end
section
variable{X:Cx}
noncomputable def zrz(K:PySem.W.Frag):V->List V->Hp->VK->Prop:=λx vs H Q=>∃p xs y ds d j e,x=.ref p/\vs=[y]/\SqL K H p xs/\Rps K (λ_=>False) H xs ds/\Rp K (λ_=>False) H y d/\ds.all SeqAt.shaped=true/\SeqAt.shaped d=true/\
 ds[j]?=some e/\PyData.eqv e d=true/\(∀(m:Nat)(e:PyData),m<j->ds[m]?=some e->PyData.eqv e d=false)/\(j:Int)<2 ^ 63-1/\Q (.int (j:Nat)) H
theorem zjx(hu:X.A.in1.units+64<cLine):MtR X "list.index" (zrz X.K):=by
 intro pins s σ H x vs v us Q I rx rv h
 obtain⟨p,xs,y,ds,d,j,ej,rfl,rfl,hq,r1,r2,s1,s2,hj,hjt,hjf,hsm,q⟩:=h
 cases rx
 obtain⟨u,rfl,ru⟩:=rv.one
 obtain⟨bs,rb⟩:=r2.reads I ru
 obtain⟨its,r,pl,hz⟩:=I.list hq
 obtain⟨as,ra⟩:=r1.reads I r
 obtain⟨⟨c,dd,dt,sl⟩,n,e1,e2,e4,e3⟩:=pl
 replace e2:c=.type "list":=e2
 replace e3:dt=.seq its.toArray n:=e3
 subst e2 e3
 have len:its.length=ds.length:=zaz ra
 have hjl:j<its.toArray.size:=by rw[vah,len];exact(vak.mp hj).1
 have at':∀(m:Nat)(hm:m<its.toArray.size),its[m]?=some its.toArray[m]:=λm hm=>by
  rw[vba (by simpa using hm)];rfl
 refine call_meets PySem.F.slot_list_index ⟨_,e1,rfl⟩ PySem.F.entry_list_index (PySem.F.args_list_index_2 _ _) (SeqAt.list_indexAt p its.toArray n dd sl u (eqOf its ds d) j hjl hsm ?_ λm hm hlt=>?_) ⟨e1,λw hw=>zb4 ?_ ra rb s1 s2 w (by simpa using hw),?_⟩
 .rw[zed ra s1 (at' j hjl) hj];exact hjt
 .have hm':m<ds.length:=by rw[<-len];simpa using hm
  rw[zed ra s1 (at' m hm) (vba hm')]
  exact hjf m _ hlt (vba hm')
 .exact hu
 .exact⟨.int _,H,I.tok _,⟨_,rfl⟩,q⟩
noncomputable def rIsE(K:PySem.W.Frag)(c:Value)(cv:V):List V->Hp->VK->Prop:=λxs H Q=>∃a C b,xs=[.ref a,cv]/\H a=some (excR C none a)/\XL.ExcI K C/\PySem.W.kitOne K (.ref C) c=some b/\Q (.bl b) H
theorem zlh{c:Value}{cv:V}(hc:tyVal cv=some c):CallR X (.builtin "isinstance") (rIsE X.K c cv):=by
 intro pins s σ H xs us Q I r h
 obtain⟨a,C,b,rfl,ea,kk,e,q⟩:=h
 obtain⟨u,u2,rfl,rx,rc⟩:=vals2 r
 have e2:u2=c:=by
  cases cv with
  |ty n=>cases hc;exact rc
  |ref a=>cases hc;exact rc
  |_=>cases hc
 subst e2
 obtain rfl:u=Value.ref a:=rx
 obtain⟨vs,sl,ht⟩:=zod I.hok ea
 exact va7 (XL.kitx_exc (ox:=⟨.ref C,none,.fields vs,sl⟩) (od:=none) kk) I.kIn ⟨ht,rfl,rfl,trivial⟩ e (λz=>nomatch z) λtk=>⟨.bl b,H,I.tok _,rfl,q⟩
end
end L2
namespace RF
open PySem PySem.Spec PyProof.Rows L2
noncomputable def Hx(H H':Hp):Prop:=∀a o,H a=some o->H' a=some o
theorem Hx.refl{H:Hp}:Hx H H:=λ_ _ q=>q
theorem Hx.trans{H H1 H2:Hp}(a:Hx H H1)(b:Hx H1 H2):Hx H H2:=λx o q=>b x o (a x o q)
theorem Hx.new{H:Hp}{p:Addr}{o:HO}(hp:H p=none):Hx H (upd H p o):=λa u q=>by
 rw[zac (λz=>by rw[z,hp]at q;cases q)];exact q
noncomputable def spWd(C:Addr)(z:Str):List V->Hp->VK->Prop:=λvs H Q=>∃a,vs=[.ref a]/\H a=some (excR C none a)/\∀H',Hx H H'->Q (.str z) H'
section
variable{K:PySem.W.Frag}{m m':Nat->Addr}{n:Nat}{h h':VH}{H H':Hp}
theorem Rel.hx(r:Rel K m h H)(k:Hx H H'):Stp m h.n H m h.n H'/\Rel K m h H':=by
 have st:Stp m h.n H m h.n H':=⟨vad _,λ_ _=>rfl,λj a b=>absurd b (vbo.mpr a),λj k a b=>absurd b (vbo.mpr a),λb vs q=>k _ _ q,λb o t q=>k _ _ q,λb o nb q=>k _ _ q⟩
 refine⟨st,⟨λj hj=>?_,r.inj,r.len⟩⟩
 obtain⟨o',h1,h2⟩:=r.obj j hj
 obtain⟨u',h3⟩:=h2.some
 exact⟨o',h1,ORep.stp st (by rw[h3];exact k _ _ h3) h2⟩
noncomputable def Rais(K:PySem.W.Frag)(m:Nat->Addr)(n:Nat)(H:Hp)(C:Addr)(h':VH)(E:XK):Prop:=∀H' m',Stp m n H m' h'.n H'->Rel K m' h' H'->∀a,H' a=none->E (.ref C) none (upd H' a (excR C none a))
noncomputable def endX(K:PySem.W.Frag)(m:Nat->Addr)(n:Nat)(H:Hp)(w:W)(h':VH)(Q:VK)(E:XK):Prop:=match w with
 |.tup [x]=>Wants K m n H x h' Q
 |.int i=>Rais K m n H i.toNat h' E
 |_=>False
noncomputable def spX(K:PySem.W.Frag)(np:Nat)(g:List W->VH->Res W):Sp:=λvs H Q E=>vs.length=np/\∃h m ws w h',Rel K m h H/\VReps K m h.n H vs ws/\g ws h=.ok w h'/\endX K m h.n H w h' Q E
noncomputable def rtX(K:PySem.W.Frag)(m:Nat->Addr)(n:Nat)(H:Hp)(Q:VK)(E:XK)(w:W):Prop:=match w with
 |.tup [x]=>∀v,VRep K m n H v x->Q v H
 |.int i=>∀a,H a=none->E (.ref i.toNat) none (upd H a (excR i.toNat none a))
 |_=>False
noncomputable def FlX(K:PySem.W.Frag)(m:Nat->Addr)(n:Nat)(H:Hp)(D:Ends)(E:XK):Fl->Prop
 |.nx ρ=>∀σ,Fr K m n H σ ρ->D.nx σ H
 |.bk ρ=>∀σ,Fr K m n H σ ρ->D.bk σ H
 |.ct ρ=>∀σ,Fr K m n H σ ρ->D.ct σ H
 |.rt w=>rtX K m n H D.rt E w
noncomputable def lftX(K:PySem.W.Frag)(E:XK)(f:FS):TS:=λD σ H=>∃ρ h m fl h',Fr K m h.n H σ ρ/\Rel K m h H/\f ρ h=.ok fl h'/\∀H' m',Stp m h.n H m' h'.n H'->Rel K m' h' H'->FlX K m' h'.n H' D E fl
end
noncomputable def noRet:S->Bool
 |.seq a b=>noRet a&&noRet b
 |.ite _ a b=>noRet a&&noRet b
 |.for _ _ _ b=>noRet b
 |.whl _ b=>noRet b
 |.ret _=>false
 |.tryc _ _ _=>false
 |_=>true
noncomputable def isRt:Fl->Bool
 |.rt _=>true
 |_=>false
noncomputable def NoRt(r:Res Fl):Prop:=∀fl h',r=.ok fl h'->isRt fl=false
theorem NoRt.bind{α:Type}{r:Res α}{f:α->VH->Res Fl}(k:∀a h,NoRt (f a h)):NoRt (r.bind f):=λfl h' e=>zaa e λa h1 _ e2=>k a h1 fl h' e2
theorem NoRt.no:NoRt .no:=λ_ _ e=>nomatch e
theorem NoRt.of{o:Option En}{h:VH}:NoRt (.of (o.map .nx) h):=λfl h' e=>by
 obtain⟨e,_⟩:=of_ok e
 cases o with
 |none=>cases e
 |some ρ=>cases e;rfl
theorem NoRt.nx{ρ:En}{h:VH}:NoRt (.ok (.nx ρ) h):=λ_ _ e=>by cases e;rfl
theorem zem{nx:Nat->VH->Option (Option W)}{tg:W->VH->En->Option En}{b:En->VH->Res Fl}(hb:∀ρ h,NoRt (b ρ h)):∀(f i:Nat) (ρ:En) (h:VH),NoRt (forG nx tg b f i ρ h)
 |0,_,_,_=>.no
 |f+1,i,ρ,h=>by
  simp only[forG]
  split
  .exact .no
  .exact .nx
  .split
   .exact .no
   .intro fl h' e
    refine zaa e λfl1 h1 e1 e2=>?_
    have:=hb _ _ fl1 h1 e1
    cases fl1 with
    |nx ρ=>exact zem hb f _ _ _ fl h' e2
    |ct ρ=>exact zem hb f _ _ _ fl h' e2
    |bk ρ=>cases e2;rfl
    |rt w=>cases this
theorem zen{c:En->VH->Res W}{b:En->VH->Res Fl}(hb:∀ρ h,NoRt (b ρ h)):∀(f:Nat) (ρ:En) (h:VH),NoRt (whlG c b f ρ h)
 |0,_,_=>.no
 |f+1,ρ,h=>by
  simp only[whlG]
  refine .bind λt h1=>?_
  split
  .exact .nx
  .intro fl h' e
   refine zaa e λfl1 h1 e1 e2=>?_
   have:=hb _ _ fl1 h1 e1
   cases fl1 with
   |nx ρ=>exact zen hb f _ _ fl h' e2
   |ct ρ=>exact zen hb f _ _ fl h' e2
   |bk ρ=>cases e2;rfl
   |rt w=>cases this
  .exact .no
theorem nort{cl:Call}:∀(s:S),noRet s=true->∀(ρ:En) (h:VH),NoRt (exs cl s ρ h):=by
 intro s
 induction s with
 |skip=>intro _ ρ h;exact .nx
 |seq a b i1 i2=>
  intro hs ρ h
  simp only[noRet,vaa]at hs
  intro fl h' e
  simp only[exs]at e
  refine zaa e λfl1 h1 e1 e2=>?_
  have:=i1 hs.1 _ _ fl1 h1 e1
  cases fl1 with
  |nx ρ1=>exact i2 hs.2 _ _ fl h' e2
  |bk _=>cases e2;rfl
  |ct _=>cases e2;rfl
  |rt _=>cases this
 |set i e=>intro _ ρ h;simp only[exs];exact .bind λw h1=>.nx
 |unp is e=>intro _ ρ h;simp only[exs];exact .bind λw h1=>.of
 |aug i o e=>
  intro _ ρ h;simp only[exs]
  split
  .exact .bind λy h1=>.bind λz h2=>.nx
  .exact .no
 |sat C x o v=>
  intro _ ρ h;simp only[exs]
  refine .bind λw h1=>.bind λo h2=>?_
  unfold satW
  split
  .split
   .split
    .exact .nx
    .exact .no
   .exact .no
  .exact .no
 |put o i v=>
  intro _ ρ h;simp only[exs]
  refine .bind λw h1=>.bind λx h2=>.bind λy h3=>?_
  split
  .split
   .split
    .exact .nx
    .exact .no
   .exact .no
  .unfold putD
   split
   .split
    .exact .nx
    .exact .no
   .exact .no
  .exact .no
 |pts o bl lo bh hi v=>
  intro _ ρ h;simp only[exs]
  refine .bind λw h1=>.bind λx h2=>.bind λl h3=>.bind λu h4=>?_
  split
  .exact .bind λ_ h5=>.nx
  .exact .no
 |ite c a b i1 i2=>
  intro hs ρ h
  simp only[noRet,vaa]at hs
  simp only[exs]
  refine .bind λx h1=>?_
  split
  .exact i1 hs.1 _ _
  .exact i2 hs.2 _ _
  .exact .no
 |ret e=>intro hs;cases hs
 |expr e=>intro _ ρ h;simp only[exs];exact .bind λw h1=>.nx
 |brk=>intro _ ρ h fl h' e;cases e;rfl
 |cnt=>intro _ ρ h fl h' e;cases e;rfl
 | «for» k a t b i1=>intro hs ρ h;simp only[exs];exact .bind λx h1=>zem (i1 hs) _ _ _ _
 |whl c b i1=>intro hs ρ h;simp only[exs];exact zen (i1 hs) _ _ _
 |tryc f a tb=>intro hs;cases hs
 |no=>intro _ ρ h;exact .no
theorem _root_.L2.PS.nox{X:Cx}{st:Stmt}{t:TS}(h:PS X.nox st t):PS X st t:=λpins s σ H D I hw=>vbm (h pins s σ H D (I.wish _) hw) (λ_ _ z=>SP.unwish z) λ_ _ z=>z.elim
section
variable{X:Cx}{E:XK}{c e:Expr}{fa fc:FE}{pos p:Pos}{x:Str}{st:Stmt}{sts sa sb:List Stmt}{ga gb:FS}
noncomputable abbrev SX(X:Cx)(E:XK)(st:Stmt)(f:FS):Prop:=PS (X.wish (FlyIn X E)) st (lftX X.K E f)
noncomputable abbrev SXs(X:Cx)(E:XK)(st:List Stmt)(f:FS):Prop:=PSs (X.wish (FlyIn X E)) st (lftX X.K E f)
theorem zli{cl:Call}{s:S}(h:SS X.nox st (exs cl s))(hs:noRet s=true):SX X E st (exs cl s):=(PS.nox (X:=X.wish (FlyIn X E)) h).imp λD σ H ⟨ρ,h,m,fl,h',f,r,e,k⟩=>⟨ρ,h,m,fl,h',f,r,e,λH' m' s' r'=>by
 have n:=nort s hs ρ h fl h' e
 have:=k H' m' s' r'
 cases fl with
 |nx _=>exact this
 |bk _=>exact this
 |ct _=>exact this
 |rt _=>cases n⟩
theorem zog:SXs X E [] gSkip:=(zd6 (X:=X.wish (FlyIn X E))).imp λD σ H hq0=>by obtain⟨ρ,h,m,fl,h',f,r,e,k⟩:=hq0;cases e;exact k H m .refl r σ f
theorem zlj(h1:SX X E st ga)(h2:SXs X E sts gb):SXs X E (st::sts) (gSeq ga gb):=(zbw h1 h2).imp λD σ H hq0=>by
 obtain⟨ρ,h,m,fl,h',f,r,e,k⟩:=hq0
 refine zaa e λfl1 h1 e1 e2=>?_
 refine⟨ρ,h,m,fl1,h1,f,r,e1,λH1 m1 s1 r1=>?_⟩
 cases fl1 with
 |nx ρ1=>exact λσ1 f1=>⟨ρ1,h1,m1,fl,h',f1,r1,e2,λH' m' s' r'=>k H' m' (s1.trans s') r'⟩
 |bk ρ1=>cases e2;exact k H1 m1 s1 r1
 |ct ρ1=>cases e2;exact k H1 m1 s1 r1
 |rt w=>cases e2;exact k H1 m1 s1 r1
theorem zr0(hc:ST X.nox c fc)(ha:SXs X E sa ga)(hb:SXs X E sb gb):SX X E (.If c sa sb pos) (gIf fc ga gb):=(ps_if (PT.nox (X:=X.wish (FlyIn X E)) hc) ha hb).imp λD σ H hq0=>by
 obtain⟨ρ,h,m,fl,h',f,r,e,k⟩:=hq0
 refine zaa e λx h1 e1 e2=>?_
 split at e2
 .exact(.mk f r e1 λH1 m1 s1 r1=>⟨ρ,h1,m1,fl,h',f.stp s1,r1,e2,λH' m' s' r'=>k H' m' (s1.trans s') r'⟩)
 .exact(.mk f r e1 λH1 m1 s1 r1=>⟨ρ,h1,m1,fl,h',f.stp s1,r1,e2,λH' m' s' r'=>k H' m' (s1.trans s') r'⟩)
 .cases e2
theorem zr1(he:SE X.nox e fa):SX X E (.Return (some e) pos) (λρ h=>(fa ρ h).bind λw h=>.ok (.rt (.tup [w])) h):=(zez (PE.nox (X:=X.wish (FlyIn X E)) he)).imp λD σ H hq0=>by
 obtain⟨ρ,h,m,fl,h',f,r,e,k⟩:=hq0
 refine zaa e λw h1 e1 e2=>?_
 cases e2
 exact(.mk f r e1 λv H1 m1 s1 r1 q1=>k H1 m1 s1 r1 v q1)
theorem zlk{C:Addr}{cpos:Pos}(M:MkE X.K C)(hc:X.calm=true)(hg:Gl X x)(hm:X.mg x=some (.ref C))(hdb:(x==("__debug__" : Str))=false) :
 SX X E (.Raise (some (.Call (.Name x p) [] [] cpos)) none pos) (λ_ h=>.ok (.rt (.int C)) h):=(zjw M hc hg hm hdb).imp λD σ H hq0=>by
 obtain⟨ρ,h,m,fl,h',f,r,e,k⟩:=hq0
 cases e
 exact k H m .refl r
end
section
variable{K:PySem.W.Frag}{m m':Nat->Addr}{h h1 h2:VH}{H H':Hp}
theorem zoh{w w2:W}(e:leave h w h1=.ok w2 h2):w2=w:=by
 unfold leave at e
 split at e<;>cases e<;>rfl
theorem zoi{x:W}(e:leave h (.tup [x]) h1=.ok (.tup [x]) h2):leave h x h1=.ok x h2:=by
 unfold leave at e ⊢
 have hl:W.lt h.n (.tup [x])=W.lt h.n x:=by simp only[W.lt,W.lts,Bool.and_true]
 rw[hl]at e
 split at e
 .rename_i z;cases e;rw[if_pos z]
 .rename_i z;cases e;rw[if_neg z]
theorem zjy{w w2:W}{Q:VK}{E:XK}(r:Rel K m h H)(s:Stp m h.n H m' h1.n H')(r1:Rel K m' h1 H')(g:Grow ⟨h.n,h.n,h.os⟩ h1)(e:leave h w h1=.ok w2 h2)(k:endX K m h.n H w2 h2 Q E):rtX K m' h1.n H' Q E w:=by
 obtain rfl:=zoh e
 unfold endX at k
 unfold rtX
 split at k
 .rename_i x
  exact λv hv=>zco r s r1 hv g (zoi e) k
 .rename_i i
  exact λa ha=>zco (v:=.int i) (Q:=λ_ H'=>∀a,H' a=none->E (.ref i.toNat) none (upd H' a (excR i.toNat none a))) r s r1 (.int i) g e (λv H' m' s r _=>k H' m' s r) a ha
 .cases k
end
theorem zoj{P:Program}{w:World}{K:PySem.W.Frag}{mg:Str->Option Value}{base:Heap}{F:Nat->Option Fn}{k idx:Nat}{fn:Fn}{x qual:Str}{st:Stmt}{f:Addr}{fd:FuncData}{N ps:List Str}{b:S}(hF:F idx=some fn)(Fu:FunD K x qual st f fd)(S:FnScope N ps (zaf st))
 (hn:fn.n=N.length) (hp:fn.ps=ps.length) (hb:fn.body=.seq b (.ret (.cst (.tup [.non]))))
 (hbody:∀(cdv:Value)(A:Around)(outer:List Env)(s:Shared)(H:Hp)(E:XK),Room k (A.deeper (envOfC qual (zaf st) s.heap.objs.size f cdv))->SXs (cxOf (CX1 P w) P w K mg base N qual (zaf st) f cdv A outer s H E) E (zb2 st) (exs (run F k) b)) :
 FnOk P w K mg base (CX1 P w) (k+1) f fd ps (spX K ps.length (run F (k+1) idx)):=by
 obtain⟨_,_,_,_,_,_,_,cdv,_,_,e,lk,hcd⟩:=Fu.ex
 subst e
 refine fn1 lk hcd S (λvs H Q E h=>h.1) λA outer s H vs Q E hr hsp=>?_
 refine⟨_,hbody cdv A outer s H E hr,?_⟩
 obtain⟨hl,h,m,ws,w2,h2,r,q,e,k2⟩:=hsp
 have hws:=zbk hF e
 simp only[run,hF]at e
 split at e
 .refine zaa e λfl h1 e1 e2=>?_
  have g:=zfi (zfj F k) _ _ _ _ _ e1
  have hN:fn.n-fn.ps=N.length-ws.length:=by rw[hn,hws]
  rw[hN,hb]at e1
  simp only[exs]at e1
  refine zaa e1 λfl1 h3 e3 e4=>?_
  refine⟨_,⟨h.n,h.n,h.os⟩,m,fl1,h3,zg0 q,zfn r,e3,λH' m' s' r'=>?_⟩
  cases fl1 with
  |nx ρ=>
   cases e4
   have:=zjy (K:=K) (m:=m) (m':=m') (H:=H) (H':=H') (h:=h) (Q:=Q) (E:=E) r s' r' g e2 k2
   exact λσ' f'=>this .non .non
  |rt w3=>cases e4;exact zjy r s' r' g e2 k2
  |bk _=>cases e4;cases e2
  |ct _=>cases e4;cases e2
 .cases e
theorem zll{P:Program}{w:World}{K:PySem.W.Frag}{mg:Str->Option Value}{base:Heap}{F:Nat->Option Fn}{idx:Nat}{f:Addr}{fd:FuncData}{ps:List Str}:FnOk P w K mg base (CX1 P w) 0 f fd ps (spX K ps.length (run F 0 idx)):=
 ⟨λvs H Q E h=>h.1,λA outer s H args us vs Q E hr he hb hv hs=>by obtain⟨_,h,m,ws,w2,h2,r,q,e,k2⟩:=hs;cases e⟩
noncomputable def hForm(n:Str):Expr->Option (Option Str)
 |.Call (.Name w _) [.Name y _] [] _=>if w==("_law_word" : Str)&&y==n then some none else none
 |.Compare (.Call (.Name w _) [.Name y _] [] _) [.Eq] [.Constant (.str t) _ _] _=>if w==("_law_word" : Str)&&y==n then some (some t)else none
 |_=>none
noncomputable def hV(o:Option Str)(z:Str):V:=match o with
 |none=>.str z
 |some t=>.bl (decide (V.str z=V.str t))
noncomputable def hW(o:Option Str)(z:Str):W:=match o with
 |none=>.str z
 |some t=>.bl (decide (V.str z=V.str t))
theorem hVW{K:PySem.W.Frag}{m:Nat->Addr}{n:Nat}{H:Hp}(o:Option Str)(z:Str):VRep K m n H (hV o z) (hW o z):=by
 cases o with
 |none=>exact .str z
 |some t=>exact .bl _
noncomputable def tHand(tb:List (Nat×Str))(o:Option Str)(i:Nat):TS:=λD σ H=>∃C z x,(C,z)∈tb/\(i<σ.length->σ[i]?=some (some (.ref x)))/\H x=some (excR C none x)/\∀H',Hx H H'->D.rt (hV o z) H'
noncomputable abbrev gTry(g:List W->VH->Res W)(fa:FE)(tb:List (Nat×W)):FS:=λρ h=>(fa ρ h).bind λy h=>match y with
 |.tup ys=>(g ys h).bind λw h=>tryW tb ρ w h
 |_=>.no
noncomputable def Word(X:Cx)(C:Nat)(z:Str):Prop:=∃f fd ps,X.mg "_law_word" = some (.ref f)/\FnOkH X.prog X.w X.K X.mg X.base 2 f fd ps (spWd C z)/\PySem.W.keepIn X.K (.ref f)=true/\Binds X.K fd ps []
theorem zg2{o:Option Str}:∀{tb:List (Nat×Str)} {c:Nat} {w:W},(tb.map λp=>(p.1,hW o p.2)).lookup c=some w->∃z,(c,z)∈tb/\w=hW o z
 |[],_,_,e=>by cases e
 |(d,z)::r,c,w,e=>by
  rw[vaj,vaq]at e
  by_cases h:(c==d)=true
  .rw[h]at e
   cases e
   exact⟨z,by rw[show c=d by simpa using h];exact vaz ..,rfl⟩
  .rw[show(c==d)=false by simpa using h]at e
   obtain⟨z',h1,h2⟩:=zg2 e
   exact⟨z',van _ h1,h2⟩
section
variable{X:Cx}{tb:List (Nat×Str)}{n:Str}{i:Nat}
theorem zok{o:Option Str}{hb:Expr}{rp:Pos}{x:Addr}(hf:hForm n hb=some o)(hr:RoomH 2 (X.hand x).A)(hw:∀C z,(C,z)∈tb->Word X C z)(hgw:Gl X "_law_word")(hi:X.N[i]?=some n)(hv:Vis X.env.scope n)(hd:(n==("__debug__" : Str))=false)(hcd:(n==("__classdict__" : Str))=false) :
 PSs (X.hand x) [.Return (some hb) rp] (tHand tb o i):=by
 intro pins s σ H D I ⟨C,z,y,hm,hσ,hx,k⟩
 have hl:i<σ.length:=by rw[I.len];exact(vak.mp hi).1
 obtain⟨f,fd,ps,w1,w2,w3,w4⟩:=hw C z hm
 have pe:∀wp yp cp,PE (X.hand x) (.Call (.Name "_law_word" wp) [.Name n yp] [] cp) _:=λwp yp cp=>zg1 (X:=X.hand x) (p:=wp) (pos:=cp) w2 hr hgw w1 w3 w4 (zaw (zhz (X:=X.hand x) (pos:=yp) hi hv hd hcd) zbs)
 unfold hForm at hf
 split at hf
 .split at hf
  .rename_i hc
   cases hf
   rw[vaa,vbx,vbx]at hc
   obtain⟨rfl,rfl⟩:=hc
   exact(zfz (zez (pe _ _ _))) pins s σ H D I ⟨_,hσ hl,y,rfl,hx,λH' h=>k H' h⟩
  .cases hf
 .split at hf
  .rename_i hc
   cases hf
   rw[vaa,vbx,vbx]at hc
   obtain⟨rfl,rfl⟩:=hc
   exact(zfz (zez (zic op_eq (pe _ _ _) zh0 rfl))) pins s σ H D I ⟨_,hσ hl,y,rfl,hx,λH' h=>⟨rfl,k H' h⟩⟩
  .cases hf
 .cases hf
theorem zr2{k:Nat}{fa D:Addr}{fd:FuncData}{ps:List Str}{g:List W->VH->Res W}{f xb:Str}{p cpos epos tp hpos pos rp:Pos}{e hb:Expr}{es:List Expr}{ga:FE}{o:Option Str}
 (hs:X.stack=X.env::X.outer) (hf:X.env.frame=some X.env.locals) (F:FnOk X.prog X.w X.K X.mg X.base (CX1 X.prog X.w) k fa fd ps (spX X.K ps.length g)) (hr:Room k X.A) (hr2:∀x,RoomH 2 (X.hand x).A) (hg:Gl X f) (hm:X.mg f=some (.ref fa)) (hk:PySem.W.keepIn X.K (.ref fa)=true) (hbd:Binds X.K fd ps [])
 (hlen:∀ws h w h',g ws h=.ok w h'->ws.length=ps.length) (ha:SA X.nox (e::es) ga) (hst:(e::es).all zah=true) (hgb:Gl X xb) (hmb:X.mg xb=some (.ref D)) (hN:X.N.Nodup) (hi:X.N[i]?=some n) (hl:X.env.kindOf n=some .local) (hx:Loc X.env.scope n) (hv:Vis X.env.scope n) (hfn:X.fn n=true)
 (hfo:hForm n hb=some o) (hw:∀C z,(C,z)∈tb->Word X C z) (hgw:Gl X "_law_word") (hsub:∀C z,(C,z)∈tb->subE X.K C D=true)
 (hdb:(f==("__debug__" : Str))=false) (hdb2:(xb==("__debug__" : Str))=false) (hdb3:(n==("__debug__" : Str))=false) (hcd:(n==("__classdict__" : Str))=false) :
 SS X (.Try [.Expr (.Call (.Name f p) (e::es) [] cpos) epos] [.ExceptHandler (some (.Name xb tp)) (some n) [.Return (some hb) rp] hpos] [] [] pos) (gTry g ga (tb.map λc=>(c.1,hW o c.2))):=by
 rw[vbw,vaa]at hst
 refine(zry (i:=i) (th:=tHand tb o i) hs hf F hr hg hm hk hbd ha hgb hmb hN hi hl hx hfn (λx=>zok hfo (hr2 x) hw hgw hi hv hdb3 hcd) hdb hdb2 (zab hst.1) (zas hst.2) rfl).imp λD0 σ H z9=>z9.el λρ h m fl h' f r e kk=>?_
 refine zaa e λy h1 e1 e2=>?_
 cases y with
 |tup ys=>
  refine zaa e2 λw h2 e3 e4=>?_
  refine lftA.mk f r e1 λvs H1 m1 s1 r1 q1=>⟨by rw[q1.length,hlen _ _ _ _ e3],h1,m1,ys,w,h2,r1,q1,e3,?_⟩
  unfold tryW at e4
  split at e4
  .cases e4
   exact λv H' m' s' r' _=>kk H' m' (s1.trans s') r' σ (f.stp (s1.trans s'))
  .rename_i ii
   split at e4
   .rename_i w' hlk
    cases e4
    obtain⟨z,hmem,rfl⟩:=zg2 hlk
    intro H' m' s' r' a ha'
    refine⟨ii.toNat,rfl,hsub _ _ hmem,λx hx'=>⟨ii.toNat,z,x,hmem,λhl'=>va0 (by rwa [vck]at hl'),hx',λH'' hh=>?_⟩⟩
    obtain⟨st,r''⟩:=r'.hx ((Hx.new ha').trans hh)
    exact kk H'' m' ((s1.trans s').trans st) r'' _ (hVW o z)
   .cases e4
  .cases e4
 |_=>cases e2
end
set_option genInjectivity false in
structure CC where
 N:List Str
 names:List (Str×NameKind)
 fnAll:Bool
noncomputable def za0:List Str->Str->Nat->Option Nat
 |[],_,_=>none
 |y::r,x,i=>if y==x then some i else za0 r x (i+1)
theorem zfo:∀{N:List Str} {x:Str} {k i:Nat},za0 N x k=some i->∃j,i=k+j/\N[j]?=some x
 |[],_,_,_,e=>by cases e
 |y::r,x,k,i,e=>by
  unfold za0 at e
  split at e
  .rename_i h
   cases e
   exact⟨0,rfl,by simpa using h⟩
  .obtain⟨j,h1,h2⟩:=zfo e
   exact⟨j+1,by omega,by simpa using h2⟩
theorem zbu{N:List Str}{x:Str}{i:Nat}(e:za0 N x 0=some i):N[i]?=some x:=by
 obtain⟨j,h1,h2⟩:=zfo e
 rw[show i=j by omega];exact h2
noncomputable def visK:Option NameKind->Bool
 |some .local|some .cell|some .free=>true
 |_=>false
noncomputable def locK(all:Bool):Option NameKind->Bool
 |some .local=>true
 |some .cell=>all
 |_=>false
noncomputable def okN(x:Str):Bool:=!(x==("__debug__" : Str)) && !(x==("__classdict__" : Str)) && !(x==("__name__" : Str)) && !(x==("" : Str))
theorem zr3{x:Str}(h:okN x=true):x≠"":=by
 unfold okN at h
 simp only[vaa,Bool.not_eq_true']at h
 exact λz=>by rw[z]at h;simp at h
theorem za1{x:Str}(h:okN x=true):(x==("__debug__" : Str))=false/\(x==("__classdict__" : Str))=false/\x≠"__name__":=by
 unfold okN at h
 simp only[vaa,Bool.not_eq_true']at h
 exact⟨h.1.1.1,h.1.1.2,λz=>by rw[z]at h;simp at h⟩
noncomputable def cstW(K:PySem.W.Frag):Nat->Value->Option W
 |0,_=>none
 |n+1,v=>match v with
  |.none=>some .non
  |.bool b=>some (.bl b)
  |.int i _=>some (.int i)
  |.str x _=>some (.str x)
  |.ref a=>(match K.lookup a with
   |some o=>(match o.cls,o.dict,o.data with
    |.type t,none,.seq its _=>if t == "tuple" && Nat.ble its.size 1000 then(mapO (cstW K n) its.toList).map .tup else none
    |_,_,_=>none)
   |none=>none)
  |_=>none
theorem zjz{K:PySem.W.Frag}{f:Value->Option W}(ih:∀v w,f v=some w->∃x,RelV x v/\∀m n H,VRep K m n H x w):∀{us:List Value} {ws:List W},mapO f us=some ws->∃xs,Vals xs us/\∀m n H,VReps K m n H xs ws
 |[],_,e=>by cases e;exact⟨[],.nil,λ_ _ _=>.nil⟩
 |u::us,ws,e=>by
  unfold mapO at e
  split at e
  .rename_i b hb
   split at e
   .rename_i bs hbs
    cases e
    obtain⟨x,h1,h2⟩:=ih u b hb
    obtain⟨xs,h3,h4⟩:=zjz ih hbs
    exact⟨x::xs,.cons h1 h3,λm n H=>.cons (h2 m n H) (h4 m n H)⟩
   .cases e
  .cases e
theorem zml{K:PySem.W.Frag}:∀(n:Nat) (v:Value) (w:W),cstW K n v=some w->∃x,RelV x v/\∀m n H,VRep K m n H x w
 |0,_,_,e=>by cases e
 |n+1,v,w,e=>by
  unfold cstW at e
  split at e
  .cases e;exact⟨.non,rfl,λ_ _ _=>.non⟩
  .cases e;exact⟨.bl _,rfl,λ_ _ _=>.bl _⟩
  .cases e;exact⟨.int _,⟨_,rfl⟩,λ_ _ _=>.int _⟩
  .cases e;exact⟨.str _,⟨_,rfl⟩,λ_ _ _=>.str _⟩
  .rename_i a
   split at e
   .rename_i o ho
    split at e
    .rename_i t its nn hc hdd hd
     split at e
     .rename_i hz
      rw[vaa]at hz
      have ht:t = "tuple":=by simpa using hz.1
      subst ht
      cases z:mapO (cstW K n) its.toList with
      |none=>rw[z]at e;cases e
      |some ws=>
       rw[z]at e
       cases e
       obtain⟨xs,h3,h4⟩:=zjz (zml n) z
       exact⟨.ref a,rfl,λm n H=>.tup (.inr ⟨o,its,nn,ho,hc,hdd,hd,vcu (zc0 (vau hz.2)),h3⟩) (h4 m n H)⟩
     .cases e
    .cases e
   .cases e
  .cases e
noncomputable def cL(f:Expr->Option E):List Expr->Option E
 |[]=>some .nil
 |e::es=>match f e,cL f es with
  |some a,some r=>some (.cons a r)
  |_,_=>none
noncomputable def fnAt(K:PySem.W.Frag)(x:Str):Option (Addr×Obj×FuncData):=match refAt K x with
 |some f=>(match K.lookup f with
  |some o=>(match o.data with
   |.func fd=>some (f,o,fd)
   |_=>none)
  |none=>none)
 |none=>none
noncomputable def zau:Arguments->Option (List Arg)
 |⟨[],args,none,[],[],none,_⟩=>some args
 |_=>none
noncomputable def isNone:Value->Bool
 |.none=>true
 |_=>false
noncomputable def zeo:Data->Bool
 |.seq xs _=>(match xs.toList with
  |[v]=>isNone v
  |_=>false)
 |_=>false
noncomputable def noneD(K:PySem.W.Frag):Value->Bool
 |.ref t=>(match K.lookup t with
  |some o=>zeo o.data
  |none=>false)
 |_=>false
noncomputable def zbl(K:PySem.W.Frag)(x:Str)(n:Nat):Bool:=match fnAt K x with
 |some (_,_,fd)=>noneD K fd.defaults&&Nat.beq (n+1) fd.params.args.length
 |none=>false
noncomputable def hasD(K:PySem.W.Frag)(x:Str):Bool:=match fnAt K x with
 |some (_,_,fd)=>noneD K fd.defaults
 |none=>false
theorem zdw{K:PySem.W.Frag}{x:Str}{n:Nat}(h:zbl K x n=true):hasD K x=true:=by
 unfold zbl at h
 unfold hasD
 split at h
 .rw[vaa]at h;exact h.1
 .cases h
noncomputable def padE:E->E
 |.nil=>.cons (.cst .non) .nil
 |.cons a r=>.cons a (padE r)
 |e=>e
noncomputable def argsE:E->Bool
 |.nil=>true
 |.cons _ r=>argsE r
 |_=>false
theorem zmm{cl:Call}:∀{a:E},argsE a=true->∀(ρ:En) (h:VH),ev cl (padE a) ρ h=(ev cl a ρ h).bind λy h=>match y with|.tup ys=>.ok (.tup (ys++[.non])) h|_=>.no:=by
 intro a
 induction a with
 |nil=>intro _ ρ h;rfl
 |cons x r _ ih=>
  intro ha ρ h
  have ih:=ih ha
  simp only[padE,ev]
  cases ev cl x ρ h with
  |no=>rfl
  |ex _ _=>rfl
  |ok w h1=>
   show Res.bind (ev cl (padE r) ρ h1) _=Res.bind (Res.bind (ev cl r ρ h1) _) _
   rw[ih]
   cases ev cl r ρ h1 with
   |no=>rfl
   |ex _ _=>rfl
   |ok y h2=>cases y<;>rfl
 |_=>intro ha;cases ha
theorem zgd{f:Expr->Option E}:∀{es:List Expr} {a:E},cL f es=some a->argsE a=true
 |[],_,h=>by cases h;rfl
 |e::es,a,h=>by
  unfold cL at h
  split at h
  .rename_i x r h1 h2
   cases h
   show argsE r=true
   exact zgd h2
  .cases h
noncomputable def cPs(f:Expr->Option E):List (Option Expr)->List Expr->Option E
 |[],[]=>some .nil
 |some k::ks,v::vs=>match f k,f v,cPs f ks vs with
  |some a,some b,some r=>some (.cons a (.cons b r))
  |_,_,_=>none
 |_,_=>none
noncomputable def cB(and:Bool)(f:Expr->Option E):List Expr->Option E
 |[]=>none
 |[a]=>f a
 |a::b::r=>match f a,cB and f (b::r)with
  |some x,some y=>some (if and then .and x y else .or x y)
  |_,_=>none
noncomputable def cO(f:Expr->Option E):Option Expr->Option (Bool×E)
 |none=>some (false,.cst .non)
 |some e=>(f e).map λc=>(true,c)
noncomputable def zc8(K:PySem.W.Frag)(C:CC)(x:Str):Bool:=C.names.lookup x==some .globalImplicit&& (match PySem.W.nsIn K mainGlobals x with|some none=>true|_=>false)
noncomputable def tyOf(x:Str):Option Ty:=
 if x==("int" : Str)then some .int else if x==("bool" : Str)then some .bool else if x==("tuple" : Str)then some .tuple else if x==("list" : Str)then some .list else if x==("str" : Str)then some .str else if x==("dict" : Str)then some .dict else none
noncomputable def lrOf(f:Str)(args:List Expr):Option Expr:=if f==("list" : Str)then(match args with
 |[.Call (.Name g _) [a] [] _]=>if g==("range" : Str)then some a else none
 |_=>none)else none
noncomputable def biOf(x:Str):Option Bi:=
 if x==("len" : Str)then some .len else if x==("list" : Str)then some .list else if x==("tuple" : Str)then some .tuple else if x==("int" : Str)then some .int else if x==("abs" : Str)then some .abs else if x==("max" : Str)then some .max else if x==("min" : Str)then some .min else none
noncomputable def zmn:Expr->Bool
 |.Tuple ..=>true
 |_=>false
noncomputable def okW:Kd->Expr->Bool
 |.enm,t=>zmn t
 |.zip,t=>zmn t
 |_,_=>true
noncomputable def nmIx(C:CC):Expr->Option Nat
 |.Name x _=>if okN x&&locK C.fnAll (C.names.lookup x)then za0 C.N x 0 else none
 |_=>none
noncomputable def cTg(C:CC):Expr->Option Tg
 |.Name x p=>(nmIx C (.Name x p)).map .one
 |.Tuple es _ _=>(mapO (nmIx C) es).map .many
 |_=>none
noncomputable def ownOf(sc:Scope):List Str:=(sc.names.filter λy=>y.2 == .local && !(y.1==(".0" : Str))).map (·.1)
noncomputable def zav(sc:Scope):List Str:=(sc.names.filter λy=>y.2 == .free).map (·.1)
noncomputable def zc9(C:CC)(sc:Scope)(ix:List Nat):Bool:=
 decide (sc.kind=.function)&&sc.names.all (λy=>decide (y.2≠.cell))&&sc.names.all (λy=>decide (y.2=.local->sc.names.lookup y.1=some .local)) &&
 (ownOf sc).all (λx=>decide (sc.names.lookup x=some .local))&&sc.names.all (λy=>decide (y.2=.free->C.names.lookup y.1=some .cell\/C.names.lookup y.1=some .free))&&decide (ix.length=(zav sc).length) &&
 ((List.range (zav sc).length).all λk=>match(zav sc)[k]?,ix[k]? with
   |some x,some j=>decide (C.N[j]?=some x)&&decide (sc.names.lookup x=some .free)
   |_,_=>false)&&decide (ownOf sc++zav sc).Nodup
noncomputable def inC(sc:Scope):CC:=⟨ownOf sc++zav sc,sc.names,false⟩
mutual
noncomputable def cE(K:PySem.W.Frag)(T:List Str):Nat->CC->Expr->Option E
 |0,_,_=>none
 |n+1,C,e=>match e with
  |.Name x _=>if okN x then(if visK (C.names.lookup x)then(za0 C.N x 0).map .var
   else if C.names.lookup x==some .globalImplicit then(match PySem.W.nsIn K mainGlobals x with
    |some (some v)=>(cstW K 8 v).map .cst
    |_=>none)else none)else none
  |.Constant c _ _=>(match c with
   |.int i=>some (.cst (.int i))
   |.bool b=>some (.cst (.bl b))
   |.none=>some (.cst .non)
   |.str x=>some (.cst (.str x))
   |_=>none)
  |.Tuple es _ _=>(cL (cE K T n C) es).map .tup
  |.List es _=>(cL (cE K T n C) es).map .lst
  |.Dict ks vs _=>if Nat.ble ks.length 15&&Nat.beq ks.length vs.length&&ks.all (·.isSome)then(cPs (cE K T n C) ks vs).map .dsp else none
  |.BinOp a O b _=>(match opOf O,cE K T n C a,cE K T n C b with
   |some o,some x,some y=>some (.op o x y)
   |_,_,_=>none)
  |.UnaryOp .Not a _=>(cE K T n C a).map .not
  |.UnaryOp .USub a _=>(cE K T n C a).map .neg
  |.BoolOp .And es _=>cB true (cE K T n C) es
  |.BoolOp .Or es _=>cB false (cE K T n C) es
  |.Compare a [O] [b] _=>if zbt b then(match cpOf O,cE K T n C a,cE K T n C b with
   |some c,some x,some y=>some (.cmp c x y)
   |_,_,_=>none)else none
  |.Compare a [O,O'] [b,c] _=>if zbt c then(match cpOf O,cpOf O',cE K T n C a,cE K T n C b,cE K T n C c with
   |some o,some o',some x,some y,some z=>some (.chn o o' x y z)
   |_,_,_,_,_=>none)else none
  |.IfExp c a b _=>(match cT K T n C c,cE K T n C a,cE K T n C b with
   |some z,some x,some y=>some (.ite z x y)
   |_,_,_=>none)
  |.Subscript a (.Slice lo hi none _) _=>(match cE K T n C a,cO (cE K T n C) lo,cO (cE K T n C) hi with
   |some x,some (bl,l),some (bh,u)=>some (.slc x bl l bh u)
   |_,_,_=>none)
  |.Subscript a b _=>if zb9 b then(match cE K T n C a,cE K T n C b with
   |some x,some y=>some (.idx x y)
   |_,_=>none)else none
  |.Call (.Name f _) args [] _=>if okN f&&C.names.lookup f==some .globalImplicit then(match PySem.W.nsIn K mainGlobals f with
   |some none=>if f==("isinstance" : Str)then(match args with
    |[a,.Name t _]=>(match tyOf t,cE K T n C a with
     |some ty,some x=>if okN t&&zc8 K C t then some (.isi ty x)else none
     |_,_=>none)
    |_=>none)
    else(match biOf f,args with
     |some b,_::_=>(cL (cE K T n C) args).map (.bi b)
     |_,_=>none)
   |some (some _)=>if za5 f then(match za0 T f 0,args with
    |some i,_::_=>if zbl K "Balls.__init__" (args.length+1)then(cL (cE K T n C) args).map (λa=>.call i (padE a))else(cL (cE K T n C) args).map (.call i)
    |_,_=>none)else if(metOf f).isSome then none else(match za0 T f 0 with
    |some i=>if zbl K f args.length && !args.isEmpty then(cL (cE K T n C) args).map (λa=>.call i (padE a))else(cL (cE K T n C) args).map (.call i)
    |none=>none)
   |none=>none)else none
  |.Call (.Attribute o mth ap) args [] pos=>if zc7 o&& (ap.endLine==pos.line)then(match metIx mth with
   |some y=>(match clsAt K,za0 T y 0,cE K T n C o,args with
    |some D,some i,some x,_::_=>if Nat.blt args.length 30 then(cL (cE K T n C) args).map (λz=>.mcall D mth i x z)else none
    |_,_,_,_=>none)
   |none=>match cE K T n C o,args with
    |some x,[a]=>if mth==("append" : Str)then(cE K T n C a).map λy=>.mt .append x (.cons y .nil)else none
    |_,_=>none)else none
  |.Attribute o x _=>if zc7 o then(match clsAt K,cE K T n C o with
   |some D,some a=>if zel K D x then some (.att D x a)else none
   |_,_=>none)else none
  |.ListComp elt [⟨tg,iter,ifs,0⟩] sc _=>(match mapO (λx=>za0 C.N x 0) (zav sc)with
   |some ix=>if zc9 C sc ix then(match cW K T n C iter,cTg (inC sc) tg,(match ifs with|[]=>some (.cst (.bl true))|[c]=>cT K T n (inC sc) c|_=>none),cE K T n (inC sc) elt with
    |some (kd,a),some t,some c,some e=>if okW kd tg then some (.lc kd a t (ownOf sc).length ix c e)else none
    |_,_,_,_=>none)else none
   |none=>none)
  |_=>none
noncomputable def cT(K:PySem.W.Frag)(T:List Str):Nat->CC->Expr->Option E
 |0,_,_=>none
 |n+1,C,e=>match e with
  |.Compare a [O] [b] _=>if zbt b then(match cpOf O,cE K T n C a,cE K T n C b with
   |some c,some x,some y=>some (.cmp c x y)
   |_,_,_=>none)else none
  |.Compare a [O,O'] [b,c] _=>if zbt c then(match cpOf O,cpOf O',cE K T n C a,cE K T n C b,cE K T n C c with
   |some o,some o',some x,some y,some z=>some (.chn o o' x y z)
   |_,_,_,_,_=>none)else none
  |.UnaryOp .Not a _=>(cT K T n C a).map .not
  |.BoolOp .And es _=>cB true (cT K T n C) es
  |.BoolOp .Or es _=>cB false (cT K T n C) es
  |.Name x p=>(cE K T n C (.Name x p)).map .tru
  |.Call f as ks p=>(cE K T n C (.Call f as ks p)).map .tru
  |.Subscript a b p=>(cE K T n C (.Subscript a b p)).map .tru
  |_=>none
noncomputable def cW(K:PySem.W.Frag)(T:List Str):Nat->CC->Expr->Option (Kd×E)
 |0,_,_=>none
 |n+1,C,e=>match e with
  |.Call (.Name f p) args [] pos=>if f==("range" : Str)then(if zc8 K C f then(match args with
   |[a]=>(cE K T n C a).map λx=>(.rng1,.cons x .nil)
   |[a,b]=>(match cE K T n C a,cE K T n C b with
    |some x,some y=>some (.rng2,.cons x (.cons y .nil))
    |_,_=>none)
   |_=>none)else none)
   else if f==("enumerate" : Str)then(if zc8 K C f then(match args with
    |[a]=>(cE K T n C a).map λx=>(.enm,x)
    |_=>none)else none)
   else(cE K T n C (.Call (.Name f p) args [] pos)).map λx=>(.seq,x)
  |.Set ..=>none
  |e=>(cE K T n C e).map λx=>(.seq,x)
end
noncomputable def cSs(f:Stmt->Option S):List Stmt->Option S
 |[]=>some .skip
 |s::r=>match f s,cSs f r with
  |some a,some b=>some (.seq a b)
  |_,_=>none
structure RX where
 tel:List Str
 at_:Nat
 tb:List (Nat×Str)
noncomputable def cTry(K:PySem.W.Frag)(T:List Str)(R:RX)(d:Nat)(C:CC)(f:Str)(args:List Expr)(xb nm:Str)(hb:Expr):Option S:=
 if okN f&&C.names.lookup f==some .globalImplicit&& (metOf f).isNone&&okN xb&&C.names.lookup xb==some .globalImplicit&&okN nm&&C.names.lookup nm==some .local&&C.names.lookup ("_law_word" : Str)==some .globalImplicit then
  (match za0 R.tel f 0,PySem.W.nsIn K mainGlobals xb,za0 C.N nm 0,hForm nm hb,cL (cE K T d C) args with
    |some j,some (some (.ref D)),some _,some o,some a=>if R.tb.all λc=>subE K c.1 D then some (.tryc (R.at_+j) a (R.tb.map λc=>(c.1,hW o c.2)))else none
    |_,_,_,_,_=>none)
 else none
noncomputable def cS(K:PySem.W.Frag)(T:List Str)(R:RX)(d:Nat):Nat->CC->Stmt->Option S
 |0,_,_=>none
 |n+1,C,s=>match s with
  |.Pass _=>some .skip
  |.Break _=>some .brk
  |.Continue _=>some .cnt
  |.Raise ..=>some .no
  |.Return none _=>some (.ret (.cst .non))
  |.Return (some e) _=>(cE K T d C e).map .ret
  |.Expr e _=>if zdr e then(cE K T d C e).map .expr else none
  |.Assign [.Name x p] e _=>(match nmIx C (.Name x p),cE K T d C e with
   |some i,some c=>some (.set i c)
   |_,_=>none)
  |.Assign [.Tuple ts _ _] e _=>if noTup e then(match mapO (nmIx C) ts,cE K T d C e with
   |some is,some c=>some (.unp is c)
   |_,_=>none)else none
  |.Assign [.Subscript o i _] e _=>if zb9 i then(match cE K T d C o,cE K T d C i,cE K T d C e with
   |some x,some y,some z=>some (.put x y z)
   |_,_,_=>none)else none
  |.Assign [.Attribute o x _] e _=>if zdr e then(match clsAt K,cE K T d C o,cE K T d C e with
   |some D,some a,some b=>if zel K D x then some (.sat D x a b)else none
   |_,_,_=>none)else none
  |.AugAssign (.Name x p) O e _=>(match nmIx C (.Name x p),ipOf O,cE K T d C e with
   |some i,some o,some c=>some (.aug i o c)
   |_,_,_=>none)
  |.If c a b _=>(match cT K T d C c,cSs (cS K T R d n C) a,cSs (cS K T R d n C) b with
   |some z,some x,some y=>some (.ite z x y)
   |_,_,_=>none)
  |.For tg it b [] _=>(match cW K T d C it,cTg C tg,cSs (cS K T R d n C) b with
   |some (kd,a),some t,some x=>if okW kd tg then some (.for kd a t x)else none
   |_,_,_=>none)
  |.While c b [] _=>(match cT K T d C c,cSs (cS K T R d n C) b with
   |some z,some x=>some (.whl z x)
   |_,_=>none)
  |.Try [.Expr (.Call (.Name f _) (e::es) [] _) _] [.ExceptHandler (some (.Name xb _)) (some nm) [.Return (some hb) _] _] [] [] _=>cTry K T R d C f (e::es) xb nm hb
  |_=>none
structure XOk(X:Cx)(C:CC)(T:List Str)(R:RX)(F:Nat->Option Fn)(k:Nat):Prop where
 hN:X.N=C.N
 nd:C.N.Nodup
 vis:∀x,visK (C.names.lookup x)=true->Vis X.env.scope x
 loc:∀x,locK C.fnAll (C.names.lookup x)=true->Loc X.env.scope x/\(X.fn x=true\/X.env.scope.names.lookup x=some .local)
 gl:∀x,C.names.lookup x=some .globalImplicit->Gl X x
 cf:∀x,(C.names.lookup x=some .cell\/C.names.lookup x=some .free)->X.env.kindOf x=some .cell\/X.env.kindOf x=some .free
 calm:X.calm=true
 room:Room k X.A
 xe:X.xe=λ_ _=>False
 kfn:X.env.scope.kind=.function
 mgs:∀x v,PySem.W.nsIn X.K mainGlobals x=some (some v)->X.mg x=some v
 mgn:∀x,PySem.W.nsIn X.K mainGlobals x=some none->X.mg x=none
 fns:∀(i:Nat)(x:Str),T[i]?=some x->x≠""->za5 x=false->∃f fd ps fn,refAt X.K x=some f/\FnOk X.prog X.w X.K X.mg X.base CX0 k f fd ps (spV X.K ps.length (run F k i))/\PySem.W.keepIn X.K (.ref f)=true/\Binds X.K fd ps []/\F i=some fn/\fn.ps=ps.length/\(hasD X.K x=true->Binds X.K fd ps [.none])
 cls:∀(ci:Nat)(x:Str),T[ci]?=some x->za5 x=true->∀k',k=k'+1->∃D f fd ps ii na,clsAt X.K=some D/\F ci=some (clsFn D ii na)/\Mk X.K D f/\FnOk X.prog X.w X.K X.mg X.base CX0 k' f fd ps (spV X.K ps.length (run F k' ii))/\Binds X.K fd ps []/\(hasD X.K "Balls.__init__" = true->Binds X.K fd ps [.none])/\∀ws h w h',run F k' ii ws h=.ok w h'->ws.length=ps.length
 rs:∀(j:Nat)(x:Str),R.tel[j]?=some x->∃f fd ps fn,refAt X.K x=some f/\FnOk X.prog X.w X.K X.mg X.base (CX1 X.prog X.w) k f fd ps (spX X.K ps.length (run F k (R.at_+j)))/\PySem.W.keepIn X.K (.ref f)=true/\Binds X.K fd ps []/\F (R.at_+j)=some fn/\fn.ps=ps.length
 wd:∀C z,(C,z)∈R.tb->Word X C z
section
variable{X:Cx}{C:CC}{T:List Str}{R:RX}{F:Nat->Option Fn}{k:Nat}
theorem XOk.u65(O:XOk X C T R F k):X.A.units+65<cLine:=by have:=O.room.un;omega
theorem XOk.u2(O:XOk X C T R F k):X.A.units+2<cLine:=Nat.lt_of_le_of_lt (Nat.add_le_add_left (by decide:2<=64) _) O.room.units
theorem zda(O:XOk X C T R F k){x:Str}(h:zc8 X.K C x=true):Gl X x/\X.mg x=none:=by
 unfold zc8 at h
 rw[vaa]at h
 refine⟨O.gl x (by simpa using h.1),O.mgn x ?_⟩
 have h2:=h.2
 split at h2
 .assumption
 .cases h2
theorem nm_ok(O:XOk X C T R F k){e:Expr}{i:Nat}(h:nmIx C e=some i):NmOk X e i:=by
 unfold nmIx at h
 split at h
 .split at h
  .rename_i hc
   rw[vaa]at hc
   obtain⟨h1,h2⟩:=O.loc _ hc.2
   exact⟨_,_,rfl,by rw[O.hN];exact zbu h,h1,h2⟩
  .cases h
 .cases h
theorem zj0(O:XOk X C T R F k):∀{es:List Expr} {is:List Nat},mapO (nmIx C) es=some is->Paired (NmOk X) es is
 |[],_,h=>by cases h;exact .nil
 |e::es,is,h=>by
  unfold mapO at h
  split at h
  .rename_i b hb
   split at h
   .rename_i bs hbs
    cases h
    exact .cons (nm_ok O hb) (zj0 O hbs)
   .cases h
  .cases h
theorem tg_ok(O:XOk X C T R F k){e:Expr}{t:Tg}(h:cTg C e=some t):PG X e (lftG X.K t):=by
 unfold cTg at h
 split at h
 .rename_i x p
  cases z:nmIx C (.Name x p)with
  |none=>rw[z]at h;cases h
  |some i=>
   rw[z]at h;cases h
   obtain⟨x',p',e,h1,h2,h3⟩:=nm_ok O z
   cases e
   exact zrc (O.hN▸O.nd) h1 h2 h3
 .rename_i es kx p
  cases z:mapO (nmIx C) es with
  |none=>rw[z]at h;cases h
  |some is=>rw[z]at h;cases h;exact zji O.calm (O.hN▸O.nd) (zj0 O z)
 .cases h
theorem cL_ok{f:Expr->Option E}{cl:Call}(ih:∀e c,f e=some c->SE X e (ev cl c)/\zah e=true):∀{es:List Expr} {c:E},cL f es=some c->SA X es (ev cl c)/\es.all zah=true
 |[],_,h=>by cases h;exact⟨zjc,rfl⟩
 |e::es,c,h=>by
  unfold cL at h
  split at h
  .rename_i a r ha hr
   cases h
   obtain⟨h1,h2⟩:=ih e a ha
   obtain⟨h3,h4⟩:=cL_ok ih hr
   exact⟨zef h1 h3 (zab h2),by rw[vbw,h2,h4];rfl⟩
  .cases h
theorem zmo{f:Expr->Option E}{cl:Call}{pos:Pos}(ih:∀e c,f e=some c->SE X e (ev cl c)/\zah e=true):∀{ks:List (Option Expr)} {vs:List Expr} {c:E},cPs f ks vs=some c->SPs X pos ks vs (ev cl c)
 |[],[],_,h=>by cases h;exact znw
 |[],_::_,_,h=>by cases h
 |none::_,_,_,h=>by cases h
 |some _::_,[],_,h=>by cases h
 |some a::ks,v::vs,c,h=>by
  unfold cPs at h
  split at h
  .rename_i x y r hx hy hr
   cases h
   exact zk5 (ih _ _ hx).1 (ih _ _ hy).1 (zmo ih hr)
  .cases h
theorem cB_ok{f:Expr->Option E}{cl:Call}{pos:Pos}(ih:∀e c,f e=some c->SE X e (ev cl c)/\zah e=true):∀{es:List Expr} {c:E},(cB true f es=some c->SE X (.BoolOp .And es pos) (ev cl c))/\(cB false f es=some c->SE X (.BoolOp .Or es pos) (ev cl c))
 |[],_=>⟨(λh=>nomatch h),(λh=>nomatch h)⟩
 |[a],c=>⟨λh=>zma (ih a c h).1,λh=>zma (ih a c h).1⟩
 |a::b::r,c=>by
  refine⟨λh=>?_,λh=>?_⟩
  .unfold cB at h
   split at h
   .rename_i x y hx hy
    cases h
    exact zqu (ih a x hx).1 ((cB_ok ih).1 hy)
   .cases h
  .unfold cB at h
   split at h
   .rename_i x y hx hy
    cases h
    exact se_or (ih a x hx).1 ((cB_ok ih).2 hy)
   .cases h
theorem zg3{f:Expr->Option E}{cl:Call}{pos:Pos}(ih:∀e c,f e=some c->ST X e (ev cl c)):∀{es:List Expr} {c:E},(cB true f es=some c->SW X (.BoolOp .And es pos) (ev cl c))/\(cB false f es=some c->SW X (.BoolOp .Or es pos) (ev cl c))
 |[],_=>⟨(λh=>nomatch h),(λh=>nomatch h)⟩
 |[a],c=>⟨λh=>zl9 (ih a c h),λh=>zl9 (ih a c h)⟩
 |a::b::r,c=>by
  refine⟨λh=>?_,λh=>?_⟩
  .unfold cB at h
   split at h
   .rename_i x y hx hy
    cases h
    exact zqt (ih a x hx) ((zg3 ih).1 hy)
   .cases h
  .unfold cB at h
   split at h
   .rename_i x y hx hy
    cases h
    exact sw_or (ih a x hx) ((zg3 ih).2 hy)
   .cases h
theorem cO_ok{f:Expr->Option E}{cl:Call}(ih:∀e c,f e=some c->SE X e (ev cl c)/\zah e=true){o:Option Expr}{b:Bool}{c:E}(h:cO f o=some (b,c)):PO X o (lftO X.K b (ev cl c)):=by
 unfold cO at h
 split at h
 .cases h;exact znt
 .rename_i e
  cases z:f e with
  |none=>rw[z]at h;cases h
  |some c'=>rw[z]at h;cases h;exact znu (ih _ _ z).1
theorem zol{x:Str}{t:Ty}(h:tyOf x=some t):bootBuiltins x=some (.type (tyN t)):=by
 unfold tyOf at h
 split at h
 .rename_i e;cases h;rw[show x = "int" by simpa using e];exact PyProof.Rows.boot_int
 split at h
 .rename_i e;cases h;rw[show x = "bool" by simpa using e];decide +kernel
 split at h
 .rename_i e;cases h;rw[show x = "tuple" by simpa using e];exact PyProof.Rows.boot_tuple
 split at h
 .rename_i e;cases h;rw[show x = "list" by simpa using e];exact PyProof.Rows.boot_list
 split at h
 .rename_i e;cases h;rw[show x = "str" by simpa using e];decide +kernel
 split at h
 .rename_i e;cases h;rw[show x = "dict" by simpa using e];decide +kernel
 .cases h
theorem bi_ok{x:Str}{b:Bi}{e:Expr}{es:List Expr}{fa:FE}{p pos:Pos}(h:biOf x=some b)(hg:Gl X x)(hm:X.mg x=none)(hn:okN x=true)(hc:X.calm=true)(ha:SA X (e::es) fa)(hs:(e::es).all zah=true):SE X (.Call (.Name x p) (e::es) [] pos) (gArg fa (biW b)):=by
 obtain⟨n1,_,n2⟩:=za1 hn
 unfold biOf at h
 split at h
 .rename_i z
  cases h
  have z:x = "len":=by simpa using z
  subst z
  exact zcm ze8 zqz hg hm PySem.boot_len ha hs n2 n1
 split at h
 .rename_i z
  cases h
  have z:x = "list":=by simpa using z
  subst z
  exact zc6 ze9 znv hg hm PyProof.Rows.boot_list ha hs n2 n1
 split at h
 .rename_i z
  cases h
  have z:x = "tuple":=by simpa using z
  subst z
  exact zc6 zeb zk3 hg hm PyProof.Rows.boot_tuple ha hs n2 n1
 split at h
 .rename_i z
  cases h
  have z:x = "int":=by simpa using z
  subst z
  exact zc6 zih zq0 hg hm PyProof.Rows.boot_int ha hs n2 n1
 split at h
 .rename_i z
  cases h
  have z:x = "abs":=by simpa using z
  subst z
  exact zcm zkm zq1 hg hm (by decide +kernel) ha hs n2 n1
 split at h
 .rename_i z
  cases h
  have z:x = "max":=by simpa using z
  subst z
  exact zcm (zif hc) zq2 hg hm (by decide +kernel) ha hs n2 n1
 split at h
 .rename_i z
  cases h
  have z:x = "min":=by simpa using z
  subst z
  exact zcm (zig hc) zq3 hg hm (by decide +kernel) ha hs n2 n1
 cases h
theorem zdx{b:Expr}(h:zb9 b=true):zd9 b:=λo i=>by cases b<;>first|rfl|cases h
end
section
variable{X:Cx}{C:CC}{T:List Str}{R:RX}{F:Nat->Option Fn}{k:Nat}
theorem zan{env:Env}{kd:NameKind}(hk:kd≠.free):∀{l:List (Str×NameKind)} {x:Str},l.lookup x=some kd->
 (l.map λ(n,k)=>if(k==NameKind.free&&env.scope.kind == .function&&env.kindOf n==some .cell)then(n,NameKind.cell)else(n,k)).lookup x=some kd
 |[],_,h=>by cases h
 |(n,j)::r,x,h=>by
  rw[vaj]
  simp only[vaq]at h
  by_cases hx:(x==n)=true
  .simp only[hx]at h
   cases h
   have:(kd==NameKind.free)=false:=by simpa using hk
   simp only[this,vcp,vaf,va1,vaq,hx]
  .have hx':(x==n)=false:=by simpa using hx
   simp only[hx']at h
   have ih:=zan (env:=env) hk (l:=r) (x:=x) h
   by_cases hc':(j==NameKind.free&&env.scope.kind == .function&&env.kindOf n==some .cell)=true
   .simp only[hc',vbb,vaq,hx'];exact ih
   .have hcf:(j==NameKind.free&&env.scope.kind == .function&&env.kindOf n==some .cell)=false:=by simpa using hc'
    simp only[hcf,vaf,va1,vaq,hx'];exact ih
theorem zdy(O:XOk X C T R F k){sc:Scope}{ix:List Nat}(h:zc9 C sc ix=true):CompScope X (ownOf sc) (zav sc) ix sc/\(ownOf sc++zav sc).Nodup:=by
 unfold zc9 at h
 simp only[vaa,vca,vcr]at h
 obtain⟨⟨⟨⟨⟨⟨⟨h1,h2⟩,h3⟩,h4⟩,h5⟩,h6⟩,h7⟩,h8⟩:=h
 refine⟨⟨h1,h2,h3,h4,λy hy e=>O.cf _ (h5 y hy e),λq x e=>?_,h6⟩,h8⟩
 have hk:q< (zav sc).length:=(vak.mp e).1
 have:=h7 q (List.mem_range.mpr hk)
 rw[e]at this
 cases z:ix[q]? with
 |none=>rw[z]at this;cases this
 |some j=>
  rw[z]at this
  simp only[vaa,vca]at this
  exact⟨j,rfl,by rw[O.hN];exact this.1,this.2⟩
theorem zge(O:XOk X C T R F k){sc:Scope}{ix:List Nat}(h:zc9 C sc ix=true)(D:Addr)(s₀:Shared)(H₀:Hp)(ex:List Addr):XOk (X.comp (ownOf sc++zav sc) sc D s₀ H₀ ex) (inC sc) T R F k:=by
 obtain⟨S,nd⟩:=zdy O h
 refine⟨rfl,nd,λx hx=>?_,λx hx=>?_,λx hx=>?_,λx hx=>?_,O.calm,O.room,rfl,S.kind,O.mgs,O.mgn,O.fns,O.cls,O.rs,O.wd⟩
 .have hx:visK (sc.names.lookup x)=true:=hx
  cases z:sc.names.lookup x with
  |none=>rw[z]at hx;cases hx
  |some kd=>
   cases kd with
   | «local»=>exact .inl (zan (by decide) z)
   |cell=>exact .inr (.inl (zan (by decide) z))
   |free=>
    have:=za3 (env:=X.env) O.kfn z
    by_cases hc:X.env.kindOf x=some .cell
    .rw[if_pos hc]at this;exact .inr (.inl this)
    .rw[if_neg hc]at this;exact .inr (.inr this)
   |globalExplicit=>rw[z]at hx;cases hx
   |globalImplicit=>rw[z]at hx;cases hx
 .have hx:locK false (sc.names.lookup x)=true:=hx
  cases z:sc.names.lookup x with
  |none=>rw[z]at hx;cases hx
  |some kd=>
   cases kd with
   | «local»=>exact⟨.inl (zan (by decide) z),.inr (zan (by decide) z)⟩
   |cell=>rw[z]at hx;cases hx
   |free=>rw[z]at hx;cases hx
   |globalExplicit=>rw[z]at hx;cases hx
   |globalImplicit=>rw[z]at hx;cases hx
 .exact zan (by decide) hx
 .have hx:sc.names.lookup x=some .cell\/sc.names.lookup x=some .free:=hx
  rcases hx with z|z
  .exact .inl (zan (by decide) z)
  .have:=za3 (env:=X.env) O.kfn z
   by_cases hc:X.env.kindOf x=some .cell
   .rw[if_pos hc]at this;exact .inl this
   .rw[if_neg hc]at this;exact .inr this
end
theorem map_some{α β:Type}{o:Option α}{f:α->β}{b:β}(h:o.map f=some b):∃a,o=some a/\b=f a:=by
 cases o with
 |none=>cases h
 |some a=>cases h;exact⟨a,rfl,rfl⟩
structure Snd(X:Cx)(C:CC)(T:List Str)(F:Nat->Option Fn)(k n:Nat):Prop where
 e:∀e c,cE X.K T n C e=some c->SE X e (ev (run F k) c)/\zah e=true
 t:∀e c,cT X.K T n C e=some c->ST X e (ev (run F k) c)
 w:∀e kd c tg,cW X.K T n C e=some (kd,c)->okW kd tg=true->PI X tg e (lftI X.K kd (ev (run F k) c))/\∀x,foldedSetIterable e X.env x=pure x
section
variable{X:Cx}{C:CC}{T:List Str}{R:RX}{F:Nat->Option Fn}{k n:Nat}
theorem snd_t(O:XOk X C T R F k)(ih:Snd X C T F k n)(e:Expr)(c:E)(h:cT X.K T (n+1) C e=some c):ST X e (ev (run F k) c):=by
 unfold cT at h
 split at h
 .split at h
  .rename_i hs
   split at h
   .rename_i h1 h2 h3
    cases h
    exact zqo O.u65 h1 hs (ih.e _ _ h2).1 (ih.e _ _ h3).1
   .cases h
  .cases h
 .split at h
  .rename_i hs
   split at h
   .rename_i h1 h2 h3 h4 h5
    cases h
    exact zqq O.u65 h1 h2 hs (ih.e _ _ h3).1 (ih.e _ _ h4).1 (ih.e _ _ h5).1
   .cases h
  .cases h
 .obtain⟨a,h1,rfl⟩:=map_some h
  exact zqr (ih.t _ _ h1)
 .exact((zg3 ih.t).1 h).pt
 .exact((zg3 ih.t).2 h).pt
 .obtain⟨a,h1,rfl⟩:=map_some h
  exact zjf (ih.e _ _ h1).1 λ_=>rfl
 .obtain⟨a,h1,rfl⟩:=map_some h
  exact zjf (ih.e _ _ h1).1 λ_=>rfl
 .obtain⟨a,h1,rfl⟩:=map_some h
  exact zjf (ih.e _ _ h1).1 λ_=>rfl
 .cases h
theorem noSet{e:Expr}(h:∀a b c,e≠.Set a b c){env:Env}:∀x,foldedSetIterable e env x=pure x:=by
 intro x
 cases e<;>first|rfl|exact absurd rfl (h _ _ _)
theorem snd_w(O:XOk X C T R F k)(ih:Snd X C T F k n)(e:Expr)(kd:Kd)(c:E)(tg:Expr)(h:cW X.K T (n+1) C e=some (kd,c))(hw:okW kd tg=true):PI X tg e (lftI X.K kd (ev (run F k) c))/\∀x,foldedSetIterable e X.env x=pure x:=by
 unfold cW at h
 split at h
 .rename_i f p args pos
  refine⟨?_,λx=>rfl⟩
  split at h
  .rename_i hf
   have hf:f = "range":=by simpa using hf
   subst hf
   split at h
   .rename_i ha
    obtain⟨g1,g2⟩:=zda O ha
    split at h
    .rename_i a
     obtain⟨x,h1,h2⟩:=map_some h
     cases h2
     obtain⟨h3,h4⟩:=ih.e _ _ h1
     exact zn0 (zef h3 zjc (zab h4)) h4 g1 g2
    .rename_i a b
     split at h
     .rename_i x y h1 h2
      cases h
      obtain⟨h3,h4⟩:=ih.e _ _ h1
      obtain⟨h5,h6⟩:=ih.e _ _ h2
      exact zn1 (zef h3 (zef h5 zjc (zab h6)) (zab h4)) h4 h6 g1 g2
     .cases h
    .cases h
   .cases h
  .split at h
   .rename_i hf
    have hf:f = "enumerate":=by simpa using hf
    subst hf
    split at h
    .rename_i ha
     obtain⟨g1,g2⟩:=zda O ha
     split at h
     .rename_i a
      obtain⟨x,h1,h2⟩:=map_some h
      cases h2
      obtain⟨h3,h4⟩:=ih.e _ _ h1
      cases tg<;>first|exact zrb h3 h4 g1 g2|cases hw
     .cases h
    .cases h
   .obtain⟨x,h1,h2⟩:=map_some h
    cases h2
    exact zmc (ih.e _ _ h1).1
 .cases h
 .rename_i hns
  obtain⟨x,h1,h2⟩:=map_some h
  cases h2
  exact⟨zmc (ih.e _ _ h1).1,noSet (by first|exact hns|(intro a b c z;exact hns a b c z))⟩
end
section
variable{X:Cx}{C:CC}{T:List Str}{R:RX}{F:Nat->Option Fn}{k n:Nat}
theorem zlm(O:XOk X C T R F k){x:Str}{p:Pos}{c:E}(h:cE X.K T (n+1) C (.Name x p)=some c):SE X (.Name x p) (ev (run F k) c):=by
 simp only[cE]at h
 split at h
 .rename_i hn
  obtain⟨n1,n2,n3⟩:=za1 hn
  split at h
  .rename_i hv
   obtain⟨i,h1,rfl⟩:=map_some h
   exact zqf (by rw[O.hN];exact zbu h1) (O.vis x hv) n1 n2
  .split at h
   .rename_i hg
    split at h
    .rename_i v hv
     obtain⟨w,h1,rfl⟩:=map_some h
     obtain⟨y,h2,h3⟩:=zml 8 v w h1
     exact zff (zh1 (O.gl x (by simpa using hg)) (O.mgs x v hv) h2 n1) h3
    .cases h
   .cases h
 .cases h
theorem zom{cl:Call}{i:Nat}{a:E}(h:argsE a=true):ev cl (.call i (padE a))=gArg (ev cl a) (λws h=>cl i (ws++[.non]) h):=by
 funext ρ h1
 simp only[ev,zmm h]
 show Res.bind (Res.bind (ev cl a ρ h1) _) _=Res.bind (ev cl a ρ h1) _
 cases ev cl a ρ h1 with
 |no=>rfl
 |ex _ _=>rfl
 |ok y h2=>cases y<;>rfl
theorem zon(O:XOk X C T R F k)(ih:Snd X C T F k n){f:Str}{p pos:Pos}{args:List Expr}{c:E}(hcl:za5 f=true)(hn:okN f=true)(hg:Gl X f)
 (h:(match za0 T f 0,args with
      |some i,_::_=>if zbl X.K "Balls.__init__" (args.length+1)=true then(cL (cE X.K T n C) args).map (λa=>.call i (padE a))else(cL (cE X.K T n C) args).map (.call i)
      |_,_=>none)=some c):SE X (.Call (.Name f p) args [] pos) (ev (run F k) c):=by
 split at h
 .rename_i i e es hi
  have hx:f = "Balls":=by unfold za5 at hcl;simpa using hcl
  cases k with
  |zero=>
   have nev:∀(a:E)(ρ:En)(h1:VH)(w:W)(h':VH),ev (run F 0) (.call i a) ρ h1≠.ok w h':=λa ρ h1 w h' q=>by
    simp only[ev]at q
    refine zaa q λy h2 _ e2=>?_
    cases y<;>cases e2
   intro pins s σ H Q I ⟨ρ,h1,m,w,h',_,_,q,_⟩
   split at h
   .obtain⟨a,_,rfl⟩:=map_some h
    exact absurd q (nev _ _ _ _ _)
   .obtain⟨a,_,rfl⟩:=map_some h
    exact absurd q (nev _ _ _ _ _)
  |succ k=>
   obtain⟨D,g,fd,ps,ii,na,a1,a2,a3,a4,a5,a6,a7⟩:=O.cls i f (zbu hi) hcl k rfl
   have hm:X.mg f=some (.ref D):=by rw[hx];exact O.mgs _ _ (zcp a1).1
   split at h
   .rename_i hlv
    obtain⟨a,h1,rfl⟩:=map_some h
    obtain⟨h2,h3⟩:=cL_ok ih.e h1
    rw[zom (zgd h1)]
    exact zoa a2 a3 a4 O.room hg hm (a6 (zdw hlv)) h2 h3 (za1 hn).1 a7
   .obtain⟨a,h1,rfl⟩:=map_some h
    obtain⟨h2,h3⟩:=cL_ok ih.e h1
    exact zrv a2 a3 a4 O.room hg hm a5 h2 h3 (za1 hn).1 a7
 .cases h
theorem zln(O:XOk X C T R F k)(ih:Snd X C T F k n){f:Str}{p pos:Pos}{args:List Expr}{c:E}(h:cE X.K T (n+1) C (.Call (.Name f p) args [] pos)=some c):SE X (.Call (.Name f p) args [] pos) (ev (run F k) c):=by
 simp only[cE]at h
 split at h
 .rename_i hn
  rw[vaa]at hn
  have hg:=O.gl f (by simpa using hn.2)
  split at h
  .rename_i hm
   have hm:=O.mgn f hm
   split at h
   .rename_i hf
    have hf:f = "isinstance":=by simpa using hf
    subst hf
    split at h
    .rename_i a t pt
     split at h
     .rename_i ty x h1 h2
      split at h
      .rename_i hc
       cases h
       rw[vaa]at hc
       obtain⟨g1,g2⟩:=zda O hc.2
       obtain⟨h3,h4⟩:=ih.e _ _ h2
       obtain⟨n1,n2,n3⟩:=za1 hc.1
       exact zq5 ty h3 h4 hg hm g1 g2 (zol h1) n3 n1
      .cases h
     .cases h
    .cases h
   .split at h
    .rename_i b e es hb
     obtain⟨a,h1,rfl⟩:=map_some h
     obtain⟨h2,h3⟩:=cL_ok ih.e h1
     exact bi_ok hb hg hm hn.1 O.calm h2 h3
    .cases h
  .rename_i v hv
   split at h
   .rename_i hcl
    exact zon O ih (hcl:=hcl) hn.1 hg h
   rename_i hncl
   split at h
   .cases h
   rename_i hnm
   have hnm:metOf f=none:=by simpa using hnm
   split at h
   .rename_i i hi
    obtain⟨fa,fd,ps,fn,q1,q2,q3,q4,q5,q6,q7⟩:=O.fns i f (zbu hi) (zr3 hn.1) (by simpa using hncl)
    have q1:=zb1 q1 hnm
    split at h
    .rename_i hlv
     rw[vaa]at hlv
     obtain⟨a,h1,rfl⟩:=map_some h
     obtain⟨h2,h3⟩:=cL_ok ih.e h1
     have hl:∀ws h w h',run F k i ws h=.ok w h'->ws.length=ps.length:=λws h w h' e=>by rw[zbk q5 e,q6]
     have hev:ev (run F k) (.call i (padE a))=gArg (ev (run F k) a) (λws h=>run F k i (ws++[.non]) h):=by
      funext ρ h
      simp only[ev,zmm (zgd h1)]
      show Res.bind (Res.bind (ev (run F k) a ρ h) _) _=Res.bind (ev (run F k) a ρ h) _
      cases ev (run F k) a ρ h with
      |no=>rfl
      |ex _ _=>rfl
      |ok y h2=>cases y<;>rfl
     rw[hev]
     cases args with
     |nil=>cases hlv.2
     |cons e es=>exact zk7 q2 O.room hg (O.mgs f _ q1) q3 (q7 (zdw hlv.1)) h2 h3 (za1 hn.1).1 hl
    obtain⟨a,h1,rfl⟩:=map_some h
    obtain⟨h2,h3⟩:=cL_ok ih.e h1
    have hl:∀ws h w h',run F k i ws h=.ok w h'->ws.length=ps.length:=λws h w h' e=>by rw[zbk q5 e,q6]
    cases args with
    |nil=>
     simp only[cL]at h1
     cases h1
     exact zk6 q2 O.room hg (O.mgs f _ q1) q3 q4 (za1 hn.1).1 hl
    |cons e es=>exact zny q2 O.room hg (O.mgs f _ q1) q3 q4 h2 h3 (za1 hn.1).1 hl
   .cases h
  .cases h
 .cases h
theorem zlo(O:XOk X C T R F k)(ih:Snd X C T F k n){o:Expr}{m:Str}{ap pos:Pos}{args:List Expr}{c:E}(h:cE X.K T (n+1) C (.Call (.Attribute o m ap) args [] pos)=some c):SE X (.Call (.Attribute o m ap) args [] pos) (ev (run F k) c):=by
 simp only[cE]at h
 split at h
 .rename_i hn
  rw[vaa]at hn
  split at h
  .rename_i y hy
   obtain⟨y1,y2,y3⟩:=zlg hy
   split at h
   .rename_i D i x e es hD hi hx
    split at h
    .rename_i hlt
     obtain⟨z,h1,rfl⟩:=map_some h
     obtain⟨h2,h3⟩:=cL_ok ih.e h1
     obtain⟨fa,fd,ps,fn,q1,q2,q3,q4,q5,q6,q7⟩:=O.fns i y (zbu hi) y2 y3
     have hl:∀ws h w h',run F k i ws h=.ok w h'->ws.length=ps.length:=λws h w h' e=>by rw[zbk q5 e,q6]
     exact zlf (zcp hD).2 (zhs q1 y1 hD) q2 O.room q4 (ih.e _ _ hx).1 h2 h3 hl (zoc hn.1 hn.2 h3 hlt)
    .cases h
   .cases h
  split at h
  .rename_i x a hx
   split at h
   .rename_i hm
    have hm:m = "append":=by simpa using hm
    subst hm
    obtain⟨y,h1,rfl⟩:=map_some h
    obtain⟨h2,h3⟩:=ih.e _ _ h1
    exact zjg (ih.e _ _ hx).1 h2 hn.1 h3 hn.2
   .cases h
  .cases h
 .cases h
theorem zr4{ow fr:List Str}{sc:Scope}{ifs:List Expr}{c:E}(O:∀D s₀ H₀ ex,Snd (X.comp (ow++fr) sc D s₀ H₀ ex) (inC sc) T F k n)
 (h:(match ifs with|[]=>some (E.cst (.bl true))|[c]=>cT X.K T n (inC sc) c|_=>none)=some c) (D:Addr) (s₀:Shared) (H₀:Hp) (ex:List Addr):PTs (X.comp (ow++fr) sc D s₀ H₀ ex) ifs (lftT X.K (ev (run F k) c)):=by
 split at h
 .cases h
  exact λpins s σ H Q I z9=>z9.el λρ h m b h' f r e q=>by
   cases e
   exact znh pins s σ H Q I (q H m .refl r)
 .exact zni ((O D s₀ H₀ ex).t _ _ h)
 .cases h
theorem zmp(O:XOk X C T R F k)(ih:Snd X C T F k n)(ihc:∀{sc:Scope} {ix:List Nat},zc9 C sc ix=true->∀D s₀ H₀ ex,Snd (X.comp (ownOf sc++zav sc) sc D s₀ H₀ ex) (inC sc) T F k n)
 {elt tg iter:Expr} {ifs:List Expr} {sc:Scope} {pos:Pos} {c:E} (h:cE X.K T (n+1) C (.ListComp elt [⟨tg,iter,ifs,0⟩] sc pos)=some c) :
 ∃kd a t ix cc ce,c=.lc kd a t (ownOf sc).length ix cc ce/\CompScope X (ownOf sc) (zav sc) ix sc/\PI X tg iter (lftI X.K kd (ev (run F k) a))/\(∀D s₀ H₀ ex,PG (X.comp (ownOf sc++zav sc) sc D s₀ H₀ ex) tg (lftG X.K t))/\
  (∀D s₀ H₀ ex,PTs (X.comp (ownOf sc++zav sc) sc D s₀ H₀ ex) ifs (lftT X.K (ev (run F k) cc)))/\(∀D s₀ H₀ ex,PE (X.comp (ownOf sc++zav sc) sc D s₀ H₀ ex) elt (lft X.K (ev (run F k) ce)))/\∀x,foldedSetIterable iter X.env x=pure x:=by
 simp only[cE]at h
 split at h
 .rename_i ix hix
  split at h
  .rename_i hc
   split at h
   .rename_i kd a t cc ce h1 h2 h3 h4
    split at h
    case isFalse=>cases h
    rename_i hw
    cases h
    obtain⟨w1,w2⟩:=ih.w _ _ _ tg h1 hw
    exact⟨kd,a,t,ix,cc,ce,rfl,(zdy O hc).1,w1,λD s₀ H₀ ex=>tg_ok (zge O hc D s₀ H₀ ex) h2,zr4 (ihc hc) h3,λD s₀ H₀ ex=>((ihc hc D s₀ H₀ ex).e _ _ h4).1,w2⟩
   .cases h
  .cases h
 .cases h
theorem snd_e(O:XOk X C T R F k)(ih:Snd X C T F k n)(ihc:∀{sc:Scope} {ix:List Nat},zc9 C sc ix=true->∀D s₀ H₀ ex,Snd (X.comp (ownOf sc++zav sc) sc D s₀ H₀ ex) (inC sc) T F k n)
 (e:Expr) (c:E) (h:cE X.K T (n+1) C e=some c):SE X e (ev (run F k) c)/\zah e=true:=by
 have h0:=h
 unfold cE at h
 split at h
 .exact⟨zlm O h0,rfl⟩
 .refine⟨?_,rfl⟩
  split at h
  .cases h;exact zqg
  .cases h;exact se_bl
  .cases h;exact zqh
  .cases h;exact zqi
  .cases h
 .obtain⟨a,h1,rfl⟩:=map_some h
  exact⟨zqj (cL_ok ih.e h1).1,rfl⟩
 .obtain⟨a,h1,rfl⟩:=map_some h
  exact⟨zqk (cL_ok ih.e h1).1,rfl⟩
 .refine⟨?_,rfl⟩
  rename_i ks vs pos
  split at h
  .rename_i hc
   simp only[vaa]at hc
   obtain⟨a,h1,rfl⟩:=map_some h
   cases ks with
   |nil=>
    cases vs with
    |nil=>simp only[cPs]at h1;cases h1;exact znx
    |cons _ _=>cases h1
   |cons q ks=>exact zq7 O.u2 (zmo ih.e h1) hc.2 (vbp hc.1.2) (by simp) (vau hc.1.1)
  .cases h
 .refine⟨?_,rfl⟩
  split at h
  .rename_i h1 h2 h3
   cases h
   exact se_op (op_ok h1) (zql _) (ih.e _ _ h2).1 (ih.e _ _ h3).1
  .cases h
 .obtain⟨a,h1,rfl⟩:=map_some h
  exact⟨zqs (ih.e _ _ h1).1,rfl⟩
 .obtain⟨a,h1,rfl⟩:=map_some h
  exact⟨zqw (ih.e _ _ h1).1,rfl⟩
 .exact⟨(cB_ok ih.e).1 h,rfl⟩
 .exact⟨(cB_ok ih.e).2 h,rfl⟩
 .refine⟨?_,rfl⟩
  split at h
  .rename_i hs
   split at h
   .rename_i h1 h2 h3
    cases h
    exact zqn O.u65 h1 hs (ih.e _ _ h2).1 (ih.e _ _ h3).1
   .cases h
  .cases h
 .refine⟨?_,rfl⟩
  split at h
  .rename_i hs
   split at h
   .rename_i h1 h2 h3 h4 h5
    cases h
    exact zqp O.u65 h1 h2 hs (ih.e _ _ h3).1 (ih.e _ _ h4).1 (ih.e _ _ h5).1
   .cases h
  .cases h
 .refine⟨?_,rfl⟩
  split at h
  .rename_i h1 h2 h3
   cases h
   exact zqv (ih.t _ _ h1) (ih.e _ _ h2).1 (ih.e _ _ h3).1
  .cases h
 .refine⟨?_,rfl⟩
  split at h
  .rename_i h1 h2 h3
   cases h
   exact zqy (ih.e _ _ h1).1 (cO_ok ih.e h2) (cO_ok ih.e h3)
  .cases h
 .refine⟨?_,rfl⟩
  split at h
  .rename_i hs
   split at h
   .rename_i h1 h2
    cases h
    exact zqx O.u2 (ih.e _ _ h1).1 (ih.e _ _ h2).1 (zdx hs)
   .cases h
  .cases h
 .exact⟨zln O ih h0,rfl⟩
 .exact⟨zlo O ih h0,rfl⟩
 .refine⟨?_,rfl⟩
  split at h
  .rename_i hpl
   split at h
   .rename_i D a hD ha
    split at h
    .rename_i hna
     cases h
     exact zrl (zcp hD).2 (zdv hna) (ih.e _ _ ha).1 (zf9 hpl)
    .cases h
   .cases h
  .cases h
 .refine⟨?_,rfl⟩
  obtain⟨kd,a,t,ix,cc,ce,rfl,S,w1,w2,w3,w4,w5⟩:=zmp O ih ihc h0
  exact se_lc S O.calm w1 w2 w3 w4 w5
 .cases h
end
theorem zce{T:List Str}{R:RX}{F:Nat->Option Fn}{k:Nat}:∀(n:Nat) {X:Cx} {C:CC},XOk X C T R F k->Snd X C T F k n
 |0,_,_,_=>⟨(λe c h=>nomatch h),(λe c h=>nomatch h),(λe kd c tg h _=>nomatch h)⟩
 |n+1,X,C,O=>by
  have ih:=zce n O
  have ihc:∀{sc:Scope}{ix:List Nat},zc9 C sc ix=true->∀D s₀ H₀ ex,Snd (X.comp (ownOf sc++zav sc) sc D s₀ H₀ ex) (inC sc) T F k n:=λhc D s₀ H₀ ex=>zce n (zge O hc D s₀ H₀ ex)
  exact⟨snd_e O ih ihc,snd_t O ih,snd_w O ih⟩
section
variable{X:Cx}{C:CC}{T:List Str}{R:RX}{F:Nat->Option Fn}{k d:Nat}
theorem zbv{f:Stmt->Option S}{cl:Call}(ih:∀st c,f st=some c->SS X st (exs cl c)):∀{sts:List Stmt} {c:S},cSs f sts=some c->SSs X sts (exs cl c)
 |[],_,h=>by cases h;exact zn3
 |s::r,c,h=>by
  unfold cSs at h
  split at h
  .rename_i a b ha hb
   cases h
   exact zlb (ih s a ha) (zbv ih hb)
  .cases h
theorem zoo(O:XOk X C T R F k){x:Str}{p pos:Pos}{e:Expr}{i:Nat}{c:E}(hi:nmIx C (.Name x p)=some i)(h:cE X.K T d C e=some c):SS X (.Assign [.Name x p] e pos) (exs (run F k) (.set i c)):=by
 obtain⟨x',p',ex,h1,h2,h3⟩:=nm_ok O hi
 cases ex
 have nd:X.N.Nodup:=O.hN▸O.nd
 have Sd:=zce (T:=T) (F:=F) (k:=k) d O
 by_cases hc:zdr e=true
 .exact zmg nd h1 h2 h3 (Sd.e _ _ h).1 (zcn hc)
 .cases d with
  |zero=>cases h
  |succ n=>
   cases e with
   |ListComp elt gs sc lp=>
    have sw:∃b:Bool,swapsWith (.ListComp elt gs sc lp) (some (.Name x p)) pos.line X.env=pure b:=⟨_,rfl⟩
    obtain⟨b,hb⟩:=sw
    cases b with
    |false=>exact zmg nd h1 h2 h3 (Sd.e _ _ h).1 hb
    |true=>
     have h0:=h
     unfold cE at h
     split at h<;>first
      |(rename_i z;cases z;done)
      |skip
     all_goals first
      |(rename_i elt' tg iter ifs sc' lp' z
        cases z
        obtain⟨kd,a,t,ix,cc,ce,rfl,S,w1,w2,w3,w4,w5⟩:=zmp O (zce n O) (λhc D s₀ H₀ ex=>zce n (zge O hc D s₀ H₀ ex)) h0
        exact zlc nd h1 h2 h3 S O.calm w1 w2 w3 w4 hb w5)
      |cases h
   |SetComp _ _ _ _=>unfold cE at h;cases h
   |DictComp _ _ _ _ _=>unfold cE at h;cases h
   |_=>exact absurd rfl hc
structure XTop(X:Cx)(C:CC):Prop where
 stk:X.stack=X.env::X.outer
 fr:X.env.frame=some X.env.locals
 fn:∀x,X.fn x=true
 lc:∀x,C.names.lookup x=some .local->X.env.kindOf x=some .local/\Loc X.env.scope x/\Vis X.env.scope x
theorem zop(O:XOk X C T R F k)(tp:XTop X C){f xb nm:Str}{e hb:Expr}{es:List Expr}{p cpos epos t2 hpos pos rp:Pos}{c:S}(h:cTry X.K T R d C f (e::es) xb nm hb=some c) :
 SS X (.Try [.Expr (.Call (.Name f p) (e::es) [] cpos) epos] [.ExceptHandler (some (.Name xb t2)) (some nm) [.Return (some hb) rp] hpos] [] [] pos) (exs (run F k) c):=by
 unfold cTry at h
 split at h
 case isFalse=>cases h
 rename_i hc
 simp only[vaa,vbx]at hc
 obtain⟨⟨⟨⟨⟨⟨⟨c1,c2⟩,c3⟩,c4⟩,c5⟩,c6⟩,c7⟩,c8⟩:=hc
 split at h
 case h_2=>cases h
 rename_i j D i o a hj hD hi ho ha
 split at h
 case isFalse=>cases h
 rename_i hs
 cases h
 cases k with
 |zero=>
  intro pins s σ H D0 I z9
  refine z9.el λρ h m fl h' fr r e1 kk=>?_
  simp only[exs]at e1
  refine zaa e1 λy h1 e2 e3=>?_
  cases y<;>first|cases e3|(refine zaa e3 λw h2 e4 e5=>?_;cases e4)
 |succ k=>
  obtain⟨fa,fd,ps,fn,q1,q2,q3,q4,q5,q6⟩:=O.rs j f (zbu hj)
  have Sd:=zce (T:=T) (F:=F) (k:=k+1) d O
  obtain⟨h2,h3⟩:=cL_ok Sd.e ha
  obtain⟨l1,l2,l3⟩:=tp.lc nm c7
  refine zr2 (tb:=R.tb) tp.stk tp.fr q2 O.room (λx=>O.room.h) (O.gl f c2) (O.mgs f _ (zb1 q1 (by simpa using c3))) q3 q4 (λws h w h' e=>by rw[zbk q5 e,q6]) (by
   have e:X.nox=X:=by
    have:=O.xe
    obtain⟨⟩:=X
    cases this
    rfl
   rw[e]
   exact h2) h3 (O.gl xb c5) (O.mgs xb _ hD) (O.hN▸O.nd) (by rw[O.hN];exact zbu hi) l1 l2 l3 (tp.fn nm) ho O.wd (O.gl _ c8) (λC z hm=>?_) (za1 c1).1 (za1 c4).1 (za1 c6).1 (za1 c6).2.1
  exact(vcr.mp hs) _ hm
theorem snd_s(O:XOk X C T R F k)(tp:XTop X C):∀(n:Nat) (st:Stmt) (c:S),cS X.K T R d n C st=some c->SS X st (exs (run F k) c)
 |0,_,_,h=>by cases h
 |n+1,st,c,h=>by
  have nd:X.N.Nodup:=O.hN▸O.nd
  have Sd:=zce (T:=T) (F:=F) (k:=k) d O
  have ih:=snd_s O tp n
  have hp:PassesOwn (model X.prog X.w) X.A X.env X.xe:=by rw[O.xe];exact PassesOwn.never
  unfold cS at h
  split at h
  .cases h;exact zn4
  .cases h;exact zrh
  .cases h;exact zri
  .cases h;exact ss_no
  .cases h;exact zn6
  .obtain⟨a,h1,rfl⟩:=map_some h
   exact zrj (Sd.e _ _ h1).1
  .split at h
   .rename_i hc
    obtain⟨a,h1,rfl⟩:=map_some h
    exact zn5 (Sd.e _ _ h1).1 hc
   .cases h
  .split at h
   .rename_i i a h1 h2
    cases h
    exact zoo O h1 h2
   .cases h
  .split at h
   .rename_i ht
    split at h
    .rename_i h1 h2
     cases h
     exact zrk O.calm nd (zj0 O h1) (Sd.e _ _ h2).1 ht
    .cases h
   .cases h
  .split at h
   .rename_i hs
    split at h
    .rename_i h1 h2 h3
     cases h
     exact zrn O.u2 (Sd.e _ _ h1).1 (Sd.e _ _ h2).1 (Sd.e _ _ h3).1 hs
    .cases h
   .cases h
  .split at h
   .rename_i hs
    split at h
    .rename_i D a b hD ha hb
     split at h
     .rename_i hna
      cases h
      exact zrm (zcp hD).2 (zdv hna) (Sd.e _ _ ha).1 (Sd.e _ _ hb).1 (zcn hs)
     .cases h
    .cases h
   .cases h
  .split at h
   .rename_i h1 h2 h3
    cases h
    obtain⟨x',p',ex,a1,a2,a3⟩:=nm_ok O h1
    cases ex
    exact zrq h2 nd a1 a2 a3 (Sd.e _ _ h3).1
   .cases h
  .split at h
   .rename_i h1 h2 h3
    cases h
    exact zrr (Sd.t _ _ h1) (zbv ih h2) (zbv ih h3)
   .cases h
  .rename_i tg it b pos
   split at h
   .rename_i h1 h2 h3
    split at h
    case isFalse=>cases h
    rename_i hw
    cases h
    obtain⟨w1,w2⟩:=Sd.w _ _ _ tg h1 hw
    exact zrt hp O.calm w1 (tg_ok O h2) (zbv ih h3) w2
   .cases h
  .split at h
   .rename_i h1 h2
    cases h
    exact zru hp (Sd.t _ _ h1) (zbv ih h2)
   .cases h
  .exact zop O tp h
  .cases h
end
noncomputable def mkEB(K:PySem.W.Frag)(D:Addr):Bool:=XL.excCls K D&& (match PySem.W.findIn K (.ref D) "__init__"with
 |some (some (.builtin b))=>b == "ValueError.__init__"
 |_=>false)&&PySem.W.keepIn K (.ref D)
theorem zoq{K:PySem.W.Frag}{D:Addr}(h:mkEB K D=true):MkE K D:=by
 unfold mkEB at h
 rw[vaa,vaa]at h
 obtain⟨⟨h1,h2⟩,h3⟩:=h
 refine⟨h1,?_,h3⟩
 split at h2
 .rename_i b e
  rw[e,show b = "ValueError.__init__" by simpa using h2]
 .cases h2
noncomputable def excAt(K:PySem.W.Frag)(C:CC)(x:Str):Option Addr:=if okN x&&C.names.lookup x==some .globalImplicit then(match PySem.W.nsIn K mainGlobals x with
 |some (some (.ref D))=>if mkEB K D then some D else none
 |_=>none)else none
noncomputable def cX(K:PySem.W.Frag)(T:List Str)(R:RX)(d:Nat):Nat->CC->Stmt->Option S
 |0,_,_=>none
 |n+1,C,s=>match s with
  |.Raise (some (.Call (.Name x _) [] [] _)) none _=>(excAt K C x).map λD=>.ret (.cst (.int (D:Nat)))
  |.Return (some e) _=>(cE K T d C e).map λa=>.ret (.tup (.cons a .nil))
  |.If c a b _=>(match cT K T d C c,cSs (cX K T R d n C) a,cSs (cX K T R d n C) b with
   |some z,some x,some y=>some (.ite z x y)
   |_,_,_=>none)
  |s=>(match cS K T R d (n+1) C s with
   |some c=>if noRet c then some c else none
   |none=>none)
theorem zlp{cl:Call}{a:E}:exs cl (.ret (.tup (.cons a .nil)))=λρ h=>(ev cl a ρ h).bind λw h=>.ok (.rt (.tup [w])) h:=by
 funext ρ h
 simp only[exs,ev]
 cases ev cl a ρ h<;>rfl
section
variable{X:Cx}{E:XK}{C:CC}{T:List Str}{R:RX}{F:Nat->Option Fn}{k d:Nat}
theorem zcq{f:Stmt->Option S}{cl:Call}(ih:∀st c,f st=some c->SX X E st (exs cl c)):∀{sts:List Stmt} {c:S},cSs f sts=some c->SXs X E sts (exs cl c)
 |[],_,h=>by cases h;exact zog
 |s::r,c,h=>by
  unfold cSs at h
  split at h
  .rename_i a b ha hb
   cases h
   exact zlj (ih s a ha) (zcq ih hb)
  .cases h
theorem snd_x(O:XOk X.nox C T R F k)(tp:XTop X.nox C):∀(n:Nat) (st:Stmt) (c:S),cX X.K T R d n C st=some c->SX X E st (exs (run F k) c)
 |0,_,_,h=>by cases h
 |n+1,st,c,h=>by
  have Sd:=zce (T:=T) (F:=F) (k:=k) d O
  have ih:=snd_x O tp n
  unfold cX at h
  split at h
  .rename_i x p cp pos
   obtain⟨D,h1,rfl⟩:=map_some h
   unfold excAt at h1
   split at h1
   .rename_i hc
    rw[vaa,vbx]at hc
    split at h1
    .rename_i D' hD
     split at h1
     .rename_i hm
      cases h1
      exact zlk (zoq hm) O.calm (O.gl x hc.2) (O.mgs x _ hD) (za1 hc.1).1
     .cases h1
    .cases h1
   .cases h1
  .obtain⟨a,h1,rfl⟩:=map_some h
   rw[zlp]
   exact zr1 (Sd.e _ _ h1).1
  .split at h
   .rename_i h1 h2 h3
    cases h
    exact zr0 (Sd.t _ _ h1) (zcq ih h2) (zcq ih h3)
   .cases h
  .split at h
   .rename_i c' hc
    split at h
    .rename_i hn
     cases h
     exact zli (snd_s O tp (n+1) _ _ hc) hn
    .cases h
   .cases h
end
noncomputable def zep:FuncBody->Option (List Stmt)
 |.stmts b=>some b
 |_=>none
theorem zht{d:Data}(h:zeo d=true):∃n,d=.seq #[.none] n:=by
 cases d with
 |seq xs n=>
  obtain⟨l⟩:=xs
  unfold zeo at h
  simp only[]at h
  split at h
  .rename_i v
   cases v<;>first|exact⟨n,rfl⟩|cases h
  .cases h
 |_=>cases h
theorem zlq{K:PySem.W.Frag}{v:Value}(h:noneD K v=true):∃t o n,v=.ref t/\K.lookup t=some o/\o.data=.seq #[.none] n:=by
 cases v with
 |ref t=>
  have h:(match K.lookup t with|some o=>zeo o.data|none=>false)=true:=h
  cases e:K.lookup t with
  |none=>rw[e]at h;cases h
  |some o=>
   rw[e]at h
   obtain⟨n,q⟩:=zht h
   exact⟨t,o,n,rfl,e,q⟩
 |_=>cases h
noncomputable def zay(ps:List Str)(sc:Scope):List Str:=ps++(sc.names.filter λy=>(y.2 == .local||y.2 == .cell) && !(ps.contains y.1)).map (·.1)
noncomputable def zdb(N ps:List Str)(sc:Scope):Bool:=
 decide (sc.kind=.function) && !sc.isCoroutine && !sc.isGenerator&&decide N.Nodup&&decide (N.take ps.length=ps)&&ps.all (λx=>decide (sc.names.lookup x=some .local\/sc.names.lookup x=some .cell))&&sc.names.all (λy=>decide (y.2≠.free))&&decide ps.Nodup
theorem zdz{N ps:List Str}{sc:Scope}(h:zdb N ps sc=true):FnScope N ps sc/\ps.Nodup:=by
 unfold zdb at h
 simp only[vaa,vca,vcr,Bool.not_eq_true']at h
 obtain⟨⟨⟨⟨⟨⟨⟨h1,h2⟩,h3⟩,h4⟩,h5⟩,h6⟩,h7⟩,h8⟩:=h
 exact⟨⟨h1,h2,h3,h4,h5,h6,h7⟩,h8⟩
noncomputable def nmOf(x:Str):Str:=(metOf x).getD x
noncomputable def cFg(K:PySem.W.Frag)(g:CC->List Stmt->Option S)(x:Str):Option Fn:=match fnAt K x with
 |some (f,o,fd)=>(match zau fd.params,zep fd.body with
  |some args,some body=>if fd.name==nmOf x&&fd.qualname==x&&Nat.beq fd.globals mainGlobals&&fd.closure.isEmpty&& (isNone fd.defaults||noneD K fd.defaults && !args.isEmpty)&&Nat.beq fd.builtins builtinsNs&&PySem.W.codeIn K fd.code x&&PySem.W.keepIn K (.ref f) &&
   zdb (zay (args.map (·.arg)) fd.scope) (args.map (·.arg)) fd.scope then
   (g ⟨zay (args.map (·.arg)) fd.scope,fd.scope.names,true⟩ body).map λb=>⟨(args.map (·.arg)).length,(zay (args.map (·.arg)) fd.scope).length,b⟩
   else none
  |_,_=>none)
 |none=>none
theorem zj1{fd:FuncData}{x:Str}{args:List Arg}{body:List Stmt}(c1:(fd.name==nmOf x)=true)(c2:(fd.qualname==x)=true)(c3:Nat.beq fd.globals mainGlobals=true)(c4:fd.closure.isEmpty=true)(c6:Nat.beq fd.builtins builtinsNs=true)(ha:zau fd.params=some args)(hb:zep fd.body=some body) :
 ∃dx,fd=PySem.W.fnOf (nmOf x) x ⟨[],args,none,[],[],none,dx⟩ body fd.scope fd.defaults fd.kwdefaults fd.doc fd.pyModule fd.annotations fd.code fd.closureTuple:=by
 obtain⟨nm,qn,pr,bd,sc,gl,cl,df,kd,dc,pm,an,cdv,ct,bu⟩:=fd
 have e1:nm=nmOf x:=by simpa using c1
 have e2:qn=x:=by simpa using c2
 have e3:gl=mainGlobals:=vbp c3
 have e4:cl=[]:=by simpa using c4
 have e6:bu=builtinsNs:=vbp c6
 have e7:bd=.stmts body:=by
  cases bd with
  |stmts b'=>cases hb;rfl
  |expr _=>cases hb
 obtain⟨dx,e8⟩:∃dx,pr=⟨[],args,none,[],[],none,dx⟩:=by
  unfold zau at ha
  split at ha
  .cases ha;rename_i z;exact⟨_,z⟩
  .cases ha
 exact⟨dx,by rw[e1,e2,e3,e4,e6,e7,e8]⟩
theorem zg4{K:PySem.W.Frag}{x:Str}{fd:FuncData}{args:List Arg}{body:List Stmt}{dx:List Expr}{sc:Scope}{df kd dc pm:Value}{an:Option Addr}{cdv ct:Value}{b:Bool}(e:fd=PySem.W.fnOf (nmOf x) x ⟨[],args,none,[],[],none,dx⟩ body sc df kd dc pm an cdv ct)(nd:(args.map (·.arg)).Nodup)
 (hb:b=noneD K df) (c5:(isNone df||noneD K df && !args.isEmpty)=true):Binds K fd (args.map (·.arg)) []/\(b=true->Binds K fd (args.map (·.arg)) [.none])/\(b=false->∀us:List Value,us.length=(args.map (·.arg)).length->bindArgs fd ⟨us,[]⟩=pure ((args.map (·.arg)).zip us)):=by
 subst e hb
 rw[Bool.or_eq_true,vaa]at c5
 rcases c5 with c5|⟨c5,c0⟩
 .have e5:df=.none:=by cases df<;>first|rfl|cases c5
  subst e5
  exact⟨.all λus hl=>zdt hl nd,(λz=>nomatch z),λ_ us hl=>zdt hl nd⟩
 .obtain⟨t,o,n,rfl,hk,hd⟩:=zlq c5
  rw[c5]
  obtain⟨qs,z,hqz⟩:∃qs z,args.map (·.arg)=qs++[z]:=by
   rcases List.eq_nil_or_concat (args.map (·.arg))with q|⟨l,b,q⟩
   .rw[List.map_eq_nil_iff.mp q]at c0;cases c0
   .exact⟨l,b,by rw[q,List.concat_eq_append]⟩
  have nd':=nd
  rw[hqz]at nd'
  refine⟨λs us hK hl=>?_,λ_ s us hK hl=>?_,λz=>nomatch z⟩
  .rw[va8]at hl ⊢
   rw[hqz]at hl ⊢
   exact zhq hqz nd' (hK _ _ hk) hd hl
  .rw[hqz]at hl ⊢
   exact zhr hqz nd' (hK _ _ hk) hd (by rw[vat,vat]at hl;simpa using hl)
theorem zfp{K:PySem.W.Frag}{x:Str}{f:Addr}{o:Obj}{fd:FuncData}(h:fnAt K x=some (f,o,fd)):refAt K x=some f/\∃oc od sl,K.lookup f=some ⟨oc,od,.func fd,sl⟩:=by
 unfold fnAt at h
 split at h
 .rename_i f' hn
  split at h
  .rename_i o' ho
   split at h
   .rename_i fd' hd
    cases h
    refine⟨hn,o.cls,o.dict,o.slots,?_⟩
    rw[<-hd];exact ho
   .cases h
  .cases h
 .cases h
theorem zr5{K:PySem.W.Frag}{g:CC->List Stmt->Option S}{x:Str}{fn:Fn}:∀(f:Addr) (o:Obj) (fd:FuncData) (args:List Arg) (body:List Stmt) (b:S),fnAt K x=some (f,o,fd)->zau fd.params=some args->zep fd.body=some body->(fd.name==nmOf x&&fd.qualname==x&&Nat.beq fd.globals mainGlobals&&fd.closure.isEmpty&& (isNone fd.defaults||noneD K fd.defaults && !args.isEmpty)&&Nat.beq fd.builtins builtinsNs&&PySem.W.codeIn K fd.code x&&PySem.W.keepIn K (.ref f) &&
 zdb (zay (args.map (·.arg)) fd.scope) (args.map (·.arg)) fd.scope)=true->g ⟨zay (args.map (·.arg)) fd.scope,fd.scope.names,true⟩ body=some b->fn=⟨(args.map (·.arg)).length,(zay (args.map (·.arg)) fd.scope).length,b⟩->∃f fd st ps N,refAt K x=some f/\FunD K (nmOf x) x st f fd/\FnScope N ps (zaf st)/\fn.n=N.length/\fn.ps=ps.length/\(Binds K fd ps []/\(hasD K x=true->Binds K fd ps [.none])/\(hasD K x=false->∀us:List Value,us.length=ps.length->bindArgs fd ⟨us,[]⟩=pure (ps.zip us)))/\
 g ⟨N,(zaf st).names,true⟩ (zb2 st)=some fn.body/\∃o' fd' args,fnAt K x=some (f,o',fd')/\zau fd'.params=some args/\ps=args.map (·.arg):=by
 intro f o fd args body b hf ha hb hc h1 e
 rw[vaa,vaa,vaa,vaa,vaa,vaa,vaa,vaa]at hc
 obtain⟨⟨⟨⟨⟨⟨⟨⟨c1,c2⟩,c3⟩,c4⟩,c5⟩,c6⟩,c7⟩,c8⟩,c9⟩:=hc
 obtain⟨S,nd⟩:=zdz c9
 obtain⟨hn,oc,od,sl,lk⟩:=zfp hf
 obtain⟨dx,ef⟩:=zj1 c1 c2 c3 c4 c6 ha hb
 have hh:hasD K x=noneD K fd.defaults:=by unfold hasD;rw[hf]
 exact⟨f,fd,.FunctionDef (nmOf x) ⟨[],args,none,[],[],none,dx⟩ body [] none [] fd.scope none (nmOf x) ⟨0,0,0,0⟩,args.map (·.arg),zay (args.map (·.arg)) fd.scope,hn,⟨⟨oc,od,_,_,_,_,_,fd.code,_,sl,ef,lk,c7⟩,c8⟩,S,by rw[e],by rw[e],zg4 ef nd hh c5,by rw[e];exact h1,o,fd,args,hf,ha,rfl⟩
theorem cF_ok{K:PySem.W.Frag}{g:CC->List Stmt->Option S}{x:Str}{fn:Fn}(h:cFg K g x=some fn):∃f fd st ps N,refAt K x=some f/\FunD K (nmOf x) x st f fd/\FnScope N ps (zaf st)/\fn.n=N.length/\fn.ps=ps.length/\(Binds K fd ps []/\(hasD K x=true->Binds K fd ps [.none])/\(hasD K x=false->∀us:List Value,us.length=ps.length->bindArgs fd ⟨us,[]⟩=pure (ps.zip us)))/\
 g ⟨N,(zaf st).names,true⟩ (zb2 st)=some fn.body/\∃o' fd' args,fnAt K x=some (f,o',fd')/\zau fd'.params=some args/\ps=args.map (·.arg):=by
 unfold cFg at h
 split at h
 .rename_i f o fd hf
  split at h
  .rename_i args body ha hb
   split at h
   .rename_i hc
    obtain⟨b,h1,e⟩:=map_some h
    exact zr5 f o fd args body b hf ha hb hc h1 e
   .cases h
  .cases h
 .cases h
theorem zeq{α β:Type}{f:α->Option β}:∀{l:List α} {r:List β},mapO f l=some r->∀(i:Nat) (a:α),l[i]?=some a->∃b,r[i]?=some b/\f a=some b
 |[],_,_,i,a,e=>by simp at e
 |x::l,r,h,i,a,e=>by
  unfold mapO at h
  split at h
  .rename_i b hb
   split at h
   .rename_i bs hbs
    cases h
    cases i with
    |zero=>simp at e;subst e;exact⟨b,rfl,hb⟩
    |succ i=>
     obtain⟨c,h1,h2⟩:=zeq hbs i a (by simpa using e)
     exact⟨c,by simpa using h1,h2⟩
   .cases h
  .cases h
inductive MV where
 |exc|bls (bs:List Bool)|sts (xs:List Str)|bl (b:Bool)|int (i:Int)|str (x:Str)
noncomputable def MRep(C:Addr)(H:Hp)(v:V):MV->Prop
 |.exc=>∃a,v=.ref a/\H a=some (excR C none a)
 |.bls bs=>∃l,v=.ref l/\H l=some (.lst (bs.map .bl))
 |.sts xs=>∃l,v=.ref l/\H l=some (.lst (xs.map .str))
 |.bl b=>v=.bl b
 |.int i=>v=.int i
 |.str x=>v=.str x
theorem MRep.mono{C:Addr}{H H':Hp}{v:V}{m:MV}(h:MRep C H v m)(k:Hx H H'):MRep C H' v m:=by
 cases m with
 |exc=>obtain⟨a,e,q⟩:=h;exact⟨a,e,k _ _ q⟩
 |bls bs=>obtain⟨a,e,q⟩:=h;exact⟨a,e,k _ _ q⟩
 |sts bs=>obtain⟨a,e,q⟩:=h;exact⟨a,e,k _ _ q⟩
 |bl b=>exact h
 |int i=>exact h
 |str x=>exact h
noncomputable def MReps(C:Addr)(H:Hp):List V->List MV->Prop
 |[],[]=>True
 |v::vs,m::ms=>MRep C H v m/\MReps C H vs ms
 |_,_=>False
noncomputable def EnvR(C:Addr)(H:Hp)(σ:L2.St)(ρ:List (Option MV)):Prop:=∀(i:Nat) (m:MV),ρ[i]?=some (some m)->∃v,σ[i]?=some (some v)/\MRep C H v m
theorem EnvR.mono{C:Addr}{H H':Hp}{σ:L2.St}{ρ:List (Option MV)}(h:EnvR C H σ ρ)(k:Hx H H'):EnvR C H' σ ρ:=λi m e=>let⟨v,a,b⟩:=h i m e;⟨v,a,b.mono k⟩
noncomputable def tM(C:Addr)(ρ:List (Option MV))(m:MV):TE:=λσ H Q=>EnvR C H σ ρ/\∀v H',Hx H H'->MRep C H' v m->Q v H'
noncomputable def tMs(C:Addr)(ρ:List (Option MV))(ms:List MV):TA:=λσ H Q=>EnvR C H σ ρ/\∀vs H',Hx H H'->MReps C H' vs ms->Q vs H'
noncomputable def tMT(C:Addr)(ρ:List (Option MV))(b:Bool):TT:=λσ H Q=>EnvR C H σ ρ/\∀H',Hx H H'->Q b H'
section
variable{X:Cx}{C:Addr}{ρ:List (Option MV)}{a b e:Expr}{es:List Expr}{pos:Pos}
theorem m_var{i:Nat}{x:Str}{m:MV}(hN:X.N[i]?=some x)(hv:Vis X.env.scope x)(hd:(x==("__debug__" : Str))=false)(hcd:(x==("__classdict__" : Str))=false)(hi:ρ[i]?=some (some m)):PE X (.Name x pos) (tM C ρ m):=
 (zhz hN hv hd hcd).imp λσ H Q ⟨en,k⟩=>let⟨v,e,r⟩:=en i m hi;⟨v,e,k v H .refl r⟩
theorem zr6:PA X [] (tMs C ρ []):=zbs.imp λσ H Q ⟨_,k⟩=>k [] H .refl trivial
theorem zor{m:MV}{ms:List MV}(ha:PE X e (tM C ρ m))(hr:PA X es (tMs C ρ ms))(hs:zah e=true):PA X (e::es) (tMs C ρ (m::ms)):=
 (zaw ha hr (zab hs)).imp λσ H Q ⟨en,k⟩=>⟨en,λv H1 k1 r1=>⟨en.mono k1,λvs H2 k2 r2=>k (v::vs) H2 (k1.trans k2) ⟨r1.mono k2,r2⟩⟩⟩
theorem zg5{H:Hp}:∀{vs:List V} {bs:List Bool},MReps C H vs (bs.map .bl)->vs=bs.map .bl
 |[],[],_=>rfl
 |v::vs,b::bs,h=>by rw[vaj,zg5 (vs:=vs) (bs:=bs) h.2,show v=.bl b from h.1]
 |[],_::_,h=>h.elim
 |_::_,[],h=>h.elim
theorem zfq{H:Hp}:∀{vs:List V} {bs:List Str},MReps C H vs (bs.map .str)->vs=bs.map .str
 |[],[],_=>rfl
 |v::vs,b::bs,h=>by rw[vaj,zfq (vs:=vs) (bs:=bs) h.2,show v=.str b from h.1]
 |[],_::_,h=>h.elim
 |_::_,[],h=>h.elim
theorem m_bls{bs:List Bool}(ha:PA X es (tMs C ρ (bs.map .bl)))(hz:bs.length<=sizeLine):PE X (.List es pos) (tM C ρ (.bls bs)):=
 (zil ha).imp λσ H Q ⟨en,k⟩=>⟨en,λvs H1 k1 r=>by
   have e:=zg5 r
   subst e
   exact⟨by rw[vap];exact hz,λp hp=>k _ _ (k1.trans (.new hp)) ⟨p,rfl,zad⟩⟩⟩
theorem m_sts{bs:List Str}(ha:PA X es (tMs C ρ (bs.map .str)))(hz:bs.length<=sizeLine):PE X (.List es pos) (tM C ρ (.sts bs)):=
 (zil ha).imp λσ H Q ⟨en,k⟩=>⟨en,λvs H1 k1 r=>by
   have e:=zfq r
   subst e
   exact⟨by rw[vap];exact hz,λp hp=>k _ _ (k1.trans (.new hp)) ⟨p,rfl,zad⟩⟩⟩
theorem m_cat{x y:List Bool}(ha:PE X a (tM C ρ (.bls x)))(hb:PE X b (tM C ρ (.bls y)))(hz:x.length+y.length<=sizeLine):PE X (.BinOp a .Add b pos) (tM C ρ (.bls (x++y))):=
 (pe_op ziv ha hb).imp λσ H Q ⟨en,k⟩=>⟨en,λv H1 k1 ⟨l,e1,q1⟩=>⟨en.mono k1,λu H2 k2 ⟨l2,e2,q2⟩=>⟨l,l2,_,_,e1,e2,k2 _ _ q1,q2,by rw[vap,vap];exact hz,λp hp=>k _ _ ((k1.trans k2).trans (.new hp)) ⟨p,rfl,by rw[zad,vc1]⟩⟩⟩⟩
theorem zr7{x y:List Str}(ha:PE X a (tM C ρ (.sts x)))(hb:PE X b (tM C ρ (.sts y)))(hz:x.length+y.length<=sizeLine):PE X (.BinOp a .Add b pos) (tM C ρ (.sts (x++y))):=
 (pe_op ziv ha hb).imp λσ H Q ⟨en,k⟩=>⟨en,λv H1 k1 ⟨l,e1,q1⟩=>⟨en.mono k1,λu H2 k2 ⟨l2,e2,q2⟩=>⟨l,l2,_,_,e1,e2,k2 _ _ q1,q2,by rw[vap,vap];exact hz,λp hp=>k _ _ ((k1.trans k2).trans (.new hp)) ⟨p,rfl,by rw[zad,vc1]⟩⟩⟩⟩
theorem m_isE{t:Str}{p p2:Pos}{c:Value}{cv:V}{r:Bool}(hc:tyVal cv=some c)(hT:PE X (.Name t p2) (tC cv))(ha:PE X a (tM C ρ .exc))(hs:zah a=true)(hg:Gl X "isinstance")(hm:X.mg "isinstance" = none)(kk:XL.ExcI X.K C)(e:PySem.W.kitOne X.K (.ref C) c=some r) :
 PE X (.Call (.Name "isinstance" p) [a,.Name t p2] [] pos) (tM C ρ (.bl r)):=
 (zd8 (zlh hc) hg hm PyProof.Rows.boot_isinstance (zaw ha (zaw hT zbs) (zab hs)) (by decide) (by decide) (zab hs) rfl).imp λσ H Q ⟨en,k⟩=>⟨en,λv H1 k1 ⟨x,e1,q1⟩=>⟨x,C,r,by rw[e1],q1,kk,e,k _ H1 k1 rfl⟩⟩
theorem zj2{K:PySem.W.Frag}{M:Addr->Prop}{H:Hp}:∀bs:List Bool,Rps K M H (bs.map .bl) (bs.map .bool)
 |[]=>.nil
 |b::r=>.cons (.bl b) (zj2 r)
theorem zdc:∀bs:List Bool,(bs.map PyData.bool).all SeqAt.shaped=true
 |[]=>rfl
 |_::r=>by rw[vaj,vbw,zdc r];rfl
noncomputable def eqT1(e:PyData):Bool:=PyData.eqv e (.bool true)
theorem m_cnt{o:Expr}{ap:Pos}{bs:List Bool}(hu:X.A.in1.units+64<cLine)(ho:PE X o (tM C ρ (.bls bs)))(ha:PE X a (tM C ρ (.bl true)))(hs:zah a=true)(hb:attributeBase o "count" X.env (eval o X.env)=eval o X.env)(hl:(ap.endLine==pos.line)=true) :
 PE X (.Call (.Attribute o "count" ap) [a] [] pos) (tM C ρ (.int ((bs.map PyData.bool).countP eqT1:Nat))):=
 (pe_bm (X:=X) PySem.F.plainAttrs_list PySem.F.slot_list_count PySem.F.type_list_count (zi5 hu) ho (zaw ha zbs (zab hs)) hb (by rw[zab hs];rfl) hl (zab hs) rfl).imp λσ H Q ⟨en,k⟩=>
   ⟨en,λv H1 k1 ⟨l,e1,q1⟩=>⟨by subst e1;exact .inl ⟨rfl,_,SqL.of q1⟩,en.mono k1,λu H2 k2 r2=>⟨l,_,u,_,.bool true,e1,rfl,SqL.of (k2 _ _ q1),zj2 bs,by rw[show u=.bl true from r2];exact .bl true,zdc bs,rfl,k _ H2 (k1.trans k2) rfl⟩⟩⟩
theorem m_ind{o:Expr}{ap:Pos}{bs:List Bool}{j:Nat}(hu:X.A.in1.units+64<cLine)(ho:PE X o (tM C ρ (.bls bs)))(ha:PE X a (tM C ρ (.bl true)))(hs:zah a=true)(hb:attributeBase o "index" X.env (eval o X.env)=eval o X.env)(hl:(ap.endLine==pos.line)=true)
 (hj:(bs.map PyData.bool).findIdx? eqT1=some j) (hz:(j:Int)<2 ^ 63-1):PE X (.Call (.Attribute o "index" ap) [a] [] pos) (tM C ρ (.int (j:Nat))):=by
 obtain⟨hlt,h1,h2⟩:=List.findIdx?_eq_some_iff_getElem.mp hj
 refine(pe_bm (X:=X) PySem.F.plainAttrs_list PySem.F.slot_list_index PySem.F.type_list_index (zjx hu) ho (zaw ha zbs (zab hs)) hb (by rw[zab hs];rfl) hl (zab hs) rfl).imp λσ H Q ⟨en,k⟩=>
  ⟨en,λv H1 k1 ⟨l,e1,q1⟩=>⟨by subst e1;exact .inl ⟨rfl,_,SqL.of q1⟩,en.mono k1,λu H2 k2 r2=>⟨l,_,u,_,.bool true,j,_,e1,rfl,SqL.of (k2 _ _ q1),zj2 bs,by rw[show u=.bl true from r2];exact .bl true,zdc bs,rfl,vba hlt,h1,λm e hm q=>?_,hz,k _ H2 (k1.trans k2) rfl⟩⟩⟩
 have:=h2 m hm
 obtain⟨hq,rfl⟩:=vak.mp q
 simpa[eqT1]using this
theorem zos{α β:Type}{f:α->β}{xs:List α}{i:Int}{v:α}(h:atI xs i=some v):atI (xs.map f) i=some (f v):=by
 unfold atI at h ⊢
 rw[vap]
 cases e:ixN xs.length i with
 |none=>rw[e]at h;cases h
 |some j=>
  rw[e]at h
  show(xs.map f)[j]?=_
  rw[vbn,show xs[j]?=some v from h];rfl
theorem m_sub{xs:List Str}{i:Int}{z:Str}(ha:PE X a (tM C ρ (.sts xs)))(hb:PE X b (tM C ρ (.int i)))(hs:zd9 b)(hi:atI xs i=some z):PE X (.Subscript a b pos) (tM C ρ (.str z)):=
 (pe_ix ziu ha hb hs).imp λσ H Q ⟨en,k⟩=>⟨en,λv H1 k1 ⟨l,e1,q1⟩=>⟨en.mono k1,λu H2 k2 r2=>⟨l,_,i,.str z,e1,r2,SqL.of (k2 _ _ q1),zos hi,k _ H2 (k1.trans k2) rfl⟩⟩⟩
theorem zr8{r:Bool}(ha:PT X a (tMT C ρ r)):PT X (.UnaryOp .Not a pos) (tMT C ρ (!r)):=λpins s σ H Q I ⟨en,k⟩=>zlv ha pins s σ H Q I ⟨en,λH1 k1=>k H1 k1⟩
theorem zr9{r:Bool}(ha:PE X a (tM C ρ (.bl r)))(he:∀whole,isTrue a X.env whole=(do let v <-whole;standAt a.pos;holding [v] (truthy v))):PT X a (tMT C ρ r):=λpins s σ H Q I ⟨en,k⟩=>
 zo5 ha he pins s σ H Q I ⟨en,λv H1 k1 e=>⟨r,e,k H1 k1⟩⟩
theorem mt_ne{i j:Int}(ha:PE X a (tM C ρ (.int i)))(hb:PE X b (tM C ρ (.int j)))(hm:behindInMarks .NotEq b=false):PT X (.Compare a [.NotEq] [b] pos) (tMT C ρ (!decide (V.int i=V.int j))):=λpins s σ H Q I ⟨en,k⟩=>
 zid op_ne ha hb hm pins s σ H Q I ⟨en,λv H1 k1 e1=>⟨en.mono k1,λu H2 k2 e2=>by
  have e1:v=.int i:=e1
  have e2:u=.int j:=e2
  subst e1 e2
  exact⟨rfl,_,rfl,k H2 (k1.trans k2)⟩⟩⟩
theorem mw_or{rest:List Expr}{r r':Bool}(ha:PT X a (tMT C ρ r))(hb:PW X (.BoolOp .Or (b::rest) pos) (tMT C ρ r')):PW X (.BoolOp .Or (a::b::rest) pos) (tMT C ρ (r||r')):=λwh pins s σ H Q I ⟨en,k⟩=>
 pw_or ha hb wh pins s σ H Q I ⟨en,λH1 k1=>by
  cases r with
  |true=>rw[if_pos rfl];exact k H1 k1
  |false=>rw[if_neg vao];exact⟨en.mono k1,λH2 k2=>k H2 (k1.trans k2)⟩⟩
theorem zsa{r:Bool}(ha:PT X a (tMT C ρ r)):PW X (.BoolOp .Or [a] pos) (tMT C ρ r):=zlu ha
noncomputable def tMB(C:Addr)(ρ:List (Option MV))(m:MV):TS:=λD σ H=>EnvR C H σ ρ/\∀v H',Hx H H'->MRep C H' v m->D.rt v H'
theorem _root_.L2.PSs.imp'{st:List Stmt}{t t':TS}(h:PSs X st t)(k:∀D σ H,t' D σ H->t D σ H):PSs X st t':=λpins s σ H D I q=>h pins s σ H D I (k D σ H q)
theorem zsb{m:MV}(he:PE X e (tM C ρ m)):PSs X [.Return (some e) pos] (tMB C ρ m):=(zfz (zez he)).imp' λD σ H q=>q
theorem EnvR.set{H:Hp}{σ:L2.St}{i:Nat}{v:V}{m:MV}(en:EnvR C H σ ρ)(hl:i<σ.length)(hi:i<ρ.length)(r:MRep C H v m):EnvR C H (σ.set i (some v)) (ρ.set i (some m)):=λj m' e=>by
 by_cases h:j=i
 .subst h
  rw[va0 hi]at e
  cases e
  exact⟨v,va0 hl,r⟩
 .rw[vbr (vb3 h)]at e ⊢
  exact en j m' e
end
section
variable{X:Cx}{C:Addr}{ρ:List (Option MV)}{e c:Expr}{pos p:Pos}{rest a:List Stmt}{m m':MV}
theorem zsc{i:Nat}{x:Str}(hN:X.N.Nodup)(hi:X.N[i]?=some x)(hx:Loc X.env.scope x)(he:PE X e (tM C ρ m))(hf:X.fn x=true\/X.env.scope.names.lookup x=some .local)(hr:i<ρ.length)
 (hs:swapsWith e (some (.Name x p)) pos.line X.env=pure false) (h:PSs X rest (tMB C (ρ.set i (some m)) m')):PSs X (.Assign [.Name x p] e pos::rest) (tMB C ρ m'):=λpins s σ H D I ⟨en,k⟩=>
 zbw (zlx hN hi hx he hs hf) h pins s σ H D I ⟨en,λv H1 k1 r1=>⟨(en.mono k1).set (by rw[I.len];exact(vak.mp hi).1) hr r1,λw H2 k2 r2=>k w H2 (k1.trans k2) r2⟩⟩
theorem zmq{l:List Stmt}:PSs X l (λ_ _ _=>False):=λ_ _ _ _ _ _ h=>h.elim
theorem zsd(hc:PT X c (tMT C ρ false))(h:PSs X rest (tMB C ρ m)):PSs X (.If c a [] pos::rest) (tMB C ρ m):=
 (zbw (ps_if hc (zmq (l:=a)) zd6) h).imp' λD σ H ⟨en,k⟩=>⟨en,λH1 k1=>L2.iteF ⟨en.mono k1,λv H2 k2 r=>k v H2 (k1.trans k2) r⟩⟩
theorem zse(hc:PT X c (tMT C ρ true))(h:PSs X a (tMB C ρ m)):PSs X (.If c a [] pos::rest) (tMB C ρ m):=
 (zbw (ps_if hc h zd6) (zmq (l:=rest))).imp' λD σ H ⟨en,k⟩=>⟨en,λH1 k1=>L2.iteT ⟨en.mono k1,λv H2 k2 r=>k v H2 (k1.trans k2) r⟩⟩
end
noncomputable def bools:List MV->Option (List Bool)
 |[]=>some []
 |.bl b::r=>(bools r).map (b :: ·)
 |_=>none
noncomputable def texts:List MV->Option (List Str)
 |[]=>some []
 |.str b::r=>(texts r).map (b :: ·)
 |_=>none
theorem zfr:∀{ms:List MV} {bs:List Bool},bools ms=some bs->ms=bs.map .bl
 |[],_,e=>by cases e;rfl
 |.bl b::r,_,e=>by
  simp only[bools]at e
  cases q:bools r with
  |none=>rw[q]at e;cases e
  |some l=>rw[q]at e;cases e;rw[zfr q];rfl
 |.exc::_,_,e=>by cases e
 |.bls _::_,_,e=>by cases e
 |.sts _::_,_,e=>by cases e
 |.int _::_,_,e=>by cases e
 |.str _::_,_,e=>by cases e
theorem zfs:∀{ms:List MV} {bs:List Str},texts ms=some bs->ms=bs.map .str
 |[],_,e=>by cases e;rfl
 |.str b::r,_,e=>by
  simp only[texts]at e
  cases q:texts r with
  |none=>rw[q]at e;cases e
  |some l=>rw[q]at e;cases e;rw[zfs q];rfl
 |.exc::_,_,e=>by cases e
 |.bls _::_,_,e=>by cases e
 |.sts _::_,_,e=>by cases e
 |.int _::_,_,e=>by cases e
 |.bl _::_,_,e=>by cases e
noncomputable def mList(ms:List MV):Option MV:=if Nat.ble ms.length 1000 then(match bools ms with
 |some bs=>some (.bls bs)
 |none=>(texts ms).map .sts)else none
noncomputable def mAdd:MV->MV->Option MV
 |.bls x,.bls y=>if Nat.ble (x.length+y.length) 1000 then some (.bls (x++y))else none
 |.sts x,.sts y=>if Nat.ble (x.length+y.length) 1000 then some (.sts (x++y))else none
 |_,_=>none
noncomputable def clsN(K:PySem.W.Frag)(c:CC)(t:Str):Option (Value×V):=if okN t&&c.names.lookup t==some .globalImplicit then(match PySem.W.nsIn K mainGlobals t with
 |some (some (.ref D))=>some (.ref D,.ref D)
 |some none=>if t==("ValueError" : Str)then some (.type "ValueError",.ty "ValueError")else none
 |_=>none)else none
noncomputable def mMeth(mth:Str):MV->MV->Option MV
 |.bls bs,.bl true=>if mth==("count" : Str)then some (.int ((bs.map PyData.bool).countP eqT1:Nat))else if mth==("index" : Str)then(match(bs.map PyData.bool).findIdx? eqT1 with
  |some j=>if Nat.ble j 1000 then some (.int (j:Nat))else none
  |none=>none)else none
 |_,_=>none
noncomputable def baseE:Expr->Bool
 |.Name .. |.Call (.Name ..) (_::_) _ _=>true
 |_=>false
theorem zg6{o:Expr}{m:Str}{env:Env}(h:baseE o=true):attributeBase o m env (eval o env)=eval o env:=by
 unfold baseE at h
 split at h
 .rfl
 .rfl
 .cases h
structure XH(X:Cx)(c:CC):Prop where
 hN:X.N=c.N
 nd:c.N.Nodup
 vis:∀x,visK (c.names.lookup x)=true->Vis X.env.scope x
 loc:∀x,locK c.fnAll (c.names.lookup x)=true->Loc X.env.scope x/\(X.fn x=true\/X.env.scope.names.lookup x=some .local)
 gl:∀x,c.names.lookup x=some .globalImplicit->Gl X x
 mgs:∀x v,PySem.W.nsIn X.K mainGlobals x=some (some v)->X.mg x=some v
 mgn:∀x,PySem.W.nsIn X.K mainGlobals x=some none->X.mg x=none
 un:X.A.units+70<cLine
noncomputable def mE(K:PySem.W.Frag)(C:Addr)(kb:Option (List Bool))(c:CC):Nat->List (Option MV)->Expr->Option MV
 |0,_,_=>none
 |n+1,ρ,e=>match e with
  |.Name x _=>if okN x&&visK (c.names.lookup x)then(match za0 c.N x 0 with
   |some i=>(ρ[i]?).join
   |none=>none)else none
  |.Constant k _ _=>(match k with
   |.bool b=>some (.bl b)
   |.int i=>some (.int i)
   |.str x=>some (.str x)
   |_=>none)
  |.List es _=>(mapO (mE K C kb c n ρ) es).bind mList
  |.BinOp a .Add b _=>(match mE K C kb c n ρ a,mE K C kb c n ρ b with
   |some x,some y=>mAdd x y
   |_,_=>none)
  |.Call (.Name f _) [a,.Name t _] [] _=>if f==("isinstance" : Str)&&zc8 K c f then(match mE K C kb c n ρ a,clsN K c t with
   |some .exc,some v=>(PySem.W.kitOne K (.ref C) v.1).map .bl
   |_,_=>none)else none
  |.Call (.Name f _) [a] [] _=>if f==("_law_kinds" : Str)&&c.names.lookup f==some .globalImplicit then(match mE K C kb c n ρ a with
   |some .exc=>kb.map .bls
   |_=>none)else none
  |.Call (.Attribute o m ap) [a] [] pos=>if baseE o&& (ap.endLine==pos.line)then(match mE K C kb c n ρ o,mE K C kb c n ρ a with
   |some x,some y=>mMeth m x y
   |_,_=>none)else none
  |.Subscript a b _=>if zb9 b then(match mE K C kb c n ρ a,mE K C kb c n ρ b with
   |some (.sts xs),some (.int i)=>(atI xs i).map .str
   |_,_=>none)else none
  |_=>none
noncomputable def spK(C:Addr)(kb:Option (List Bool)):List V->Hp->VK->Prop:=λvs H Q=>∃a bs,vs=[.ref a]/\H a=some (excR C none a)/\kb=some bs/\∀v H',Hx H H'->MRep C H' v (.bls bs)->Q v H'
structure XK1(X:Cx)(C:Addr)(kb:Option (List Bool))(k:Nat):Prop where
 ex:XL.ExcI X.K C
 kinds:kb.isSome=true->∃f fd ps,X.mg "_law_kinds" = some (.ref f)/\FnOkH X.prog X.w X.K X.mg X.base k f fd ps (spK C kb)/\PySem.W.keepIn X.K (.ref f)=true/\Binds X.K fd ps []/\RoomH k X.A
section
variable{X:Cx}{C:Addr}{kb:Option (List Bool)}{c:CC}{k:Nat}
theorem zer{n:Nat}(h:Nat.ble n 1000=true):n<=sizeLine:=vcu (zc0 (vau h))
theorem ms_ok{n:Nat}{ρ:List (Option MV)}(ih:∀(e:Expr) (m:MV),mE X.K C kb c n ρ e=some m->PE X e (tM C ρ m)/\zah e=true):∀{es:List Expr} {ms:List MV},mapO (mE X.K C kb c n ρ) es=some ms->PA X es (tMs C ρ ms)
 |[],_,h=>by cases h;exact zr6
 |e::es,ms,h=>by
  unfold mapO at h
  split at h
  .rename_i b hb
   split at h
   .rename_i bs hbs
    cases h
    obtain⟨h1,h2⟩:=ih e b hb
    exact zor h1 (ms_ok ih hbs) h2
   .cases h
  .cases h
theorem zot(O:XH X c){t:Str}{v:Value×V}{p:Pos}(h:clsN X.K c t=some v):tyVal v.2=some v.1/\PE X (.Name t p) (tC v.2):=by
 unfold clsN at h
 split at h
 .rename_i hc
  rw[vaa]at hc
  obtain⟨n1,n2,n3⟩:=za1 hc.1
  have hg:Gl X t:=O.gl t (by simpa using hc.2)
  split at h
  .rename_i D hD
   cases h
   exact⟨rfl,zh1 hg (O.mgs t _ hD) rfl n1⟩
  .rename_i hD
   split at h
   .rename_i ht
    cases h
    have ht:t = "ValueError":=by simpa using ht
    subst ht
    exact⟨rfl,zh2 hg (O.mgn _ hD) (u:=.type "ValueError") (by first|rfl|decide +kernel) rfl n3 n1⟩
   .cases h
  .cases h
 .cases h
theorem mE_ok(O:XH X c)(K1:XK1 X C kb k):∀(n:Nat) (ρ:List (Option MV)) (e:Expr) (m:MV),mE X.K C kb c n ρ e=some m->PE X e (tM C ρ m)/\zah e=true
 |0,_,_,_,h=>by cases h
 |n+1,ρ,e,m,h=>by
  have ih:=mE_ok O K1 n ρ
  have hu:X.A.in1.units+64<cLine:=by have:=O.un;show X.A.units+1+64<_;omega
  unfold mE at h
  split at h
  .rename_i x p
   split at h
   .rename_i hc
    rw[vaa]at hc
    obtain⟨n1,n2,n3⟩:=za1 hc.1
    split at h
    .rename_i i hi
     cases q:ρ[i]? with
     |none=>rw[q]at h;cases h
     |some o=>
      rw[q]at h
      have h:o=some m:=h
      subst h
      exact⟨m_var (by rw[O.hN];exact zbu hi) (O.vis x hc.2) n1 n2 q,rfl⟩
    .cases h
   .cases h
  .refine⟨?_,rfl⟩
   split at h<;>cases h
   .exact pe_bl.imp λσ H Q ⟨_,k⟩=>k _ H .refl rfl
   .exact zlt.imp λσ H Q ⟨_,k⟩=>k _ H .refl rfl
   .exact zh0.imp λσ H Q ⟨_,k⟩=>k _ H .refl rfl
  .refine⟨?_,rfl⟩
   rename_i es p
   cases q:mapO (mE X.K C kb c n ρ) es with
   |none=>rw[q]at h;cases h
   |some ms=>
    rw[q]at h
    have h:mList ms=some m:=h
    have ha:=ms_ok ih q
    unfold mList at h
    split at h
    .rename_i hz
     split at h
     .rename_i bs hb
      cases h
      have:=zfr hb
      subst this
      exact m_bls ha (by have:=zer hz;rwa [vap]at this)
     .cases q2:texts ms with
      |none=>rw[q2]at h;cases h
      |some xs=>
       rw[q2]at h
       cases h
       have:=zfs q2
       subst this
       exact m_sts ha (by have:=zer hz;rwa [vap]at this)
    .cases h
  .refine⟨?_,rfl⟩
   split at h
   .rename_i x y hx hy
    unfold mAdd at h
    split at h
    .split at h
     .rename_i hz;cases h;exact m_cat (ih _ _ hx).1 (ih _ _ hy).1 (zer hz)
     .cases h
    .split at h
     .rename_i hz;cases h;exact zr7 (ih _ _ hx).1 (ih _ _ hy).1 (zer hz)
     .cases h
    .cases h
   .cases h
  .refine⟨?_,rfl⟩
   rename_i f p a t p2 pos
   split at h
   .rename_i hc
    rw[vaa]at hc
    have hf:f = "isinstance":=by simpa using hc.1
    subst hf
    have hab:=hc.2
    unfold zc8 at hab
    rw[vaa]at hab
    split at h
    .rename_i v hx hv
     obtain⟨h1,h2⟩:=ih _ _ hx
     obtain⟨c1,c2⟩:=zot (p:=p2) O hv
     cases q:PySem.W.kitOne X.K (.ref C) v.1 with
     |none=>rw[q]at h;cases h
     |some b=>
      rw[q]at h
      cases h
      refine m_isE c1 c2 h1 h2 (O.gl _ (by simpa using hab.1)) (O.mgn _ ?_) K1.ex q
      have h3:=hab.2
      split at h3
      .assumption
      .cases h3
    .cases h
   .cases h
  .refine⟨?_,rfl⟩
   rename_i _ f p a pos
   split at h
   .rename_i hc
    rw[vaa]at hc
    have hf:f = "_law_kinds":=by simpa using hc.1
    subst hf
    split at h
    .rename_i hx
     obtain⟨h1,h2⟩:=ih _ _ hx
     cases hkb:kb with
     |none=>rw[hkb]at h;cases h
     |some bs=>
      rw[hkb]at h
      cases h
      obtain⟨fa,fd,ps,g1,g2,g3,g4,g5⟩:=K1.kinds (by rw[hkb];rfl)
      refine(zg1 g2 g5 (O.gl _ (by simpa using hc.2)) g1 g3 g4 (zaw h1 zbs (zab h2)) (by decide +kernel) (zab h2) rfl).imp λσ H Q ⟨en,k⟩=>⟨en,λv H1 k1 ⟨x,e1,q1⟩=>⟨x,bs,by rw[e1],q1,hkb,λw H2 k2 r2=>k w H2 (k1.trans k2) r2⟩⟩
    .cases h
   .cases h
  .refine⟨?_,rfl⟩
   rename_i o mth ap a pos
   split at h
   .rename_i hc
    rw[vaa]at hc
    split at h
    .rename_i x y hx hy
     obtain⟨h1,_⟩:=ih _ _ hx
     obtain⟨h2,h3⟩:=ih _ _ hy
     unfold mMeth at h
     split at h
     .split at h
      .rename_i hm
       have hm:mth = "count":=by simpa using hm
       subst hm
       cases h
       exact m_cnt hu h1 h2 h3 (zg6 hc.1) hc.2
      .split at h
       .rename_i hm
        have hm:mth = "index":=by simpa using hm
        subst hm
        split at h
        .rename_i j hj
         split at h
         .rename_i hz
          cases h
          exact m_ind hu h1 h2 h3 (zg6 hc.1) hc.2 hj (by have:=vau hz;omega)
         .cases h
        .cases h
       .cases h
     .cases h
    .cases h
   .cases h
  .refine⟨?_,rfl⟩
   split at h
   .rename_i hb
    split at h
    .rename_i xs i hx hy
     cases q:atI xs i with
     |none=>rw[q]at h;cases h
     |some z=>
      rw[q]at h
      cases h
      exact m_sub (ih _ _ hx).1 (ih _ _ hy).1 (zdx hb) q
    .cases h
   .cases h
  .cases h
end
noncomputable def orAll:List Bool->Bool
 |[]=>false
 |b::r=>b||orAll r
noncomputable def zmr:Expr->Bool
 |.Constant (.int _) _ _=>true
 |_=>false
noncomputable def mT(K:PySem.W.Frag)(C:Addr)(kb:Option (List Bool))(c:CC):Nat->List (Option MV)->Expr->Option Bool
 |0,_,_=>none
 |n+1,ρ,e=>match e with
  |.UnaryOp .Not a _=>(mT K C kb c n ρ a).map (!·)
  |.Compare a [.NotEq] [b] _=>if zmr b then(match mE K C kb c n ρ a,mE K C kb c n ρ b with
   |some (.int i),some (.int j)=>some (!decide (V.int i=V.int j))
   |_,_=>none)else none
  |.Call f as ks p=>(match mE K C kb c n ρ (.Call f as ks p)with
   |some (.bl b)=>some b
   |_=>none)
  |.BoolOp .Or es _=>if es.isEmpty then none else(mapO (mT K C kb c n ρ) es).map orAll
  |_=>none
section
variable{X:Cx}{C:Addr}{kb:Option (List Bool)}{c:CC}{k:Nat}
theorem zj3{n:Nat}{ρ:List (Option MV)}{pos:Pos}(ih:∀(e:Expr) (b:Bool),mT X.K C kb c n ρ e=some b->PT X e (tMT C ρ b)):∀{es:List Expr} {bs:List Bool},mapO (mT X.K C kb c n ρ) es=some bs->es≠[]->PW X (.BoolOp .Or es pos) (tMT C ρ (orAll bs))
 |[],_,_,h=>absurd rfl h
 |e::es,bs,h,_=>by
  unfold mapO at h
  split at h
  .rename_i b hb
   split at h
   .rename_i bs' hbs
    cases h
    cases es with
    |nil=>
     cases hbs
     rw[orAll,orAll,Bool.or_false]
     exact zsa (ih e b hb)
    |cons e2 es=>exact mw_or (ih e b hb) (zj3 ih hbs (by simp))
   .cases h
  .cases h
theorem mT_ok(O:XH X c)(K1:XK1 X C kb k):∀(n:Nat) (ρ:List (Option MV)) (e:Expr) (b:Bool),mT X.K C kb c n ρ e=some b->PT X e (tMT C ρ b)
 |0,_,_,_,h=>by cases h
 |n+1,ρ,e,b,h=>by
  have ih:=mT_ok O K1 n ρ
  have ihE:=mE_ok O K1 n ρ
  unfold mT at h
  split at h
  .obtain⟨r,h1,rfl⟩:=map_some h
   exact zr8 (ih _ _ h1)
  .split at h
   .rename_i hb
    split at h
    .rename_i i j hx hy
     cases h
     refine mt_ne (ihE _ _ hx).1 (ihE _ _ hy).1 ?_
     unfold zmr at hb
     split at hb
     .rfl
     .cases hb
    .cases h
   .cases h
  .split at h
   .rename_i r hx
    cases h
    exact zr9 (ihE _ _ hx).1 λ_=>rfl
   .cases h
  .split at h
   .cases h
   .rename_i es p hne
    obtain⟨bs,h1,rfl⟩:=map_some h
    exact(zj3 ih h1 (by simpa using hne)).pt
  .cases h
end
noncomputable def mB(K:PySem.W.Frag)(C:Addr)(kb:Option (List Bool))(c:CC):Nat->List (Option MV)->List Stmt->Option MV
 |0,_,_=>none
 |n+1,ρ,st=>match st with
  |[.Return (some e) _]=>mE K C kb c n ρ e
  |.Assign [.Name x p] e _::rest=>if zdr e then(match nmIx c (.Name x p),mE K C kb c n ρ e with
   |some i,some m=>if Nat.blt i ρ.length then mB K C kb c n (ρ.set i (some m)) rest else none
   |_,_=>none)else none
  |.If t a [] _::rest=>(match mT K C kb c n ρ t with
   |some true=>mB K C kb c n ρ a
   |some false=>mB K C kb c n ρ rest
   |none=>none)
  |_=>none
section
variable{X:Cx}{C:Addr}{kb:Option (List Bool)}{c:CC}{k:Nat}
theorem mB_ok(O:XH X c)(K1:XK1 X C kb k):∀(n:Nat) (ρ:List (Option MV)) (st:List Stmt) (m:MV),mB X.K C kb c n ρ st=some m->PSs X st (tMB C ρ m)
 |0,_,_,_,h=>by cases h
 |n+1,ρ,st,m,h=>by
  unfold mB at h
  split at h
  .exact zsb (mE_ok O K1 n ρ _ _ h).1
  .split at h
   .rename_i hc
    split at h
    .rename_i i m' hi he
     split at h
     .rename_i hl
      simp only[nmIx]at hi
      split at hi
      .rename_i hcc
       rw[vaa]at hcc
       obtain⟨l1,l2⟩:=O.loc _ hcc.2
       exact zsc (by rw[O.hN];exact O.nd) (by rw[O.hN];exact zbu hi) l1 (mE_ok O K1 n ρ _ _ he).1 l2 (zaj.mp hl) (zcn hc) (mB_ok O K1 n _ _ _ h)
      .cases hi
     .cases h
    .cases h
   .cases h
  .split at h
   .rename_i ht
    exact zse (mT_ok O K1 n ρ _ _ ht) (mB_ok O K1 n _ _ _ h)
   .rename_i ht
    exact zsd (mT_ok O K1 n ρ _ _ ht) (mB_ok O K1 n _ _ _ h)
   .cases h
  .cases h
end
noncomputable def spM(C:Addr)(m:MV):List V->Hp->VK->Prop:=λvs H Q=>∃a,vs=[.ref a]/\H a=some (excR C none a)/\∀v H',Hx H H'->MRep C H' v m->Q v H'
noncomputable def cH(K:PySem.W.Frag)(C:Addr)(kb:Option (List Bool))(n:Nat)(x:Str):Option MV:=match fnAt K x with
 |some (f,o,fd)=>(match zau fd.params,zep fd.body with
  |some args,some body=>if(fd.name==nmOf x&&fd.qualname==x&&Nat.beq fd.globals mainGlobals&&fd.closure.isEmpty&& (isNone fd.defaults||noneD K fd.defaults && !args.isEmpty)&&Nat.beq fd.builtins builtinsNs&&PySem.W.codeIn K fd.code x&&PySem.W.keepIn K (.ref f) &&
   zdb (zay (args.map (·.arg)) fd.scope) (args.map (·.arg)) fd.scope)&&Nat.beq args.length 1 then
   mB K C kb ⟨zay (args.map (·.arg)) fd.scope,fd.scope.names,true⟩ n (some .exc::List.replicate ((zay (args.map (·.arg)) fd.scope).length-1) none) body
   else none
  |_,_=>none)
 |none=>none
theorem xh_ok{P:Program}{w:World}{K:PySem.W.Frag}{mg:Str->Option Value}{base:Heap}{k:Nat}(KX:K.In base)(G:base.Ns mainGlobals mg){x:Str}{sc:Scope}{f:Addr}{N ps:List Str}(S:FnScope N ps sc)
 (cdv:Value) (A:Around) (outer:List Env) (s:Shared) (H:Hp) (hr:RoomH k (A.deeper (envOfC x sc s.heap.objs.size f cdv))):XH (cxH P w K mg base N x sc f cdv A outer s H) ⟨N,sc.names,true⟩:=by
 refine⟨rfl,S.nd,λy hy=>?_,λy hy=>?_,λy hy=>hy,λy v hv=>PySem.W.mg_of KX G hv,λy hv=>PySem.W.mg_none_of KX G hv,?_⟩
 .have hy:visK (sc.names.lookup y)=true:=hy
  cases z:sc.names.lookup y with
  |none=>rw[z]at hy;cases hy
  |some kd=>cases kd<;>first|exact .inl z|exact .inr (.inl z)|exact .inr (.inr z)|(rw[z]at hy;cases hy)
 .have hy:locK true (sc.names.lookup y)=true:=hy
  cases z:sc.names.lookup y with
  |none=>rw[z]at hy;cases hy
  |some kd=>cases kd<;>first|exact⟨.inl z,.inl rfl⟩|exact⟨.inr z,.inl rfl⟩|(rw[z]at hy;cases hy)
 .have:=hr.un
  show(A.deeper (envOfC x sc s.heap.objs.size f cdv)).units+70<cLine
  omega
theorem cH_ok{P:Program}{w:World}{K:PySem.W.Frag}{mg:Str->Option Value}{base:Heap}{C:Addr}{kb:Option (List Bool)}{n k:Nat}{x:Str}{m:MV}(KX:K.In base)(G:base.Ns mainGlobals mg)(h:cH K C kb n x=some m)(ex:XL.ExcI K C)
 (hk:kb.isSome=true->∃f fd ps,mg "_law_kinds" = some (.ref f)/\FnOkH P w K mg base k f fd ps (spK C kb)/\PySem.W.keepIn K (.ref f)=true/\Binds K fd ps []) :
 ∃f fd ps,refAt K x=some f/\FnOkH P w K mg base (k+1) f fd ps (spM C m)/\PySem.W.keepIn K (.ref f)=true/\Binds K fd ps []:=by
 unfold cH at h
 split at h
 .rename_i f o fd hf
  split at h
  .rename_i args body ha hb
   split at h
   .rename_i hc
    rw[vaa]at hc
    obtain⟨hc,h1⟩:=hc
    rw[vaa,vaa,vaa,vaa,vaa,vaa,vaa,vaa]at hc
    obtain⟨⟨⟨⟨⟨⟨⟨⟨c1,c2⟩,c3⟩,c4⟩,c5⟩,c6⟩,c7⟩,c8⟩,c9⟩:=hc
    obtain⟨S,nd⟩:=zdz c9
    obtain⟨hn,oc,od,sl,lk⟩:=zfp hf
    obtain⟨dx,ef⟩:=zj1 c1 c2 c3 c4 c6 ha hb
    have hl:(args.map (·.arg)).length=1:=by rw[vap];exact vbp h1
    have lk':=lk
    rw[ef]at lk'
    refine⟨f,fd,args.map (·.arg),hn,?_,c8,(zg4 ef nd rfl c5).1⟩
    rw[ef]
    refine fnH (K:=K) (N:=zay (args.map (·.arg)) fd.scope) lk' c7 S (λvs H Q ⟨a,e,_⟩=>by rw[e,hl];rfl) λA outer s H vs Q hr hq0=>?_
    obtain⟨a,e,q1,q2⟩:=hq0
    have O:=xh_ok (P:=P) (w:=w) (mg:=mg) (base:=base) KX G (x:=x) (f:=f) S fd.code A outer s H hr
    have K1:XK1 (cxH P w K mg base (zay (args.map (·.arg)) fd.scope) x fd.scope f fd.code A outer s H) C kb k:=⟨ex,λz=>let⟨g,gd,qs,a1,a2,a3,a4⟩:=hk z;⟨g,gd,qs,a1,a2,a3,a4,hr⟩⟩
    refine⟨_,mB_ok O K1 n _ body m h,?_,q2⟩
    subst e
    intro i mv hi
    cases i with
    |zero=>
     cases hi
     exact⟨.ref a,by unfold L2.start;rfl,a,rfl,q1⟩
    |succ i=>
     rw[List.getElem?_cons_succ,vcc]at hi
     split at hi<;>cases hi
   .cases h
  .cases h
 .cases h
noncomputable abbrev gS(K:PySem.W.Frag)(T:List Str)(R:RX)(d n:Nat):CC->List Stmt->Option S:=λC b=>cSs (cS K T R d n C) b
noncomputable abbrev gX(K:PySem.W.Frag)(T:List Str)(R:RX)(d n:Nat):CC->List Stmt->Option S:=λC b=>(cSs (cX K T R d n C) b).map λb=>.seq b (.ret (.cst (.tup [.non])))
noncomputable def cC(K:PySem.W.Frag)(T:List Str):Option Fn:=match clsAt K,za0 T "Balls.__init__" 0,fnAt K "Balls.__init__"with
 |some D,some ii,some (f,_,fd)=>if mkB K D f then some (clsFn D ii (fd.params.args.length-1))else none
 |_,_,_=>none
noncomputable def cF0(K:PySem.W.Frag)(T:List Str)(R:RX)(d n:Nat)(x:Str):Option Fn:=if x==("" : Str)then some ⟨0,0,.no⟩else if za5 x then cC K T else cFg K (gS K T R d n) x
theorem zj4{K:PySem.W.Frag}{T:List Str}{R:RX}{d n:Nat}{x:Str}{fn:Fn}(h:cF0 K T R d n x=some fn)(hx:x≠"")(hc:za5 x=false):cFg K (gS K T R d n) x=some fn:=by
 unfold cF0 at h
 rw[if_neg (by simpa using hx),hc]at h
 exact h
theorem cC_ok{K:PySem.W.Frag}{T:List Str}{R:RX}{d n:Nat}{x:Str}{fn:Fn}(h:cF0 K T R d n x=some fn)(hc:za5 x=true):∃D ii na f,clsAt K=some D/\fn=clsFn D ii na/\T[ii]?=some "Balls.__init__"/\Mk K D f/\refAt K "Balls.__init__" = some f:=by
 unfold cF0 at h
 have hx:x = "Balls":=by unfold za5 at hc;simpa using hc
 rw[if_neg (by rw[hx];decide +kernel),hc]at h
 simp only[vbb]at h
 unfold cC at h
 split at h
 .rename_i D ii f o fd h1 h2 h3
  split at h
  .rename_i hm
   cases h
   refine⟨D,ii,_,f,h1,rfl,zbu h2,zrw hm,?_⟩
   unfold fnAt at h3
   split at h3
   .rename_i g hg
    split at h3
    .split at h3
     .cases h3;exact hg
     .cases h3
    .cases h3
   .cases h3
  .cases h
 .cases h
noncomputable def cProg(K:PySem.W.Frag)(T:List Str)(R:RX)(d n:Nat):Option (List Fn):=match mapO (cF0 K T R d n) T,mapO (cFg K (gX K T R d n)) R.tel with
 |some a,some b=>if Nat.beq R.at_ T.length then some (a++b)else none
 |_,_=>none
theorem zg7{α β:Type}{f:α->Option β}:∀{l:List α} {r:List β},mapO f l=some r->r.length=l.length
 |[],_,h=>by cases h;rfl
 |x::l,r,h=>by
  unfold mapO at h
  split at h
  .split at h
   .rename_i bs hbs
    cases h
    rw[vam,vam,zg7 hbs]
   .cases h
  .cases h
section
variable{K:PySem.W.Frag}{T:List Str}{R:RX}{d n:Nat}{Fs:List Fn}
theorem zbp(hP:cProg K T R d n=some Fs):(∀(i:Nat) (x:Str),T[i]?=some x->∃fn,Fs[i]?=some fn/\cF0 K T R d n x=some fn)/\∀(j:Nat) (x:Str),R.tel[j]?=some x->∃fn,Fs[R.at_+j]?=some fn/\cFg K (gX K T R d n) x=some fn:=by
 unfold cProg at hP
 split at hP
 .rename_i a b ha hb
  split at hP
  .rename_i hz
   cases hP
   have hl:=zg7 ha
   have hz:R.at_=T.length:=vbp hz
   refine⟨λi x e=>?_,λj x e=>?_⟩
   .obtain⟨fn,h1,h2⟩:=zeq ha i x e
    exact⟨fn,by rw[vbj (vak.mp h1).1];exact h1,h2⟩
   .obtain⟨fn,h1,h2⟩:=zeq hb j x e
    exact⟨fn,by rw[vbc (by omega),hz,hl,Nat.add_sub_cancel_left];exact h1,h2⟩
  .cases hP
 .cases hP
end
theorem gX_ok{K:PySem.W.Frag}{T:List Str}{R:RX}{d n:Nat}{C:CC}{b:List Stmt}{s:S}(h:gX K T R d n C b=some s):∃c,cSs (cX K T R d n C) b=some c/\s=.seq c (.ret (.cst (.tup [.non]))):=by
 obtain⟨c,h1,h2⟩:=map_some h
 exact⟨c,h1,h2⟩
noncomputable def Wd(P:Program)(w:World)(K:PySem.W.Frag)(mg:Str->Option Value)(base:Heap)(C:Nat)(z:Str):Prop:=∃f fd ps,mg "_law_word" = some (.ref f)/\FnOkH P w K mg base 2 f fd ps (spWd C z)/\PySem.W.keepIn K (.ref f)=true/\Binds K fd ps []
noncomputable def wordB(K:PySem.W.Frag)(C:Nat)(z:Str):Bool:=match cH K C none 60 "_law_kinds"with
 |some (.bls bs)=>(match cH K C (some bs) 60 "_law_word"with
  |some (.str y)=>y==z
  |_=>false)
 |_=>false
theorem _root_.L2.FnOkH.imp{P:Program}{w:World}{K:PySem.W.Frag}{mg:Str->Option Value}{base:Heap}{k:Nat}{f:Addr}{fd:FuncData}{ps:List Str}{sp sp':List V->Hp->VK->Prop}(F:FnOkH P w K mg base k f fd ps sp)(h:∀vs H Q,sp' vs H Q->sp vs H Q):FnOkH P w K mg base k f fd ps sp':=
 ⟨λvs H Q q=>F.len _ _ _ (h _ _ _ q),λA o s H args us vs Q hr e hb r q=>F.run A o s H args us vs Q hr e hb r (h _ _ _ q)⟩
theorem wd_ok{P:Program}{w:World}{K:PySem.W.Frag}{mg:Str->Option Value}{base:Heap}{C:Nat}{z:Str}(KX:K.In base)(G:base.Ns mainGlobals mg)(h:wordB K C z=true)(ex:XL.ExcI K C):Wd P w K mg base C z:=by
 unfold wordB at h
 split at h
 .rename_i bs h1
  split at h
  .rename_i y h2
   have hy:y=z:=by simpa using h
   subst hy
   obtain⟨f1,fd1,ps1,a1,a2,a3,a4⟩:=cH_ok (P:=P) (w:=w) (k:=0) KX G h1 ex (λz=>nomatch z)
   have a2:FnOkH P w K mg base 1 f1 fd1 ps1 (spK C (some bs)):=a2.imp λvs H Q hq0=>by obtain⟨a,bs',q1,q2,q3,q4⟩:=hq0;cases q3;exact⟨a,q1,q2,q4⟩
   obtain⟨f2,fd2,ps2,b1,b2,b3,b4⟩:=cH_ok (P:=P) (w:=w) (k:=1) KX G h2 ex (λ_=>⟨f1,fd1,ps1,PySem.W.mg_of KX G (zb1 a1 (by decide +kernel)),a2,a3,a4⟩)
   exact⟨f2,fd2,ps2,PySem.W.mg_of KX G (zb1 b1 (by decide +kernel)),b2.imp λvs H Q ⟨a,q1,q2,q3⟩=>⟨a,q1,q2,λv H' k r=>by rw[show v=.str y from r];exact q3 H' k⟩,b3,b4⟩
  .cases h
 .cases h
noncomputable abbrev AF(P:Program)(w:World)(K:PySem.W.Frag)(mg:Str->Option Value)(base:Heap)(T:List Str)(Fs:List Fn)(k:Nat):Prop:=∀(i:Nat) (x:Str),T[i]?=some x->x≠""->za5 x=false->∃f fd ps fn,refAt K x=some f/\FnOk P w K mg base CX0 k f fd ps (spV K ps.length (run (λi=>Fs[i]?) k i))/\PySem.W.keepIn K (.ref f)=true/\Binds K fd ps []/\Fs[i]?=some fn/\fn.ps=ps.length/\(hasD K x=true->Binds K fd ps [.none])
noncomputable abbrev AR(P:Program)(w:World)(K:PySem.W.Frag)(mg:Str->Option Value)(base:Heap)(R:RX)(Fs:List Fn)(k:Nat):Prop:=∀(j:Nat) (x:Str),R.tel[j]?=some x->∃f fd ps fn,refAt K x=some f/\FnOk P w K mg base (CX1 P w) k f fd ps (spX K ps.length (run (λi=>Fs[i]?) k (R.at_+j)))/\PySem.W.keepIn K (.ref f)=true/\Binds K fd ps []/\Fs[R.at_+j]?=some fn/\fn.ps=ps.length
noncomputable abbrev AC(P:Program)(w:World)(K:PySem.W.Frag)(mg:Str->Option Value)(base:Heap)(T:List Str)(Fs:List Fn)(k:Nat):Prop:=∀(ci:Nat) (x:Str),T[ci]?=some x->za5 x=true->∀k',k=k'+1->∃D f fd ps ii na,clsAt K=some D/\Fs[ci]?=some (clsFn D ii na)/\Mk K D f/\FnOk P w K mg base CX0 k' f fd ps (spV K ps.length (run (λi=>Fs[i]?) k' ii))/\Binds K fd ps []/\(hasD K "Balls.__init__" = true->Binds K fd ps [.none])/\∀ws h w h',run (λi=>Fs[i]?) k' ii ws h=.ok w h'->ws.length=ps.length
section
variable{P:Program}{w:World}{K:PySem.W.Frag}{mg:Str->Option Value}{base:Heap}{T:List Str}{R:RX}{Fs:List Fn}{k d n:Nat}
theorem zgf(KX:K.In base)(G:base.Ns mainGlobals mg){x:Str}{st:Stmt}{f:Addr}{N ps:List Str}(S:FnScope N ps (zaf st))(H0:AF P w K mg base T Fs k)(HC:AC P w K mg base T Fs k)(HR:AR P w K mg base R Fs k)(HW:∀C z,(C,z)∈R.tb->Wd P w K mg base C z)
 (cdv:Value) (A:Around) (outer:List Env) (s:Shared) (H:Hp) (E:XK) (hr:Room k (A.deeper (envOfC x (zaf st) s.heap.objs.size f cdv))):XOk (cxOf CX0 P w K mg base N x (zaf st) f cdv A outer s H E).nox ⟨N,(zaf st).names,true⟩ T R (λi=>Fs[i]?) k:=by
 refine⟨rfl,S.nd,λy hy=>?_,λy hy=>?_,λy hy=>hy,λy hy=>hy,rfl,hr,rfl,S.kind,λy v hv=>PySem.W.mg_of KX G hv,λy hv=>PySem.W.mg_none_of KX G hv,H0,HC,HR,HW⟩
 .have hy:visK ((zaf st).names.lookup y)=true:=hy
  cases z:(zaf st).names.lookup y with
  |none=>rw[z]at hy;cases hy
  |some kd=>cases kd<;>first|exact .inl z|exact .inr (.inl z)|exact .inr (.inr z)|(rw[z]at hy;cases hy)
 .have hy:locK true ((zaf st).names.lookup y)=true:=hy
  cases z:(zaf st).names.lookup y with
  |none=>rw[z]at hy;cases hy
  |some kd=>cases kd<;>first|exact⟨.inl z,.inl rfl⟩|exact⟨.inr z,.inl rfl⟩|(rw[z]at hy;cases hy)
theorem zj5{CX:CXT}{x:Str}{st:Stmt}{f:Addr}{N:List Str}(cdv:Value)(A:Around)(outer:List Env)(s:Shared)(H:Hp)(E:XK):XTop (cxOf CX P w K mg base N x (zaf st) f cdv A outer s H E).nox ⟨N,(zaf st).names,true⟩:=
 ⟨rfl,rfl,λ_=>rfl,λy hy=>⟨hy,.inl hy,.inl hy⟩⟩
theorem zgg(hP:cProg K T R d n=some Fs)(ih:∀(j:Nat),j<=k->AF P w K mg base T Fs j/\AR P w K mg base R Fs j):AC P w K mg base T Fs k:=by
 intro ci x e hc k' hk
 obtain⟨fn,h1,h2⟩:=(zbp hP).1 ci x e
 obtain⟨D,ii,na,f,c1,rfl,c3,c4,c5⟩:=cC_ok h2 hc
 obtain⟨f',fd,ps,fn',q1,q2,q3,q4,q5,q6,q7⟩:=(ih k' (by omega)).1 ii "Balls.__init__" c3 (by decide +kernel) (by decide +kernel)
 rw[c5]at q1
 cases q1
 exact⟨D,f,fd,ps,ii,na,c1,h1,c4,q2,q4,q7,λws h w h' e=>by rw[zbk (F:=λi=>Fs[i]?) q5 e,q6]⟩
theorem zgh(hP:cProg K T R d n=some Fs)(KX:K.In base)(G:base.Ns mainGlobals mg)(HW:∀C z,(C,z)∈R.tb->Wd P w K mg base C z)(k:Nat):∀(j:Nat),j<=k->AF P w K mg base T Fs j/\AR P w K mg base R Fs j:=by
 induction k with
 |zero=>
  intro j hj
  have:j=0:=Nat.le_zero.mp hj
  subst this
  refine⟨λi x e hx hc=>?_,λi x e=>?_⟩
  .obtain⟨fn,h1,h2⟩:=(zbp hP).1 i x e
   obtain⟨f,fd,st,ps,N,a1,a2,a3,a4,a5,a6,a7,_⟩:=cF_ok (zj4 h2 hx hc)
   exact⟨f,fd,ps,fn,a1,zjq,a2.kp,a6.1,h1,a5,a6.2.1⟩
  .obtain⟨fn,h1,h2⟩:=(zbp hP).2 i x e
   obtain⟨f,fd,st,ps,N,a1,a2,a3,a4,a5,a6,a7,_⟩:=cF_ok h2
   exact⟨f,fd,ps,fn,a1,zll,a2.kp,a6.1,h1,a5⟩
 |succ k ih=>
  intro j hj
  by_cases hjk:j<=k
  .exact ih j hjk
  .have:j=k+1:=by omega
   subst this
   refine⟨λi x e hx hc=>?_,λi x e=>?_⟩
   .obtain⟨fn,h1,h2⟩:=(zbp hP).1 i x e
    obtain⟨f,fd,st,ps,N,a1,a2,a3,a4,a5,a6,a7,_⟩:=cF_ok (zj4 h2 hx hc)
    exact⟨f,fd,ps,fn,a1,zmi (F:=λi=>Fs[i]?) h1 a2 a3 a4 a5 λcdv A outer s H E hr=>zbv (snd_s (zgf KX G a3 (ih k (vad _)).1 (zgg hP ih) (ih k (vad _)).2 HW cdv A outer s H E hr) (zj5 cdv A outer s H E) n) a7,a2.kp,a6.1,h1,a5,a6.2.1⟩
   .obtain⟨fn,h1,h2⟩:=(zbp hP).2 i x e
    obtain⟨f,fd,st,ps,N,a1,a2,a3,a4,a5,a6,a7,_⟩:=cF_ok h2
    obtain⟨c,b1,b2⟩:=gX_ok a7
    exact⟨f,fd,ps,fn,a1,zoj (F:=λi=>Fs[i]?) h1 a2 a3 a4 a5 b2 λcdv A outer s H E hr=>zcq (snd_x (X:=cxOf (CX1 P w) P w K mg base N x (zaf st) f cdv A outer s H E) (zgf KX G a3 (ih k (vad _)).1 (zgg hP ih) (ih k (vad _)).2 HW cdv A outer s H E hr) (zj5 cdv A outer s H E) n) b1,a2.kp,a6.1,h1,a5⟩
end
noncomputable def zbq:Res W->Bool
 |.ok (.bl true) _=>true
 |_=>false
noncomputable def says(K:PySem.W.Frag)(T:List Str)(R:RX)(d n k i:Nat)(ns:List Int):Bool:=match cProg K T R d n with
 |some Fs=>zbq (run (λi=>Fs[i]?) k i [.fz (ns.map .int)] ⟨0,0,[]⟩)
 |none=>false
theorem zgi{r:Res W}(h:zbq r=true):∃h',r=.ok (.bl true) h':=by
 cases r with
 |no=>cases h
 |ex _ _=>cases h
 |ok w h'=>cases w<;>first|(rename_i b;cases b<;>first|exact⟨h',rfl⟩|cases h)|cases h
theorem zd0{K:PySem.W.Frag}{m:Nat->Addr}{n:Nat}{H:Hp}:∀(ns:List Int),VReps K m n H (ns.map V.int) (ns.map W.int)
 |[]=>.nil
 |i::r=>.cons (.int i) (zd0 r)
theorem zj6{K:PySem.W.Frag}{T:List Str}{R:RX}{d n k i:Nat}{ns:List Int}(h:says K T R d n k i ns=true):∃Fs h',cProg K T R d n=some Fs/\run (λi=>Fs[i]?) k i [.fz (ns.map .int)] ⟨0,0,[]⟩=.ok (.bl true) h':=by
 unfold says at h
 split at h
 .rename_i Fs hF
  obtain⟨h',e⟩:=zgi h
  exact⟨Fs,h',hF,e⟩
 .cases h
theorem zou{K:PySem.W.Frag}{T:List Str}{R:RX}{d n k i:Nat}{ns:List Int}{Fs:List Fn}(hP:cProg K T R d n=some Fs)(h:zbq (run (λi=>Fs[i]?) k i [.fz (ns.map .int)] ⟨0,0,[]⟩)=true):says K T R d n k i ns=true:=by
 unfold says
 rw[hP]
 exact h
noncomputable def lawOk(K:PySem.W.Frag)(x:Str):Bool:=match fnAt K x with
 |some (_,_,fd)=>(match zau fd.params with
  |some [a]=>a.arg==("_law_script" : Str) && !(noneD K fd.defaults)
  |_=>false)
 |none=>false
theorem zlr{l:PySem.W.OpenLaw}{q:Program}{loose:List Str}{XP:(Str->Option Value)->Heap->Prop}{YP:World->Heap->Prop}{dr:DefRec}{K:Params->PySem.W.Frag}(T:List Str)(R:RX)(d n k i:Nat)(hn:l.most=some 63)(hdf:dr.params.defaults=[])(hr:Room k callerA)
 (hY:∀(w:World)(h:Heap),YP w h->(K w.params).In h) (hT:T[i]?=some dr.name) (hne:dr.name≠""/\za5 dr.name=false/\metOf dr.name=none) (hS:∀(w:World)(ns:List Int),ns.length<=63->says (K w.params) T R d n k i ns=true) (hL:∀w:World,lawOk (K w.params) dr.name=true) (hW:∀w:World,∀C z,(C,z)∈R.tb->wordB (K w.params) C z=true/\XL.ExcI (K w.params) C) :
 PySem.W.WalkO q loose XP YP l.row.toRowW dr [] (λf vs=>PySem.call f vs):=by
 have any:∀w:World,∃Fs,cProg (K w.params) T R d n=some Fs:=λw=>let⟨Fs,_,h,_⟩:=zj6 (hS w [] (vct _));⟨Fs,h⟩
 refine L2.znf (n:=63) (k:=k) (x:="_law_script") (CX:=λ_=>CX0) (sp:=λw=>spV (K w.params) 1 (run (λj=>(Classical.choose (any w))[j]?) k i)) hn (by decide) hdf hr hY ?_ ?_ λ_ _ _ _ _ z=>z
 .intro w mg fa h KX G hmg
  have hP:=Classical.choose_spec (any w)
  obtain⟨fn',h1,h2⟩:=(zbp hP).1 i _ hT
  obtain⟨f',fd',st,ps',N,a1,a2,a3,a4,a5,a6,a7,o',fd'',args,a8,a9,a10⟩:=cF_ok (zj4 h2 hne.1 hne.2.1)
  have hps:ps'=[("_law_script" : Str)]:=by
   have hl:=hL w
   unfold lawOk at hl
   rw[a8]at hl
   simp only[a9]at hl
   cases args with
   |nil=>cases hl
   |cons z zs=>
    cases zs with
    |nil=>
     rw[vaa]at hl
     have hl:z.arg = "_law_script":=by simpa using hl.1
     rw[a10,vaj,hl];rfl
    |cons _ _=>cases hl
  have hnd:hasD (K w.params) dr.name=false:=by
   have hl:=hL w
   unfold lawOk at hl
   rw[a8]at hl
   unfold hasD
   rw[a8]
   simp only[a9]at hl
   split at hl
   .rw[vaa]at hl
    simpa using hl.2
   .cases hl
  have e:=PySem.W.mg_of KX G (zb1 a1 hne.2.2)
  rw[hmg]at e
  cases e
  subst hps
  refine⟨fd',λs u=>.of_eq (a6.2.2 hnd [u] rfl),λbase KB GB=>?_⟩
  have HW:∀C z,(C,z)∈R.tb->Wd l.prog w (K w.params) mg base C z:=λC z hm=>wd_ok KB GB (hW w C z hm).1 (hW w C z hm).2
  cases k with
  |zero=>exact zjq
  |succ k=>exact zmi (F:=λj=>(Classical.choose (any w))[j]?) h1 a2 a3 a4 a5 λcdv A outer s H E hr=>zbv (snd_s (zgf KB GB a3 (zgh hP KB GB HW k k (vad _)).1 (zgg hP (zgh hP KB GB HW k)) (zgh hP KB GB HW k k (vad _)).2 HW cdv A outer s H E hr) (zj5 cdv A outer s H E) n) a7
 .intro w H a ns hl hO hQ
  obtain⟨Fs,h',e1,e2⟩:=zj6 (hS w ns hl)
  have hP:=Classical.choose_spec (any w)
  rw[hP]at e1
  cases e1
  refine⟨rfl,⟨0,0,[]⟩,λ_=>0,_,_,h',⟨λi hi=>absurd hi (Nat.not_lt_zero _),λi j hi=>absurd hi (Nat.not_lt_zero _),rfl⟩,.cons (.fz ?_ (zd0 ns)) .nil,e2,λv H' m' _ _ q=>by cases q;rfl⟩
  rcases hQ with(q|⟨o,q⟩)|q
  .rcases hO a with z|⟨o,xs,z⟩
   .rw[z]at q;cases q
   .rw[z]at q;cases q
  .exact .inl ⟨o,q⟩
  .exact .inr q
noncomputable def fn0:Fn:=⟨1,1,(.seq (.ret (.and (.isi .int (.var 0)) (.not (.isi .bool (.var 0))))) .skip)⟩
noncomputable def fn1:Fn:=⟨3,3,(.seq (.ret (.and (.call 0 (.cons (.var 0) .nil)) (.chn .le .le (.var 1) (.var 0) (.var 2)))) .skip)⟩
noncomputable def fn2:Fn:=⟨2,2,(.seq (.ite (.cmp .eq (.bi .len (.cons (.var 0) .nil)) (.cst (.int (0)))) (.seq (.ret (.op .add (.op .mul (.cst (.int (7))) (.var 1)) (.cst (.int (3))))) .skip) .skip) (.seq (.ret (.bi .abs (.cons (.idx (.var 0) (.op .mod (.var 1) (.bi .len (.cons (.var 0) .nil)))) .nil))) .skip))⟩
noncomputable def zcf:E:=(.cmp .ge (.bi .abs (.cons (.var 0) .nil)) (.op .pow (.cst (.int (10))) (.cst (.int (18)))))
noncomputable def zcg:E:=(.bi .abs (.cons (.var 0) .nil))
noncomputable def fn3:Fn:=⟨1,1,(.seq (.ret (.lst (.cons (.var 0) (.cons (.lc .seq (.var 0) (.one 0) 1 [] zcf zcg) (.cons (.cst (.int (0))) (.cons (.cst (.int (0))) .nil)))))) .skip)⟩
noncomputable def fn4:Fn:=⟨3,4,(.seq (.set 3 (.op .mod (.op .pow (.op .add (.op .mul (.op .add (.op .mod (.call 2 (.cons (.var 0) (.cons (.var 1) .nil))) (.cst (.int (1000003)))) (.cst (.int (5)))) (.op .add (.var 1) (.cst (.int (2))))) (.op .mul (.cst (.int (7919))) (.var 1))) (.cst (.int (5)))) (.cst (.int (2147483647))))) (.seq (.ret (.op .mod (.op .fdiv (.var 3) (.cst (.int (13)))) (.var 2))) .skip))⟩
noncomputable def zft:E:=(.cmp .lt (.idx (.var 0) (.cst (.int (2)))) (.bi .len (.cons (.idx (.var 0) (.cst (.int (1)))) .nil)))
noncomputable def zdd:S:=(.seq (.set 2 (.idx (.idx (.var 0) (.cst (.int (1)))) (.idx (.var 0) (.cst (.int (2)))))) (.seq (.ite (.cmp .gt (.var 2) (.cst (.int (0)))) (.seq (.put (.idx (.var 0) (.cst (.int (1)))) (.idx (.var 0) (.cst (.int (2)))) (.op .fdiv (.var 2) (.var 1))) (.seq (.ret (.op .mod (.var 2) (.var 1))) .skip)) .skip) (.seq (.put (.var 0) (.cst (.int (2))) (.op .add (.idx (.var 0) (.cst (.int (2)))) (.cst (.int (1))))) .skip)))
noncomputable def fn5:Fn:=⟨2,3,(.seq (.whl zft zdd) (.seq (.put (.var 0) (.cst (.int (3))) (.op .add (.idx (.var 0) (.cst (.int (3)))) (.cst (.int (1))))) (.seq (.ret (.call 4 (.cons (.idx (.var 0) (.cst (.int (0)))) (.cons (.idx (.var 0) (.cst (.int (3)))) (.cons (.var 1) .nil))))) .skip)))⟩
noncomputable def fin(h:VH)(r:Res Fl):Res W:=r.bind λfl h'=>match fl with
 |.nx _=>leave h .non h'
 |.rt w=>leave h w h'
 |_=>.no
theorem zbf{F:Nat->Option Fn}{k f:Nat}{fn:Fn}{ws:List W}{h:VH}(hF:F f=some fn)(hl:ws.length=fn.ps) :
 run F (k+1) f ws h=fin h (exs (run F k) fn.body (ws.map some++List.replicate (fn.n-fn.ps) none) ⟨h.n,h.n,h.os⟩):=by
 simp only[run,hF]
 rw[if_pos (by rw[hl];exact Nat.beq_refl _)]
 rfl
theorem zhu{h:VH}{w:W}{h':VH}(h1:h.n<=h'.lo)(h2:W.lt h.n w=true):leave h w h'=.ok w h:=by
 unfold leave
 rw[if_pos (by rw[vaa];exact⟨Nat.ble_eq.mpr h1,h2⟩)]
theorem za6{h h':VH}{w:W}(h1:h.n<=h'.lo)(h2:W.lt h.n w=true):fin h (.ok (.rt w) h')=.ok w h:=zhu h1 h2
@[simp] theorem bindok {α β:Type} {a:α} {h:VH} {f:α->VH->Res β}:(Res.ok a h).bind f=f a h:=rfl
@[simp] theorem bindno {α β:Type} {f:α->VH->Res β}:(Res.no:Res α).bind f=.no:=rfl
@[simp] theorem ofsome {α:Type} {a:α} {h:VH}:Res.of (some a) h=.ok a h:=rfl
@[simp] theorem ofnone {α:Type} {h:VH}:Res.of (none:Option α) h=.no:=rfl
@[simp] theorem lt_non {n:Nat}:W.lt n .non=true:=by simp only[W.lt]
@[simp] theorem lt_bl {n:Nat} {b:Bool}:W.lt n (.bl b)=true:=by simp only[W.lt]
@[simp] theorem lt_int {n:Nat} {b:Int}:W.lt n (.int b)=true:=by simp only[W.lt]
@[simp] theorem lt_str {n:Nat} {b:Str}:W.lt n (.str b)=true:=by simp only[W.lt]
@[simp] theorem lt_tup {n:Nat} {b:List W}:W.lt n (.tup b)=W.lts n b:=by simp only[W.lt]
@[simp] theorem lts_nil {n:Nat}:W.lts n []=true:=by simp only[W.lts]
@[simp] theorem lts_cons {n:Nat} {b:W} {r:List W}:W.lts n (b::r)=(W.lt n b&&W.lts n r):=by simp only[W.lts]
@[simp] theorem ty_int_int:((Ty.int==Ty.int):Bool)=true:=rfl
@[simp] theorem ty_int_bool:((Ty.int==Ty.bool):Bool)=false:=rfl
@[simp] theorem ty_int_tuple:((Ty.int==Ty.tuple):Bool)=false:=rfl
@[simp] theorem ty_int_list:((Ty.int==Ty.list):Bool)=false:=rfl
@[simp] theorem ty_int_str:((Ty.int==Ty.str):Bool)=false:=rfl
@[simp] theorem ty_int_dict:((Ty.int==Ty.dict):Bool)=false:=rfl
@[simp] theorem ty_bool_int:((Ty.bool==Ty.int):Bool)=false:=rfl
@[simp] theorem ty_bool_bool:((Ty.bool==Ty.bool):Bool)=true:=rfl
@[simp] theorem ty_bool_tuple:((Ty.bool==Ty.tuple):Bool)=false:=rfl
@[simp] theorem ty_bool_list:((Ty.bool==Ty.list):Bool)=false:=rfl
@[simp] theorem ty_bool_str:((Ty.bool==Ty.str):Bool)=false:=rfl
@[simp] theorem ty_bool_dict:((Ty.bool==Ty.dict):Bool)=false:=rfl
@[simp] theorem ty_tuple_int:((Ty.tuple==Ty.int):Bool)=false:=rfl
@[simp] theorem ty_tuple_bool:((Ty.tuple==Ty.bool):Bool)=false:=rfl
@[simp] theorem ty_tuple_tuple:((Ty.tuple==Ty.tuple):Bool)=true:=rfl
@[simp] theorem ty_tuple_list:((Ty.tuple==Ty.list):Bool)=false:=rfl
@[simp] theorem ty_tuple_str:((Ty.tuple==Ty.str):Bool)=false:=rfl
@[simp] theorem ty_tuple_dict:((Ty.tuple==Ty.dict):Bool)=false:=rfl
@[simp] theorem ty_list_int:((Ty.list==Ty.int):Bool)=false:=rfl
@[simp] theorem ty_list_bool:((Ty.list==Ty.bool):Bool)=false:=rfl
@[simp] theorem ty_list_tuple:((Ty.list==Ty.tuple):Bool)=false:=rfl
@[simp] theorem ty_list_list:((Ty.list==Ty.list):Bool)=true:=rfl
@[simp] theorem ty_list_str:((Ty.list==Ty.str):Bool)=false:=rfl
@[simp] theorem ty_list_dict:((Ty.list==Ty.dict):Bool)=false:=rfl
@[simp] theorem ty_str_int:((Ty.str==Ty.int):Bool)=false:=rfl
@[simp] theorem ty_str_bool:((Ty.str==Ty.bool):Bool)=false:=rfl
@[simp] theorem ty_str_tuple:((Ty.str==Ty.tuple):Bool)=false:=rfl
@[simp] theorem ty_str_list:((Ty.str==Ty.list):Bool)=false:=rfl
@[simp] theorem ty_str_str:((Ty.str==Ty.str):Bool)=true:=rfl
@[simp] theorem ty_str_dict:((Ty.str==Ty.dict):Bool)=false:=rfl
@[simp] theorem ty_dict_int:((Ty.dict==Ty.int):Bool)=false:=rfl
@[simp] theorem ty_dict_bool:((Ty.dict==Ty.bool):Bool)=false:=rfl
@[simp] theorem ty_dict_tuple:((Ty.dict==Ty.tuple):Bool)=false:=rfl
@[simp] theorem ty_dict_list:((Ty.dict==Ty.list):Bool)=false:=rfl
@[simp] theorem ty_dict_str:((Ty.dict==Ty.str):Bool)=false:=rfl
@[simp] theorem ty_dict_dict:((Ty.dict==Ty.dict):Bool)=true:=rfl
@[simp] theorem isi_non {t:Ty} {h:VH}:tyIs t h .non=some false:=rfl
@[simp] theorem isi_bl {t:Ty} {h:VH} {b:Bool}:tyIs t h (.bl b)=some (t == .int||t == .bool):=rfl
@[simp] theorem isi_int {t:Ty} {h:VH} {i:Int}:tyIs t h (.int i)=some (t == .int):=rfl
@[simp] theorem isi_str {t:Ty} {h:VH} {x:Str}:tyIs t h (.str x)=some (t == .str):=rfl
@[simp] theorem isi_tup {t:Ty} {h:VH} {x:List W}:tyIs t h (.tup x)=some (t == .tuple):=rfl
@[simp] theorem get_lo {h:VH} {l i:Nat}:VH.get ⟨h.n,l,h.os⟩ i=h.get i:=by unfold VH.get;rfl
@[simp] theorem tru_bl {h:VH} {b:Bool}:truW h (.bl b)=some b:=rfl
noncomputable def forL(tg:W->VH->En->Option En)(b:FS):List W->En->VH->Res Fl
 |[],ρ,h=>.ok (.nx ρ) h
 |w::r,ρ,h=>match tg w h ρ with
  |none=>.no
  |some ρ=>(b ρ h).bind λfl h=>match fl with
   |.nx ρ=>forL tg b r ρ h
   |.ct ρ=>forL tg b r ρ h
   |.bk ρ=>.ok (.nx ρ) h
   |.rt w=>.ok (.rt w) h
noncomputable def lcL(tg:W->VH->En->Option En)(c e:FE):List W->En->VH->Res (List W)
 |[],_,h=>.ok [] h
 |w::r,ρ,h=>match tg w h ρ with
  |none=>.no
  |some ρ=>(c ρ h).bind λb h=>match b with
   |.bl true=>(e ρ h).bind λy h=>(lcL tg c e r ρ h).bind λys h=>.ok (y::ys) h
   |.bl false=>lcL tg c e r ρ h
   |_=>.no
theorem zd1{α β γ:Type}{r:Res α}{f:α->VH->Res β}{g:β->VH->Res γ}:(r.bind f).bind g=r.bind λa h=>(f a h).bind g:=by cases r<;>rfl
theorem zfu{nx:Nat->VH->Option (Option W)}{tg:W->VH->En->Option En}{b:FS}{ws:List W}(hx:∀i h,nx i h=some ws[i]?):∀(fu i:Nat) (ρ:En) (h:VH),i<=ws.length->ws.length<fu+i->forG nx tg b fu i ρ h=forL tg b (ws.drop i) ρ h
 |0,i,ρ,h,hi,hl=>by omega
 |fu+1,i,ρ,h,hi,hl=>by
  simp only[forG,hx]
  cases q:ws[i]? with
  |none=>
   rw[List.drop_eq_nil_of_le (vbk.mp q)]
   rfl
  |some w=>
   obtain⟨hi,e⟩:=vak.mp q
   rw[List.drop_eq_getElem_cons hi,e]
   simp only[forL]
   cases tg w h ρ with
   |none=>rfl
   |some ρ'=>
    simp only
    congr 1
    funext fl h1
    cases fl<;>simp only[zfu hx fu (i+1) _ _ hi (by omega)]
theorem zes{nx:Nat->VH->Option (Option W)}{tg:W->VH->En->Option En}{c e:FE}{ws:List W}(hx:∀i h,nx i h=some ws[i]?):∀(fu i:Nat) (ρ:En) (h:VH) (acc:List W),i<=ws.length->ws.length<fu+i->
 lcG nx tg c e fu i ρ h acc=(lcL tg c e (ws.drop i) ρ h).bind λys h=>.ok (acc.reverse++ys) h
 |0,i,ρ,h,acc,hi,hl=>by omega
 |fu+1,i,ρ,h,acc,hi,hl=>by
  simp only[lcG,hx]
  cases q:ws[i]? with
  |none=>
   rw[List.drop_eq_nil_of_le (vbk.mp q)]
   simp[lcL]
  |some w=>
   obtain⟨hi,ee⟩:=vak.mp q
   rw[List.drop_eq_getElem_cons hi,ee]
   simp only[lcL]
   cases tg w h ρ with
   |none=>rfl
   |some ρ'=>
    simp only[zd1]
    congr 1
    funext bv h1
    cases bv<;>try rfl
    rename_i bb
    cases bb with
    |true=>
     simp only[zd1]
     congr 1
     funext y h2
     rw[zes hx fu (i+1) _ _ _ hi (by omega)]
     congr 1
     funext ys h3
     simp
    |false=>simp only[zes hx fu (i+1) _ _ _ hi (by omega)]
noncomputable def za7(a:Int):Nat->List W
 |0=>[]
 |n+1=>.int a::za7 (a+1) n
theorem zd2:∀(n i:Nat) (a:Int),(za7 a n)[i]?=if i<n then some (.int (a+i))else none
 |0,i,a=>by simp[za7]
 |n+1,0,a=>by simp[za7]
 |n+1,i+1,a=>by
  simp only[za7,List.getElem?_cons_succ]
  rw[zd2 n i (a+1)]
  by_cases q:i<n
  .rw[if_pos q,if_pos (by omega)]
   congr 2
   push_cast
   omega
  .rw[if_neg q,if_neg (by omega)]
theorem zd3:∀(n:Nat) (a:Int),(za7 a n).length=n
 |0,_=>rfl
 |n+1,a=>by simp[za7,zd3 n]
theorem zj7{n:Nat}{tg:W->VH->En->Option En}{b:FS}{ρ:En}{h:VH}(hl:n<1000000):forG (nxt .rng1 (.tup [.int n])) tg b fuel 0 ρ h=forL tg b (za7 0 n) ρ h:=by
 have hf:fits (n:Int)=true:=by simp[fits];omega
 have:=zfu (nx:=nxt .rng1 (.tup [.int n])) (tg:=tg) (b:=b) (ws:=za7 0 n) (λi h=>by rw[zd2];simp[nxt,hf]) fuel 0 ρ h (vct _) (by simpa[fuel,zd3]using hl)
 simpa using this
noncomputable def isInt:W->Bool
 |.int _=>true
 |_=>false
noncomputable def Kn(h:VH)(w:W):Prop:=tyIs .int h w≠none
theorem kn_lo{h:VH}{l:Nat}{w:W}:Kn ⟨h.n,l,h.os⟩ w↔Kn h w:=by
 unfold Kn
 cases w<;>simp[tyIs]
section
variable{F:Nat->Option Fn}
noncomputable def within(w:W)(lo hi:Int):Bool:=match w with
 |.int i=>decide (lo<=i)&&decide (i<=hi)
 |_=>false
end
structure CoreD(F:Nat->Option Fn):Prop where
 f2:F 2=some fn2
 f3:F 3=some fn3
 f4:F 4=some fn4
 f5:F 5=some fn5
theorem zgj{h:VH}{i j:Int}:eqW h (.int i) (.int j)=some (decide (i=j)):=by
 unfold eqW
 simp only[toD]
 show some (i==j)=_
 by_cases q:i=j<;>simp[q]
theorem zet{i:Int}(h1:-(2 ^ 63)<=i)(h2:i<2 ^ 63):za8 i=true:=by
 unfold za8
 simp only[vaa,vca]
 omega
theorem za4{h:VH}{i:Nat}{o o0:VO}(g:h.get i=some o0):(h.set i o).get i=some o:=by
 have hi:=zap g
 unfold VH.get at g
 rw[if_pos (zaj.mpr hi)]at g
 have hl:=(vak.mp g).1
 unfold VH.get VH.set
 simp only[if_pos (zaj.mpr hi)]
 rw[va0 hl]
theorem zal{h:VH}{i j:Nat}{o o0:VO}(g:h.get i=some o0)(hj:j≠i):(h.set i o).get j=h.get j:=zb5 (zap g) hj
structure Dk(h:VH)(d c:Nat)(b:Nat):Prop where
 ne:d≠c
 st:∃(ns cells:List Int) (p q:Int),h.get d=some (.lst [.fz (ns.map .int),.ref c,.int p,.int q])/\h.get c=some (.lst (cells.map .int))/\(∀x∈cells,(0:Int)<=x)/\0<=p/\0<=q/\q<=b/\cells.length<=63
theorem Dk.mono{h:VH}{d c b b':Nat}(D:Dk h d c b)(hb:b<=b'):Dk h d c b':=by
 obtain⟨ne,ns,cells,p,q,a1,a2,a3,a4,a5,a6,a7⟩:=D
 exact⟨ne,ns,cells,p,q,a1,a2,a3,a4,a5,by omega,a7⟩
structure Keep(h h':VH)(d c:Nat):Prop where
 le:h.n<=h'.n
 get:∀i o,i≠d->i≠c->h.get i=some o->h'.get i=some o
theorem Keep.refl{h:VH}{d c:Nat}:Keep h h d c:=⟨vad _,λ_ _ _ _ e=>e⟩
theorem Keep.trans{h h1 h2:VH}{d c:Nat}(a:Keep h h1 d c)(b:Keep h1 h2 d c):Keep h h2 d c:=⟨va3 a.le b.le,λi o h1 h2 e=>b.get i o h1 h2 (a.get i o h1 h2 e)⟩
theorem zca(i:Int):(if i<0 then -i else i)=(i.natAbs:Int):=by
 split<;>omega
section
variable{F:Nat->Option Fn}(C:CoreD F)
include C
theorem cell{k:Nat}{h:VH}{ns:List Int}{j:Int}(hj:0<=j):∃r,run F (k+1) 2 [.fz (ns.map .int),.int j] h=.ok (.int r) h/\0<=r:=by
 rw[zbf C.f2 rfl]
 cases ns with
 |nil=>
  refine⟨7*j+3,?_,by omega⟩
  simp[fn2,exs,ev,biW,lenW,seqW,cmpW,zgj,opW,opI,zet,za6]
 |cons n0 ns0=>
  have hl:(0:Int)< ((n0::ns0).length:Int):=by simp only[vam];omega
  have hm1:=Int.emod_nonneg j (show((n0::ns0).length:Int)≠0 by omega)
  have hm2:=vc3 j hl
  obtain⟨m,hm⟩:=vb0 hm1
  have hml:m< (n0::ns0).length:=by omega
  have ha:atI (List.map W.int (n0::ns0)) (j % ((n0::ns0).length:Int))=some (.int ((n0::ns0)[m])):=by
   rw[hm]
   exact zf1 (by rw[vbn,vba hml];rfl)
  have hb:¬(((ns0.length:Int)+1)=0):=by omega
  have hp:(0:Int)< (ns0.length:Int)+1:=by omega
  refine⟨(((n0::ns0)[m]).natAbs:Int),?_,by omega⟩
  simp only[vam,Int.natCast_add,Int.cast_ofNat_Int,vaj]at ha
  simp[fn2,exs,ev,biW,lenW,seqW,cmpW,zgj,opW,opI,za6,idxW,absW,hb,hp,ha,zca]
theorem mixed{k:Nat}{h:VH}{ns:List Int}{j m:Int}(hj:0<=j)(hj2:j<=1000000000)(hm:0<m):∃r,run F (k+2) 4 [.fz (ns.map .int),.int j,.int m] h=.ok (.int r) h/\0<=r/\r<m:=by
 rw[zbf C.f4 rfl]
 obtain⟨c,e1,hc⟩:=cell C (k:=k) (h:=⟨h.n,h.n,h.os⟩) (ns:=ns) hj
 have h1:=Int.emod_nonneg c (show(1000003:Int)≠0 by decide)
 have h2:=vc3 c (show(0:Int)<1000003 by decide)
 generalize hx:c % 1000003=x at h1 h2
 have s1:za8 (x+5)=true:=zet (by omega) (by omega)
 have s2:za8 7919=true:=zet (by omega) (by omega)
 have hb:(x+5)* (j+2)<=1000008*1000000002:=Int.mul_le_mul (by omega) (by omega) (by omega) (by omega)
 have hb0:0<=(x+5)* (j+2):=Int.mul_nonneg (by omega) (by omega)
 generalize hy:(x+5)* (j+2)=y at hb hb0
 have hn:(y+7919*j).natAbs<2 ^ 64:=by omega
 refine⟨(y+7919*j) ^ 5 % 2147483647/13 % m,?_,Int.emod_nonneg _ (by omega),vc3 _ hm⟩
 have hn':(y+7919*j).natAbs<18446744073709551616:=by omega
 simp[fn4,exs,ev,e1,opW,opI,hx,s1,s2,hy,hn',hm,za6]
theorem zfv{k:Nat}{d c:Nat}{m q:Int}{ns:List Int}(hdc:d≠c)(hm:0<m)(hm2:m<1073741824):∀(n f:Nat) (g:VH) (x:Option W) (cells:List Int) (p:Int),n<f->(cells.length:Int)-p<=n->0<=p->(∀y∈cells,(0:Int)<=y)->
 g.get d=some (.lst [.fz (ns.map .int),.ref c,.int p,.int q])->g.get c=some (.lst (cells.map .int))->
 ∃(g':VH) (cells':List Int) (p':Int),0<=p'/\(∀y∈cells',(0:Int)<=y)/\cells'.length=cells.length/\g'.get d=some (.lst [.fz (ns.map .int),.ref c,.int p',.int q])/\g'.get c=some (.lst (cells'.map .int))/\g'.n=g.n/\(∀i,i≠d->i≠c->g'.get i=g.get i)/\
  ((∃r,whlG (ev (run F (k+2)) zft) (exs (run F (k+2)) zdd) f [some (.ref d),some (.int m),x] g=.ok (.rt (.int r)) g'/\0<=r/\r<m)\/∃y,whlG (ev (run F (k+2)) zft) (exs (run F (k+2)) zdd) f [some (.ref d),some (.int m),x] g=.ok (.nx [some (.ref d),some (.int m),y]) g')
 |n,0,g,x,cells,p,hf,_,_,_,_,_=>by omega
 |n,f+1,g,x,cells,p,hf,hn,hp,hnn,gd,gc=>by
  have ec:ev (run F (k+2)) zft [some (.ref d),some (.int m),x] g=.ok (.bl (decide (p<cells.length))) g:=by
   simp[zft,ev,idxW,gd,atI,ixN,biW,lenW,seqW,gc,cmpW,cmpI]
  by_cases hlt:p<cells.length
  .obtain⟨pn,rfl⟩:=vb0 hp
   have hpl:pn<cells.length:=by omega
   have hat:atI (cells.map W.int) (pn:Int)=some (.int cells[pn]):=zf1 (by rw[vbn,vba hpl];rfl)
   by_cases hpos:0<cells[pn]
   .refine⟨g.set c (.lst ((cells.set pn (cells[pn]/m)).map .int)),cells.set pn (cells[pn]/m),pn,hp,?_,by simp,?_,za4 gc,rfl,λi _ hi=>zal gc hi,.inl ⟨cells[pn] % m,?_,Int.emod_nonneg _ (by omega),vc3 _ hm⟩⟩
    .intro y hy
     rcases List.mem_or_eq_of_mem_set hy with hy|rfl
     .exact hnn y hy
     .exact Int.ediv_nonneg (by omega) (by omega)
    .rw[zal gc hdc];exact gd
    .have hix:ixN (cells.map W.int).length (pn:Int)=some pn:=by
      unfold ixN
      rw[if_pos (by omega),if_pos (by rw[vap];omega)];simp
     have eb:exs (run F (k+2)) zdd [some (.ref d),some (.int m),x] g=.ok (.rt (.int (cells[pn] % m))) (g.set c (.lst ((cells.set pn (cells[pn]/m)).map .int))):=by
      have h2:atI [W.fz (ns.map .int),.ref c,.int pn,.int q] 2=some (.int pn):=rfl
      have h1:atI [W.fz (ns.map .int),.ref c,.int pn,.int q] 1=some (.ref c):=rfl
      simp[zdd,exs,ev,idxW,gd,h1,h2,gc,hat,cmpW,cmpI,hpos,opW,opI,hm,hm2]at hix ⊢
      simp[hix,hm,List.map_set]
     simp[whlG,ec,hlt,eb]
   .have gs:(g.set d (.lst [.fz (ns.map .int),.ref c,.int ((pn:Int)+1),.int q])).get c=some (.lst (cells.map .int)):=by rw[zal gd (vb3 hdc)];exact gc
    cases n with
    |zero=>omega
    |succ n=>
     obtain⟨g',cells',p',a1,a2,a3,a4,a5,a6,a7,a8⟩:=zfv (k:=k) hdc hm hm2 n f (g.set d (.lst [.fz (ns.map .int),.ref c,.int ((pn:Int)+1),.int q])) (some (.int cells[pn])) cells (pn+1) (by omega) (by omega) (by omega) hnn (za4 gd) gs
     have eb:exs (run F (k+2)) zdd [some (.ref d),some (.int m),x] g=.ok (.nx [some (.ref d),some (.int m),some (.int cells[pn])]) (g.set d (.lst [.fz (ns.map .int),.ref c,.int ((pn:Int)+1),.int q])):=by
      have h2:atI [W.fz (ns.map .int),.ref c,.int pn,.int q] 2=some (.int pn):=rfl
      have h1:atI [W.fz (ns.map .int),.ref c,.int pn,.int q] 1=some (.ref c):=rfl
      have h3:ixN 4 2=some 2:=rfl
      simp[zdd,exs,ev,idxW,gd,h1,h2,h3,gc,hat,cmpW,cmpI,hpos,opW,opI]
     refine⟨g',cells',p',a1,a2,a3,a4,a5,a6,λi h1 h2=>by rw[a7 i h1 h2,zal gd h1],?_⟩
     rcases a8 with⟨r,e,h3⟩|⟨y,e⟩
     .exact .inl ⟨r,by simp[whlG,ec,hlt,eb,e],h3⟩
     .exact .inr ⟨y,by simp[whlG,ec,hlt,eb,e]⟩
  .exact⟨g,cells,p,hp,hnn,rfl,gd,gc,rfl,λ_ _ _=>rfl,.inr ⟨x,by simp[whlG,ec,hlt]⟩⟩
omit C in
theorem zfw{h h':VH}{w:W}(g:Grow ⟨h.n,h.n,h.os⟩ h'):∃h2,leave h w h'=.ok w h2/\h.n<=h2.n/\∀i,i<h.n->h2.get i=h'.get i:=by
 unfold leave
 split
 .rename_i q
  rw[vaa]at q
  have hlo:=vau q.1
  exact⟨h,rfl,vad _,λi hi=>by
   rw[g.2.2 i hi (vae hi hlo)]
   exact get_lo.symm⟩
 .exact⟨_,rfl,g.1,λi hi=>get_lo⟩
theorem take{k:Nat}{h:VH}{d c b:Nat}{m:Int}(D:Dk h d c b)(hb:b<1000000000)(hm:0<m)(hm2:m<1073741824):∃r h',run F (k+3) 5 [.ref d,.int m] h=.ok (.int r) h'/\0<=r/\r<m/\Dk h' d c (b+1)/\Keep h h' d c:=by
 rw[zbf C.f5 rfl]
 obtain⟨hne,ns,cells,p,q,gd,gc,hnn,hp,hq,hqb,hl⟩:=D
 have gd0:VH.get ⟨h.n,h.n,h.os⟩ d=some (.lst [.fz (ns.map .int),.ref c,.int p,.int q]):=by rw[get_lo];exact gd
 have gc0:VH.get ⟨h.n,h.n,h.os⟩ c=some (.lst (cells.map .int)):=by rw[get_lo];exact gc
 obtain⟨g',cells',p',a1,a2,a3,a4,a5,a6,a7,a8⟩:=zfv C (k:=k) hne hm hm2 63 fuel ⟨h.n,h.n,h.os⟩ none cells p (by decide) (by omega) hp hnn gd0 gc0
 have key:∀(g2:VH)(r:Int)(cells2:List Int)(p2 q2:Int),exs (run F (k+2)) fn5.body [some (.ref d),some (.int m),none] ⟨h.n,h.n,h.os⟩=.ok (.rt (.int r)) g2->0<=r->r<m->0<=p2->0<=q2->q2<=b+1->cells2.length<=63->(∀y∈cells2,(0:Int)<=y)->
  g2.get d=some (.lst [.fz (ns.map .int),.ref c,.int p2,.int q2])->g2.get c=some (.lst (cells2.map .int))->(∀i,i<h.n->i≠d->i≠c->g2.get i=h.get i)->
  ∃r h',fin h (exs (run F (k+2)) fn5.body ([W.ref d,W.int m].map some++List.replicate (fn5.n-fn5.ps) none) ⟨h.n,h.n,h.os⟩)=.ok (.int r) h'/\0<=r/\r<m/\Dk h' d c (b+1)/\Keep h h' d c:=by
  intro g2 r cells2 p2 q2 e r1 r2 b1 b2 b3 b4 b5 b6 b7 b8
  obtain⟨h2,e2,hn2,hg2⟩:=zfw (w:=.int r) (zfi (zfj F (k+2)) _ _ _ _ _ e)
  refine⟨r,h2,?_,r1,r2,⟨hne,ns,cells2,p2,q2,?_,?_,b5,b1,b2,by omega,b4⟩,⟨hn2,λi o h1 h3 e3=>?_⟩⟩
  .show fin h (exs (run F (k+2)) fn5.body [some (.ref d),some (.int m),none] ⟨h.n,h.n,h.os⟩)=_
   rw[e]
   exact e2
  .rw[hg2 d (zap gd)];exact b6
  .rw[hg2 c (zap gc)];exact b7
  .rw[hg2 i (zap e3),b8 i (zap e3) h1 h3];exact e3
 rcases a8 with⟨r,e,r1,r2⟩|⟨y,e⟩
 .refine key g' r cells' p' q ?_ r1 r2 a1 hq (by omega) (by omega) a2 a4 a5 λi hi h1 h2=>by rw[a7 i h1 h2,get_lo]
  simp[fn5,exs,e]
 .obtain⟨r,e2,r1,r2⟩:=mixed C (k:=k) (h:=g'.set d (.lst [.fz (ns.map .int),.ref c,.int p',.int (q+1)])) (ns:=ns) (j:=q+1) (m:=m) (by omega) (by omega) hm
  refine key (g'.set d (.lst [.fz (ns.map .int),.ref c,.int p',.int (q+1)])) r cells' p' (q+1) ?_ r1 r2 a1 (by omega) (by omega) (by omega) a2 (za4 a4) (by rw[zal a4 (vb3 hne)];exact a5) λi hi h1 h2=>by rw[zal a4 h1,a7 i h1 h2,get_lo]
  have h3:atI [W.fz (ns.map .int),.ref c,.int p',.int q] 3=some (.int q):=rfl
  have h30:atI [W.fz (ns.map .int),.ref c,.int p',.int (q+1)] 3=some (.int (q+1)):=rfl
  have h00:atI [W.fz (ns.map .int),.ref c,.int p',.int (q+1)] 0=some (.fz (ns.map .int)):=rfl
  have h33:ixN 4 3=some 3:=rfl
  have hs:=za4 (o:=.lst [.fz (ns.map .int),.ref c,.int p',.int (q+1)]) a4
  simp[fn5,exs,e,ev,idxW,a4,h3,opW,opI,h33,hs,h30,h00,e2]
end
theorem zao{cl:Call}{a b:S}{ρ ρ':En}{h h':VH}(e:exs cl a ρ h=.ok (.nx ρ') h'):exs cl (.seq a b) ρ h=exs cl b ρ' h':=by
 simp only[exs,e,bindok]
theorem zhv{cl:Call}{a b:S}{ρ:En}{w:W}{h h':VH}(e:exs cl a ρ h=.ok (.rt w) h'):exs cl (.seq a b) ρ h=.ok (.rt w) h':=by
 simp only[exs,e,bindok]
@[simp] theorem exs_skip {cl:Call} {ρ:En} {h:VH}:exs cl .skip ρ h=.ok (.nx ρ) h:=rfl
theorem Dk.new{h:VH}{d c b:Nat}{o:VO}(D:Dk h d c b):Dk (h.new o) d c b:=by
 obtain⟨ne,ns,cells,p,q,a1,a2,a3⟩:=D
 exact⟨ne,ns,cells,p,q,by rw[zai (zap a1)];exact a1,by rw[zai (zap a2)];exact a2,a3⟩
theorem Keep.new{h h':VH}{d c:Nat}{o:VO}(K:Keep h h' d c):Keep h (h'.new o) d c:=⟨Nat.le_succ_of_le K.le,λi o' h1 h2 e=>by
 have:=K.get i o' h1 h2 e
 rw[zai (zap this)];exact this⟩
theorem zov{n:Nat}(h:n<=1000000):Nat.ble n big=true:=Nat.ble_eq.mpr (va3 h (by decide))
noncomputable def fn39:Fn:=⟨2,2,(.seq (.ret (.and (.isi .int (.var 0)) (.and (.not (.isi .bool (.var 0))) (.cmp .eq (.var 0) (.var 1))))) .skip)⟩
section
variable{F:Nat->Option Fn}(C:CoreD F)
include C
theorem zd4{k:Nat}:∀(ns:List Int) (x:Option W) (h:VH),∃cells:List Int,lcL (tgW (.one 0)) (ev (run F k) zcf) (ev (run F k) zcg) (ns.map .int) [x] h=.ok (cells.map .int) h/\(∀y∈cells,(0:Int)<=y)/\cells.length<=ns.length
 |[],x,h=>⟨[],rfl,(λy hy=>by cases hy),vad _⟩
 |n::ns,x,h=>by
  obtain⟨cells,e,h1,h2⟩:=zd4 (k:=k) ns (some (.int n)) h
  have s10:((10:Int).natAbs<2 ^ 64):=by decide
  have ec:ev (run F k) zcf [some (.int n)] h=.ok (.bl (decide (1000000000000000000<=(n.natAbs:Int)))) h:=by
   simp[zcf,ev,biW,absW,opW,opI,cmpW,cmpI,zca]
  have ee:ev (run F k) zcg [some (.int n)] h=.ok (.int (n.natAbs:Int)) h:=by
   simp[zcg,ev,biW,absW,zca]
  by_cases q:1000000000000000000<=(n.natAbs:Int)
  .refine⟨(n.natAbs:Int)::cells,?_,λy hy=>?_,by rw[vam,vam];omega⟩
   .simp only[lcL,vaj,tgW,List.set,ec,bindok,q,decide_true,ee,e]
   .rcases va5.mp hy with rfl|hy
    .omega
    .exact h1 y hy
  .refine⟨cells,?_,h1,by rw[vam];omega⟩
   simp only[lcL,vaj,tgW,List.set,ec,bindok,q,decide_false,e]
theorem deck{k:Nat}{h:VH}{ns:List Int}(hl:ns.length<=63):∃h',run F (k+1) 3 [.fz (ns.map .int)] h=.ok (.ref (h.n+1)) h'/\Dk h' (h.n+1) h.n 0:=by
 rw[zbf C.f3 rfl]
 obtain⟨cells,e,h1,h2⟩:=zd4 C (k:=k) ns none ⟨h.n,h.n,h.os⟩
 have l:=zes (nx:=nxt .seq (.fz (ns.map .int))) (tg:=tgW (.one 0)) (c:=ev (run F k) zcf) (e:=ev (run F k) zcg) (ws:=ns.map .int) (λi h=>rfl) fuel 0 [none] ⟨h.n,h.n,h.os⟩ [] (vct _) (by rw[vap];unfold fuel;omega)
 rw[List.drop_zero,e]at l
 have l:lcG (nxt .seq (.fz (ns.map .int))) (tgW (.one 0)) (ev (run F k) zcf) (ev (run F k) zcg) fuel 0 [none] ⟨h.n,h.n,h.os⟩ []=.ok (cells.map .int) ⟨h.n,h.n,h.os⟩:=l
 have q:ev (run F k) (.lc .seq (.var 0) (.one 0) 1 [] zcf zcg) [some (.fz (ns.map .int))] ⟨h.n,h.n,h.os⟩=.ok (.ref h.n) (VH.new ⟨h.n,h.n,h.os⟩ (.lst (cells.map .int))):=by
  rw[ev]
  have:ev (run F k) (.var 0) [some (.fz (ns.map .int))] ⟨h.n,h.n,h.os⟩=.ok (.fz (ns.map .int)) ⟨h.n,h.n,h.os⟩:=rfl
  rw[this,bindok]
  show(lcG (nxt .seq (.fz (ns.map .int))) (tgW (.one 0)) (ev (run F k) zcf) (ev (run F k) zcg) fuel 0 [none] ⟨h.n,h.n,h.os⟩ []).bind _=_
  rw[l,bindok,if_pos (zov (by rw[vap];omega))]
 let h1':VH:=VH.new ⟨h.n,h.n,h.os⟩ (.lst (cells.map .int))
 let o:VO:=.lst [.fz (ns.map .int),.ref h.n,.int 0,.int 0]
 have eb:exs (run F k) fn3.body [some (.fz (ns.map .int))] ⟨h.n,h.n,h.os⟩=.ok (.rt (.ref (h.n+1))) (h1'.new o):=by
  simp only[fn3,exs,ev,bindok,ofsome,List.getElem?_cons_zero,Option.join_some]at q ⊢
  rw[q]
  rfl
 refine⟨⟨h.n+2,if Nat.ble h.lo h.n then h.lo else h.n,(h1'.new o).os⟩,?_,?_⟩
 .show fin h (exs (run F k) fn3.body [some (.fz (ns.map .int))] ⟨h.n,h.n,h.os⟩)=_
  rw[eb]
  show leave h (.ref (h.n+1)) (h1'.new o)=_
  unfold leave
  rw[if_neg (by
   rw[vaa]
   intro z
   have:=z.2
   simp only[W.lt]at this
   have:=zaj.mp this
   omega)]
  rfl
 .refine⟨by omega,ns,cells,0,0,?_,?_,h1,by omega,by omega,by omega,by omega⟩
  .show VH.get ⟨(h1'.new o).n,_,(h1'.new o).os⟩ (h.n+1)=_
   rw[get_lo]
   exact zax (h:=h1')
  .show VH.get ⟨(h1'.new o).n,_,(h1'.new o).os⟩ h.n=_
   rw[get_lo,zai (h:=h1') (by show h.n<h.n+1;omega)]
   exact zax (h:=⟨h.n,h.n,h.os⟩)
end
theorem opE{cl:Call}{o:Op}{a b:E}{ρ:En}{h h1 h2:VH}{x y:W}{r:Res W}(ea:ev cl a ρ h=.ok x h1)(eb:ev cl b ρ h1=.ok y h2)(e:opW o x y h2=r):ev cl (.op o a b) ρ h=r:=by
 rw[ev,ea,bindok,eb,bindok,e]
theorem retE{cl:Call}{a:E}{ρ:En}{h h1:VH}{x:W}(ea:ev cl a ρ h=.ok x h1):exs cl (.ret a) ρ h=.ok (.rt x) h1:=by
 rw[exs,ea,bindok]
theorem setE{cl:Call}{i:Nat}{a:E}{ρ:En}{h h1:VH}{x:W}(ea:ev cl a ρ h=.ok x h1):exs cl (.set i a) ρ h=.ok (.nx (ρ.set i (some x))) h1:=by
 rw[exs,ea,bindok]
theorem varE{cl:Call}{i:Nat}{ρ:En}{h:VH}{x:W}(e:ρ[i]?=some (some x)):ev cl (.var i) ρ h=.ok x h:=by
 rw[ev,e];rfl
theorem idxE{cl:Call}{a b:E}{ρ:En}{h h1 h2:VH}{x y z:W}(ea:ev cl a ρ h=.ok x h1)(eb:ev cl b ρ h1=.ok y h2)(e:idxW h2 x y=some z):ev cl (.idx a b) ρ h=.ok z h2:=by
 rw[ev,ea,bindok,eb,bindok,e];rfl
theorem zsf{cl:Call}{ρ:En}{h h1 h':VH}{n:Nat}{a:E}{x w:W}(ea:ev cl a ρ h=.ok x h1)(e:cl n [x] h1=.ok w h'):ev cl (.call n (.cons a .nil)) ρ h=.ok w h':=by
 rw[ev,ev,ea,bindok,ev]
 exact e
theorem zbm{cl:Call}{ρ:En}{h h1 h2 h':VH}{n:Nat}{a b:E}{x y w:W}(ea:ev cl a ρ h=.ok x h1)(eb:ev cl b ρ h1=.ok y h2)(e:cl n [x,y] h2=.ok w h'):ev cl (.call n (.cons a (.cons b .nil))) ρ h=.ok w h':=by
 rw[ev,ev,ea,bindok,ev,eb,bindok,ev]
 exact e
theorem tup2E{cl:Call}{a b:E}{ρ:En}{h h1 h2:VH}{x y:W}(ea:ev cl a ρ h=.ok x h1)(eb:ev cl b ρ h1=.ok y h2):ev cl (.tup (.cons a (.cons b .nil))) ρ h=.ok (.tup [x,y]) h2:=by
 rw[ev,ev,ea,bindok,ev,eb,bindok,ev];rfl
theorem iteF{cl:Call}{c:E}{a b:S}{ρ:En}{h h1:VH}(e:ev cl c ρ h=.ok (.bl false) h1):exs cl (.ite c a b) ρ h=exs cl b ρ h1:=by
 rw[exs,e];rfl
theorem truE{cl:Call}{a:E}{ρ:En}{h h1:VH}{b:Bool}(e:ev cl a ρ h=.ok (.bl b) h1):ev cl (.tru a) ρ h=.ok (.bl b) h1:=by
 rw[ev,e,bindok];rfl
noncomputable def zeu:E:=(.cmp .lt (.var 3) (.var 0))
noncomputable def zev:S:=(.seq (.aug 2 .add (.cst (.int (1)))) (.seq (.aug 3 .mul (.cst (.int (2)))) .skip))
noncomputable def fn32:Fn:=⟨2,4,(.seq (.ite (.or (.not (.tru (.call 1 (.cons (.var 0) (.cons (.cst (.int (1))) (.cons (.cst (.int (1000000000))) .nil)))))) (.not (.tru (.call 1 (.cons (.var 1) (.cons (.cst (.int (1))) (.cons (.cst (.int (4))) .nil))))))) (.seq .no .skip) .skip) (.seq (.set 2 (.cst (.int (0)))) (.seq (.set 3 (.var 1)) (.seq (.whl zeu zev) (.seq (.ret (.var 2)) .skip)))))⟩
noncomputable def za9:E:=(.cmp .lt (.var 2) (.var 0))
noncomputable def zba:S:=(.seq (.set 2 (.op .add (.var 2) (.var 2))) (.seq (.set 3 (.op .add (.var 3) (.cst (.int (1))))) .skip))
noncomputable def zew:Fn:=⟨2,4,(.seq (.set 2 (.var 1)) (.seq (.set 3 (.cst (.int (0)))) (.seq (.whl za9 zba) (.seq (.ret (.var 3)) .skip))))⟩
noncomputable def zex:Fn:=⟨2,3,(.seq (.tryc 703 (.cons (.var 0) (.cons (.var 1) .nil)) [(.mk 116 (.bl true))]) (.seq (.ret (.cst (.bl false))) .skip))⟩
noncomputable def zar:S:=(.seq (.set 4 (.op .add (.var 4) (.var 4))) .skip)
noncomputable def zbb:S:=(.seq (.ite (.and (.cmp .le (.var 7) (.op .pow (.cst (.int (10))) (.cst (.int (9))))) (.not (.tru (.call 39 (.cons (.call 32 (.cons (.var 7) (.cons (.var 3) .nil))) (.cons (.call 700 (.cons (.var 7) (.cons (.var 3) .nil))) .nil)))))) (.seq (.ret (.cst (.bl false))) .skip) .skip) .skip)
noncomputable def zbc:S:=(.seq (.ite (.not (.tru (.call 701 (.cons (.var 10) (.cons (.var 11) .nil))))) (.seq (.ret (.cst (.bl false))) .skip) .skip) .skip)
noncomputable def za2:S:=(.seq (.set 3 (.op .add (.cst (.int (1))) (.call 5 (.cons (.var 1) (.cons (.cst (.int (4))) .nil))))) (.seq (.set 4 (.var 3)) (.seq (.«for» .rng1 (.cons (.call 5 (.cons (.var 1) (.cons (.cst (.int (28))) .nil))) .nil) (.one 5) zar) (.seq (.set 6 (.lst (.cons (.cst (.int (1))) (.cons (.cst (.int (2))) (.cons (.var 3) (.cons (.op .add (.var 3) (.cst (.int (1)))) (.cons (.op .add (.cst (.int (1))) (.call 5 (.cons (.var 1) (.cons (.cst (.int (1024))) .nil)))) (.cons (.op .add (.cst (.int (1))) (.call 5 (.cons (.var 1) (.cons (.op .pow (.cst (.int (10))) (.cst (.int (9)))) .nil)))) (.cons (.op .pow (.cst (.int (10))) (.cst (.int (9)))) .nil))))))))) (.seq (.set 6 (.op .add (.var 6) (.lst (.cons (.var 4) (.cons (.op .add (.var 4) (.cst (.int (1)))) (.cons (.bi .max (.cons (.cst (.int (1))) (.cons (.op .sub (.var 4) (.cst (.int (1)))) .nil))) .nil)))))) (.seq (.«for» .seq (.var 6) (.one 7) zbb) (.seq (.set 8 (.idx (.lst (.cons (.cst (.int (0))) (.cons (.neg (.cst (.int (1)))) (.cons (.op .add (.op .pow (.cst (.int (10))) (.cst (.int (9)))) (.cst (.int (1)))) (.cons (.op .pow (.cst (.int (10))) (.cst (.int (30)))) (.cons (.cst (.bl true)) (.cons (.cst .non) (.cons (.cst (.str (PySem.Str.ofString "1"))) (.cons (.tup (.cons (.cst (.int (1))) .nil)) (.cons (.lst (.cons (.cst (.int (1))) .nil)) .nil)))))))))) (.call 5 (.cons (.var 1) (.cons (.cst (.int (9))) .nil))))) (.seq (.set 9 (.idx (.lst (.cons (.cst (.int (0))) (.cons (.cst (.int (5))) (.cons (.neg (.cst (.int (1)))) (.cons (.op .pow (.cst (.int (10))) (.cst (.int (20)))) (.cons (.cst (.bl true)) (.cons (.cst .non) (.cons (.cst (.str (PySem.Str.ofString "1"))) (.cons (.tup (.cons (.cst (.int (1))) .nil)) (.cons (.dsp .nil) .nil)))))))))) (.call 5 (.cons (.var 1) (.cons (.cst (.int (9))) .nil))))) (.seq (.«for» .seq (.lst (.cons (.tup (.cons (.var 8) (.cons (.var 3) .nil))) (.cons (.tup (.cons (.op .add (.cst (.int (1))) (.call 5 (.cons (.var 1) (.cons (.cst (.int (1000))) .nil)))) (.cons (.var 9) .nil))) (.cons (.tup (.cons (.var 8) (.cons (.var 9) .nil))) .nil)))) (.many [10,11]) zbc) (.seq (.ite (.not (.tru (.call 39 (.cons (.call 32 (.cons (.idx (.var 6) (.cst (.int (4)))) (.cons (.var 3) .nil))) (.cons (.call 700 (.cons (.idx (.var 6) (.cst (.int (4)))) (.cons (.var 3) .nil))) .nil))))) (.seq (.ret (.cst (.bl false))) .skip) .skip) .skip))))))))))
noncomputable def zcr:Fn:=⟨1,12,(.seq (.set 1 (.call 3 (.cons (.var 0) .nil))) (.seq (.«for» .rng1 (.cons (.cst (.int (4))) .nil) (.one 2) za2) (.seq (.ret (.cst (.bl true))) .skip)))⟩
noncomputable def zgk:E:=(.cmp .lt (.var 3) (.var 0))
noncomputable def zgl:S:=(.seq (.aug 2 .add (.cst (.int (1)))) (.seq (.aug 3 .mul (.cst (.int (2)))) .skip))
noncomputable def zcs:Fn:=⟨2,4,(.seq (.seq (.ite (.or (.not (.tru (.call 1 (.cons (.var 0) (.cons (.cst (.int (1))) (.cons (.cst (.int (1000000000))) .nil)))))) (.not (.tru (.call 1 (.cons (.var 1) (.cons (.cst (.int (1))) (.cons (.cst (.int (4))) .nil))))))) (.seq (.ret (.cst (.int (116)))) .skip) .skip) (.seq (.set 2 (.cst (.int (0)))) (.seq (.set 3 (.var 1)) (.seq (.whl zgk zgl) (.seq (.ret (.tup (.cons (.var 2) .nil))) .skip))))) (.ret (.cst (.tup [.non]))))⟩
structure C25(F:Nat->Option Fn):Prop where
 f0:F 0=some fn0
 f1:F 1=some fn1
 f2:F 2=some fn2
 f3:F 3=some fn3
 f4:F 4=some fn4
 f5:F 5=some fn5
 f32:F 32=some fn32
 f39:F 39=some fn39
 f700:F 700=some zew
 f701:F 701=some zex
 f702:F 702=some zcr
 f703:F 703=some zcs
noncomputable def dbl(s:Int):Nat->Int->Int->Int
 |0,_,g=>g
 |n+1,r,g=>if r<s then dbl s n (r+r) (g+1)else g
section
variable{F:Nat->Option Fn}(C:C25 F)
include C
theorem zow{k:Nat}{h:VH}{w:W}(hw:Kn h w):run F (k+1) 0 [w] h=.ok (.bl (isInt w)) h:=by
 rw[zbf C.f0 rfl]
 cases w<;>try(simp[fn0,exs,ev,isInt,za6];done)
 .exact absurd rfl hw
 .rename_i i
  unfold Kn at hw
  simp only[tyIs]at hw
  cases g:h.get i with
  |none=>rw[g]at hw;exact absurd rfl hw
  |some o=>cases o<;>first|(simp[fn0,exs,ev,isInt,za6,tyIs,g];done)|(simp[g]at hw)
theorem zct{k:Nat}{h:VH}{w:W}{lo hi:Int}(hw:Kn h w):run F (k+2) 1 [w,.int lo,.int hi] h=.ok (.bl (within w lo hi)) h:=by
 rw[zbf C.f1 rfl]
 have e:=zow C (k:=k) (h:=⟨h.n,h.n,h.os⟩) (w:=w) (kn_lo.mpr hw)
 cases w<;>simp[fn1,exs,ev,e,isInt,within,za6,cmpW,cmpI]
 rename_i i
 by_cases h1:lo<=i<;>simp[h1,za6]
omit C in
theorem zms{cl:Call}{s ff:Int}{h:VH}:∀(n f:Nat) (r g:Int),n<f->s<=r*2 ^ n->∃r',whlG (ev cl zeu) (exs cl zev) f [some (.int s),some (.int ff),some (.int g),some (.int r)] h=.ok (.nx [some (.int s),some (.int ff),some (.int (dbl s n r g)),some (.int r')]) h
 |n,0,_,_,hf,_=>by omega
 |n,f+1,r,g,hf,hn=>by
  have ec:ev cl zeu [some (.int s),some (.int ff),some (.int g),some (.int r)] h=.ok (.bl (decide (r<s))) h:=by
   simp[zeu,ev,cmpW,cmpI]
  by_cases hlt:r<s
  .cases n with
   |zero=>rw[Int.pow_zero,Int.mul_one]at hn;omega
   |succ n=>
    have eb:exs cl zev [some (.int s),some (.int ff),some (.int g),some (.int r)] h=.ok (.nx [some (.int s),some (.int ff),some (.int (g+1)),some (.int (r+r))]) h:=by
     have s2:za8 2=true:=rfl
     simp[zev,exs,ev,ipW,opI,s2,show r*2=r+r by omega]
    obtain⟨r',e⟩:=zms (cl:=cl) (ff:=ff) (h:=h) n f (r+r) (g+1) (by omega) (by rw[Int.pow_succ]at hn;rw[show r+r=r*2 by omega,Int.mul_assoc,Int.mul_comm 2];exact hn)
    exact⟨r',by simp only[whlG,ec,bindok,vb8 hlt,eb,e,dbl,if_pos hlt]⟩
  .refine⟨r,?_⟩
   have:dbl s n r g=g:=by
    cases n with
    |zero=>rfl
    |succ n=>simp only[dbl,if_neg hlt]
   simp only[whlG,ec,bindok,vaw hlt,this]
omit C in
theorem zj8{cl:Call}{s ff:Int}{h:VH}:∀(n f:Nat) (r g:Int),n<f->s<=r*2 ^ n->∃r',whlG (ev cl za9) (exs cl zba) f [some (.int s),some (.int ff),some (.int r),some (.int g)] h=.ok (.nx [some (.int s),some (.int ff),some (.int r'),some (.int (dbl s n r g))]) h
 |n,0,_,_,hf,_=>by omega
 |n,f+1,r,g,hf,hn=>by
  have ec:ev cl za9 [some (.int s),some (.int ff),some (.int r),some (.int g)] h=.ok (.bl (decide (r<s))) h:=by
   simp[za9,ev,cmpW,cmpI]
  by_cases hlt:r<s
  .cases n with
   |zero=>rw[Int.pow_zero,Int.mul_one]at hn;omega
   |succ n=>
    have eb:exs cl zba [some (.int s),some (.int ff),some (.int r),some (.int g)] h=.ok (.nx [some (.int s),some (.int ff),some (.int (r+r)),some (.int (g+1))]) h:=by
     simp[zba,exs,ev,opW,opI]
    obtain⟨r',e⟩:=zj8 (cl:=cl) (ff:=ff) (h:=h) n f (r+r) (g+1) (by omega) (by rw[Int.pow_succ]at hn;rw[show r+r=r*2 by omega,Int.mul_assoc,Int.mul_comm 2];exact hn)
    exact⟨r',by simp only[whlG,ec,bindok,vb8 hlt,eb,e,dbl,if_pos hlt]⟩
  .refine⟨r,?_⟩
   have:dbl s n r g=g:=by
    cases n with
    |zero=>rfl
    |succ n=>simp only[dbl,if_neg hlt]
   simp only[whlG,ec,bindok,vaw hlt,this]
theorem zox{k:Nat}{h:VH}{s f:Int}(h1:1<=s)(h2:s<=1000000000)(h3:1<=f)(h4:f<=4):run F (k+3) 32 [.int s,.int f] h=.ok (.int (dbl s 30 f 0)) h:=by
 rw[zbf C.f32 rfl]
 have e1:=zct C (k:=k) (h:=⟨h.n,h.n,h.os⟩) (w:=.int s) (lo:=1) (hi:=1000000000) (by simp[Kn])
 have e2:=zct C (k:=k) (h:=⟨h.n,h.n,h.os⟩) (w:=.int f) (lo:=1) (hi:=4) (by simp[Kn])
 have w1:within (.int s) 1 1000000000=true:=by simp[within,h1,h2]
 have w2:within (.int f) 1 4=true:=by simp[within,h3,h4]
 rw[w1]at e1
 rw[w2]at e2
 obtain⟨r',e3⟩:=zms (cl:=run F (k+2)) (s:=s) (ff:=f) (h:=⟨h.n,h.n,h.os⟩) 30 fuel f 0 (by decide) (by omega)
 simp[fn32,exs,ev,e1,e2,e3,za6]
theorem due25{k:Nat}{h:VH}{s f:Int}(h2:s<=1000000000)(h3:1<=f):run F (k+1) 700 [.int s,.int f] h=.ok (.int (dbl s 30 f 0)) h:=by
 rw[zbf C.f700 rfl]
 obtain⟨r',e3⟩:=zj8 (cl:=run F k) (s:=s) (ff:=f) (h:=⟨h.n,h.n,h.os⟩) 30 fuel f 0 (by decide) (by omega)
 simp[zew,exs,ev,e3,za6]
theorem zls{k:Nat}{h:VH}{i:Int}:run F (k+1) 39 [.int i,.int i] h=.ok (.bl true) h:=by
 rw[zbf C.f39 rfl]
 simp[fn39,exs,ev,cmpW,zgj,za6]
theorem zoy{k:Nat}{h:VH}{x y:W}(hx:Kn h x)(hy:Kn h y)(hn:within x 1 1000000000=false\/within y 1 4=false):run F (k+3) 703 [x,y] h=.ok (.int 116) h:=by
 rw[zbf C.f703 rfl]
 have e1:=zct C (k:=k) (h:=⟨h.n,h.n,h.os⟩) (w:=x) (lo:=1) (hi:=1000000000) (kn_lo.mpr hx)
 have e2:=zct C (k:=k) (h:=⟨h.n,h.n,h.os⟩) (w:=y) (lo:=1) (hi:=4) (kn_lo.mpr hy)
 cases b1:within x 1 1000000000 with
 |false=>
  rw[b1]at e1
  simp[zcs,exs,ev,e1,za6]
 |true=>
  have b2:within y 1 4=false:=hn.resolve_left (by rw[b1];exact Bool.noConfusion)
  rw[b1]at e1
  rw[b2]at e2
  simp[zcs,exs,ev,e1,e2,za6]
theorem zj9{k:Nat}{h:VH}{x y:W}(hx:Kn h x)(hy:Kn h y)(hn:within x 1 1000000000=false\/within y 1 4=false):run F (k+4) 701 [x,y] h=.ok (.bl true) h:=by
 rw[zbf C.f701 rfl]
 have e:=zoy C (k:=k) (h:=⟨h.n,h.n,h.os⟩) (kn_lo.mpr hx) (kn_lo.mpr hy) hn
 simp[zex,exs,ev,e,tryW,za6]
end
section
variable{cl:Call}{ρ:En}{h h1 h2 h':VH}{a b r:E}
theorem consE{x:W}{xs:List W}(ea:ev cl a ρ h=.ok x h1)(er:ev cl r ρ h1=.ok (.tup xs) h2):ev cl (.cons a r) ρ h=.ok (.tup (x::xs)) h2:=by
 rw[ev,ea,bindok,er];rfl
theorem nilE:ev cl .nil ρ h=.ok (.tup []) h:=by rw[ev]
theorem cstE{w:W}:ev cl (.cst w) ρ h=.ok w h:=by rw[ev]
theorem lstE{ys:List W}(ea:ev cl a ρ h=.ok (.tup ys) h1)(hl:Nat.ble ys.length 1000=true):ev cl (.lst a) ρ h=.ok (.ref h1.n) (h1.new (.lst ys)):=by
 rw[ev,ea,bindok]
 show(if Nat.ble ys.length 1000=true then _ else _)=_
 rw[if_pos hl]
theorem notE{x:Bool}(ea:ev cl a ρ h=.ok (.bl x) h1):ev cl (.not a) ρ h=.ok (.bl (!x)) h1:=by
 rw[ev,ea];rfl
theorem powE{i j z:Int}(e:opI .pow i j=some z):ev cl (.op .pow (.cst (.int i)) (.cst (.int j))) ρ h=.ok (.int z) h:=
 opE cstE cstE (by simp only[opW,e,Option.map_some,ofsome])
theorem addE{i j:Int}(ea:ev cl a ρ h=.ok (.int i) h1)(eb:ev cl b ρ h1=.ok (.int j) h2):ev cl (.op .add a b) ρ h=.ok (.int (i+j)) h2:=opE ea eb rfl
theorem negE{i:Int}(ea:ev cl a ρ h=.ok (.int i) h1):ev cl (.neg a) ρ h=.ok (.int (-i)) h1:=by
 rw[ev,ea];rfl
theorem zka{ws:List W}{l:Nat}{tg:W->VH->En->Option En}{b:En->VH->Res Fl}(g:h.get l=some (.lst ws))(P:En->Prop)(hb:∀w∈ws,∀ρ,P ρ->∃ρ1 ρ2,tg w h ρ=some ρ1/\b ρ1 h=.ok (.nx ρ2) h/\P ρ2):∀(n f i:Nat) (ρ:En),ws.length-i=n->n<f->P ρ->∃ρ',forG (nxt .seq (.ref l)) tg b f i ρ h=.ok (.nx ρ') h/\P ρ'
 |n,0,_,_,_,hf,_=>by omega
 |n,f+1,i,ρ,hn,hf,hP=>by
  have hx:nxt .seq (.ref l) i h=some ws[i]?:=by simp only[nxt,seqW,g,Option.map_some]
  rw[forG,hx]
  cases q:ws[i]? with
  |none=>exact⟨ρ,rfl,hP⟩
  |some w=>
   obtain⟨ρ1,ρ2,e1,e2,p2⟩:=hb w (vcn q) ρ hP
   have hi:=(vak.mp q).1
   simp only[e1,e2,bindok]
   exact zka g P hb (n-1) f (i+1) ρ2 (by omega) (by omega) p2
end
theorem dloop{cl:Call}{h:VH}{c0 c1 c2 c3 c6 c7 c8 c9 c10 c11:Option W}:∀(n:Nat) (a d:Int) (x:Option W),1<=d->∃d' x',1<=d'/\forL (tgW (.one 5)) (exs cl zar) (za7 a n) [c0,c1,c2,c3,some (.int d),x,c6,c7,c8,c9,c10,c11] h=.ok (.nx [c0,c1,c2,c3,some (.int d'),x',c6,c7,c8,c9,c10,c11]) h
 |0,a,d,x,hd=>⟨d,x,hd,rfl⟩
 |n+1,a,d,x,hd=>by
  obtain⟨d',x',h1,h2⟩:=dloop (cl:=cl) (h:=h) (c0:=c0) (c1:=c1) (c2:=c2) (c3:=c3) (c6:=c6) (c7:=c7) (c8:=c8) (c9:=c9) (c10:=c10) (c11:=c11) n (a+1) (d+d) (some (.int a)) (by omega)
  refine⟨d',x',h1,?_⟩
  have e:exs cl zar [c0,c1,c2,c3,some (.int d),some (.int a),c6,c7,c8,c9,c10,c11] h=.ok (.nx [c0,c1,c2,c3,some (.int (d+d)),some (.int a),c6,c7,c8,c9,c10,c11]) h:=by
   unfold zar
   exact(zao (setE (addE (varE rfl) (varE rfl)))).trans rfl
  show forL (tgW (.one 5)) (exs cl zar) (.int a::za7 (a+1) n) _ h=_
  rw[forL]
  show(exs cl zar [c0,c1,c2,c3,some (.int d),some (.int a),c6,c7,c8,c9,c10,c11] h).bind _=_
  rw[e]
  exact h2
theorem Dk.lt25{h:VH}{d c b:Nat}(D:Dk h d c b):d<h.n/\c<h.n:=by
 obtain⟨ne,ns,cells,p,q,a1,a2,a3⟩:=D
 exact⟨zap a1,zap a2⟩
theorem idx25{h:VH}{i j:Nat}{ws:List W}{w:W}(g:h.get i=some (.lst ws))(e:ws[j]?=some w):idxW h (.ref i) (.int (j:Int))=some w:=by
 simp only[idxW,g]
 exact zf1 e
section
variable{F:Nat->Option Fn}(C:C25 F)
include C
theorem cd25:CoreD F:=⟨C.f2,C.f3,C.f4,C.f5⟩
theorem zkb{h:VH}{ρ:En}{e:E}{s f:Int}{x:Nat}(es:ev (run F 29) e ρ h=.ok (.int s) h)(ef:ρ[3]?=some (some (.int f)))(h1:1<=s)(h2:s<=1000000000)(h3:1<=f)(h4:f<=4) :
 ev (run F 29) (.not (.tru (.call 39 (.cons (.call 32 (.cons e (.cons (.var 3) .nil))) (.cons (.call 700 (.cons e (.cons (.var 3) .nil))) .nil))))) ρ h=.ok (.bl false) h:=
 notE (truE (zbm (zbm es (varE ef) (zox C (k:=26) h1 h2 h3 h4)) (zbm es (varE ef) (due25 C (k:=28) h2 h3)) (zls C (k:=28))))
theorem zsg{b:Nat}{h:VH}{c0 c2 x3 x4 x5 x6 x7 x8 x9 x10 x11:Option W}(D:Dk h 1 0 b)(hb:b+100<1000000000) :
 ∃y3 y4 y5 y6 y7 y8 y9 y10 y11 h',exs (run F 29) za2 [c0,some (.ref 1),c2,x3,x4,x5,x6,x7,x8,x9,x10,x11] h=.ok (.nx [c0,some (.ref 1),c2,y3,y4,y5,y6,y7,y8,y9,y10,y11]) h'/\Dk h' 1 0 (b+7):=by
 obtain⟨r1,h1,e1,a1,b1,D1,K1⟩:=take (cd25 C) (k:=26) (m:=4) D (by omega) (by decide) (by decide)
 obtain⟨r2,h2,e2,a2,b2,D2,K2⟩:=take (cd25 C) (k:=26) (m:=28) D1 (by omega) (by decide) (by decide)
 obtain⟨n2,rfl⟩:=vb0 a2
 obtain⟨d,x5',hd,el⟩:=dloop (cl:=run F 29) (h:=h2) (c0:=c0) (c1:=some (.ref 1)) (c2:=c2) (c3:=some (.int (1+r1))) (c6:=x6) (c7:=x7) (c8:=x8) (c9:=x9) (c10:=x10) (c11:=x11) n2 0 (1+r1) x5 (by omega)
 obtain⟨r3,h3,e3,a3,b3,D3,K3⟩:=take (cd25 C) (k:=26) (m:=1024) D2 (by omega) (by decide) (by decide)
 obtain⟨r4,h4,e4,a4,b4,D4,K4⟩:=take (cd25 C) (k:=26) (m:=1000000000) D3 (by omega) (by decide) (by decide)
 have p9:opI .pow 10 9=some 1000000000:=by decide
 have p30:opI .pow 10 30=some 1000000000000000000000000000000:=by decide
 have p20:opI .pow 10 20=some 100000000000000000000:=by decide
 generalize hL1:[W.int 1,.int 2,.int (1+r1),.int (1+r1+1),.int (1+r3),.int (1+r4),.int 1000000000]=L1
 generalize hL2:[W.int d,.int (d+1),.int (if d-1>1 then d-1 else 1)]=L2
 have g1:((h4.new (.lst L1)).new (.lst L2)).get h4.n=some (.lst L1):=(zai (show h4.n<h4.n+1 by omega)).trans zax
 have g2:((h4.new (.lst L1)).new (.lst L2)).get (h4.n+1)=some (.lst L2):=zax (h:=h4.new (.lst L1))
 have g3:(((h4.new (.lst L1)).new (.lst L2)).new (.lst (L1++L2))).get (h4.n+2)=some (.lst (L1++L2)):=zax (h:=(h4.new (.lst L1)).new (.lst L2))
 have D7:Dk (((h4.new (.lst L1)).new (.lst L2)).new (.lst (L1++L2))) 1 0 _:=D4.new.new.new
 generalize h7e:((h4.new (.lst L1)).new (.lst L2)).new (.lst (L1++L2))=h7 at g3 D7
 have hn7:h7.n=h4.n+3:=by rw[<-h7e];rfl
 have l4:=D4.lt25
 generalize hW8:[W.int 0,.int (-1),.int (1000000000+1),.int 1000000000000000000000000000000,.bl true,.non,.str (PySem.Str.ofString "1"),.tup [.int 1],.ref h7.n]=W8
 obtain⟨r5,h10,e5,a5,b5,D10,K10⟩:=take (cd25 C) (k:=26) (m:=9) ((D7.new (o:=.lst [.int 1])).new (o:=.lst W8)) (by omega) (by decide) (by decide)
 obtain⟨j5,rfl⟩:=vb0 a5
 have i8:h10.get (h7.n+1)=some (.lst W8):=K10.get _ _ (by omega) (by omega) (zax (h:=h7.new (.lst [.int 1])))
 have i8':h10.get h7.n=some (.lst [.int 1]):=K10.get _ _ (by omega) (by omega) ((zai (show h7.n<h7.n+1 by omega)).trans zax)
 obtain⟨w8,x8e,x8w,x8k⟩:∃w8,idxW h10 (.ref (h7.n+1)) (.int (j5:Int))=some w8/\within w8 1 1000000000=false/\∀h',Keep h10 h' 1 0->Kn h' w8:=by
  rw[<-hW8]at i8
  have hj:j5=0\/j5=1\/j5=2\/j5=3\/j5=4\/j5=5\/j5=6\/j5=7\/j5=8:=by omega
  rcases hj with rfl|rfl|rfl|rfl|rfl|rfl|rfl|rfl|rfl
  .exact⟨_,idx25 i8 rfl,by decide,λh' _=>by simp[Kn]⟩
  .exact⟨_,idx25 i8 rfl,by decide,λh' _=>by simp[Kn]⟩
  .exact⟨_,idx25 i8 rfl,by decide,λh' _=>by simp[Kn]⟩
  .exact⟨_,idx25 i8 rfl,by decide,λh' _=>by simp[Kn]⟩
  .exact⟨_,idx25 i8 rfl,rfl,λh' _=>by simp[Kn]⟩
  .exact⟨_,idx25 i8 rfl,rfl,λh' _=>by simp[Kn]⟩
  .exact⟨_,idx25 i8 rfl,rfl,λh' _=>by simp[Kn]⟩
  .exact⟨_,idx25 i8 rfl,rfl,λh' _=>by simp[Kn]⟩
  .exact⟨_,idx25 i8 rfl,rfl,λh' K=>by
    have:=K.get _ _ (by omega) (by omega) i8'
    simp[Kn,tyIs,this]⟩
 have l10:=D10.lt25
 have n10:=K10.le
 have n10':(((h7.new (.lst [.int 1])).new (.lst W8)).n)=h7.n+2:=rfl
 generalize hW9:[W.int 0,.int 5,.int (-1),.int 100000000000000000000,.bl true,.non,.str (PySem.Str.ofString "1"),.tup [.int 1],.ref h10.n]=W9
 obtain⟨r6,h13,e6,a6,b6,D13,K13⟩:=take (cd25 C) (k:=26) (m:=9) ((D10.new (o:=.dt [] [])).new (o:=.lst W9)) (by omega) (by decide) (by decide)
 obtain⟨j6,rfl⟩:=vb0 a6
 have i9:h13.get (h10.n+1)=some (.lst W9):=K13.get _ _ (by omega) (by omega) (zax (h:=h10.new (.dt [] [])))
 have i9':h13.get h10.n=some (.dt [] []):=K13.get _ _ (by omega) (by omega) ((zai (show h10.n<h10.n+1 by omega)).trans zax)
 obtain⟨w9,x9e,x9w,x9k⟩:∃w9,idxW h13 (.ref (h10.n+1)) (.int (j6:Int))=some w9/\within w9 1 4=false/\∀h',Keep h13 h' 1 0->Kn h' w9:=by
  rw[<-hW9]at i9
  have hj:j6=0\/j6=1\/j6=2\/j6=3\/j6=4\/j6=5\/j6=6\/j6=7\/j6=8:=by omega
  rcases hj with rfl|rfl|rfl|rfl|rfl|rfl|rfl|rfl|rfl
  .exact⟨_,idx25 i9 rfl,by decide,λh' _=>by simp[Kn]⟩
  .exact⟨_,idx25 i9 rfl,by decide,λh' _=>by simp[Kn]⟩
  .exact⟨_,idx25 i9 rfl,by decide,λh' _=>by simp[Kn]⟩
  .exact⟨_,idx25 i9 rfl,by decide,λh' _=>by simp[Kn]⟩
  .exact⟨_,idx25 i9 rfl,rfl,λh' _=>by simp[Kn]⟩
  .exact⟨_,idx25 i9 rfl,rfl,λh' _=>by simp[Kn]⟩
  .exact⟨_,idx25 i9 rfl,rfl,λh' _=>by simp[Kn]⟩
  .exact⟨_,idx25 i9 rfl,rfl,λh' _=>by simp[Kn]⟩
  .exact⟨_,idx25 i9 rfl,rfl,λh' K=>by
    have:=K.get _ _ (by omega) (by omega) i9'
    simp[Kn,tyIs,this]⟩
 obtain⟨r7,h14,e7,a7,b7,D14,K14⟩:=take (cd25 C) (k:=26) (m:=1000) D13 (by omega) (by decide) (by decide)
 generalize hL3:[W.tup [w8,.int (1+r1)],.tup [.int (1+r7),w9],.tup [w8,w9]]=L3
 have g15:(h14.new (.lst L3)).get h14.n=some (.lst L3):=zax
 have K15:Keep h13 (h14.new (.lst L3)) 1 0:=K14.new
 have K15':Keep h10 (h14.new (.lst L3)) 1 0:=((Keep.refl.new.new (o:=.lst W9)).trans K13).trans K15
 have K15'':Keep h7 (h14.new (.lst L3)) 1 0:=((Keep.refl.new.new (o:=.lst W8)).trans K10).trans K15'
 have k8:=x8k _ K15'
 have k9:=x9k _ K15
 have gs:=K15''.get _ _ (by omega) (by omega) g3
 have D15:Dk (h14.new (.lst L3)) 1 0 _:=D14.new
 generalize h15e:h14.new (.lst L3)=h15 at g15 k8 k9 gs D15
 have hpos:∀w∈L1++L2,∃s:Int,w=.int s/\1<=s:=by
  intro w hw
  rw[<-hL1,<-hL2]at hw
  simp only[vb6,vc2,va5,List.not_mem_nil,or_false]at hw
  rcases hw with rfl|rfl|rfl|rfl|rfl|rfl|rfl|rfl|rfl|rfl
  all_goals first|exact⟨_,rfl,by omega⟩|(refine⟨_,rfl,?_⟩;split<;>omega)
 obtain⟨ρ7,f7,y7,rfl⟩:=zka (b:=exs (run F 29) zbb) (tg:=tgW (.one 7)) g3 (λρ=>∃y7,ρ=[c0,some (.ref 1),c2,some (.int (1+r1)),some (.int d),x5',some (.ref (h4.n+2)),y7,x8,x9,x10,x11]) (λw hw ρ hρ=>by
  obtain⟨y,rfl⟩:=hρ
  obtain⟨s,rfl,hs⟩:=hpos w hw
  refine⟨_,_,rfl,?_,some (.int s),rfl⟩
  show exs (run F 29) zbb [c0,some (.ref 1),c2,some (.int (1+r1)),some (.int d),x5',some (.ref (h4.n+2)),some (.int s),x8,x9,x10,x11] h7=.ok (.nx [c0,some (.ref 1),c2,some (.int (1+r1)),some (.int d),x5',some (.ref (h4.n+2)),some (.int s),x8,x9,x10,x11]) h7
  have ec:ev (run F 29) (.cmp .le (.var 7) (.op .pow (.cst (.int (10))) (.cst (.int (9))))) [c0,some (.ref 1),c2,some (.int (1+r1)),some (.int d),x5',some (.ref (h4.n+2)),some (.int s),x8,x9,x10,x11] h7=.ok (.bl (decide (s<=1000000000))) h7:=by
   rw[ev,varE (x:=.int s) rfl,bindok,powE p9,bindok];rfl
  unfold zbb
  refine(zao ((iteF (h1:=h7) ?_).trans rfl)).trans rfl
  rw[ev,ec,bindok]
  by_cases hz:s<=1000000000
  .rw[vb8 hz]
   exact zkb C (x:=0) (varE rfl) rfl hs hz (by omega) (by omega)
  .rw[vaw hz]) (L1++L2).length fuel 0 [c0,some (.ref 1),c2,some (.int (1+r1)),some (.int d),x5',some (.ref (h4.n+2)),x7,x8,x9,x10,x11] rfl (by rw[<-hL1,<-hL2];exact(by decide:(10:Nat)<1000000)) ⟨_,rfl⟩
 have hbad:∀w∈L3,∃p q,w=.tup [p,q]/\Kn h15 p/\Kn h15 q/\(within p 1 1000000000=false\/within q 1 4=false):=by
  intro w hw
  rw[<-hL3]at hw
  simp only[va5,List.not_mem_nil,or_false]at hw
  rcases hw with rfl|rfl|rfl
  .exact⟨_,_,rfl,k8,by simp[Kn],.inl x8w⟩
  .exact⟨_,_,rfl,by simp[Kn],k9,.inr x9w⟩
  .exact⟨_,_,rfl,k8,k9,.inl x8w⟩
 obtain⟨ρ9,f9,y10,y11,rfl⟩:=zka (b:=exs (run F 29) zbc) (tg:=tgW (.many [10,11])) g15 (λρ=>∃y10 y11,ρ=[c0,some (.ref 1),c2,some (.int (1+r1)),some (.int d),x5',some (.ref (h4.n+2)),y7,some w8,some w9,y10,y11]) (λw hw ρ hρ=>by
  obtain⟨y,y',rfl⟩:=hρ
  obtain⟨p,q,rfl,hp,hq,hn⟩:=hbad w hw
  refine⟨_,_,rfl,?_,some p,some q,rfl⟩
  show exs (run F 29) zbc [c0,some (.ref 1),c2,some (.int (1+r1)),some (.int d),x5',some (.ref (h4.n+2)),y7,some w8,some w9,some p,some q] h15=.ok (.nx [c0,some (.ref 1),c2,some (.int (1+r1)),some (.int d),x5',some (.ref (h4.n+2)),y7,some w8,some w9,some p,some q]) h15
  unfold zbc
  exact(zao ((iteF (notE (truE (zbm (varE rfl) (varE rfl) (zj9 C (k:=25) hp hq hn))))).trans rfl)).trans rfl) L3.length fuel 0 [c0,some (.ref 1),c2,some (.int (1+r1)),some (.int d),x5',some (.ref (h4.n+2)),y7,some w8,some w9,x10,x11] rfl (by rw[<-hL3];exact(by decide:(3:Nat)<1000000)) ⟨_,_,rfl⟩
 have h4th:(L1++L2)[4]?=some (.int (1+r3)):=by rw[<-hL1];rfl
 refine⟨some (.int (1+r1)),some (.int d),x5',some (.ref (h4.n+2)),y7,some w8,some w9,y10,y11,h15,?_,D15.mono (by omega)⟩
 unfold za2
 refine(zao (setE (addE cstE (zbm (varE rfl) cstE e1)))).trans ?_
 refine(zao (setE (varE rfl))).trans ?_
 refine(zao (ρ':=[c0,some (.ref 1),c2,some (.int (1+r1)),some (.int d),x5',x6,x7,x8,x9,x10,x11]) (h':=h2) ?_).trans ?_
 .rw[exs,consE (zbm (varE rfl) cstE e2) nilE,bindok,zj7 (by omega)]
  exact el
 refine(zao (setE (x:=.ref h4.n) (h1:=h4.new (.lst L1)) ?_)).trans ?_
 .rw[<-hL1]
  exact lstE (consE cstE (consE cstE (consE (varE rfl) (consE (addE (varE rfl) cstE) (consE (addE cstE (zbm (varE rfl) cstE e3)) (consE (addE cstE (zbm (varE rfl) (powE p9) e4)) (consE (powE p9) nilE))))))) rfl
 refine(zao (setE (x:=.ref (h4.n+2)) (h1:=h7) ?_)).trans ?_
 .refine opE (x:=.ref h4.n) (y:=.ref (h4.n+1)) (varE rfl) (h2:=(h4.new (.lst L1)).new (.lst L2)) ?_ ?_
  .rw[<-hL2]
   refine lstE (h1:=h4.new (.lst L1)) (consE (varE rfl) (consE (addE (varE rfl) cstE) (consE ?_ nilE))) rfl
   rw[ev,consE cstE (consE (opE (x:=.int d) (y:=.int 1) (varE rfl) cstE rfl) nilE),bindok]
   rfl
  .simp only[opW,g1,g2,opL]
   rw[if_pos (by rw[<-hL1,<-hL2];rfl),<-h7e]
   rfl
 refine(zao (ρ':=[c0,some (.ref 1),c2,some (.int (1+r1)),some (.int d),x5',some (.ref (h4.n+2)),y7,x8,x9,x10,x11]) (h':=h7) ?_).trans ?_
 .rw[exs,varE (x:=.ref (h4.n+2)) rfl,bindok]
  exact f7
 refine(zao (setE (x:=w8) (h1:=h10) (idxE (x:=.ref (h7.n+1)) (h1:=(h7.new (.lst [.int 1])).new (.lst W8)) ?_ (zbm (varE rfl) cstE e5) x8e))).trans ?_
 .rw[<-hW8]
  exact lstE (h1:=h7.new (.lst [.int 1])) (consE cstE (consE (negE cstE) (consE (addE (powE p9) cstE) (consE (powE p30) (consE cstE (consE cstE (consE cstE (consE (by rw[ev,consE cstE nilE];rfl) (consE (lstE (consE cstE nilE) rfl) nilE))))))))) rfl
 refine(zao (setE (x:=w9) (h1:=h13) (idxE (x:=.ref (h10.n+1)) (h1:=(h10.new (.dt [] [])).new (.lst W9)) ?_ (zbm (varE rfl) cstE e6) x9e))).trans ?_
 .rw[<-hW9]
  exact lstE (h1:=h10.new (.dt [] [])) (consE cstE (consE cstE (consE (negE cstE) (consE (powE p20) (consE cstE (consE cstE (consE cstE (consE (by rw[ev,consE cstE nilE];rfl) (consE (by rw[ev,nilE];rfl) nilE))))))))) rfl
 refine(zao (ρ':=[c0,some (.ref 1),c2,some (.int (1+r1)),some (.int d),x5',some (.ref (h4.n+2)),y7,some w8,some w9,y10,y11]) (h':=h15) ?_).trans ?_
 .rw[exs,lstE (ys:=L3) (h1:=h14) (by
   rw[<-hL3]
   exact consE (tup2E (varE rfl) (varE rfl)) (consE (tup2E (addE cstE (zbm (varE rfl) cstE e7)) (varE rfl)) (consE (tup2E (varE rfl) (varE rfl)) nilE))) (by rw[<-hL3];rfl),bindok,h15e]
  exact f9
 exact(zao ((iteF (zkb C (x:=0) (idxE (varE rfl) cstE (idx25 (j:=4) gs h4th)) rfl (by omega) (by omega) (by omega) (by omega))).trans rfl)).trans rfl
theorem law25{ns:List Int}(hl:ns.length<=63):zbq (run F 30 702 [.fz (ns.map .int)] ⟨0,0,[]⟩)=true:=by
 rw[show(30:Nat)=29+1 from rfl,zbf C.f702 rfl]
 obtain⟨h1,e1,D1⟩:=deck (cd25 C) (k:=28) (h:=⟨0,0,[]⟩) hl
 have tg:∀(a:Int)(c0 c2 x3 x4 x5 x6 x7 x8 x9 x10 x11:Option W)(h:VH),tgW (.one 2) (.int a) h [c0,some (.ref 1),c2,x3,x4,x5,x6,x7,x8,x9,x10,x11]=some [c0,some (.ref 1),some (.int a),x3,x4,x5,x6,x7,x8,x9,x10,x11]:=λ_ _ _ _ _ _ _ _ _ _ _ _ _=>rfl
 have loop:∀(n:Nat)(a:Int)(b:Nat)(h:VH)(c0 c2 x3 x4 x5 x6 x7 x8 x9 x10 x11:Option W),Dk h 1 0 b->b+7*n+100<1000000000->∃ρ' h',forL (tgW (.one 2)) (exs (run F 29) za2) (za7 a n) [c0,some (.ref 1),c2,x3,x4,x5,x6,x7,x8,x9,x10,x11] h=.ok (.nx ρ') h':=by
  intro n
  induction n with
  |zero=>intro a b h c0 c2 x3 x4 x5 x6 x7 x8 x9 x10 x11 D hb;exact⟨_,_,rfl⟩
  |succ n ih=>
   intro a b h c0 c2 x3 x4 x5 x6 x7 x8 x9 x10 x11 D hb
   obtain⟨y3,y4,y5,y6,y7,y8,y9,y10,y11,h',e,D'⟩:=zsg C (c0:=c0) (c2:=some (.int a)) (x3:=x3) (x4:=x4) (x5:=x5) (x6:=x6) (x7:=x7) (x8:=x8) (x9:=x9) (x10:=x10) (x11:=x11) D (by omega)
   obtain⟨ρ',h2,e2⟩:=ih (a+1) (b+7) h' c0 (some (.int a)) y3 y4 y5 y6 y7 y8 y9 y10 y11 D' (by omega)
   refine⟨ρ',h2,?_⟩
   show forL (tgW (.one 2)) (exs (run F 29) za2) (.int a::za7 (a+1) n) _ h=_
   rw[forL,tg]
   simp only[e,bindok]
   exact e2
 obtain⟨ρ2,h2,e2⟩:=loop 4 0 0 h1 (some (.fz (ns.map .int))) none none none none none none none none none none D1 (by omega)
 have eb:exs (run F 29) zcr.body [some (.fz (ns.map .int)),none,none,none,none,none,none,none,none,none,none,none] ⟨0,0,[]⟩=.ok (.rt (.bl true)) h2:=by
  refine(zao (setE (h1:=h1) (x:=.ref 1) (zsf (varE rfl) e1))).trans ?_
  refine(zao (ρ':=ρ2) (h':=h2) ?_).trans ?_
  .rw[exs,consE cstE nilE,bindok,show(4:Int)=((4:Nat):Int)from rfl,zj7 (by omega)]
   exact e2
  .exact zhv (retE cstE)
 show zbq (fin ⟨0,0,[]⟩ (exs (run F 29) zcr.body [some (.fz (ns.map .int)),none,none,none,none,none,none,none,none,none,none,none] ⟨0,0,[]⟩))=true
 rw[eb]
 obtain⟨h11,e11,_⟩:=zfw (h:=⟨0,0,[]⟩) (w:=.bl true) (zfi (zfj F 29) _ _ ⟨0,0,[]⟩ _ _ eb)
 show zbq (leave ⟨0,0,[]⟩ (.bl true) h2)=true
 rw[e11]
 rfl
end
end RF
namespace HD
open PySem PySem.W PySem.Calls PyProof.Rows
noncomputable section
noncomputable def p:Program:=PySem.Challenge.pw_ballrockers_k25_least_groups
noncomputable abbrev S(x:String):Str:=Str.ofString x
noncomputable abbrev U(x:String)(t:Tok):Value:=Value.str (S x) t
noncomputable abbrev R(a:Addr):Value:=Value.ref a
noncomputable abbrev I(i:Int)(t:Tok):Value:=Value.int i t
noncomputable abbrev E(P:Params)(x:String)(t:Tok)(v:Value):DictEntry:=DictEntry.mk (PyData.keyHash P (S x)) (Value.str (S x) t) v
noncomputable abbrev N(o:Obj)(l r:BT):BT:=BT.node o l r
noncomputable abbrev Z:BT:=BT.nil
noncomputable abbrev L(o:Obj):BT:=BT.node o Z Z
noncomputable abbrev Y(c:String)(d:Data):Obj:=Obj.mk (Value.type c) none d #[]
noncomputable abbrev X(d:Data):Obj:=Obj.mk Value.none none d #[]
noncomputable def atN(l:List Stmt)(i:Nat):Stmt:=l.getD i (Stmt.Pass ⟨0,0,0,0⟩)
noncomputable def fbS:Stmt->List Stmt
 |.FunctionDef _ _ b _ _ _ _ _ _ _=>b
 |.ClassDef _ _ _ b _ _ _ _ _ _ _=>b
 |_=>[]
noncomputable def faS:Stmt->Arguments
 |.FunctionDef _ a _ _ _ _ _ _ _ _=>a
 |_=>⟨[],[],none,[],[],none,[]⟩
noncomputable def fsS:Stmt->Scope
 |.FunctionDef _ _ _ _ _ _ s _ _ _=>s
 |_=>p.main.scope
noncomputable def fb(i:Nat):List Stmt:=fbS (atN p.main.body i)
noncomputable def fa(i:Nat):Arguments:=faS (atN p.main.body i)
noncomputable def fs(i:Nat):Scope:=fsS (atN p.main.body i)
noncomputable def cb(i j:Nat):List Stmt:=fbS (atN (fb i) j)
noncomputable def ca(i j:Nat):Arguments:=faS (atN (fb i) j)
noncomputable def cs(i j:Nat):Scope:=fsS (atN (fb i) j)
noncomputable abbrev O:Value:=Value.none
noncomputable abbrev J(i:Int):Value:=Value.int i 0
noncomputable abbrev V(t:Tok):Value:=Value.str (S "/claim/cut.py") t
noncomputable abbrev A(l:Array Value):Data:=Data.fields l
noncomputable abbrev B(f:FuncData):Data:=Data.func f
noncomputable abbrev G(x:String)(i:Nat)(g:Addr)(c:List (Str×Addr))(d k o m:Value)(n:Option Addr)(cd ct:Value)(b:Addr):FuncData:=FuncData.mk (S x) (S x) (fa i) (FuncBody.stmts (fb i)) (fs i) g c d k o m n cd ct b
section
variable(P:Params)
noncomputable def N0:Nat:=8310
noncomputable def lo:List Str:=[S "MOST_STANDS"]
noncomputable def keep:List Nat:=[1,2,3,4,5,6,7,8,9,10,11,12,13,14,15,16,17,19,20,21,23,24,26,27,28,29,30,31,32,33,34,35]
noncomputable def life:Life:=(Life.mk [] [] [] 0 [] [] false #[] [] 0 false false false 0 [2000,10,10] false 0 true [] [] 0 false)
noncomputable def m0:Nat:=11
noncomputable def ann:Option Value:=(some (R 6))
noncomputable def env:Env:={scope:=p.main.scope,locals:=mainNs,globals:=mainNs,cells:=[],code:=(R 13),frame:=some 14}
noncomputable def bd:List Stmt:=behindTheImports p
noncomputable def cd:Code:=Code.body bd env
noncomputable def fr:List Frame:=[topFrame (Pos.mk 0 0 0 0)]
noncomputable abbrev qC(n:String)(t:Nat)(l k:Int)(r m:Nat):Obj:=Y "code" (A #[U n t,U n (t+1),V (t+2),J l,J k,J 0,J 0,J 3,R r,Value.bool true,J 181,R (r+1),O,R (r+2),R (r+3),R (r+4),J (Int.ofNat m),J l,V (m+1)])
noncomputable abbrev qD(n:String)(t:Nat)(l k:Int)(r m:Nat):Obj:=Y "code" (A #[U n t,U n (t+1),V (t+2),J l,J k,J 0,J 0,J 3,R r,Value.bool true,J 181,R (r+1),O,O,O,R (r+2),J (Int.ofNat m),J l,V (m+1)])
noncomputable def qU:Nat->List String->List Value
 |_,[]=>[]
 |t,x::r=>U x t::qU (t+1) r
noncomputable abbrev qT(t:Nat)(l:List String):Obj:=Y "tuple" (Data.seq (qU t l).toArray 0)
noncomputable abbrev qF(n:String)(i:Nat)(u:Value)(r:Addr):Obj:=Y "function" (B (G n i 3 [] O O O u none (R r) O 0))
noncomputable abbrev qG(n:String)(i:Nat):Obj:=X (B (G n i 0 [] O O O O none O O 0))
noncomputable def qJ:List (Int×Nat)->List Value
 |[]=>[]
 |(a,b)::r=>J a::J 0::R b::qJ r
noncomputable def qO:List Obj->List Obj
 |x::_::r=>x::qO r
 |x=>x
noncomputable def qE:List Obj->List Obj
 |_::y::r=>y::qE r
 |_=>[]
noncomputable def qB:Nat->List Obj->BT
 |f+1,x::r=>N x (qB f (qO r)) (qB f (qE r))
 |_,_=>Z
 def a0:=(Y "tuple" (Data.seq #[] 0))
 def a1:=(X (A #[]))
 def a2:=(Y "code" (A #[(U "<module>" 182),(U "<module>" 183),(V 184),(J 1),(J 0),(J 0),(J 0),(J 0),(R 11),(Value.bool false),(J 181),(R 12),O,O,O,O,(J 185),(J 1),(V 186)]))
 def a3:=(Obj.mk (Value.type "frame") none Data.plain #[(some (R 13)),(some (R 3)),(some (R 3)),none,(some (U "__main__" 164)),none,(some (R 0))])
 def ha:Heap:=Heap.mk (Array.mk [(boot_o_0 P),(boot_o_1 P),(boot_o_2 P),(boot_o_3 P),(boot_o_4 P),(boot_o_5 P),(boot_o_6 P),(boot_o_7 P),(boot_o_8 P),(boot_o_9 P),(boot_o_10 P),a0,a1,a2,a3]) (Life.mk [] [] [] 0 [] [] false #[] [] 0 false false false 0 [2000,10,10] false 0 true [] [] 0 false)
noncomputable def sa(w:World)(os:OsState):Shared:=⟨ha w.params,(Array.mk []),(Drawn.mk 0 0 0 0),187,os⟩
theorem seg_q{w:World}{n:Nat}{s s':SharedT}{l:List Stmt}{pos pos':Pos}(h:PySem.W.Fast.tw10110043849684766642 PySem.W.Fast.tw14364793385576792824 p w m0 ann 1 n s (piecesOf l env cd pos fr)=some (.next,s',cd,pos')) :
 segRun treeTable p w m0 ann 1 n s.abs (piecesOf l env cd pos fr)=some (.next,s'.abs,cd,pos'):=
 segRun_of (by rw[PySem.W.Fast.te10110043849684766642,vbl];exact h)
theorem pre_q{w:World}{n:Nat}{s s':Shared}{pos:Pos}(h:PySem.W.Fast.tw15667345088766844465 PySem.W.Fast.tw14364793385576792824 p w m0 ann n s (topStub p)=some (s',⟨PySem.W.Fast.tw11892475500146522536 PySem.W.Fast.tw14364793385576792824 cd,cd,pos,fr⟩)) :
 topGo treeTable p w m0 ann n s (topStub p)=some (s',⟨denote treeTable cd,cd,pos,fr⟩):=by
 rw[PySem.W.Fast.te15667345088766844465,vbl,PySem.W.Fast.te11892475500146522536];exact h
theorem zoz{w:World}{n:Nat}{s s':Shared}{pos pos':Pos}(h:PySem.W.Fast.tw14374325043358763698 PySem.W.Fast.tw14364793385576792824 p w m0 ann 1 n s (blockOf bd env cd pos fr)=some (.next,s',cd,pos')) :
 segRun treeTable p w m0 ann 1 n s (blockOf bd env cd pos fr)=some (.next,s',cd,pos'):=by
 rw[PySem.W.Fast.te14374325043358763698,vbl];exact h
theorem fin_q{w:World}{n:Nat}{s s':Shared}{pos:Pos}(h:PySem.W.Fast.tw14082659384304107361 PySem.W.Fast.tw14364793385576792824 p w m0 ann n s ⟨doneF .next,cd,pos,fr⟩=some s') :
 topRun treeTable p w m0 ann n s ⟨doneF .next,cd,pos,fr⟩=some s':=by
 rw[PySem.W.Fast.te14082659384304107361,vbl];exact h
set_option maxHeartbeats 0 in
theorem pre(w:World)(os:OsState):topGo treeTable p w m0 ann 12 ⟨boot_heap w.params,Array.mk [],boot_drawn,boot_toks,os⟩ (topStub p)=some (sa w os,⟨denote treeTable cd,cd,(Pos.mk 0 0 0 0),fr⟩):=pre_q (by kernel_rfl)
 def vtb:List Obj:=[(boot_o_0 P),(boot_o_1 P),(boot_o_2 P),(boot_o_3 P),(boot_o_4 P),(boot_o_5 P),(boot_o_6 P),(boot_o_7 P),(boot_o_8 P),(boot_o_9 P),(boot_o_10 P),a0,a1,a2,a3]
 def tb:=qB 20 (vtb P)
noncomputable def sb(w:World)(os:OsState):SharedT:=⟨tb w.params,15,life,(Array.mk []),(Drawn.mk 0 0 0 0),187,os⟩
set_option maxHeartbeats 0 in
theorem block(w:World)(os:OsState):segRun treeTable p w m0 ann 1 1 (sa w os) (blockOf bd env cd (Pos.mk 0 0 0 0) fr)=some (.next,(sb w os).abs,cd,(Pos.mk 0 0 0 0)):=zoz (by kernel_rfl)
 def ea4:=[(E P "__doc__" 166 O),(E P "__package__" 167 O),(E P "__loader__" 168 (Value.builtin "__main__.__loader__#opaque")),(E P "__spec__" 169 O),(E P "__annotations__" 170 (R 6)),(E P "__builtins__" 171 (R 4)),(E P "__file__" 173 (V 172)),(E P "__cached__" 174 O),(E P "BoardError" 206 (R 24)),(E P "NoBoard" 222 (R 37)),(E P "Fault" 249 (R 56)),(E P "NoLeans" 265 (R 68)),(E P "NoStand" 281 (R 80)),(E P "NoFeeder" 297 (R 92))]
 def a4:=Y "dict" (Data.dict ((E P "__name__" 165 (U "ballrockers.errors" 187))::ea4 P).toArray 15)
 def ja5:List (Int×Nat):=[(2,20),(4,33),(6,45),(11,64),(13,76),(15,88)]
 def a5:=X (A (qJ ja5).toArray)
 def a6:=(Y "tuple" (Data.seq #[(Value.type "ValueError")] 0))
 def a7:=(Y "builtin_function_or_method" (A #[(Value.builtin "type.__prepare__"),(Value.type "type")]))
 def a8:=(Y "dict" (Data.dict #[(E P "__module__" 196 (U "ballrockers.errors" 187)),(E P "__qualname__" 198 (U "BoardError" 197)),(E P "__firstlineno__" 200 (I 2 199)),(E P "__static_attributes__" 201 (R 22))] 4))
 def a9:=(Y "code" (A #[(U "BoardError" 191),(U "BoardError" 192),(V 193),(J 2),(J 0),(J 0),(J 0),(J 0),(R 18),(Value.bool false),(J 181),(R 19),O,O,O,O,(J 194),(J 2),(V 195)]))
 def a10:=(Obj.mk (Value.type "frame") none Data.plain #[(some (R 20)),(some (R 3)),(some (R 17)),none,(some (U "ballrockers.errors" 187)),none,(some (R 0))])
 def a11:=(Y "dict" (Data.dict #[(E P "__module__" 196 (U "ballrockers.errors" 187)),(E P "__firstlineno__" 200 (I 2 199)),(E P "__static_attributes__" 201 (R 22)),(E P "__weakref__" 203 (R 25)),(E P "__doc__" 204 O)] 3))
 def a12:=(Obj.mk (Value.type "type") none (Data.cls (ClassData.mk (S "BoardError") [(Value.type "ValueError")] [(R 24),(Value.type "ValueError"),(Value.type "Exception"),(Value.type "BaseException"),(Value.type "object")] 23 (S "BoardError") true [] [(R 37),(R 56),(R 68),(R 80),(R 92)] false none false)) #[(some (R 15)),none,(some (U "BoardError" 189)),(some (U "BoardError" 197)),(some (Value.builtin "ValueError.__new__")),(some (Value.bool true))])
 def a13:=(Y "getset_descriptor" (A #[(U "__weakref__" 202),(R 24),(Value.builtin "ExceptionGroup.__weakref__"),O]))
 def a14:=(Y "super" (A #[(R 24),(R 24),(R 24)]))
 def a15:=(Y "builtin_function_or_method" (A #[(Value.builtin "object.__init_subclass__"),(R 24)]))
 def a16:=(Y "tuple" (Data.seq #[(R 24)] 0))
 def a17:=(Y "dict" (Data.dict #[(E P "__module__" 214 (U "ballrockers.errors" 187)),(E P "__qualname__" 216 (U "NoBoard" 215)),(E P "__firstlineno__" 218 (I 4 217)),(E P "__static_attributes__" 219 (R 35))] 4))
 def a18:=(Y "code" (A #[(U "NoBoard" 209),(U "NoBoard" 210),(V 211),(J 4),(J 0),(J 0),(J 0),(J 0),(R 31),(Value.bool false),(J 181),(R 32),O,O,O,O,(J 212),(J 4),(V 213)]))
 def a19:=(Obj.mk (Value.type "frame") none Data.plain #[(some (R 33)),(some (R 3)),(some (R 30)),none,(some (U "ballrockers.errors" 187)),none,(some (R 0))])
 def a20:=(Y "dict" (Data.dict #[(E P "__module__" 214 (U "ballrockers.errors" 187)),(E P "__firstlineno__" 218 (I 4 217)),(E P "__static_attributes__" 219 (R 35)),(E P "__doc__" 220 O)] 2))
 def a21:=(Obj.mk (Value.type "type") none (Data.cls (ClassData.mk (S "NoBoard") [(R 24)] [(R 37),(R 24),(Value.type "ValueError"),(Value.type "Exception"),(Value.type "BaseException"),(Value.type "object")] 36 (S "NoBoard") true [] [] false none false)) #[(some (R 28)),none,(some (U "NoBoard" 207)),(some (U "NoBoard" 215)),(some (Value.builtin "ValueError.__new__")),(some (Value.bool true))])
 def a22:=(Y "super" (A #[(R 37),(R 37),(R 37)]))
 def a23:=(Y "builtin_function_or_method" (A #[(Value.builtin "object.__init_subclass__"),(R 37)]))
 def a24:=(Y "dict" (Data.dict #[(E P "__module__" 230 (U "ballrockers.errors" 187)),(E P "__qualname__" 232 (U "Fault" 231)),(E P "__firstlineno__" 234 (I 6 233)),(E P "__init__" 243 (R 53)),(E P "__static_attributes__" 246 (R 54))] 5))
 def a25:=(X (A #[(J 8),(J 4),(R 52)]))
 def a26:=(Y "code" (A #[(U "Fault" 225),(U "Fault" 226),(V 227),(J 6),(J 0),(J 0),(J 0),(J 0),(R 43),(Value.bool false),(J 181),(R 44),O,O,O,O,(J 228),(J 6),(V 229)]))
 def a27:=(Obj.mk (Value.type "frame") none Data.plain #[(some (R 45)),(some (R 3)),(some (R 42)),none,(some (U "ballrockers.errors" 187)),none,(some (R 0))])
 def a28:=qT 238 ["self","row","column"]
 def a29:=(X (B (FuncData.mk (S "__init__") (S "Fault.__init__") (ca 3 0) (FuncBody.stmts (cb 3 0)) (cs 3 0) 0 [] O O O O none O O 0)))
 def a30:=(Y "code" (A #[(U "__init__" 235),(U "Fault.__init__" 236),(V 237),(J 8),(J 3),(J 0),(J 0),(J 3),(R 47),(Value.bool true),(J 181),(R 48),O,(R 49),(R 50),(R 51),(J 241),(J 8),(V 242)]))
 def a31:=(Y "function" (B (FuncData.mk (S "__init__") (S "Fault.__init__") (ca 3 0) (FuncBody.stmts (cb 3 0)) (cs 3 0) 3 [] O O O (U "ballrockers.errors" 187) none (R 52) O 0)))
 def a32:=qT 244 ["column","row"]
 def a33:=(Y "dict" (Data.dict #[(E P "__module__" 230 (U "ballrockers.errors" 187)),(E P "__firstlineno__" 234 (I 6 233)),(E P "__init__" 243 (R 53)),(E P "__static_attributes__" 246 (R 54)),(E P "__doc__" 247 O)] 2))
 def a34:=(Obj.mk (Value.type "type") none (Data.cls (ClassData.mk (S "Fault") [(R 24)] [(R 56),(R 24),(Value.type "ValueError"),(Value.type "Exception"),(Value.type "BaseException"),(Value.type "object")] 55 (S "Fault") true [] [] false none false)) #[(some (R 40)),none,(some (U "Fault" 223)),(some (U "Fault" 231)),(some (Value.builtin "ValueError.__new__")),(some (Value.bool true))])
 def a35:=(Y "super" (A #[(R 56),(R 56),(R 56)]))
 def a36:=(Y "builtin_function_or_method" (A #[(Value.builtin "object.__init_subclass__"),(R 56)]))
 def a37:=(Y "dict" (Data.dict #[(E P "__module__" 257 (U "ballrockers.errors" 187)),(E P "__qualname__" 259 (U "NoLeans" 258)),(E P "__firstlineno__" 261 (I 11 260)),(E P "__static_attributes__" 262 (R 66))] 4))
 def a38:=(Y "code" (A #[(U "NoLeans" 252),(U "NoLeans" 253),(V 254),(J 11),(J 0),(J 0),(J 0),(J 0),(R 62),(Value.bool false),(J 181),(R 63),O,O,O,O,(J 255),(J 11),(V 256)]))
 def a39:=(Obj.mk (Value.type "frame") none Data.plain #[(some (R 64)),(some (R 3)),(some (R 61)),none,(some (U "ballrockers.errors" 187)),none,(some (R 0))])
 def a40:=(Y "dict" (Data.dict #[(E P "__module__" 257 (U "ballrockers.errors" 187)),(E P "__firstlineno__" 261 (I 11 260)),(E P "__static_attributes__" 262 (R 66)),(E P "__doc__" 263 O)] 2))
 def a41:=(Obj.mk (Value.type "type") none (Data.cls (ClassData.mk (S "NoLeans") [(R 24)] [(R 68),(R 24),(Value.type "ValueError"),(Value.type "Exception"),(Value.type "BaseException"),(Value.type "object")] 67 (S "NoLeans") true [] [] false none false)) #[(some (R 59)),none,(some (U "NoLeans" 250)),(some (U "NoLeans" 258)),(some (Value.builtin "ValueError.__new__")),(some (Value.bool true))])
 def a42:=(Y "super" (A #[(R 68),(R 68),(R 68)]))
 def a43:=(Y "builtin_function_or_method" (A #[(Value.builtin "object.__init_subclass__"),(R 68)]))
 def a44:=(Y "dict" (Data.dict #[(E P "__module__" 273 (U "ballrockers.errors" 187)),(E P "__qualname__" 275 (U "NoStand" 274)),(E P "__firstlineno__" 277 (I 13 276)),(E P "__static_attributes__" 278 (R 78))] 4))
 def a45:=(Y "code" (A #[(U "NoStand" 268),(U "NoStand" 269),(V 270),(J 13),(J 0),(J 0),(J 0),(J 0),(R 74),(Value.bool false),(J 181),(R 75),O,O,O,O,(J 271),(J 13),(V 272)]))
 def a46:=(Obj.mk (Value.type "frame") none Data.plain #[(some (R 76)),(some (R 3)),(some (R 73)),none,(some (U "ballrockers.errors" 187)),none,(some (R 0))])
 def a47:=(Y "dict" (Data.dict #[(E P "__module__" 273 (U "ballrockers.errors" 187)),(E P "__firstlineno__" 277 (I 13 276)),(E P "__static_attributes__" 278 (R 78)),(E P "__doc__" 279 O)] 2))
 def a48:=(Obj.mk (Value.type "type") none (Data.cls (ClassData.mk (S "NoStand") [(R 24)] [(R 80),(R 24),(Value.type "ValueError"),(Value.type "Exception"),(Value.type "BaseException"),(Value.type "object")] 79 (S "NoStand") true [] [] false none false)) #[(some (R 71)),none,(some (U "NoStand" 266)),(some (U "NoStand" 274)),(some (Value.builtin "ValueError.__new__")),(some (Value.bool true))])
 def a49:=(Y "super" (A #[(R 80),(R 80),(R 80)]))
 def a50:=(Y "builtin_function_or_method" (A #[(Value.builtin "object.__init_subclass__"),(R 80)]))
 def a51:=(Y "dict" (Data.dict #[(E P "__module__" 289 (U "ballrockers.errors" 187)),(E P "__qualname__" 291 (U "NoFeeder" 290)),(E P "__firstlineno__" 293 (I 15 292)),(E P "__static_attributes__" 294 (R 90))] 4))
 def a52:=(Y "code" (A #[(U "NoFeeder" 284),(U "NoFeeder" 285),(V 286),(J 15),(J 0),(J 0),(J 0),(J 0),(R 86),(Value.bool false),(J 181),(R 87),O,O,O,O,(J 287),(J 15),(V 288)]))
 def a53:=(Obj.mk (Value.type "frame") none Data.plain #[(some (R 88)),(some (R 3)),(some (R 85)),none,(some (U "ballrockers.errors" 187)),none,(some (R 0))])
 def a54:=(Y "dict" (Data.dict #[(E P "__module__" 289 (U "ballrockers.errors" 187)),(E P "__firstlineno__" 293 (I 15 292)),(E P "__static_attributes__" 294 (R 90)),(E P "__doc__" 295 O)] 2))
 def a55:=(Obj.mk (Value.type "type") none (Data.cls (ClassData.mk (S "NoFeeder") [(R 24)] [(R 92),(R 24),(Value.type "ValueError"),(Value.type "Exception"),(Value.type "BaseException"),(Value.type "object")] 91 (S "NoFeeder") true [] [] false none false)) #[(some (R 83)),none,(some (U "NoFeeder" 282)),(some (U "NoFeeder" 290)),(some (Value.builtin "ValueError.__new__")),(some (Value.bool true))])
 def a56:=(Y "super" (A #[(R 92),(R 92),(R 92)]))
 def a57:=(Y "builtin_function_or_method" (A #[(Value.builtin "object.__init_subclass__"),(R 92)]))
 def vt0:List Obj:=((vtb P).set 3 (a4 P)).set 12 a5++[a6,a7,(a8 P),a0,a1,a9,a10,a0,(a11 P),a12,a13,a14,a15,a16,a7,(a17 P),a0,a1,a18,a19,a0,(a20 P),a21,a22,a23,a16,a7,(a24 P),a0,a25,a26,a27,a0,a1,a28,a0,a29,a30,a31,a32,(a33 P),a34,a35,a36,a16,a7,(a37 P),a0,a1,a38,a39,a0,(a40 P),a41,a42,a43,a16,a7,(a44 P),a0,a1,a45,a46,a0,(a47 P),a48,a49,a50,a16,a7,(a51 P),a0,a1,a52,a53,a0,(a54 P),a55,a56,a57]
 def t0:=qB 20 (vt0 P)
noncomputable def s0(w:World)(os:OsState):SharedT:=⟨t0 w.params,95,life,(Array.mk []),(Drawn.mk 0 0 0 0),298,os⟩
noncomputable def st0:List Stmt:=(bd.drop 0).take 7
set_option maxHeartbeats 0 in
theorem seg0(w:World)(os:OsState):segRun treeTable p w m0 ann 1 1295 (sb w os).abs (piecesOf st0 env cd (Pos.mk 0 0 0 0) fr)=some (.next,(s0 w os).abs,cd,(Pos.mk 15 0 16 8)):=seg_q (by kernel_rfl)
 def ea58:=(ea4 P++[(E P "NoRow" 313 (R 104)),(E P "NoNumber" 329 (R 116)),(E P "NoFit" 345 (R 128)),(E P "TooGreat" 361 (R 140)),(E P "NoMachine" 377 (R 152)),(E P "NoWord" 393 (R 164)),(E P "NoFault" 409 (R 176))])
 def a58:=Y "dict" (Data.dict ((E P "__name__" 165 (U "ballrockers.errors" 187))::ea58 P).toArray 22)
 def ja59:List (Int×Nat):=ja5++[(17,100),(19,112),(21,124),(23,136),(25,148),(27,160),(29,172)]
 def a59:=X (A (qJ ja59).toArray)
 def a60:=(Obj.mk (Value.type "type") none (Data.cls (ClassData.mk (S "BoardError") [(Value.type "ValueError")] [(R 24),(Value.type "ValueError"),(Value.type "Exception"),(Value.type "BaseException"),(Value.type "object")] 23 (S "BoardError") true [] [(R 37),(R 56),(R 68),(R 80),(R 92),(R 104),(R 116),(R 128),(R 140),(R 152),(R 164),(R 176)] false none false)) #[(some (R 15)),none,(some (U "BoardError" 189)),(some (U "BoardError" 197)),(some (Value.builtin "ValueError.__new__")),(some (Value.bool true))])
 def a61:=(Y "dict" (Data.dict #[(E P "__module__" 305 (U "ballrockers.errors" 187)),(E P "__qualname__" 307 (U "NoRow" 306)),(E P "__firstlineno__" 309 (I 17 308)),(E P "__static_attributes__" 310 (R 102))] 4))
 def a62:=(Y "code" (A #[(U "NoRow" 300),(U "NoRow" 301),(V 302),(J 17),(J 0),(J 0),(J 0),(J 0),(R 98),(Value.bool false),(J 181),(R 99),O,O,O,O,(J 303),(J 17),(V 304)]))
 def a63:=(Obj.mk (Value.type "frame") none Data.plain #[(some (R 100)),(some (R 3)),(some (R 97)),none,(some (U "ballrockers.errors" 187)),none,(some (R 0))])
 def a64:=(Y "dict" (Data.dict #[(E P "__module__" 305 (U "ballrockers.errors" 187)),(E P "__firstlineno__" 309 (I 17 308)),(E P "__static_attributes__" 310 (R 102)),(E P "__doc__" 311 O)] 2))
 def a65:=(Obj.mk (Value.type "type") none (Data.cls (ClassData.mk (S "NoRow") [(R 24)] [(R 104),(R 24),(Value.type "ValueError"),(Value.type "Exception"),(Value.type "BaseException"),(Value.type "object")] 103 (S "NoRow") true [] [] false none false)) #[(some (R 95)),none,(some (U "NoRow" 298)),(some (U "NoRow" 306)),(some (Value.builtin "ValueError.__new__")),(some (Value.bool true))])
 def a66:=(Y "super" (A #[(R 104),(R 104),(R 104)]))
 def a67:=(Y "builtin_function_or_method" (A #[(Value.builtin "object.__init_subclass__"),(R 104)]))
 def a68:=(Y "dict" (Data.dict #[(E P "__module__" 321 (U "ballrockers.errors" 187)),(E P "__qualname__" 323 (U "NoNumber" 322)),(E P "__firstlineno__" 325 (I 19 324)),(E P "__static_attributes__" 326 (R 114))] 4))
 def a69:=(Y "code" (A #[(U "NoNumber" 316),(U "NoNumber" 317),(V 318),(J 19),(J 0),(J 0),(J 0),(J 0),(R 110),(Value.bool false),(J 181),(R 111),O,O,O,O,(J 319),(J 19),(V 320)]))
 def a70:=(Obj.mk (Value.type "frame") none Data.plain #[(some (R 112)),(some (R 3)),(some (R 109)),none,(some (U "ballrockers.errors" 187)),none,(some (R 0))])
 def a71:=(Y "dict" (Data.dict #[(E P "__module__" 321 (U "ballrockers.errors" 187)),(E P "__firstlineno__" 325 (I 19 324)),(E P "__static_attributes__" 326 (R 114)),(E P "__doc__" 327 O)] 2))
 def a72:=(Obj.mk (Value.type "type") none (Data.cls (ClassData.mk (S "NoNumber") [(R 24)] [(R 116),(R 24),(Value.type "ValueError"),(Value.type "Exception"),(Value.type "BaseException"),(Value.type "object")] 115 (S "NoNumber") true [] [] false none false)) #[(some (R 107)),none,(some (U "NoNumber" 314)),(some (U "NoNumber" 322)),(some (Value.builtin "ValueError.__new__")),(some (Value.bool true))])
 def a73:=(Y "super" (A #[(R 116),(R 116),(R 116)]))
 def a74:=(Y "builtin_function_or_method" (A #[(Value.builtin "object.__init_subclass__"),(R 116)]))
 def a75:=(Y "dict" (Data.dict #[(E P "__module__" 337 (U "ballrockers.errors" 187)),(E P "__qualname__" 339 (U "NoFit" 338)),(E P "__firstlineno__" 341 (I 21 340)),(E P "__static_attributes__" 342 (R 126))] 4))
 def a76:=(Y "code" (A #[(U "NoFit" 332),(U "NoFit" 333),(V 334),(J 21),(J 0),(J 0),(J 0),(J 0),(R 122),(Value.bool false),(J 181),(R 123),O,O,O,O,(J 335),(J 21),(V 336)]))
 def a77:=(Obj.mk (Value.type "frame") none Data.plain #[(some (R 124)),(some (R 3)),(some (R 121)),none,(some (U "ballrockers.errors" 187)),none,(some (R 0))])
 def a78:=(Y "dict" (Data.dict #[(E P "__module__" 337 (U "ballrockers.errors" 187)),(E P "__firstlineno__" 341 (I 21 340)),(E P "__static_attributes__" 342 (R 126)),(E P "__doc__" 343 O)] 2))
 def a79:=(Obj.mk (Value.type "type") none (Data.cls (ClassData.mk (S "NoFit") [(R 24)] [(R 128),(R 24),(Value.type "ValueError"),(Value.type "Exception"),(Value.type "BaseException"),(Value.type "object")] 127 (S "NoFit") true [] [] false none false)) #[(some (R 119)),none,(some (U "NoFit" 330)),(some (U "NoFit" 338)),(some (Value.builtin "ValueError.__new__")),(some (Value.bool true))])
 def a80:=(Y "super" (A #[(R 128),(R 128),(R 128)]))
 def a81:=(Y "builtin_function_or_method" (A #[(Value.builtin "object.__init_subclass__"),(R 128)]))
 def a82:=(Y "dict" (Data.dict #[(E P "__module__" 353 (U "ballrockers.errors" 187)),(E P "__qualname__" 355 (U "TooGreat" 354)),(E P "__firstlineno__" 357 (I 23 356)),(E P "__static_attributes__" 358 (R 138))] 4))
 def a83:=(Y "code" (A #[(U "TooGreat" 348),(U "TooGreat" 349),(V 350),(J 23),(J 0),(J 0),(J 0),(J 0),(R 134),(Value.bool false),(J 181),(R 135),O,O,O,O,(J 351),(J 23),(V 352)]))
 def a84:=(Obj.mk (Value.type "frame") none Data.plain #[(some (R 136)),(some (R 3)),(some (R 133)),none,(some (U "ballrockers.errors" 187)),none,(some (R 0))])
 def a85:=(Y "dict" (Data.dict #[(E P "__module__" 353 (U "ballrockers.errors" 187)),(E P "__firstlineno__" 357 (I 23 356)),(E P "__static_attributes__" 358 (R 138)),(E P "__doc__" 359 O)] 2))
 def a86:=(Obj.mk (Value.type "type") none (Data.cls (ClassData.mk (S "TooGreat") [(R 24)] [(R 140),(R 24),(Value.type "ValueError"),(Value.type "Exception"),(Value.type "BaseException"),(Value.type "object")] 139 (S "TooGreat") true [] [] false none false)) #[(some (R 131)),none,(some (U "TooGreat" 346)),(some (U "TooGreat" 354)),(some (Value.builtin "ValueError.__new__")),(some (Value.bool true))])
 def a87:=(Y "super" (A #[(R 140),(R 140),(R 140)]))
 def a88:=(Y "builtin_function_or_method" (A #[(Value.builtin "object.__init_subclass__"),(R 140)]))
 def a89:=(Y "dict" (Data.dict #[(E P "__module__" 369 (U "ballrockers.errors" 187)),(E P "__qualname__" 371 (U "NoMachine" 370)),(E P "__firstlineno__" 373 (I 25 372)),(E P "__static_attributes__" 374 (R 150))] 4))
 def a90:=(Y "code" (A #[(U "NoMachine" 364),(U "NoMachine" 365),(V 366),(J 25),(J 0),(J 0),(J 0),(J 0),(R 146),(Value.bool false),(J 181),(R 147),O,O,O,O,(J 367),(J 25),(V 368)]))
 def a91:=(Obj.mk (Value.type "frame") none Data.plain #[(some (R 148)),(some (R 3)),(some (R 145)),none,(some (U "ballrockers.errors" 187)),none,(some (R 0))])
 def a92:=(Y "dict" (Data.dict #[(E P "__module__" 369 (U "ballrockers.errors" 187)),(E P "__firstlineno__" 373 (I 25 372)),(E P "__static_attributes__" 374 (R 150)),(E P "__doc__" 375 O)] 2))
 def a93:=(Obj.mk (Value.type "type") none (Data.cls (ClassData.mk (S "NoMachine") [(R 24)] [(R 152),(R 24),(Value.type "ValueError"),(Value.type "Exception"),(Value.type "BaseException"),(Value.type "object")] 151 (S "NoMachine") true [] [] false none false)) #[(some (R 143)),none,(some (U "NoMachine" 362)),(some (U "NoMachine" 370)),(some (Value.builtin "ValueError.__new__")),(some (Value.bool true))])
 def a94:=(Y "super" (A #[(R 152),(R 152),(R 152)]))
 def a95:=(Y "builtin_function_or_method" (A #[(Value.builtin "object.__init_subclass__"),(R 152)]))
 def a96:=(Y "dict" (Data.dict #[(E P "__module__" 385 (U "ballrockers.errors" 187)),(E P "__qualname__" 387 (U "NoWord" 386)),(E P "__firstlineno__" 389 (I 27 388)),(E P "__static_attributes__" 390 (R 162))] 4))
 def a97:=(Y "code" (A #[(U "NoWord" 380),(U "NoWord" 381),(V 382),(J 27),(J 0),(J 0),(J 0),(J 0),(R 158),(Value.bool false),(J 181),(R 159),O,O,O,O,(J 383),(J 27),(V 384)]))
 def a98:=(Obj.mk (Value.type "frame") none Data.plain #[(some (R 160)),(some (R 3)),(some (R 157)),none,(some (U "ballrockers.errors" 187)),none,(some (R 0))])
 def a99:=(Y "dict" (Data.dict #[(E P "__module__" 385 (U "ballrockers.errors" 187)),(E P "__firstlineno__" 389 (I 27 388)),(E P "__static_attributes__" 390 (R 162)),(E P "__doc__" 391 O)] 2))
 def a100:=(Obj.mk (Value.type "type") none (Data.cls (ClassData.mk (S "NoWord") [(R 24)] [(R 164),(R 24),(Value.type "ValueError"),(Value.type "Exception"),(Value.type "BaseException"),(Value.type "object")] 163 (S "NoWord") true [] [] false none false)) #[(some (R 155)),none,(some (U "NoWord" 378)),(some (U "NoWord" 386)),(some (Value.builtin "ValueError.__new__")),(some (Value.bool true))])
 def a101:=(Y "super" (A #[(R 164),(R 164),(R 164)]))
 def a102:=(Y "builtin_function_or_method" (A #[(Value.builtin "object.__init_subclass__"),(R 164)]))
 def a103:=(Y "dict" (Data.dict #[(E P "__module__" 401 (U "ballrockers.errors" 187)),(E P "__qualname__" 403 (U "NoFault" 402)),(E P "__firstlineno__" 405 (I 29 404)),(E P "__static_attributes__" 406 (R 174))] 4))
 def a104:=(Y "code" (A #[(U "NoFault" 396),(U "NoFault" 397),(V 398),(J 29),(J 0),(J 0),(J 0),(J 0),(R 170),(Value.bool false),(J 181),(R 171),O,O,O,O,(J 399),(J 29),(V 400)]))
 def a105:=(Obj.mk (Value.type "frame") none Data.plain #[(some (R 172)),(some (R 3)),(some (R 169)),none,(some (U "ballrockers.errors" 187)),none,(some (R 0))])
 def a106:=(Y "dict" (Data.dict #[(E P "__module__" 401 (U "ballrockers.errors" 187)),(E P "__firstlineno__" 405 (I 29 404)),(E P "__static_attributes__" 406 (R 174)),(E P "__doc__" 407 O)] 2))
 def a107:=(Obj.mk (Value.type "type") none (Data.cls (ClassData.mk (S "NoFault") [(R 24)] [(R 176),(R 24),(Value.type "ValueError"),(Value.type "Exception"),(Value.type "BaseException"),(Value.type "object")] 175 (S "NoFault") true [] [] false none false)) #[(some (R 167)),none,(some (U "NoFault" 394)),(some (U "NoFault" 402)),(some (Value.builtin "ValueError.__new__")),(some (Value.bool true))])
 def a108:=(Y "super" (A #[(R 176),(R 176),(R 176)]))
 def a109:=(Y "builtin_function_or_method" (A #[(Value.builtin "object.__init_subclass__"),(R 176)]))
 def vt1:List Obj:=(((vt0 P).set 3 (a58 P)).set 12 a59).set 24 a60++[a16,a7,(a61 P),a0,a1,a62,a63,a0,(a64 P),a65,a66,a67,a16,a7,(a68 P),a0,a1,a69,a70,a0,(a71 P),a72,a73,a74,a16,a7,(a75 P),a0,a1,a76,a77,a0,(a78 P),a79,a80,a81,a16,a7,(a82 P),a0,a1,a83,a84,a0,(a85 P),a86,a87,a88,a16,a7,(a89 P),a0,a1,a90,a91,a0,(a92 P),a93,a94,a95,a16,a7,(a96 P),a0,a1,a97,a98,a0,(a99 P),a100,a101,a102,a16,a7,(a103 P),a0,a1,a104,a105,a0,(a106 P),a107,a108,a109]
 def t1:=qB 20 (vt1 P)
noncomputable def s1(w:World)(os:OsState):SharedT:=⟨t1 w.params,179,life,(Array.mk []),(Drawn.mk 0 0 0 0),410,os⟩
noncomputable def st1:List Stmt:=(bd.drop 7).take 7
set_option maxHeartbeats 0 in
theorem seg1(w:World)(os:OsState):segRun treeTable p w m0 ann 1 1492 (s0 w os).abs (piecesOf st1 env cd (Pos.mk 15 0 16 8) fr)=some (.next,(s1 w os).abs,cd,(Pos.mk 29 0 30 8)):=seg_q (by kernel_rfl)
 def ea110:=(ea58 P++[(E P "NoNames" 425 (R 188)),(E P "NoText" 441 (R 200)),(E P "NoSaying" 457 (R 212)),(E P "NoName" 473 (R 224)),(E P "is_whole" 482 (R 233)),(E P "is_whole_within" 491 (R 240)),(E P "MOST_FEEDERS" 493 (I 4 492)),(E P "MOST_STANDS" 499 (I 1000000000 498)),(E P "least_groups" 509 (R 247)),(E P "_law_cell" 519 (R 254)),(E P "_law_mixed" 529 (R 261)),(E P "_law_deck" 535 (R 266)),(E P "_law_take" 544 (R 273)),(E P "_law_number" 552 (R 280)),(E P "_law_kinds" 560 (R 287)),(E P "_law_word" 568 (R 294)),(E P "_law_due" 578 (R 301)),(E P "_law_is_refused" 587 (R 308)),(E P "law" 605 (R 315))])
 def a110:=Y "dict" (Data.dict ((E P "__name__" 165 (U "law_ballrockers_k25_least_groups" 510))::ea110 P).toArray 41)
 def ja111:List (Int×Nat):=ja59++[(31,184),(33,196),(35,208),(37,220),(40,232),(42,239),(47,246),(57,253),(61,260),(64,265),(66,272),(75,279),(77,286),(83,293),(88,300),(95,307),(101,314)]
 def a111:=X (A (qJ ja111).toArray)
 def a112:=(Obj.mk (Value.type "type") none (Data.cls (ClassData.mk (S "BoardError") [(Value.type "ValueError")] [(R 24),(Value.type "ValueError"),(Value.type "Exception"),(Value.type "BaseException"),(Value.type "object")] 23 (S "BoardError") true [] [(R 37),(R 56),(R 68),(R 80),(R 92),(R 104),(R 116),(R 128),(R 140),(R 152),(R 164),(R 176),(R 188),(R 200),(R 212),(R 224)] false none false)) #[(some (R 15)),none,(some (U "BoardError" 189)),(some (U "BoardError" 197)),(some (Value.builtin "ValueError.__new__")),(some (Value.bool true))])
 def a113:=(Y "dict" (Data.dict #[(E P "__module__" 417 (U "ballrockers.errors" 187)),(E P "__qualname__" 419 (U "NoNames" 418)),(E P "__firstlineno__" 421 (I 31 420)),(E P "__static_attributes__" 422 (R 186))] 4))
 def a114:=(Y "code" (A #[(U "NoNames" 412),(U "NoNames" 413),(V 414),(J 31),(J 0),(J 0),(J 0),(J 0),(R 182),(Value.bool false),(J 181),(R 183),O,O,O,O,(J 415),(J 31),(V 416)]))
 def a115:=(Obj.mk (Value.type "frame") none Data.plain #[(some (R 184)),(some (R 3)),(some (R 181)),none,(some (U "ballrockers.errors" 187)),none,(some (R 0))])
 def a116:=(Y "dict" (Data.dict #[(E P "__module__" 417 (U "ballrockers.errors" 187)),(E P "__firstlineno__" 421 (I 31 420)),(E P "__static_attributes__" 422 (R 186)),(E P "__doc__" 423 O)] 2))
 def a117:=(Obj.mk (Value.type "type") none (Data.cls (ClassData.mk (S "NoNames") [(R 24)] [(R 188),(R 24),(Value.type "ValueError"),(Value.type "Exception"),(Value.type "BaseException"),(Value.type "object")] 187 (S "NoNames") true [] [] false none false)) #[(some (R 179)),none,(some (U "NoNames" 410)),(some (U "NoNames" 418)),(some (Value.builtin "ValueError.__new__")),(some (Value.bool true))])
 def a118:=(Y "super" (A #[(R 188),(R 188),(R 188)]))
 def a119:=(Y "builtin_function_or_method" (A #[(Value.builtin "object.__init_subclass__"),(R 188)]))
 def a120:=(Y "dict" (Data.dict #[(E P "__module__" 433 (U "ballrockers.errors" 187)),(E P "__qualname__" 435 (U "NoText" 434)),(E P "__firstlineno__" 437 (I 33 436)),(E P "__static_attributes__" 438 (R 198))] 4))
 def a121:=(Y "code" (A #[(U "NoText" 428),(U "NoText" 429),(V 430),(J 33),(J 0),(J 0),(J 0),(J 0),(R 194),(Value.bool false),(J 181),(R 195),O,O,O,O,(J 431),(J 33),(V 432)]))
 def a122:=(Obj.mk (Value.type "frame") none Data.plain #[(some (R 196)),(some (R 3)),(some (R 193)),none,(some (U "ballrockers.errors" 187)),none,(some (R 0))])
 def a123:=(Y "dict" (Data.dict #[(E P "__module__" 433 (U "ballrockers.errors" 187)),(E P "__firstlineno__" 437 (I 33 436)),(E P "__static_attributes__" 438 (R 198)),(E P "__doc__" 439 O)] 2))
 def a124:=(Obj.mk (Value.type "type") none (Data.cls (ClassData.mk (S "NoText") [(R 24)] [(R 200),(R 24),(Value.type "ValueError"),(Value.type "Exception"),(Value.type "BaseException"),(Value.type "object")] 199 (S "NoText") true [] [] false none false)) #[(some (R 191)),none,(some (U "NoText" 426)),(some (U "NoText" 434)),(some (Value.builtin "ValueError.__new__")),(some (Value.bool true))])
 def a125:=(Y "super" (A #[(R 200),(R 200),(R 200)]))
 def a126:=(Y "builtin_function_or_method" (A #[(Value.builtin "object.__init_subclass__"),(R 200)]))
 def a127:=(Y "dict" (Data.dict #[(E P "__module__" 449 (U "ballrockers.errors" 187)),(E P "__qualname__" 451 (U "NoSaying" 450)),(E P "__firstlineno__" 453 (I 35 452)),(E P "__static_attributes__" 454 (R 210))] 4))
 def a128:=(Y "code" (A #[(U "NoSaying" 444),(U "NoSaying" 445),(V 446),(J 35),(J 0),(J 0),(J 0),(J 0),(R 206),(Value.bool false),(J 181),(R 207),O,O,O,O,(J 447),(J 35),(V 448)]))
 def a129:=(Obj.mk (Value.type "frame") none Data.plain #[(some (R 208)),(some (R 3)),(some (R 205)),none,(some (U "ballrockers.errors" 187)),none,(some (R 0))])
 def a130:=(Y "dict" (Data.dict #[(E P "__module__" 449 (U "ballrockers.errors" 187)),(E P "__firstlineno__" 453 (I 35 452)),(E P "__static_attributes__" 454 (R 210)),(E P "__doc__" 455 O)] 2))
 def a131:=(Obj.mk (Value.type "type") none (Data.cls (ClassData.mk (S "NoSaying") [(R 24)] [(R 212),(R 24),(Value.type "ValueError"),(Value.type "Exception"),(Value.type "BaseException"),(Value.type "object")] 211 (S "NoSaying") true [] [] false none false)) #[(some (R 203)),none,(some (U "NoSaying" 442)),(some (U "NoSaying" 450)),(some (Value.builtin "ValueError.__new__")),(some (Value.bool true))])
 def a132:=(Y "super" (A #[(R 212),(R 212),(R 212)]))
 def a133:=(Y "builtin_function_or_method" (A #[(Value.builtin "object.__init_subclass__"),(R 212)]))
 def a134:=(Y "dict" (Data.dict #[(E P "__module__" 465 (U "ballrockers.errors" 187)),(E P "__qualname__" 467 (U "NoName" 466)),(E P "__firstlineno__" 469 (I 37 468)),(E P "__static_attributes__" 470 (R 222))] 4))
 def a135:=(Y "code" (A #[(U "NoName" 460),(U "NoName" 461),(V 462),(J 37),(J 0),(J 0),(J 0),(J 0),(R 218),(Value.bool false),(J 181),(R 219),O,O,O,O,(J 463),(J 37),(V 464)]))
 def a136:=(Obj.mk (Value.type "frame") none Data.plain #[(some (R 220)),(some (R 3)),(some (R 217)),none,(some (U "ballrockers.errors" 187)),none,(some (R 0))])
 def a137:=(Y "dict" (Data.dict #[(E P "__module__" 465 (U "ballrockers.errors" 187)),(E P "__firstlineno__" 469 (I 37 468)),(E P "__static_attributes__" 470 (R 222)),(E P "__doc__" 471 O)] 2))
 def a138:=(Obj.mk (Value.type "type") none (Data.cls (ClassData.mk (S "NoName") [(R 24)] [(R 224),(R 24),(Value.type "ValueError"),(Value.type "Exception"),(Value.type "BaseException"),(Value.type "object")] 223 (S "NoName") true [] [] false none false)) #[(some (R 215)),none,(some (U "NoName" 458)),(some (U "NoName" 466)),(some (Value.builtin "ValueError.__new__")),(some (Value.bool true))])
 def a139:=(Y "super" (A #[(R 224),(R 224),(R 224)]))
 def a140:=(Y "builtin_function_or_method" (A #[(Value.builtin "object.__init_subclass__"),(R 224)]))
 def a141:=qT 479 ["thing"]
 def a142:=qG "is_whole" 19
 def a143:=qC "is_whole" 476 40 1 227 480
 def a144:=qF "is_whole" 19 (U "ballrockers.whole" 474) 232
 def a145:=qT 486 ["thing","low","high"]
 def a146:=qG "is_whole_within" 20
 def a147:=qC "is_whole_within" 483 42 3 234 489
 def a148:=qF "is_whole_within" 20 (U "ballrockers.whole" 474) 239
 def a149:=qT 503 ["stands","feeders","groups","reached"]
 def a150:=qG "least_groups" 24
 def a151:=qC "least_groups" 500 47 2 241 507
 def a152:=qF "least_groups" 24 (U "ballrockers.groups" 494) 246
 def a153:=qT 515 ["_law_script","_law_k"]
 def a154:=qG "_law_cell" 26
 def a155:=qC "_law_cell" 512 57 2 248 517
 def u510:=U "law_ballrockers_k25_least_groups" 510
 def a156:=qF "_law_cell" 26 u510 253
 def a157:=qT 523 ["_law_script","_law_k","_law_many","_law_number_here"]
 def a158:=qG "_law_mixed" 27
 def a159:=qC "_law_mixed" 520 61 3 255 527
 def a160:=qF "_law_mixed" 27 u510 260
 def a161:=qG "_law_deck" 28
 def a162:=qD "_law_deck" 530 64 1 262 533
 def a163:=qF "_law_deck" 28 u510 265
 def a164:=qT 539 ["_law_deck_here","_law_many","_law_cell_here"]
 def a165:=qG "_law_take" 29
 def a166:=qC "_law_take" 536 66 2 267 542
 def a167:=qF "_law_take" 29 u510 272
 def a168:=qT 548 ["_law_found","_law_due_here"]
 def a169:=qG "_law_number" 30
 def a170:=qC "_law_number" 545 75 2 274 550
 def a171:=qF "_law_number" 30 u510 279
 def a172:=qT 556 ["_law_e","_law_found"]
 def a173:=qG "_law_kinds" 31
 def a174:=qC "_law_kinds" 553 77 1 281 558
 def a175:=qF "_law_kinds" 31 u510 286
 def a176:=qT 564 ["_law_e","_law_words"]
 def a177:=qG "_law_word" 32
 def a178:=qC "_law_word" 561 83 1 288 566
 def a179:=qF "_law_word" 32 u510 293
 def a180:=qT 572 ["_law_stands","_law_feeders","_law_many","_law_found"]
 def a181:=qG "_law_due" 33
 def a182:=qC "_law_due" 569 88 2 295 576
 def a183:=qF "_law_due" 33 u510 300
 def a184:=qT 582 ["_law_stands","_law_feeders","error"]
 def a185:=qG "_law_is_refused" 34
 def a186:=qC "_law_is_refused" 579 95 2 302 585
 def a187:=qF "_law_is_refused" 34 u510 307
 def a188:=qT 591 ["_law_script","_law_deck_here","_law_turn","_law_feeders","_law_doubled","_law_again","_law_some","_law_stands","_law_no_stands","_law_no_feeders","_law_one","_law_other"]
 def a189:=qG "law" 35
 def a190:=qC "law" 588 101 1 309 603
 def a191:=qF "law" 35 u510 314
 def vt2:List Obj:=(((vt1 P).set 3 (a110 P)).set 12 a111).set 24 a112++[a16,a7,(a113 P),a0,a1,a114,a115,a0,(a116 P),a117,a118,a119,a16,a7,(a120 P),a0,a1,a121,a122,a0,(a123 P),a124,a125,a126,a16,a7,(a127 P),a0,a1,a128,a129,a0,(a130 P),a131,a132,a133,a16,a7,(a134 P),a0,a1,a135,a136,a0,(a137 P),a138,a139,a140,a0,a1,a141,a0,a142,a143,a144,a0,a1,a145,a0,a146,a147,a148,a0,a1,a149,a0,a150,a151,a152,a0,a1,a153,a0,a154,a155,a156,a0,a1,a157,a0,a158,a159,a160,a0,a1,a161,a162,a163,a0,a1,a164,a0,a165,a166,a167,a0,a1,a168,a0,a169,a170,a171,a0,a1,a172,a0,a173,a174,a175,a0,a1,a176,a0,a177,a178,a179,a0,a1,a180,a0,a181,a182,a183,a0,a1,a184,a0,a185,a186,a187,a0,a1,a188,a0,a189,a190,a191]
 def t2:=qB 20 (vt2 P)
noncomputable def s2(w:World)(os:OsState):SharedT:=⟨t2 w.params,316,life,(Array.mk []),(Drawn.mk 0 0 0 0),606,os⟩
noncomputable def st2:List Stmt:=(bd.drop 14).take 22
set_option maxHeartbeats 0 in
theorem seg2(w:World)(os:OsState):segRun treeTable p w m0 ann 1 1308 (s1 w os).abs (piecesOf st2 env cd (Pos.mk 29 0 30 8) fr)=some (.next,(s2 w os).abs,cd,(Pos.mk 101 0 120 15)):=seg_q (by kernel_rfl)
 def hz:Heap:=Heap.mk (Array.mk (vt2 P)) (Life.mk [] [] [] 0 [] [] false #[] [] 0 false false false 0 [2000,10,10] false 0 true [] [] 0 false)
noncomputable def sz(w:World)(os:OsState):Shared:=⟨hz w.params,(Array.mk []),(Drawn.mk 0 0 0 0),606,os⟩
set_option maxHeartbeats 0 in
theorem fin(w:World)(os:OsState):topRun treeTable p w m0 ann 2 (s2 w os).abs ⟨doneF .next,cd,(Pos.mk 101 0 120 15),fr⟩=some (sz w os):=fin_q (by kernel_rfl)
 def as:List Addr:=[2,3,15,22,23,24,25,28,35,36,37,40,47,49,50,52,53,54,55,56,59,66,67,68,71,78,79,80,83,90,91,92,95,102,103,104,107,114,115,116,119,126,127,128,131,138,139,140,143,150,151,152,155,162,163,164,167,174,175,176,179,186,187,188,191,198,199,200,203,210,211,212,215,222,223,224,227,229,230,232,233,234,236,237,239,240,241,243,244,246,247,248,250,251,253,254,255,257,258,260,261,262,265,266,267,269,270,272,273,274,276,277,279,280,281,283,284,286,287,288,290,291,293,294,295,297,298,300,301,302,304,305,307,308,309,311,312,314,315]
 def K:Frag:=as.map λi=>(i,(vt2 P).getD i a0)
noncomputable def M0:Nat:=(12+ (1+ (1295+ (1492+ (1308+2)))))
theorem bd_is:bd=st0++(st1++(st2++([]))):=by kernel_rfl
theorem rest(w:World)(os:OsState):topRun treeTable p w m0 ann (1295+ (1492+ (1308+ (2)))) (sb w os).abs (restOf bd env cd (Pos.mk 0 0 0 0) fr)=some (sz w os):=by
 rw[show restOf bd env cd (Pos.mk 0 0 0 0) fr=restOf (st0++(st1++(st2++([])))) env cd (Pos.mk 0 0 0 0) fr from vcx (λb=>restOf b env cd (Pos.mk 0 0 0 0) fr) bd_is]
 exact(piece_app (seg0 w os) (piece_app (seg1 w os) (piece_app (seg2 w os) (piece_nil (fin w os)))))
theorem run(w:World)(os:OsState):topRun treeTable p w m0 ann M0 ⟨boot_heap w.params,Array.mk [],boot_drawn,boot_toks,os⟩ (topStub p)=some (sz w os):=
 go_top (pre w os) (piece_block (block w os) (rest w os))
noncomputable def lawAt:Nat:=35
noncomputable def zsh:Pos:=(Pos.mk 101 0 120 15)
noncomputable def q:Program:={p with main:={p.main with body:=keep.map (atN p.main.body)}}
theorem as_is:∀P,as=(K P).map (·.1):=λ_=>by kernel_rfl
noncomputable def H:Hook:=kHook K as as_is
noncomputable def Xt(s:Shared):Bool:=xlAt q [] s&&recOk [] s
theorem zsi(w:World)(os:OsState):(staticsOk (importedModules p.main.body) (boot_heap w.params) (hz w.params)&&namesBound p (hz w.params)&&gensDone (sz w os)&&laidKept (boot_heap w.params) (hz w.params))=true:=by
 rw[PySem.W.Fast.te5923862056798008813];kernel_rfl
theorem zsj(w:World)(os:OsState):seen ((recsOf q).map (·.name)) (ownsOf q) [] {sz w os with gens:=#[]}=expectedOf q:=by
 rw[PySem.W.Fast.te5160383126252970620,PySem.W.R.mapR_eq,PySem.W.Fast.te3399658132070893891,PySem.W.Fast.te5991557255702980513];kernel_rfl
theorem l_blt(w:World)(os:OsState):(sz w os).heap.bltView=bltViewBooted:=by kernel_rfl
theorem zsk(w:World)(os:OsState):((sz w os).heap.keysOk (looseW q lo) ((recsOf q).map (·.name)) ((litsOf q).map (·.1)) ((clssOf q (looseW q lo)).map (·.name))&& (sz w os).heap.accountedOkI (importedModules p.main.body)&& (sz w os).heap.isNs mainGlobals&& (sz w os).heap.isNs builtinsNs&&tablesOk q (sz w os).heap&&Xt (sz w os)&& (if true=true then(sz w os).gens.size==0 else !leftWithCleanup (sz w os).gens))=true:=by
 rw[PySem.W.Fast.te10880121769531294198,PySem.W.Fast.te821141287760084731,PySem.W.R.mapR_eq,PySem.W.Fast.te3399658132070893891,PySem.W.Fast.te7409074990110511671,PySem.W.Fast.te13664370479719496447,PySem.W.Fast.te14722251495701143533,PySem.W.Fast.te10994771534591457954,PySem.W.Fast.te5923862056798008813];kernel_rfl
theorem zsl(w:World)(os:OsState):tabsOk q (sz w os)=true:=by rw[PySem.W.Fast.te479339242167458305];kernel_rfl
theorem l_pin(w:World)(os:OsState):pinSeenD q (drecsOf q) (sz w os)=pinGoodD (drecsOf q):=by rw[PySem.W.Fast.te16090120013241838585,PySem.W.Fast.te3247288618530077131];kernel_rfl
theorem l_plE(w:World)(os:OsState):plainSeenE q (looseW q lo) (sz w os)=plainGoodE q (looseW q lo):=by rw[PySem.W.Fast.te2386780881361962483,PySem.W.Fast.te821141287760084731];kernel_rfl
theorem l_plD(w:World)(os:OsState):plainSeenD q lo (sz w os)=plainGoodD q lo:=by rw[PySem.W.Fast.te11698064438423848299];kernel_rfl
theorem zsm(w:World)(os:OsState):wideSeen q (sz w os)=wideGood q:=by rw[PySem.W.Fast.te7317090234206586261];kernel_rfl
theorem l_cls(w:World)(os:OsState):clsSeenW q lo (sz w os)=clsGoodW q lo:=by rw[PySem.W.Fast.te7369524293546568484];kernel_rfl
theorem zsn(w:World)(os:OsState):as.map (sz w os).heap.get?=(K w.params).map λp=>some p.2:=by kernel_rfl
theorem left:LeftO p q lo Xt (Hook.obs H) (Hook.val H) N0 true:=
 LeftO.of_pieces (H₀:=boot_heap) (H₁:=hz) (boot_open (by kernel_rfl) (by kernel_rfl) (λs=>by kernel_rfl)) (λw=>by kernel_rfl) run (by kernel_rfl)
  (λw=>funext λos=>looks_pair (zsi w os) (looks_pair
    (looks_pair (zsj w os) (looks_pair (l_blt w os) (looks_pair (zsk w os) (looks_pair (zsl w os) (looks_pair (l_pin w os) (looks_pair (l_plE w os) (looks_pair (l_plD w os) (looks_pair (zsm w os) (l_cls w os)))))))))
    (zsn w os)))
noncomputable def df:DefRec:=⟨S "law",fa lawAt,fb lawAt,fs lawAt,zsh⟩
theorem df_is:defOf q (S "law")=some (df,[]):=by kernel_rfl
theorem holds(l:OpenLaw)(hp:l.prog=p)(hn:l.name=S "law")(ok:l.wellSaid=true)(hch:(chainsOk q&&opensWell p&& (frees l.row.toRowW&&l.row.within.isEmpty))=true)(hb:l.row.toRowW.prog.bare)(hw:l.row.toRowW.promised)
 (hwr:(!l.row.writes||l.row.records.isEmpty)=true) (hk:p.theDef (S "law")=some (df.params,df.body,df.scope)) (hkw:kwWritten? df.params.kwonlyargs df.params.kw_defaults=some [])
 (call:WalkO q lo (XL q []) (Hook.says H) l.row.toRowW df [] λf vs=>PySem.call f vs):l.Holds:=
 holds_law ok λsaid=>PySem.W.holds_open (q:=q) (loose:=lo) (Xt:=Xt) (XP:=XL q []) (Yf:=Hook.obs H) (Ya:=Hook.val H) (YP:=Hook.says H) (N:=N0) (r:=l.row) (by have h:l.row.toRowW.prog=p:=hp;show LeftO l.row.toRowW.prog q lo Xt (Hook.obs H) (Hook.val H) N0 true;rw[h];exact left) (Hook.of H) (Hook.keeps H) (λs e=>xl_of s (Bool.and_eq_true_iff.mp e).1) XL.keeps
  (by show defOf q l.name=_;rw[hn];exact df_is) (by show l.prog.theDef l.name=_;rw[hp,hn];exact hk) hkw (λs e=>recFacts_of (Bool.and_eq_true_iff.mp e).2) hwr said (by have h:l.row.toRowW.prog=p:=hp;rw[h];exact hch) hb hw call
end
end
end HD
namespace RF
noncomputable def T25:List PySem.Str:=(["is_whole","is_whole_within","_law_cell","_law_deck","_law_mixed","_law_take"]++List.replicate 26 "" ++ ["least_groups"]++List.replicate 6 "" ++ ["_law_number"]++List.replicate 660 "" ++ ["_law_due","_law_is_refused","law"]).map PySem.Str.ofString
noncomputable def fnNo:Fn:=⟨0,0,.no⟩
noncomputable def zmt:List Fn:=[fn0,fn1,fn2,fn3,fn4,fn5]++List.replicate 26 fnNo++[fn32]++List.replicate 6 fnNo++[fn39]++List.replicate 660 fnNo++[zew,zex,zcr,zcs]
noncomputable def R25:RX:=⟨[PySem.Str.ofString "least_groups"],703,[(116,PySem.Str.ofString "number")]⟩
theorem c25:C25 λi=>zmt[i]?:=by repeat' (first|rfl|constructor)
end RF
open PySem PySem.W PyProof.Rows
set_option maxRecDepth 100000 in
set_option maxHeartbeats 0 in
theorem PySem.Challenge.cw_ballrockers_k25_least_groups_holds : PySem.Challenge.rw_ballrockers_k25_least_groups.Holds := by
 refine HD.holds _ rfl rfl (by kernel_rfl) (by kernel_rfl) ⟨rfl,rfl,rfl,rfl,rfl,by decide +kernel⟩ ?hw rfl (by kernel_rfl) (by kernel_rfl) ?call
 (case hw=>w_witness2)
 refine RF.zlr RF.T25 RF.R25 60 60 30 702 rfl (by kernel_rfl) ⟨rfl,by decide,by decide⟩ (λw h Y=>PySem.W.kIn_of Y) (by kernel_rfl) ⟨by decide +kernel,by decide +kernel,by decide +kernel⟩ ?b ?c ?d
 (case c=>intro w;kernel_rfl)
 (case d=>
   intro w C z hm
   have e:C=116/\z=PySem.Str.ofString "number":=by simpa[RF.R25]using hm
   obtain⟨rfl,rfl⟩:=e
   exact⟨by kernel_rfl,by repeat' (first|kernel_rfl|rfl|decide|constructor)⟩)
 (case b=>
   intro w ns hl
   refine RF.zou (Fs:=RF.zmt) ?prg (RF.law25 RF.c25 hl)
   kernel_rfl)
